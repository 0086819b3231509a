import PyProof.Rows.All
import Wide.All
import OpenK.AllK
import Wide.FinOn
import HandS.ForMost
import HandS.ForExc
import HandS.Wide
import HandS.More
import HandS.IsInst
import HandS.Gcd
import HandS.Deep
import HandS.TupLe
import HandS.Text
import HandS.WideBits
import PyProof.ReprRoads
import HandS.Ends
import HandS.Zip
import HandS.ExcCtx
import HandS.RaiseFrom
import HandS.SuiteRaise
import HandS.Defaults
import KE.GoesEnum
import HandS.SetFor
import HandS.Strs
import HandS.ExcInit
import KE.KExcInit
import HandS.Exc
import HandS.ExcIs
import HandS.TryMany
import HandS.ExcField
import KE.KExcIs
import HandS.Dict
import HandS.TupMul
import HandS.TupAny
import PyProof.ReprBulk
import PySem.Challenge.RW_laprunners_k69_errors_of_observations
set_option Elab.async false
set_option linter.all false
set_option maxRecDepth 100000
set_option maxHeartbeats 4000000
/-! DA: data D without a heap, what it is at a heap (Is), frames (Ext), slots (Sl), the state of a body (Abs) -/
namespace DL
open PySem PySem.Spec PyProof.Rows L2
/-- the built-in types of data -/
inductive Ty7 where
  | non | bl | int | str | lst | tup | dct
  deriving DecidableEq
def Ty7.name : Ty7 → String
  | .non => "NoneType" | .bl => "bool" | .int => "int" | .str => "str" | .lst => "list" | .tup => "tuple" | .dct => "dict"
/-- what a value is, told without the heap -/
inductive D where
  | non | bl (b : Bool) | int (i : Int) | str (x : Str)
  | lst (xs : List D) | tup (xs : List D)
  /-- a dict with keys that are ints and texts -/
  | dct (ks : List Key) (xs : List D)
  /-- an instance of the class at C -/
  | obj (C : Addr) (ns : List Str) (xs : List D)
  /-- a built-in type; an own class -/
  | ty (n : Ty7) | cls (C : Addr)
  /-- what is true of it, kept by growing heaps -/
  | is (P : Hp → V → Prop)
/-- values, with their data, item by item -/
def zipV : List Key → List V → List (Key × V)
  | k :: ks, v :: vs => (k, v) :: zipV ks vs
  | _, _ => []
def zipF : List Str → List V → List (Str × V)
  | k :: ks, v :: vs => (k, v) :: zipF ks vs
  | _, _ => []
section
variable (K : PySem.W.Frag)
mutual
def Is (H : Hp) : D → V → Prop
  | .non, v => v = .non
  | .bl b, v => v = .bl b
  | .int i, v => v = .int i
  | .str x, v => v = .str x
  | .lst ds, v => ∃ a xs, v = .ref a ∧ H a = some (.lst xs) ∧ IsA H ds xs
  | .tup ds, v => ∃ a xs, v = .ref a ∧ SqT K H a xs ∧ IsA H ds xs
  | .dct ks ds, v => ∃ a xs, v = .ref a ∧ H a = some (.dK (zipV ks xs)) ∧ ks.length = ds.length ∧ IsA H ds xs
  | .obj C ns ds, v => ∃ a dx xs, v = .ref a ∧ H a = some (.ins C dx (zipF ns xs)) ∧ ns.length = ds.length ∧ IsA H ds xs
  | .ty n, v => v = .ty n.name
  | .cls C, v => v = .ref C
  | .is P, v => ∀ H', Same H H' → P H' v
def IsA (H : Hp) : List D → List V → Prop
  | [], xs => xs = []
  | d :: ds, xs => ∃ x ys, xs = x :: ys ∧ Is H d x ∧ IsA H ds ys
end
end
section
variable {K : PySem.W.Frag} {H H' : Hp}
theorem same_sqt {a : Addr} {xs : List V} (s : Same H H') (h : SqT K H a xs) : SqT K H' a xs := by
  rcases h with (h | ⟨o, h⟩) | h
  · exact .inl (.inl (s _ _ h))
  · exact .inl (.inr ⟨o, s _ _ h⟩)
  · exact .inr h
mutual
theorem Is.same (s : Same H H') : ∀ {d : D} {v : V}, Is K H d v → Is K H' d v
  | .non, _, h => h
  | .bl _, _, h => h
  | .int _, _, h => h
  | .str _, _, h => h
  | .lst _, _, ⟨a, xs, e, h1, h2⟩ => ⟨a, xs, e, s _ _ h1, IsA.same s h2⟩
  | .tup _, _, ⟨a, xs, e, h1, h2⟩ => ⟨a, xs, e, same_sqt s h1, IsA.same s h2⟩
  | .dct _ _, _, ⟨a, xs, e, h1, h2, h3⟩ => ⟨a, xs, e, s _ _ h1, h2, IsA.same s h3⟩
  | .obj _ _ _, _, ⟨a, dx, xs, e, h1, h2, h3⟩ => ⟨a, dx, xs, e, s _ _ h1, h2, IsA.same s h3⟩
  | .ty _, _, h => h
  | .cls _, _, h => h
  | .is _, _, h => fun H'' s' => h H'' (s.trans s')
theorem IsA.same (s : Same H H') : ∀ {ds : List D} {xs : List V}, IsA K H ds xs → IsA K H' ds xs
  | [], _, h => h
  | _ :: _, _, ⟨x, ys, e, h1, h2⟩ => ⟨x, ys, e, Is.same s h1, IsA.same s h2⟩
end
theorem IsA.len : ∀ {ds : List D} {xs : List V}, IsA K H ds xs → xs.length = ds.length
  | [], _, h => by cases h; rfl
  | _ :: _, _, ⟨_, _, e, _, h⟩ => by subst e; exact congrArg Nat.succ h.len
theorem IsA.get : ∀ {ds : List D} {xs : List V} {i : Nat} {d : D}, IsA K H ds xs → ds[i]? = some d → ∃ x, xs[i]? = some x ∧ Is K H d x
  | [], _, _, _, _, e => by simp at e
  | _ :: _, _, 0, _, ⟨x, ys, e, h, _⟩, q => by simp at q; subst q; subst e; exact ⟨x, rfl, h⟩
  | _ :: _, _, i + 1, _, ⟨x, ys, e, _, h⟩, q => by
    obtain ⟨y, a, b⟩ := h.get (i := i) (by simpa using q)
    subst e
    exact ⟨y, by simpa using a, b⟩
theorem IsA.get2 : ∀ {ds : List D} {xs : List V} {i : Nat} {x : V}, IsA K H ds xs → xs[i]? = some x → ∃ d, ds[i]? = some d ∧ Is K H d x
  | [], _, _, _, h, q => by cases h; simp at q
  | d :: _, _, 0, _, ⟨x, ys, e, h, _⟩, q => by subst e; simp at q; subst q; exact ⟨d, rfl, h⟩
  | _ :: _, _, i + 1, _, ⟨x, ys, e, _, h⟩, q => by
    subst e
    obtain ⟨y, a, b⟩ := h.get2 (i := i) (by simpa using q)
    exact ⟨y, by simpa using a, b⟩
theorem IsA.app : ∀ {ds es : List D} {xs ys : List V}, IsA K H ds xs → IsA K H es ys → IsA K H (ds ++ es) (xs ++ ys)
  | [], _, _, _, h, g => by cases h; exact g
  | _ :: _, _, _, _, ⟨x, zs, e, h1, h2⟩, g => by subst e; exact ⟨x, _, rfl, h1, h2.app g⟩
theorem IsA.one {d : D} {x : V} (h : Is K H d x) : IsA K H [d] [x] := ⟨x, [], rfl, h, rfl⟩
theorem IsA.take (n : Nat) : ∀ {ds : List D} {xs : List V}, IsA K H ds xs → IsA K H (ds.take n) (xs.take n) := by
  induction n with
  | zero => intro ds xs h; rfl
  | succ n ih =>
    intro ds xs h
    cases ds with
    | nil => cases h; rfl
    | cons d ds =>
      obtain ⟨x, ys, e, h1, h2⟩ := h
      subst e
      exact ⟨x, _, rfl, h1, ih h2⟩
theorem IsA.drop (n : Nat) : ∀ {ds : List D} {xs : List V}, IsA K H ds xs → IsA K H (ds.drop n) (xs.drop n) := by
  induction n with
  | zero => intro ds xs h; exact h
  | succ n ih =>
    intro ds xs h
    cases ds with
    | nil => cases h; rfl
    | cons d ds =>
      obtain ⟨x, ys, e, h1, h2⟩ := h
      subst e
      exact ih h2
theorem IsA.set {d : D} {x : V} (h : Is K H d x) : ∀ {ds : List D} {xs : List V} (i : Nat), IsA K H ds xs → IsA K H (ds.set i d) (xs.set i x)
  | [], _, _, g => by cases g; rfl
  | _ :: _, _, 0, ⟨y, ys, e, _, g⟩ => by subst e; exact ⟨x, ys, rfl, h, g⟩
  | _ :: _, _, i + 1, ⟨y, ys, e, g1, g⟩ => by subst e; exact ⟨y, _, rfl, g1, g.set h i⟩
end

/-! ### a pool -/
/-- a pool stands at p: its cells (frozen), a place in them, what is left of a great one, a count -/
def PoolL (Hs H : Hp) (p l : Addr) : Prop := ∃ (ns : List Int) (a b c : Int), H p = some (.lst [.ref l, .int a, .int b, .int c]) ∧ Hs l = some (.lst (ns.map V.int)) ∧ ns.length ≤ 63
def PoolAt (Hs H : Hp) (p : Addr) : Prop := ∃ l, PoolL Hs H p l
/-! ### how heaps grow -/
/-- Hs: what is frozen for good; Z: what may change (pools) -/
structure Ext (Z : Addr → Prop) (Hs H Hs' H' : Hp) : Prop where
  fz : Same Hs Hs'
  sub : Same Hs' H'
  keep : ∀ b o, ¬ Z b → H b = some o → H' b = some o
  live : ∀ b, H b ≠ none → H' b ≠ none
  new : ∀ b, Hs b = none → H b ≠ none → Hs' b = none
  pool : ∀ b l, Z b → PoolL Hs H b l → PoolL Hs' H' b l
theorem Ext.poolA {Z : Addr → Prop} {Hs H Hs' H' : Hp} (e : Ext Z Hs H Hs' H') {b : Addr} (z : Z b) (p : PoolAt Hs H b) : PoolAt Hs' H' b := let ⟨l, q⟩ := p; ⟨l, e.pool b l z q⟩
theorem Ext.refl {Z : Addr → Prop} {Hs H : Hp} (s : Same Hs H) : Ext Z Hs H Hs H := ⟨.refl _, s, fun _ _ _ e => e, fun _ e => e, fun _ e _ => e, fun _ _ _ p => p⟩
theorem Ext.trans {Z : Addr → Prop} {Hs H Hs1 H1 Hs2 H2 : Hp} (a : Ext Z Hs H Hs1 H1) (b : Ext Z Hs1 H1 Hs2 H2) : Ext Z Hs H Hs2 H2 :=
  ⟨a.fz.trans b.fz, b.sub, fun c o z e => b.keep c o z (a.keep c o z e), fun c e => b.live c (a.live c e), fun c e f => b.new c (a.new c e f) (a.live c f), fun c l z p => b.pool c l z (a.pool c l z p)⟩
/-- a new frozen object -/
theorem Ext.laid {Z : Addr → Prop} {Hs H : Hp} {p : Addr} {o : HO} (s : Same Hs H) (n : H p = none) : Ext Z Hs H (upd Hs p o) (upd H p o) where
  fz := fun b u e => by
    have hb : b ≠ p := by rintro rfl; rw [s _ _ e] at n; cases n
    rw [upd_ne hb]; exact e
  sub := fun b u e => by
    by_cases hb : b = p
    · subst hb; rw [upd_same] at e ⊢; exact e
    · rw [upd_ne hb] at e ⊢; exact s _ _ e
  keep := fun b u _ e => by rw [upd_ne (ne_of_none e n)]; exact e
  live := fun b e => by
    by_cases hb : b = p
    · subst hb; exact absurd n e
    · rw [upd_ne hb]; exact e
  new := fun b e f => by
    have hb : b ≠ p := by rintro rfl; exact f n
    rw [upd_ne hb]; exact e
  pool := fun b l _ ⟨ns, x, y, z, h1, h2, h3⟩ => ⟨ns, x, y, z, by rw [upd_ne (ne_of_none h1 n)]; exact h1, by rw [upd_ne (ne_of_none (s _ _ h2) n)]; exact h2, h3⟩
/-- a new object that is not frozen -/
theorem Ext.grow {Z : Addr → Prop} {Hs H : Hp} {p : Addr} {o : HO} (s : Same Hs H) (n : H p = none) : Ext Z Hs H Hs (upd H p o) where
  fz := .refl _
  sub := fun b u e => by rw [upd_ne (ne_of_none (s _ _ e) n)]; exact s _ _ e
  keep := fun b u _ e => by rw [upd_ne (ne_of_none e n)]; exact e
  live := fun b e => by
    by_cases hb : b = p
    · subst hb; exact absurd n e
    · rw [upd_ne hb]; exact e
  new := fun b e _ => e
  pool := fun b l _ ⟨ns, x, y, z, h1, h2, h3⟩ => ⟨ns, x, y, z, by rw [upd_ne (ne_of_none h1 n)]; exact h1, h2, h3⟩

/-! ### slots -/
inductive Sl where
  | un | d (x : D) | own (p : Addr) (xs : List D) | pool
def nth : List Sl → Nat → Sl
  | [], _ => .un
  | s :: _, 0 => s
  | _ :: ss, i + 1 => nth ss i
def put : List Sl → Nat → Sl → List Sl
  | [], _, _ => []
  | _ :: ss, 0, x => x :: ss
  | s :: ss, i + 1, x => s :: put ss i x
theorem put_len : ∀ (ss : List Sl) (i : Nat) (x : Sl), (put ss i x).length = ss.length
  | [], _, _ => rfl
  | _ :: _, 0, _ => rfl
  | _ :: ss, i + 1, x => congrArg Nat.succ (put_len ss i x)
theorem nth_put_ne : ∀ {ss : List Sl} {i j : Nat} {x : Sl}, j ≠ i → nth (put ss i x) j = nth ss j
  | [], _, _, _, _ => rfl
  | _ :: _, 0, 0, _, h => absurd rfl h
  | _ :: _, 0, _ + 1, _, _ => rfl
  | _ :: _, _ + 1, 0, _, _ => rfl
  | _ :: ss, i + 1, j + 1, x, h => nth_put_ne (ss := ss) (fun e => h (congrArg _ e))
theorem nth_put : ∀ {ss : List Sl} {i : Nat} {x : Sl}, i < ss.length → nth (put ss i x) i = x
  | [], _, _, h => absurd h (Nat.not_lt_zero _)
  | _ :: _, 0, _, _ => rfl
  | _ :: ss, i + 1, x, h => nth_put (ss := ss) (Nat.lt_of_succ_lt_succ h)
theorem nth_out : ∀ {ss : List Sl} {i : Nat}, ss.length ≤ i → nth ss i = .un
  | [], _, _ => rfl
  | _ :: _, 0, h => absurd h (by simp)
  | _ :: ss, i + 1, h => nth_out (ss := ss) (Nat.le_of_succ_le_succ h)
theorem put_out : ∀ {ss : List Sl} {i : Nat} {x : Sl}, ss.length ≤ i → put ss i x = ss
  | [], _, _, _ => rfl
  | _ :: _, 0, _, h => absurd h (by simp)
  | _ :: ss, i + 1, x, h => congrArg _ (put_out (ss := ss) (Nat.le_of_succ_le_succ h))
/-- what a slot holds; O: who owns what may change (0: a pool; i + 1: slot i) -/
def SlIs (K : PySem.W.Frag) (O : Addr → Option Nat) (Hs H : Hp) (i : Nat) (o : Option (Option V)) : Sl → Prop
  | .un => True
  | .d x => ∃ v, o = some (some v) ∧ Is K Hs x v
  | .own p ds => ∃ xs, o = some (some (.ref p)) ∧ O p = some (i + 1) ∧ H p = some (.lst xs) ∧ IsA K Hs ds xs
  | .pool => ∃ p, o = some (some (.ref p)) ∧ O p = some 0 ∧ PoolAt Hs H p
/-- the entry of a body, and its wish of exceptions -/
structure Cn where
  Z : Addr → Prop
  Hs : Hp
  H : Hp
  E : XK
abbrev Z0 (O : Addr → Option Nat) : Addr → Prop := fun b => O b = some 0
structure Abs (K : PySem.W.Frag) (c : Cn) (O : Addr → Option Nat) (Hs H : Hp) (σ : L2.St) (ss : List Sl) : Prop where
  ext : Ext c.Z c.Hs c.H Hs H
  fz : ∀ a, O a ≠ none → Hs a = none
  live : ∀ a, O a ≠ none → H a ≠ none
  own0 : ∀ a, O a ≠ none → c.Z a ∨ c.H a = none
  z : ∀ a, c.Z a → O a = some 0
  len : σ.length = ss.length
  sl : ∀ i, SlIs K O Hs H i σ[i]? (nth ss i)
theorem Abs.sub {K c O Hs H σ ss} (A : Abs K c O Hs H σ ss) : Same Hs H := A.ext.sub
/-- an expression's end, from the entry -/
theorem Abs.after {K c O Hs H σ ss} (A : Abs K c O Hs H σ ss) {Hs' H' : Hp} (e : Ext (Z0 O) Hs H Hs' H') : Ext c.Z c.Hs c.H Hs' H' where
  fz := A.ext.fz.trans e.fz
  sub := e.sub
  keep := fun b o z h => e.keep b o (fun q => by
    rcases A.own0 b (by rw [q]; exact fun z => nomatch z) with y | y
    · exact z y
    · rw [h] at y; cases y) (A.ext.keep b o z h)
  live := fun b h => e.live b (A.ext.live b h)
  new := fun b h1 h2 => e.new b (A.ext.new b h1 h2) (A.ext.live b h2)
  pool := fun b l z p => e.pool b l (A.z b z) (A.ext.pool b l z p)
theorem SlIs.after {K O Hs H i o s} {Hs' H' : Hp} (e : Ext (Z0 O) Hs H Hs' H') (h : SlIs K O Hs H i o s) : SlIs K O Hs' H' i o s := by
  cases s with
  | un => trivial
  | d x => exact ⟨h.choose, h.choose_spec.1, h.choose_spec.2.same e.fz⟩
  | own p ds =>
    obtain ⟨xs, h1, h2, h3, h4⟩ := h
    exact ⟨xs, h1, h2, e.keep p _ (fun z => by have z : O p = some 0 := z; rw [h2] at z; cases z) h3, h4.same e.fz⟩
  | pool =>
    obtain ⟨p, h1, h2, h3⟩ := h
    exact ⟨p, h1, h2, e.poolA h2 h3⟩
theorem Abs.next {K c O Hs H σ ss} (A : Abs K c O Hs H σ ss) {Hs' H' : Hp} (e : Ext (Z0 O) Hs H Hs' H') : Abs K c O Hs' H' σ ss where
  ext := A.after e
  fz := fun a h => e.new a (A.fz a h) (A.live a h)
  live := fun a h => e.live a (A.live a h)
  own0 := A.own0
  z := A.z
  len := A.len
  sl := fun i => (A.sl i).after e
/-- a slot is given data -/
theorem Abs.set {K c O Hs H σ ss} (A : Abs K c O Hs H σ ss) {i : Nat} {x : D} {v : V} (h : Is K Hs x v) : Abs K c O Hs H (σ.set i (some v)) (put ss i (.d x)) where
  ext := A.ext
  fz := A.fz
  live := A.live
  own0 := A.own0
  z := A.z
  len := by rw [put_len, List.length_set]; exact A.len
  sl := fun j => by
    by_cases e : j = i
    · subst e
      by_cases l : j < ss.length
      · rw [nth_put l, List.getElem?_set_self (by rw [A.len]; exact l)]
        exact ⟨v, rfl, h⟩
      · rw [put_out (Nat.le_of_not_lt l), nth_out (Nat.le_of_not_lt l)]
        trivial
    · rw [nth_put_ne e, List.getElem?_set_ne (fun z => e z.symm)]
      exact A.sl j
/-- a slot is forgotten, or its value is lost -/
theorem Abs.lose {K c O Hs H σ ss} (A : Abs K c O Hs H σ ss) {i : Nat} {o : Option V} : Abs K c O Hs H (σ.set i o) (put ss i .un) where
  ext := A.ext
  fz := A.fz
  live := A.live
  own0 := A.own0
  z := A.z
  len := by rw [put_len, List.length_set]; exact A.len
  sl := fun j => by
    by_cases e : j = i
    · subst e
      by_cases l : j < ss.length
      · rw [nth_put l]
        trivial
      · rw [put_out (Nat.le_of_not_lt l), nth_out (Nat.le_of_not_lt l)]
        trivial
    · rw [nth_put_ne e, List.getElem?_set_ne (fun z => e z.symm)]
      exact A.sl j
open Classical in
/-- a slot is given a new list, its own -/
theorem Abs.setOwn {K c O Hs H σ ss} (A : Abs K c O Hs H σ ss) {i : Nat} {p : Addr} {ds : List D} {xs : List V} (n : H p = none) (h : IsA K Hs ds xs) :
    Abs K c (fun b => if b = p then some (i + 1) else O b) Hs (upd H p (.lst xs)) (σ.set i (some (.ref p))) (put ss i (.own p ds)) := by
  have np : Hs p = none := by
    cases q : Hs p with
    | none => rfl
    | some o => rw [A.sub _ _ q] at n; cases n
  have hO : ∀ a, a ≠ p → (if a = p then some (i + 1) else O a) = O a := fun a h => if_neg h
  have Op : O p = none := by
    cases q : O p with
    | none => rfl
    | some k => exact absurd n (A.live p (by rw [q]; exact fun z => nomatch z))
  have g : Ext (Z0 O) Hs H Hs (upd H p (.lst xs)) := Ext.grow A.sub n
  refine ⟨A.after g, fun a h => ?_, fun a h => ?_, fun a h => ?_, fun a h => ?_, by rw [put_len, List.length_set]; exact A.len, fun j => ?_⟩
  · by_cases e : a = p
    · subst e; exact np
    · rw [hO a e] at h; exact A.fz a h
  · by_cases e : a = p
    · subst e; rw [upd_same]; exact fun z => nomatch z
    · rw [hO a e] at h; rw [upd_ne e]; exact A.live a h
  · by_cases e : a = p
    · subst e
      right
      cases q : c.H a with
      | none => rfl
      | some o => exact absurd n (A.ext.live a (by rw [q]; exact fun z => nomatch z))
    · rw [hO a e] at h; exact A.own0 a h
  · by_cases e : a = p
    · subst e
      have := A.z a h
      rw [Op] at this; cases this
    · show (if a = p then some (i + 1) else O a) = some 0
      rw [hO a e]; exact A.z a h
  · by_cases e : j = i
    · subst e
      by_cases l : j < ss.length
      · rw [nth_put l, List.getElem?_set_self (by rw [A.len]; exact l)]
        exact ⟨xs, rfl, if_pos rfl, upd_same, h⟩
      · rw [put_out (Nat.le_of_not_lt l), nth_out (Nat.le_of_not_lt l)]
        trivial
    · rw [nth_put_ne e, List.getElem?_set_ne (fun z => e z.symm)]
      have q := (A.sl j).after g
      revert q
      cases nth ss j with
      | un => exact fun _ => trivial
      | d x => exact fun q => q
      | own p' es =>
        rintro ⟨xs', h1, h2, h3, h4⟩
        have ne : p' ≠ p := by rintro rfl; rw [Op] at h2; cases h2
        exact ⟨xs', h1, (hO p' ne).trans h2, h3, h4⟩
      | pool =>
        rintro ⟨p', h1, h2, h3⟩
        have ne : p' ≠ p := by rintro rfl; rw [Op] at h2; cases h2
        exact ⟨p', h1, (hO p' ne).trans h2, h3⟩
/-- an own list is changed -/
theorem Abs.write {K c O Hs H σ ss} (A : Abs K c O Hs H σ ss) {i : Nat} {p : Addr} {ds : List D} {xs : List V} (e0 : σ[i]? = some (some (.ref p))) (own : O p = some (i + 1)) (l : i < ss.length) (h : IsA K Hs ds xs) :
    Abs K c O Hs (upd H p (.lst xs)) σ (put ss i (.own p ds)) := by
  have np : Hs p = none := A.fz p (by rw [own]; exact fun z => nomatch z)
  have nz : ¬ c.Z p := fun z => by have := A.z p z; rw [own] at this; cases this
  have c0 : c.H p = none := (A.own0 p (by rw [own]; exact fun z => nomatch z)).resolve_left nz
  have sub : Same Hs (upd H p (.lst xs)) := fun b o e => by
    rw [upd_ne (ne_of_none e np)]; exact A.sub _ _ e
  refine ⟨⟨A.ext.fz, sub, fun b o z e => ?_, fun b e => ?_, A.ext.new, fun b l' z q => ?_⟩, A.fz, fun a q => ?_, A.own0, A.z, by rw [put_len]; exact A.len, fun j => ?_⟩
  · rw [upd_ne (ne_of_none e c0)]; exact A.ext.keep b o z e
  · by_cases hb : b = p
    · subst hb; exact absurd c0 e
    · rw [upd_ne hb]; exact A.ext.live b e
  · obtain ⟨ns, x, y, w, h1, h2, h3⟩ := A.ext.pool b l' z q
    exact ⟨ns, x, y, w, by rw [upd_ne (show b ≠ p from fun hb => nz (by rw [← hb]; exact z))]; exact h1, h2, h3⟩
  · by_cases hb : a = p
    · subst hb; rw [upd_same]; exact fun z => nomatch z
    · rw [upd_ne hb]; exact A.live a q
  · by_cases e : j = i
    · subst e
      rw [nth_put l]
      exact ⟨xs, e0, own, upd_same, h⟩
    · rw [nth_put_ne e]
      have q := A.sl j
      revert q
      cases nth ss j with
      | un => exact fun _ => trivial
      | d x => exact fun q => q
      | own p' es =>
        rintro ⟨xs', h1, h2, h3, h4⟩
        have ne : p' ≠ p := by rintro rfl; rw [own] at h2; have := Nat.succ.inj (Option.some.inj h2); exact e this.symm
        exact ⟨xs', h1, h2, by rw [upd_ne ne]; exact h3, h4⟩
      | pool =>
        rintro ⟨p', h1, h2, l', ns, x, y, w, h3, h4, h5⟩
        have ne : p' ≠ p := by rintro rfl; rw [own] at h2; cases h2
        exact ⟨p', h1, h2, l', ns, x, y, w, by rw [upd_ne ne]; exact h3, h4, h5⟩
open Classical in
noncomputable def Odel (O : Addr → Option Nat) (p : Addr) : Addr → Option Nat := fun b => if b = p then none else O b
theorem Odel_ne {O : Addr → Option Nat} {p a : Addr} (h : a ≠ p) : Odel O p a = O a := if_neg h
theorem Odel_eq {O : Addr → Option Nat} {p : Addr} : Odel O p p = none := if_pos rfl
open Classical in
/-- an own list is frozen -/
theorem Abs.pub {K c O Hs H σ ss} (A : Abs K c O Hs H σ ss) {i : Nat} {p : Addr} {ds : List D} (hs : nth ss i = .own p ds) :
    ∃ xs, Hs p = none ∧ H p = some (.lst xs) ∧ O p = some (i + 1) ∧ Abs K c (Odel O p) (upd Hs p (.lst xs)) H σ (put ss i (.d (.lst ds))) ∧ Same Hs (upd Hs p (.lst xs)) ∧ ∃ v, σ[i]? = some (some v) ∧ Is K (upd Hs p (.lst xs)) (.lst ds) v := by
  have q := A.sl i
  rw [hs] at q
  obtain ⟨xs, h1, own, h3, h4⟩ := q
  have np : Hs p = none := A.fz p (by rw [own]; exact fun z => nomatch z)
  have nz : ¬ c.Z p := fun z => by have := A.z p z; rw [own] at this; cases this
  have c0 : c.H p = none := (A.own0 p (by rw [own]; exact fun z => nomatch z)).resolve_left nz
  have il : i < ss.length := by
    by_cases l : i < ss.length
    · exact l
    · rw [nth_out (Nat.le_of_not_lt l)] at hs; cases hs
  have s : Same Hs (upd Hs p (.lst xs)) := fun b o e => by rw [upd_ne (ne_of_none e np)]; exact e
  have sub : Same (upd Hs p (.lst xs)) H := fun b o e => by
    by_cases hb : b = p
    · subst hb; rw [upd_same] at e; cases e; exact h3
    · rw [upd_ne hb] at e; exact A.sub _ _ e
  have is : Is K (upd Hs p (.lst xs)) (.lst ds) (.ref p) := ⟨p, xs, rfl, upd_same, h4.same s⟩
  have hO : ∀ a, a ≠ p → Odel O p a = O a := fun a h => Odel_ne h
  refine ⟨xs, np, h3, own, ⟨⟨A.ext.fz.trans s, sub, A.ext.keep, A.ext.live, fun b e f => ?_, fun b l' z q' => ?_⟩, fun a h => ?_, fun a h => ?_, fun a h => ?_, fun a h => ?_, by rw [put_len]; exact A.len, fun j => ?_⟩, s, _, h1, is⟩
  · have ne : b ≠ p := by rintro rfl; exact f c0
    rw [upd_ne ne]; exact A.ext.new b e f
  · obtain ⟨ns2, x2, y2, w2, k1, k2, k3⟩ := A.ext.pool b l' z q'
    exact ⟨ns2, x2, y2, w2, k1, s _ _ k2, k3⟩
  · by_cases e : a = p
    · subst e; exact absurd Odel_eq h
    · rw [hO a e] at h; rw [upd_ne e]; exact A.fz a h
  · by_cases e : a = p
    · subst e; exact absurd Odel_eq h
    · rw [hO a e] at h; exact A.live a h
  · by_cases e : a = p
    · subst e; exact absurd Odel_eq h
    · rw [hO a e] at h; exact A.own0 a h
  · have ne : a ≠ p := by rintro rfl; exact nz h
    show Odel O p a = some 0
    rw [hO a ne]; exact A.z a h
  · by_cases e : j = i
    · subst e
      rw [nth_put il]
      exact ⟨_, h1, is⟩
    · rw [nth_put_ne e]
      have q := A.sl j
      revert q
      cases nth ss j with
      | un => exact fun _ => trivial
      | d x => exact fun ⟨v, a, b⟩ => ⟨v, a, b.same s⟩
      | own p' es =>
        rintro ⟨xs', k1, k2, k3, k4⟩
        have ne : p' ≠ p := by rintro rfl; rw [own] at k2; have := Nat.succ.inj (Option.some.inj k2); exact e this.symm
        exact ⟨xs', k1, (hO p' ne).trans k2, k3, k4.same s⟩
      | pool =>
        rintro ⟨p', k1, k2, l', ns, x, y, w, k3, k4, k5⟩
        have ne : p' ≠ p := by rintro rfl; rw [own] at k2; cases k2
        exact ⟨p', k1, (hO p' ne).trans k2, l', ns, x, y, w, k3, s _ _ k4, k5⟩
end DL
set_option Elab.async false
set_option linter.all false
set_option maxRecDepth 100000
set_option maxHeartbeats 4000000
/-! DB: readings over data, and their expressions, tests, calls, blocks -/
namespace DL
open PySem PySem.Spec PyProof.Rows L2
/-- an own exception: its class; with one field -/
inductive ErrD where
  | e0 (C : Addr) | e1 (C : Addr) (f : Str) (x : D)
def ErrPost (K : PySem.W.Frag) (E : XK) (er : ErrD) (Hs H : Hp) : Prop :=
  match er with
  | .e0 C => E (.ref C) none H
  | .e1 C f x => ∀ dd v, Hs dd = some (.xd [(f, v)]) → Is K Hs x v → E (.ref C) (some dd) H
def ErrC (K : PySem.W.Frag) (c : Cn) (Ed : ErrD → Prop) : Prop := ∀ er Hs H, Ext c.Z c.Hs c.H Hs H → Ed er → ErrPost K c.E er Hs H
abbrev QD := D → Prop
abbrev QE := ErrD → Prop
abbrev TD := List Sl → QD → QE → Prop
abbrev TTD := List Sl → (Bool → Prop) → QE → Prop
abbrev TAD := List Sl → (List Sl → Prop) → QE → Prop
structure EnD where
  nx : List Sl → Prop
  rt : QD
  ro : List D → Prop := fun ds => rt (.lst ds)
  bk : List Sl → Prop := fun _ => False
  ct : List Sl → Prop := fun _ => False
abbrev TSD := EnD → List Sl → QE → Prop
section
variable (c : Cn) (K : PySem.W.Frag)
def lift (t : TD) : TE := fun σ H Q => ∃ O Hs ss Qd Ed, Abs K c O Hs H σ ss ∧ t ss Qd Ed ∧ ErrC K c Ed ∧ ∀ d v Hs' H', Ext (Z0 O) Hs H Hs' H' → Is K Hs' d v → Qd d → Q v H'
def liftT (t : TTD) : TT := fun σ H Q => ∃ O Hs ss Qd Ed, Abs K c O Hs H σ ss ∧ t ss Qd Ed ∧ ErrC K c Ed ∧ ∀ b Hs' H', Ext (Z0 O) Hs H Hs' H' → Qd b → Q b H'
/-- arguments -/
def ArgIs (Z : Addr → Prop) (Hs H : Hp) : List Sl → List V → Prop
  | [], vs => vs = []
  | .d x :: as, vs => ∃ v ws, vs = v :: ws ∧ Is K Hs x v ∧ ArgIs Z Hs H as ws
  | .pool :: as, vs => ∃ p ws, vs = .ref p :: ws ∧ Z p ∧ PoolAt Hs H p ∧ ArgIs Z Hs H as ws
  | _ :: _, _ => False
def liftA (t : TAD) : TA := fun σ H Q => ∃ O Hs ss Qa Ed, Abs K c O Hs H σ ss ∧ t ss Qa Ed ∧ ErrC K c Ed ∧ ∀ as vs Hs' H', Ext (Z0 O) Hs H Hs' H' → ArgIs K (Z0 O) Hs' H' as vs → Qa as → Q vs H'
structure Conn (Hs0 : Hp) (En : EnD) (Dn : Ends) : Prop where
  nx : ∀ σ O Hs H ss, Same Hs0 Hs → Abs K c O Hs H σ ss → En.nx ss → Dn.nx σ H
  bk : ∀ σ O Hs H ss, Same Hs0 Hs → Abs K c O Hs H σ ss → En.bk ss → Dn.bk σ H
  ct : ∀ σ O Hs H ss, Same Hs0 Hs → Abs K c O Hs H σ ss → En.ct ss → Dn.ct σ H
  rt : ∀ d v Hs H, Ext c.Z c.Hs c.H Hs H → Is K Hs d v → En.rt d → Dn.rt v H
  /-- a list of its own is handed back -/
  ro : ∀ ds p xs Hs H, Ext c.Z c.Hs c.H Hs H → c.H p = none → Hs p = none → H p = some (.lst xs) → IsA K Hs ds xs → En.ro ds → Dn.rt (.ref p) H
def liftS (t : TSD) : TS := fun Dn σ H => ∃ O Hs ss En Ed, Abs K c O Hs H σ ss ∧ t En ss Ed ∧ ErrC K c Ed ∧ Conn c K Hs En Dn
end
theorem Conn.up {c : Cn} {K : PySem.W.Frag} {Hs Hs1 : Hp} {En : EnD} {Dn : Ends} (g : Conn c K Hs En Dn) (s : Same Hs Hs1) : Conn c K Hs1 En Dn :=
  ⟨fun σ O Hs' H ss z => g.nx σ O Hs' H ss (s.trans z), fun σ O Hs' H ss z => g.bk σ O Hs' H ss (s.trans z), fun σ O Hs' H ss z => g.ct σ O Hs' H ss (s.trans z), g.rt, g.ro⟩
theorem ArgIs.next {K Z Hs H Hs' H'} (e : Ext Z Hs H Hs' H') : ∀ {as : List Sl} {vs : List V}, ArgIs K Z Hs H as vs → ArgIs K Z Hs' H' as vs
  | [], _, h => h
  | .d _ :: _, _, ⟨v, ws, e1, h1, h2⟩ => ⟨v, ws, e1, h1.same e.fz, h2.next e⟩
  | .pool :: _, _, ⟨p, ws, e1, h1, h2, h3⟩ => ⟨p, ws, e1, h1, e.poolA h1 h2, h3.next e⟩
  | .un :: _, _, h => h.elim
  | .own _ _ :: _, _, h => h.elim
theorem ArgIs.len {K Z Hs H} : ∀ {as : List Sl} {vs : List V}, ArgIs K Z Hs H as vs → vs.length = as.length
  | [], _, h => by cases h; rfl
  | .d _ :: _, _, ⟨v, ws, e1, h1, h2⟩ => by subst e1; exact congrArg Nat.succ h2.len
  | .pool :: _, _, ⟨p, ws, e1, h1, h2, h3⟩ => by subst e1; exact congrArg Nat.succ h3.len
  | .un :: _, _, h => h.elim
  | .own _ _ :: _, _, h => h.elim
def dats : List D → List Sl := List.map .d
theorem ArgIs.dats {K Z Hs H} : ∀ {ds : List D} {vs : List V}, ArgIs K Z Hs H (dats ds) vs → IsA K Hs ds vs
  | [], _, h => h
  | _ :: _, _, ⟨v, ws, e1, h1, h2⟩ => ⟨v, ws, e1, h1, ArgIs.dats h2⟩
section
variable {X : Cx} {c : Cn}
abbrev DE (X : Cx) (c : Cn) (e : Expr) (t : TD) : Prop := PE X e (lift c X.K t)
abbrev DT (X : Cx) (c : Cn) (e : Expr) (t : TTD) : Prop := PT X e (liftT c X.K t)
abbrev DW (X : Cx) (c : Cn) (e : Expr) (t : TTD) : Prop := PW X e (liftT c X.K t)
abbrev DAs (X : Cx) (c : Cn) (es : List Expr) (t : TAD) : Prop := PA X es (liftA c X.K t)
abbrev DS (X : Cx) (c : Cn) (st : Stmt) (t : TSD) : Prop := PS X st (liftS c X.K t)
abbrev DSs (X : Cx) (c : Cn) (st : List Stmt) (t : TSD) : Prop := PSs X st (liftS c X.K t)
theorem pe_imp {e : Expr} {t t' : TE} (h : PE X e t) (f : ∀ σ H Q, t' σ H Q → t σ H Q) : PE X e t' := ⟨fun pins s σ H Q I q => h.run pins s σ H Q I (f _ _ _ q)⟩
theorem pt_imp {e : Expr} {t t' : TT} (h : PT X e t) (f : ∀ σ H Q, t' σ H Q → t σ H Q) : PT X e t' := ⟨fun pins s σ H Q I q => h.run pins s σ H Q I (f _ _ _ q)⟩
theorem pw_imp {e : Expr} {t t' : TT} (h : PW X e t) (f : ∀ σ H Q, t' σ H Q → t σ H Q) : PW X e t' := ⟨fun w pins s σ H Q I q => h.run w pins s σ H Q I (f _ _ _ q)⟩
theorem pa_imp {e : List Expr} {t t' : TA} (h : PA X e t) (f : ∀ σ H Q, t' σ H Q → t σ H Q) : PA X e t' := ⟨fun p pins s σ H Q I q => h.run p pins s σ H Q I (f _ _ _ q)⟩
theorem ps_imp {e : Stmt} {t t' : TS} (h : PS X e t) (f : ∀ D σ H, t' D σ H → t D σ H) : PS X e t' := ⟨fun pins s σ H D I q => h.run pins s σ H D I (f _ _ _ q)⟩
theorem pss_imp {e : List Stmt} {t t' : TS} (h : PSs X e t) (f : ∀ D σ H, t' D σ H → t D σ H) : PSs X e t' := ⟨fun pins s σ H D I q => h.run pins s σ H D I (f _ _ _ q)⟩
/-! ### names and constants -/
def tdVar (i : Nat) : TD := fun ss Q _ => match nth ss i with
  | .d x => Q x
  | _ => False
theorem d_var {e : Expr} {i : Nat} (h : PE X e (tVar i)) : DE X c e (tdVar i) := by
  refine pe_imp h fun σ H Q q => ?_
  obtain ⟨O, Hs, ss, Qd, Ed, A, h, _, g⟩ := q
  have hs := A.sl i
  unfold tdVar at h
  split at h
  · rename_i x hx
    rw [hx] at hs
    obtain ⟨v, e, is⟩ := hs
    exact ⟨v, e, g x v Hs H (.refl A.sub) is h⟩
  · exact h.elim
def tdC (x : D) : TD := fun _ Q _ => Q x
theorem d_const {e : Expr} {v : V} {x : D} (h : PE X e (tC v)) (is : ∀ H, Is X.K H x v) : DE X c e (tdC x) := by
  refine pe_imp h fun σ H Q q => ?_
  obtain ⟨O, Hs, ss, Qd, Ed, A, h, _, g⟩ := q
  exact g x v Hs H (.refl A.sub) (is Hs) h
theorem d_int {i j pos} : DE X c (.Constant (.int i) j pos) (tdC (.int i)) := d_const pe_int fun _ => rfl
theorem d_bl {i j pos} : DE X c (.Constant (.bool i) j pos) (tdC (.bl i)) := d_const pe_bl fun _ => rfl
theorem d_non {j pos} : DE X c (.Constant .none j pos) (tdC .non) := d_const pe_non fun _ => rfl
theorem d_str {x j pos} : DE X c (.Constant (.str x) j pos) (tdC (.str x)) := d_const pe_str fun _ => rfl
/-! ### operators -/
abbrev RD2 := D → D → QD → Prop
structure OpD (X : Cx) (f : Value → Value → Sem Value) (r : RD2) : Prop where
  ex : ∃ r0 : R2, OpR X f r0 ∧ ∀ (Z : Addr → Prop) (Hs H : Hp) (d e : D) (v u : V) (Qd : QD) (Q : VK), Same Hs H → Is X.K Hs d v → Is X.K Hs e u → r d e Qd →
    (∀ x w Hs' H', Ext Z Hs H Hs' H' → Is X.K Hs' x w → Qd x → Q w H') → r0 v u H Q
def tdOp (r : RD2) (ta tb : TD) : TD := fun ss Q Ed => ta ss (fun x => tb ss (fun y => r x y Q) Ed) Ed
theorem lift_bin {ta tb : TD} {r : RD2} {f : Value → Value → Sem Value} (o : OpD X f r) : ∃ r0 : R2, OpR X f r0 ∧ ∀ σ H Q, lift c X.K (tdOp r ta tb) σ H Q → tOp r0 (lift c X.K ta) (lift c X.K tb) σ H Q := by
  obtain ⟨r0, h0, cn⟩ := o.ex
  refine ⟨r0, h0, fun σ H Q q => ?_⟩
  obtain ⟨O, Hs, ss, Qd, Ed, A, h, er, g⟩ := q
  refine ⟨O, Hs, ss, _, Ed, A, h, er, fun d v Hs1 H1 e1 i1 q1 => ?_⟩
  refine ⟨O, Hs1, ss, _, Ed, A.next e1, q1, er, fun e u Hs2 H2 e2 i2 q2 => ?_⟩
  exact cn (Z0 O) Hs2 H2 d e v u Qd Q e2.sub (i1.same e2.fz) i2 q2 fun x w Hs3 H3 e3 i3 q3 => g x w Hs3 H3 ((e1.trans e2).trans e3) i3 q3
theorem d_op {op : Operator} {a b : Expr} {pos : Pos} {ta tb : TD} {r : RD2} (o : OpD X (binaryOp op) r) (ha : DE X c a ta) (hb : DE X c b tb) : DE X c (.BinOp a op b pos) (tdOp r ta tb) := by
  obtain ⟨r0, h0, f⟩ := lift_bin (c := c) (ta := ta) (tb := tb) o
  exact pe_imp (pe_op h0 ha hb) f
theorem d_cmp {op : CmpOp} {a b : Expr} {pos : Pos} {ta tb : TD} {r : RD2} (o : OpD X (compareOp op) r) (ha : DE X c a ta) (hb : DE X c b tb) (hm : behindInMarks op b = false := by first | exact nomark _ | rfl) : DE X c (.Compare a [op] [b] pos) (tdOp r ta tb) := by
  obtain ⟨r0, h0, f⟩ := lift_bin (c := c) (ta := ta) (tb := tb) o
  exact pe_imp (pe_cmpR h0 ha hb hm) f
structure UnD (X : Cx) (f : Value → Sem Value) (r : D → QD → Prop) : Prop where
  ex : ∃ r0 : V → Hp → VK → Prop, UnR X f r0 ∧ ∀ (Z : Addr → Prop) (Hs H : Hp) (d : D) (v : V) (Qd : QD) (Q : VK), Same Hs H → Is X.K Hs d v → r d Qd →
    (∀ x w Hs' H', Ext Z Hs H Hs' H' → Is X.K Hs' x w → Qd x → Q w H') → r0 v H Q
def tdUn (r : D → QD → Prop) (ta : TD) : TD := fun ss Q Ed => ta ss (fun x => r x Q) Ed
theorem d_un {op : UnaryOp} {a : Expr} {pos : Pos} {ta : TD} {r : D → QD → Prop} (o : UnD X (unaryOp op) r) (ha : DE X c a ta) : DE X c (.UnaryOp op a pos) (tdUn r ta) := by
  obtain ⟨r0, h0, cn⟩ := o.ex
  refine pe_imp (pe_un h0 ha) fun σ H Q q => ?_
  obtain ⟨O, Hs, ss, Qd, Ed, A, h, er, g⟩ := q
  exact ⟨O, Hs, ss, _, Ed, A, h, er, fun d v Hs1 H1 e1 i1 q1 => cn (Z0 O) Hs1 H1 d v Qd Q e1.sub i1 q1 fun x w Hs3 H3 e3 i3 q3 => g x w Hs3 H3 (e1.trans e3) i3 q3⟩
/-- a[b]: a list, a tuple -/
structure IxD (X : Cx) (r : RD2) : Prop where
  ex : ∃ r0 : R2, IxR X r0 ∧ ∀ (Z : Addr → Prop) (Hs H : Hp) (d e : D) (v u : V) (Qd : QD) (Q : VK), Same Hs H → Is X.K Hs d v → Is X.K Hs e u → r d e Qd →
    (∀ x w Hs' H', Ext Z Hs H Hs' H' → Is X.K Hs' x w → Qd x → Q w H') → r0 v u H Q
theorem d_ix {a b : Expr} {pos : Pos} {ta tb : TD} {r : RD2} (o : IxD X r) (ha : DE X c a ta) (hb : DE X c b tb) (hs : PlainIx b := by exact fun _ _ => rfl) : DE X c (.Subscript a b pos) (tdOp r ta tb) := by
  obtain ⟨r0, h0, cn⟩ := o.ex
  refine pe_imp (pe_ix h0 ha hb hs) fun σ H Q q => ?_
  obtain ⟨O, Hs, ss, Qd, Ed, A, h, er, g⟩ := q
  refine ⟨O, Hs, ss, _, Ed, A, h, er, fun d v Hs1 H1 e1 i1 q1 => ?_⟩
  refine ⟨O, Hs1, ss, _, Ed, A.next e1, q1, er, fun e u Hs2 H2 e2 i2 q2 => ?_⟩
  exact cn (Z0 O) Hs2 H2 d e v u Qd Q e2.sub (i1.same e2.fz) i2 q2 fun x w Hs3 H3 e3 i3 q3 => g x w Hs3 H3 ((e1.trans e2).trans e3) i3 q3
/-! ### tests -/
def tdB (t : TD) : TTD := fun ss Q Ed => t ss (fun x => match x with
  | .bl b => Q b
  | _ => False) Ed
theorem lift_b {ta : TD} : ∀ σ H Q, liftT c X.K (tdB ta) σ H Q → tB (lift c X.K ta) σ H Q := fun σ H Q q => by
  obtain ⟨O, Hs, ss, Qd, Ed, A, h, er, g⟩ := q
  refine ⟨O, Hs, ss, _, Ed, A, h, er, fun d v Hs1 H1 e1 i1 q1 => ?_⟩
  cases d <;> first | exact q1.elim | exact ⟨_, i1, g _ Hs1 H1 e1 q1⟩
theorem dt_val {e : Expr} {ta : TD} (h : DE X c e ta) (he : ∀ whole, isTrue e X.env whole = (do let v ← whole; standAt e.pos; holding [v] (truthy v)) := by intro _; rfl) : DT X c e (tdB ta) := pt_imp (pt_val h he) lift_b
theorem dt_cmp {op : CmpOp} {a b : Expr} {pos : Pos} {ta tb : TD} {r : RD2} (o : OpD X (compareOp op) r) (ha : DE X c a ta) (hb : DE X c b tb) (hm : behindInMarks op b = false := by first | exact nomark _ | rfl) : DT X c (.Compare a [op] [b] pos) (tdB (tdOp r ta tb)) := by
  obtain ⟨r0, h0, f⟩ := lift_bin (c := c) (ta := ta) (tb := tb) o
  refine pt_imp (pt_cmpR h0 ha hb hm) fun σ H Q q => ?_
  obtain ⟨O, Hs, ss, Qd, Ed, A, h, er, g⟩ := q
  refine f σ H _ ⟨O, Hs, ss, _, Ed, A, h, er, fun d v Hs1 H1 e1 i1 q1 => ?_⟩
  cases d <;> first | exact q1.elim | exact ⟨_, i1, g _ Hs1 H1 e1 q1⟩
def tdTru (x : D) (Q : Bool → Prop) : Prop := match x with
  | .non => Q false
  | .bl b => Q b
  | .int i => Q (i != 0)
  | .str y => y.length ≤ sizeLine ∧ Q ((y.length : Int) != 0)
  | .lst xs => Q (!xs.isEmpty)
  | .tup xs => Q (!xs.isEmpty)
  | _ => False
theorem isEmpty_isA {K H} : ∀ {ds : List D} {xs : List V}, IsA K H ds xs → (!ds.isEmpty) = !xs.isEmpty
  | [], _, h => by cases h; rfl
  | _ :: _, _, ⟨_, _, e, _, _⟩ => by subst e; rfl
theorem tru_is {K : PySem.W.Frag} {Hs H : Hp} {d : D} {v : V} {Qd : Bool → Prop} (s : Same Hs H) (i : Is K Hs d v) (h : tdTru d Qd) : ∃ k, TruV K v H k ∧ Qd k := by
  cases d with
  | non => cases i; exact ⟨_, rfl, h⟩
  | bl b => cases i; exact ⟨_, rfl, h⟩
  | int j => cases i; exact ⟨_, rfl, h⟩
  | str y => cases i; exact ⟨_, ⟨h.1, rfl⟩, h.2⟩
  | lst xs =>
    obtain ⟨a, ys, rfl, h1, h2⟩ := i
    exact ⟨_, .inl ⟨ys, .of (s _ _ h1), (isEmpty_isA h2)⟩, h⟩
  | tup xs =>
    obtain ⟨a, ys, rfl, h1, h2⟩ := i
    exact ⟨_, .inr (.inl ⟨ys, same_sqt s h1, (isEmpty_isA h2)⟩), h⟩
  | dct ks xs => exact h.elim
  | obj C ns xs => exact h.elim
  | ty n => exact h.elim
  | cls C => exact h.elim
  | is P => exact h.elim
def tdTr (t : TD) : TTD := fun ss Q Ed => t ss (fun x => tdTru x Q) Ed
theorem dt_truth {a : Expr} {ta : TD} (h : DE X c a ta) (he : ∀ whole, isTrue a X.env whole = (do let v ← whole; standAt a.pos; holding [v] (truthy v)) := by intro _; rfl) : DT X c a (tdTr ta) := by
  refine pt_imp (pt_truth h he) fun σ H Q q => ?_
  obtain ⟨O, Hs, ss, Qd, Ed, A, h, er, g⟩ := q
  refine ⟨O, Hs, ss, _, Ed, A, h, er, fun d v Hs1 H1 e1 i1 q1 => ?_⟩
  obtain ⟨k, h1, h2⟩ := tru_is e1.sub i1 q1
  exact ⟨k, h1, g _ Hs1 H1 e1 h2⟩
/-- a list of the slot's own, empty or not -/
def tdTrOwn (i : Nat) : TTD := fun ss Q _ => match nth ss i with
  | .own _ xs => Q (!xs.isEmpty)
  | _ => False
theorem dt_own {a : Expr} {i : Nat} (h : PE X a (tVar i)) (he : ∀ whole, isTrue a X.env whole = (do let v ← whole; standAt a.pos; holding [v] (truthy v)) := by intro _; rfl) : DT X c a (tdTrOwn i) := by
  refine pt_imp (pt_truth h he) fun σ H Q q => ?_
  obtain ⟨O, Hs, ss, Qd, Ed, A, h, er, g⟩ := q
  have hs := A.sl i
  unfold tdTrOwn at h
  split at h
  · rename_i p x hx
    rw [hx] at hs
    obtain ⟨xs, e, h1, h2, h3⟩ := hs
    exact ⟨_, e, _, .inl ⟨xs, .inl (.inl h2), (isEmpty_isA h3)⟩, g _ Hs H (.refl A.sub) h⟩
  · exact h.elim
def tdNot (t : TTD) : TTD := fun ss Q Ed => t ss (fun b => Q (!b)) Ed
theorem dt_not {a : Expr} {pos : Pos} {t : TTD} (h : DT X c a t) : DT X c (.UnaryOp .Not a pos) (tdNot t) := by
  refine pt_imp (pt_not h) fun σ H Q q => ?_
  obtain ⟨O, Hs, ss, Qd, Ed, A, h, er, g⟩ := q
  exact ⟨O, Hs, ss, _, Ed, A, h, er, fun b Hs1 H1 e1 q1 => g _ Hs1 H1 e1 q1⟩
def tdAnd (t u : TTD) : TTD := fun ss Q Ed => t ss (fun b => if b = true then u ss Q Ed else Q false) Ed
def tdOr (t u : TTD) : TTD := fun ss Q Ed => t ss (fun b => if b = true then Q true else u ss Q Ed) Ed
theorem dw_and1 {a : Expr} {pos : Pos} {t : TTD} (h : DT X c a t) : DW X c (.BoolOp .And [a] pos) t := pw_and1 h
theorem dw_or1 {a : Expr} {pos : Pos} {t : TTD} (h : DT X c a t) : DW X c (.BoolOp .Or [a] pos) t := pw_or1 h
theorem dw_and {a b : Expr} {rest : List Expr} {pos : Pos} {t u : TTD} (h : DT X c a t) (h2 : DW X c (.BoolOp .And (b :: rest) pos) u) : DW X c (.BoolOp .And (a :: b :: rest) pos) (tdAnd t u) := by
  refine pw_imp (pw_and h h2) fun σ H Q q => ?_
  obtain ⟨O, Hs, ss, Qd, Ed, A, h, er, g⟩ := q
  refine ⟨O, Hs, ss, _, Ed, A, h, er, fun b Hs1 H1 e1 q1 => ?_⟩
  cases b with
  | true => exact ⟨O, Hs1, ss, _, Ed, A.next e1, q1, er, fun b Hs2 H2 e2 q2 => g _ Hs2 H2 (e1.trans e2) q2⟩
  | false => exact g _ Hs1 H1 e1 q1
theorem dw_or {a b : Expr} {rest : List Expr} {pos : Pos} {t u : TTD} (h : DT X c a t) (h2 : DW X c (.BoolOp .Or (b :: rest) pos) u) : DW X c (.BoolOp .Or (a :: b :: rest) pos) (tdOr t u) := by
  refine pw_imp (pw_or h h2) fun σ H Q q => ?_
  obtain ⟨O, Hs, ss, Qd, Ed, A, h, er, g⟩ := q
  refine ⟨O, Hs, ss, _, Ed, A, h, er, fun b Hs1 H1 e1 q1 => ?_⟩
  cases b with
  | true => exact g _ Hs1 H1 e1 q1
  | false => exact ⟨O, Hs1, ss, _, Ed, A.next e1, q1, er, fun b Hs2 H2 e2 q2 => g _ Hs2 H2 (e1.trans e2) q2⟩
/-! ### and, or, not, if as values -/
def tdAndV (ta tb : TD) : TD := fun ss Q Ed => ta ss (fun x => match x with
  | .bl b => if b = true then tb ss Q Ed else Q (.bl false)
  | _ => False) Ed
def tdOrV (ta tb : TD) : TD := fun ss Q Ed => ta ss (fun x => match x with
  | .bl b => if b = true then Q (.bl true) else tb ss Q Ed
  | _ => False) Ed
def tdNotV (ta : TD) : TD := fun ss Q Ed => ta ss (fun x => match x with
  | .bl b => Q (.bl (!b))
  | _ => False) Ed
theorem d_one {op} {a : Expr} {pos : Pos} {t : TD} (h : DE X c a t) : DE X c (.BoolOp op [a] pos) t := pe_one h
theorem d_and {a b : Expr} {rest : List Expr} {pos : Pos} {ta tb : TD} (ha : DE X c a ta) (hb : DE X c (.BoolOp .And (b :: rest) pos) tb) : DE X c (.BoolOp .And (a :: b :: rest) pos) (tdAndV ta tb) := by
  refine pe_imp (pe_and ha hb) fun σ H Q q => ?_
  obtain ⟨O, Hs, ss, Qd, Ed, A, h, er, g⟩ := q
  refine ⟨O, Hs, ss, _, Ed, A, h, er, fun d v Hs1 H1 e1 i1 q1 => ?_⟩
  cases d <;> first | exact q1.elim | skip
  rename_i b
  refine ⟨b, i1, ?_⟩
  cases b with
  | true => exact ⟨O, Hs1, ss, _, Ed, A.next e1, q1, er, fun d v Hs2 H2 e2 i2 q2 => g _ _ Hs2 H2 (e1.trans e2) i2 q2⟩
  | false => exact g (.bl false) _ Hs1 H1 e1 rfl q1
theorem d_or {a b : Expr} {rest : List Expr} {pos : Pos} {ta tb : TD} (ha : DE X c a ta) (hb : DE X c (.BoolOp .Or (b :: rest) pos) tb) : DE X c (.BoolOp .Or (a :: b :: rest) pos) (tdOrV ta tb) := by
  refine pe_imp (pe_or ha hb) fun σ H Q q => ?_
  obtain ⟨O, Hs, ss, Qd, Ed, A, h, er, g⟩ := q
  refine ⟨O, Hs, ss, _, Ed, A, h, er, fun d v Hs1 H1 e1 i1 q1 => ?_⟩
  cases d <;> first | exact q1.elim | skip
  rename_i b
  refine ⟨b, i1, ?_⟩
  cases b with
  | true => exact g (.bl true) _ Hs1 H1 e1 rfl q1
  | false => exact ⟨O, Hs1, ss, _, Ed, A.next e1, q1, er, fun d v Hs2 H2 e2 i2 q2 => g _ _ Hs2 H2 (e1.trans e2) i2 q2⟩
theorem d_not {a : Expr} {pos : Pos} {ta : TD} (ha : DE X c a ta) : DE X c (.UnaryOp .Not a pos) (tdNotV ta) := by
  refine pe_imp (pe_not ha) fun σ H Q q => ?_
  obtain ⟨O, Hs, ss, Qd, Ed, A, h, er, g⟩ := q
  refine ⟨O, Hs, ss, _, Ed, A, h, er, fun d v Hs1 H1 e1 i1 q1 => ?_⟩
  cases d <;> first | exact q1.elim | exact ⟨_, i1, g (.bl _) _ Hs1 H1 e1 rfl q1⟩
def tdIf (t : TTD) (ta tb : TD) : TD := fun ss Q Ed => t ss (fun b => if b = true then ta ss Q Ed else tb ss Q Ed) Ed
theorem d_if {k a b : Expr} {pos : Pos} {t : TTD} {ta tb : TD} (hk : DT X c k t) (ha : DE X c a ta) (hb : DE X c b tb) : DE X c (.IfExp k a b pos) (tdIf t ta tb) := by
  refine pe_imp (pe_ifExp hk ha hb) fun σ H Q q => ?_
  obtain ⟨O, Hs, ss, Qd, Ed, A, h, er, g⟩ := q
  refine ⟨O, Hs, ss, _, Ed, A, h, er, fun b Hs1 H1 e1 q1 => ?_⟩
  cases b with
  | true => exact ⟨O, Hs1, ss, _, Ed, A.next e1, q1, er, fun d v Hs2 H2 e2 i2 q2 => g _ _ Hs2 H2 (e1.trans e2) i2 q2⟩
  | false => exact ⟨O, Hs1, ss, _, Ed, A.next e1, q1, er, fun d v Hs2 H2 e2 i2 q2 => g _ _ Hs2 H2 (e1.trans e2) i2 q2⟩
/-! ### arguments, displays, calls -/
def tdNil : TAD := fun _ Q _ => Q []
def tdCons (ta : TD) (tr : TAD) : TAD := fun ss Q Ed => ta ss (fun x => tr ss (fun xs => Q (.d x :: xs)) Ed) Ed
/-- a name among arguments: data, or the pool -/
def tdConsN (i : Nat) (tr : TAD) : TAD := fun ss Q Ed => match nth ss i with
  | .d x => tr ss (fun xs => Q (.d x :: xs)) Ed
  | .pool => tr ss (fun xs => Q (.pool :: xs)) Ed
  | _ => False
theorem da_nil : DAs X c [] tdNil := by
  refine pa_imp pa_nil fun σ H Q q => ?_
  obtain ⟨O, Hs, ss, Qd, Ed, A, h, er, g⟩ := q
  exact g [] [] Hs H (.refl A.sub) rfl h
theorem da_cons {e : Expr} {es : List Expr} {ta : TD} {tr : TAD} (ha : DE X c e ta) (hr : DAs X c es tr) (hs : starEach (e :: es) X.env = (false, eval e X.env) :: starEach es X.env := by rfl) : DAs X c (e :: es) (tdCons ta tr) := by
  refine pa_imp (pa_cons ha hr hs) fun σ H Q q => ?_
  obtain ⟨O, Hs, ss, Qd, Ed, A, h, er, g⟩ := q
  refine ⟨O, Hs, ss, _, Ed, A, h, er, fun d v Hs1 H1 e1 i1 q1 => ?_⟩
  exact ⟨O, Hs1, ss, _, Ed, A.next e1, q1, er, fun as vs Hs2 H2 e2 i2 q2 => g (.d d :: as) (v :: vs) Hs2 H2 (e1.trans e2) ⟨v, vs, rfl, i1.same e2.fz, i2⟩ q2⟩
theorem da_name {e : Expr} {es : List Expr} {i : Nat} {tr : TAD} (ha : PE X e (tVar i)) (hr : DAs X c es tr) (hs : starEach (e :: es) X.env = (false, eval e X.env) :: starEach es X.env := by rfl) : DAs X c (e :: es) (tdConsN i tr) := by
  refine pa_imp (pa_cons ha hr hs) fun σ H Q q => ?_
  obtain ⟨O, Hs, ss, Qd, Ed, A, h, er, g⟩ := q
  have hs := A.sl i
  unfold tdConsN at h
  split at h
  · rename_i x hx
    rw [hx] at hs
    obtain ⟨v, e1, i1⟩ := hs
    exact ⟨v, e1, O, Hs, ss, _, Ed, A, h, er, fun as vs Hs2 H2 e2 i2 q2 => g (.d x :: as) (v :: vs) Hs2 H2 e2 ⟨v, vs, rfl, i1.same e2.fz, i2⟩ q2⟩
  · rename_i hx
    rw [hx] at hs
    obtain ⟨p, e1, o1, p1⟩ := hs
    exact ⟨_, e1, O, Hs, ss, _, Ed, A, h, er, fun as vs Hs2 H2 e2 i2 q2 => g (.pool :: as) (.ref p :: vs) Hs2 H2 e2 ⟨p, vs, rfl, o1, e2.poolA o1 p1, i2⟩ q2⟩
  · exact h.elim
/-- all are data -/
def allD : List Sl → (List D → Prop) → Prop
  | [], Q => Q []
  | .d x :: ss, Q => allD ss fun xs => Q (x :: xs)
  | _ :: _, _ => False
theorem allD_is {K Z Hs H} : ∀ {as : List Sl} {vs : List V} {Q : List D → Prop}, ArgIs K Z Hs H as vs → allD as Q → ∃ ds, IsA K Hs ds vs ∧ Q ds
  | [], _, _, h, q => by cases h; exact ⟨[], rfl, q⟩
  | .d x :: as, _, Q, ⟨v, ws, e, h1, h2⟩, q => by
    obtain ⟨ds, h3, h4⟩ := allD_is (Q := fun xs => Q (x :: xs)) h2 q
    exact ⟨x :: ds, ⟨v, ws, e, h1, h3⟩, h4⟩
  | .pool :: _, _, _, _, q => q.elim
  | .un :: _, _, _, _, q => q.elim
  | .own _ _ :: _, _, _, _, q => q.elim
/-- at most so many -/
def short : Nat → List D → Bool
  | _, [] => true
  | n + 1, _ :: ds => short n ds
  | 0, _ :: _ => false
theorem short_len : ∀ {n : Nat} {ds : List D}, short n ds = true → ds.length ≤ n
  | _, [], _ => Nat.zero_le _
  | n + 1, _ :: ds, h => Nat.succ_le_succ (short_len (n := n) (ds := ds) h)
  | 0, _ :: _, h => by cases h
def few (ds : List D) (P : Prop) : Prop := match short 63 ds with
  | true => P
  | false => False
theorem few_inv {ds : List D} {P : Prop} (h : few ds P) : ds.length ≤ sizeLine ∧ P := by
  unfold few at h
  split at h
  · rename_i e
    exact ⟨Nat.le_trans (short_len e) (by decide), h⟩
  · exact h.elim
def tdTup (t : TAD) : TD := fun ss Q Ed => t ss (fun as => allD as fun ds => few ds (Q (.tup ds))) Ed
def tdLst (t : TAD) : TD := fun ss Q Ed => t ss (fun as => allD as fun ds => few ds (Q (.lst ds))) Ed
theorem d_tup {es : List Expr} {x1} {pos : Pos} {t : TAD} (h : DAs X c es t) : DE X c (.Tuple es x1 pos) (tdTup t) := by
  refine pe_imp (pe_tup h) fun σ H Q q => ?_
  obtain ⟨O, Hs, ss, Qd, Ed, A, h, er, g⟩ := q
  refine ⟨O, Hs, ss, _, Ed, A, h, er, fun as vs Hs1 H1 e1 i1 q1 => ?_⟩
  obtain ⟨ds, h3, h45⟩ := allD_is i1 q1
  obtain ⟨h4, h5⟩ := few_inv h45
  have x := Ext.laid (Z := Z0 O) (p := 0) (o := .tup vs) (s := e1.sub)
  refine ⟨by rw [h3.len]; exact h4, fun p np => g _ _ (upd Hs1 p (.tup vs)) _ (e1.trans (.laid e1.sub np)) ?_ h5⟩
  exact ⟨p, vs, rfl, .inl (.inl upd_same), h3.same (Ext.laid (Z := Z0 O) e1.sub np).fz⟩
theorem d_lst {es : List Expr} {pos : Pos} {t : TAD} (h : DAs X c es t) : DE X c (.List es pos) (tdLst t) := by
  refine pe_imp (pe_lst h) fun σ H Q q => ?_
  obtain ⟨O, Hs, ss, Qd, Ed, A, h, er, g⟩ := q
  refine ⟨O, Hs, ss, _, Ed, A, h, er, fun as vs Hs1 H1 e1 i1 q1 => ?_⟩
  obtain ⟨ds, h3, h45⟩ := allD_is i1 q1
  obtain ⟨h4, h5⟩ := few_inv h45
  refine ⟨by rw [h3.len]; exact h4, fun p np => g _ _ (upd Hs1 p (.lst vs)) _ (e1.trans (.laid e1.sub np)) ?_ h5⟩
  exact ⟨p, vs, rfl, upd_same, h3.same (Ext.laid (Z := Z0 O) e1.sub np).fz⟩
/-- an expression that makes a list of its own -/
abbrev TOD := List Sl → (List D → Prop) → QE → Prop
def liftO (c : Cn) (K : PySem.W.Frag) (t : TOD) : TE := fun σ H Q => ∃ O Hs ss Qo Ed, Abs K c O Hs H σ ss ∧ t ss Qo Ed ∧ ErrC K c Ed ∧ ∀ ds p xs Hs' H', Ext (Z0 O) Hs H Hs' H' → H p = none → Hs' p = none → H' p = some (.lst xs) → IsA K Hs' ds xs → Qo ds → Q (.ref p) H'
abbrev DO (X : Cx) (c : Cn) (e : Expr) (t : TOD) : Prop := PE X e (liftO c X.K t)
theorem same_new0 {H : Hp} {p : Addr} {o : HO} (n : H p = none) : Same H (upd H p o) := fun b u h => by rw [upd_ne (ne_of_none h n)]; exact h
theorem Ext.freeze {Z : Addr → Prop} {Hs H Hs' H' : Hp} {p : Addr} {o : HO} (e : Ext Z Hs H Hs' H') (n : H p = none) (np : Hs' p = none) (hp : H' p = some o) : Ext Z Hs H (upd Hs' p o) H' where
  fz := e.fz.trans (same_new0 np)
  sub := fun b u h => by
    by_cases hb : b = p
    · subst hb; rw [upd_same] at h; cases h; exact hp
    · rw [upd_ne hb] at h; exact e.sub _ _ h
  keep := e.keep
  live := e.live
  new := fun b h1 h2 => by
    have hb : b ≠ p := by rintro rfl; exact h2 n
    rw [upd_ne hb]; exact e.new b h1 h2
  pool := fun b l z q => by
    obtain ⟨ns', x', y', w', k1, k2, k3⟩ := e.pool b l z q
    exact ⟨ns', x', y', w', k1, same_new0 np _ _ k2, k3⟩
def tdO (t : TOD) : TD := fun ss Q Ed => t ss (fun ds => Q (.lst ds)) Ed
theorem d_ofO {e : Expr} {t : TOD} (h : DO X c e t) : DE X c e (tdO t) := by
  refine pe_imp h fun σ H Q q => ?_
  obtain ⟨O, Hs, ss, Qd, Ed, A, h, er, g⟩ := q
  exact ⟨O, Hs, ss, _, Ed, A, h, er, fun ds p xs Hs1 H1 x1 n1 n2 h1 h2 q1 => g (.lst ds) _ (upd Hs1 p (.lst xs)) H1 (x1.freeze n1 n2 h1) ⟨p, xs, rfl, upd_same, h2.same (same_new0 n2)⟩ q1⟩
def toLst (t : TAD) : TOD := fun ss Q Ed => t ss (fun as => allD as fun ds => few ds (Q ds)) Ed
theorem do_lst {es : List Expr} {pos : Pos} {t : TAD} (h : DAs X c es t) : DO X c (.List es pos) (toLst t) := by
  refine pe_imp (pe_lst h) fun σ H Q q => ?_
  obtain ⟨O, Hs, ss, Qd, Ed, A, h, er, g⟩ := q
  refine ⟨O, Hs, ss, _, Ed, A, h, er, fun as vs Hs1 H1 e1 i1 q1 => ?_⟩
  obtain ⟨ds, h3, h45⟩ := allD_is i1 q1
  obtain ⟨h4, h5⟩ := few_inv h45
  have nf : ∀ p, H1 p = none → Hs1 p = none := fun p np => by
    cases z : Hs1 p with
    | none => rfl
    | some u => rw [e1.sub _ _ z] at np; cases np
  have n0 : ∀ p, H1 p = none → H p = none := fun p np => by
    cases z : H p with
    | none => rfl
    | some u => exact absurd np (e1.live p (by rw [z]; exact fun z => nomatch z))
  exact ⟨by rw [h3.len]; exact h4, fun p np => g ds p vs Hs1 _ (e1.trans (.grow e1.sub np)) (n0 p np) (nf p np) upd_same h3 h5⟩
/-- a built-in, by its arguments' data -/
structure CallD (X : Cx) (f : Value) (r : List D → QD → Prop) : Prop where
  ex : ∃ r0 : List V → Hp → VK → Prop, CallR X f r0 ∧ ∀ (Z : Addr → Prop) (Hs H : Hp) (ds : List D) (vs : List V) (Qd : QD) (Q : VK), Same Hs H → IsA X.K Hs ds vs → r ds Qd →
    (∀ x w Hs' H', Ext Z Hs H Hs' H' → Is X.K Hs' x w → Qd x → Q w H') → r0 vs H Q
def tdCB (r : List D → QD → Prop) (t : TAD) : TD := fun ss Q Ed => t ss (fun as => allD as fun ds => r ds Q) Ed
theorem lift_cb {r : List D → QD → Prop} {f : Value} (o : CallD X f r) : ∃ r0 : List V → Hp → VK → Prop, CallR X f r0 ∧ ∀ t σ H Q, lift c X.K (tdCB r t) σ H Q → tCB r0 (liftA c X.K t) σ H Q := by
  obtain ⟨r0, h0, cn⟩ := o.ex
  refine ⟨r0, h0, fun t σ H Q q => ?_⟩
  obtain ⟨O, Hs, ss, Qd, Ed, A, h, er, g⟩ := q
  refine ⟨O, Hs, ss, _, Ed, A, h, er, fun as vs Hs1 H1 e1 i1 q1 => ?_⟩
  obtain ⟨ds, h3, h4⟩ := allD_is i1 q1
  exact cn (Z0 O) Hs1 H1 ds vs Qd Q e1.sub h3 h4 fun x w Hs3 H3 e3 i3 q3 => g x w Hs3 H3 (e1.trans e3) i3 q3
theorem d_callB {x : Str} {p pos : Pos} {e : Expr} {es : List Expr} {t : TAD} {id : String} {r : List D → QD → Prop} (o : CallD X (.builtin id) r) (hm : X.mg x = none) (ha : DAs X c (e :: es) t) (hg : Gl X x := by rfl) (hv : bootBuiltins x = some (.builtin id) := by decide +kernel) (hn : x ≠ "__name__" := by decide) (hdb : (x == ("__debug__" : Str)) = false := by decide)
    (he : starEach (e :: es) X.env = (false, eval e X.env) :: starEach es X.env := by rfl) (hpl : (backTo pos (starEach es X.env)).any (·.1) = false := by rfl) : DE X c (.Call (.Name x p) (e :: es) [] pos) (tdCB r t) := by
  obtain ⟨r0, h0, f⟩ := lift_cb (c := c) o
  exact pe_imp (pe_callB h0 hg hm hv ha hn hdb he hpl) (f t)
theorem d_callTy {x : Str} {p pos : Pos} {e : Expr} {es : List Expr} {t : TAD} {T : String} {r : List D → QD → Prop} (o : CallD X (.type T) r) (hm : X.mg x = none) (ha : DAs X c (e :: es) t) (hg : Gl X x := by rfl) (hv : bootBuiltins x = some (.type T) := by decide +kernel) (hn : x ≠ "__name__" := by decide) (hdb : (x == ("__debug__" : Str)) = false := by decide)
    (he : starEach (e :: es) X.env = (false, eval e X.env) :: starEach es X.env := by rfl) (hpl : (backTo pos (starEach es X.env)).any (·.1) = false := by rfl) : DE X c (.Call (.Name x p) (e :: es) [] pos) (tdCB r t) := by
  obtain ⟨r0, h0, f⟩ := lift_cb (c := c) o
  exact pe_imp (pe_callTy h0 hg hm hv ha hn hdb he hpl) (f t)
/-- a def's promise over data -/
abbrev SpD := List Sl → QD → QE → Prop
def spD (K : PySem.W.Frag) (f : SpD) : Sp := fun vs H Q E => ∃ (Z : Addr → Prop) (Hs : Hp) (as : List Sl) (Qd : QD) (Ed : QE), Same Hs H ∧ (∀ p, Z p → Hs p = none ∧ H p ≠ none) ∧ ArgIs K Z Hs H as vs ∧ f as Qd Ed ∧
  (∀ d v Hs' H', Ext Z Hs H Hs' H' → Is K Hs' d v → Qd d → Q v H') ∧ (∀ er Hs' H', Ext Z Hs H Hs' H' → Ed er → ErrPost K E er Hs' H')
def tdCall (f : SpD) (ds : List D) (t : TAD) : TD := fun ss Q Ed => t ss (fun as => f (as ++ dats ds) Q Ed) Ed
/-- the state at a call, from the caller's -/
theorem ArgIs.app {K Z Hs H} {ds : List D} {ws : List V} (h2 : IsA K Hs ds ws) : ∀ {as : List Sl} {vs : List V}, ArgIs K Z Hs H as vs → ArgIs K Z Hs H (as ++ DL.dats ds) (vs ++ ws)
  | [], _, h => by
    cases h
    show ArgIs K Z Hs H (DL.dats ds) ws
    revert ws
    induction ds with
    | nil => intro ws h2; exact h2
    | cons d ds ih =>
      intro ws ⟨x, ys, e, h1, h3⟩
      exact ⟨x, ys, e, h1, ih h3⟩
  | .d _ :: _, _, ⟨v, ws', e1, h1, h3⟩ => by subst e1; exact ⟨v, _, rfl, h1, h3.app h2⟩
  | .pool :: _, _, ⟨p, ws', e1, h1, h3, h4⟩ => by subst e1; exact ⟨p, _, rfl, h1, h3, h4.app h2⟩
  | .un :: _, _, h => h.elim
  | .own _ _ :: _, _, h => h.elim
theorem sp_of {K : PySem.W.Frag} {f : SpD} {O Hs H σ ss} (A : Abs K c O Hs H σ ss) {as : List Sl} {vs : List V} {Qd : QD} {Ed : QE} {Q : VK} (er : ErrC K c Ed) (ai : ArgIs K (Z0 O) Hs H as vs) (h : f as Qd Ed)
    (g : ∀ d v Hs' H', Ext (Z0 O) Hs H Hs' H' → Is K Hs' d v → Qd d → Q v H') : spD K f vs H Q c.E :=
  ⟨Z0 O, Hs, as, Qd, Ed, A.sub, fun p hp => ⟨A.fz p (by rw [hp]; exact fun z => nomatch z), A.live p (by rw [hp]; exact fun z => nomatch z)⟩, ai, h, g, fun e Hs' H' x q => er e Hs' H' (A.after x) q⟩
theorem d_call {k : Nat} {f : Addr} {fd : FuncData} {ps : List Str} {sp : SpD} {x : Str} {p pos : Pos} {e : Expr} {es : List Expr} {t : TAD} {ds : List D} {dvs : List V} {dus : List Value} (F : FnOk X.prog X.w X.K X.mg X.base (L2.CX X.prog X.w) k f fd ps (spD X.K sp)) (hr : Room k X.A) (hm : X.mg x = some (.ref f)) (hk : PySem.W.keepIn X.K (.ref f) = true) (hb : Binds X.K fd ps dus) (hd : Vals dvs dus) (hds : ∀ H, IsA X.K H ds dvs) (hx : Passes (L2.CX X.prog X.w) X c.E)
    (ha : DAs X c (e :: es) t) (hg : Gl X x := by rfl) (hdb : (x == ("__debug__" : Str)) = false := by decide) (he : starEach (e :: es) X.env = (false, eval e X.env) :: starEach es X.env := by rfl) (hpl : (backTo pos (starEach es X.env)).any (·.1) = false := by rfl) :
    DE X c (.Call (.Name x p) (e :: es) [] pos) (tdCall sp ds t) := by
  refine pe_imp (pe_call F hr hg hm hk hb hd hx ha hdb he hpl) fun σ H Q q => ?_
  obtain ⟨O, Hs, ss, Qd, Ed, A, h, er, g⟩ := q
  refine ⟨O, Hs, ss, _, Ed, A, h, er, fun as vs Hs1 H1 e1 i1 q1 => ?_⟩
  exact sp_of (A.next e1) er (i1.app (hds Hs1)) q1 fun d v Hs2 H2 e2 i2 q2 => g d v Hs2 H2 (e1.trans e2) i2 q2
theorem d_call0 {k : Nat} {f : Addr} {fd : FuncData} {ps : List Str} {sp : SpD} {x : Str} {p pos : Pos} {ds : List D} {dvs : List V} {dus : List Value} (F : FnOk X.prog X.w X.K X.mg X.base (L2.CX X.prog X.w) k f fd ps (spD X.K sp)) (hr : Room k X.A) (hm : X.mg x = some (.ref f)) (hk : PySem.W.keepIn X.K (.ref f) = true) (hb : Binds X.K fd ps dus) (hd : Vals dvs dus) (hds : ∀ H, IsA X.K H ds dvs) (hx : Passes (L2.CX X.prog X.w) X c.E)
    (hg : Gl X x := by rfl) (hdb : (x == ("__debug__" : Str)) = false := by decide) : DE X c (.Call (.Name x p) [] [] pos) (tdCall sp ds tdNil) := by
  refine pe_imp (pe_call0 F hr hg hm hk hb hd hx hdb) fun σ H Q q => ?_
  obtain ⟨O, Hs, ss, Qd, Ed, A, h, er, g⟩ := q
  exact sp_of (σ := σ) (ss := ss) (vs := [] ++ dvs) A er (ArgIs.app (as := []) (vs := []) (hds Hs) rfl) h g
/-! ### blocks -/
def tdNext : TSD := fun En ss _ => En.nx ss
def tdSeq (t u : TSD) : TSD := fun En ss Ed => t { En with nx := fun ss' => u En ss' Ed } ss Ed
/-- what stands between, for both ways of an if -/
def tdCut (t u : TSD) : TSD := fun En ss Ed => ∃ J : List Sl → Prop, t { En with nx := J } ss Ed ∧ ∀ ss', J ss' → u En ss' Ed
theorem dss_nil : DSs X c [] tdNext := by
  refine pss_imp pss_nil fun Dn σ H q => ?_
  obtain ⟨O, Hs, ss, En, Ed, A, h, er, g⟩ := q
  exact g.nx σ O Hs H ss (.refl _) A h
theorem dss_cons {st : Stmt} {rest : List Stmt} {t u : TSD} (h1 : DS X c st t) (h2 : DSs X c rest u) : DSs X c (st :: rest) (tdSeq t u) := by
  refine pss_imp (pss_cons h1 h2) fun Dn σ H q => ?_
  obtain ⟨O, Hs, ss, En, Ed, A, h, er, g⟩ := q
  exact ⟨O, Hs, ss, _, Ed, A, h, er, ⟨fun σ' O' Hs' H' ss' s' A' q' => ⟨O', Hs', ss', En, Ed, A', q', er, g.up s'⟩, g.bk, g.ct, g.rt, g.ro⟩⟩
theorem dss_cut {st : Stmt} {rest : List Stmt} {t u : TSD} (h1 : DS X c st t) (h2 : DSs X c rest u) : DSs X c (st :: rest) (tdCut t u) := by
  refine pss_imp (pss_cons h1 h2) fun Dn σ H q => ?_
  obtain ⟨O, Hs, ss, En, Ed, A, ⟨J, h, hJ⟩, er, g⟩ := q
  exact ⟨O, Hs, ss, _, Ed, A, h, er, ⟨fun σ' O' Hs' H' ss' s' A' q' => ⟨O', Hs', ss', En, Ed, A', hJ _ q', er, g.up s'⟩, g.bk, g.ct, g.rt, g.ro⟩⟩
theorem dss_one {st : Stmt} {t : TSD} (h : DS X c st t) : DSs X c [st] t := pss_one h
/-- an own list is given up: data from here on -/
def tdPub (i : Nat) (t : TSD) : TSD := fun En ss Ed => match nth ss i with
  | .own _ ds => t En (put ss i (.d (.lst ds))) Ed
  | _ => False
theorem dss_pub (i : Nat) {st : List Stmt} {t : TSD} (h : DSs X c st t) : DSs X c st (tdPub i t) := by
  refine pss_imp h fun Dn σ H q => ?_
  obtain ⟨O, Hs, ss, En, Ed, A, h, er, g⟩ := q
  unfold tdPub at h
  split at h
  · rename_i p ds hs
    obtain ⟨xs, _, _, _, A', s', _⟩ := A.pub hs
    exact ⟨_, _, _, En, Ed, A', h, er, g.up s'⟩
  · exact h.elim
def tdDrop (te : TD) : TSD := fun En ss Ed => te ss (fun _ => En.nx ss) Ed
theorem d_expr {e : Expr} {pos : Pos} {te : TD} (he : DE X c e te) (hs : swapsWith e none pos.line X.env = pure false := by rfl) : DS X c (.Expr e pos) (tdDrop te) := by
  refine ps_imp (ps_expr he hs) fun Dn σ H q => ?_
  obtain ⟨O, Hs, ss, En, Ed, A, h, er, g⟩ := q
  exact ⟨O, Hs, ss, _, Ed, A, h, er, fun d v Hs1 H1 e1 i1 q1 => g.nx σ O Hs1 H1 ss e1.fz (A.next e1) q1⟩
def tdRet (te : TD) : TSD := fun En ss Ed => te ss En.rt Ed
theorem d_ret {e : Expr} {pos : Pos} {te : TD} (he : DE X c e te) : DS X c (.Return (some e) pos) (tdRet te) := by
  refine ps_imp (ps_ret he) fun Dn σ H q => ?_
  obtain ⟨O, Hs, ss, En, Ed, A, h, er, g⟩ := q
  exact ⟨O, Hs, ss, _, Ed, A, h, er, fun d v Hs1 H1 e1 i1 q1 => g.rt d v Hs1 H1 (A.after e1) i1 q1⟩
def tdRetN : TSD := fun En _ _ => En.rt .non
theorem d_retN {pos : Pos} : DS X c (.Return none pos) tdRetN := by
  refine ps_imp ps_retN fun Dn σ H q => ?_
  obtain ⟨O, Hs, ss, En, Ed, A, h, er, g⟩ := q
  exact g.rt .non .non Hs H A.ext rfl h
/-- return of an own list -/
def tdRetOwn (i : Nat) : TSD := fun En ss _ => match nth ss i with
  | .own _ ds => En.ro ds
  | _ => False
theorem own_facts {K c O Hs H σ ss} (A : Abs K c O Hs H σ ss) {i : Nat} {p : Addr} {ds : List D} (h : nth ss i = .own p ds) : ∃ xs, σ[i]? = some (some (.ref p)) ∧ O p = some (i + 1) ∧ H p = some (.lst xs) ∧ IsA K Hs ds xs ∧ Hs p = none ∧ c.H p = none := by
  have q := A.sl i
  rw [h] at q
  obtain ⟨xs, h1, own, h3, h4⟩ := q
  have nz : ¬ c.Z p := fun z => by have := A.z p z; rw [own] at this; cases this
  exact ⟨xs, h1, own, h3, h4, A.fz p (by rw [own]; exact fun z => nomatch z), (A.own0 p (by rw [own]; exact fun z => nomatch z)).resolve_left nz⟩
theorem d_retOwn {e : Expr} {pos : Pos} {i : Nat} (he : PE X e (tVar i)) : DS X c (.Return (some e) pos) (tdRetOwn i) := by
  refine ps_imp (ps_ret he) fun Dn σ H q => ?_
  obtain ⟨O, Hs, ss, En, Ed, A, h, er, g⟩ := q
  unfold tdRetOwn at h
  split at h
  · rename_i p ds hs
    obtain ⟨xs, h1, _, h3, h4, h5, h6⟩ := own_facts A hs
    exact ⟨_, h1, g.ro ds p xs Hs H A.ext h6 h5 h3 h4 h⟩
  · exact h.elim
def tdIfS (t : TTD) (a b : TSD) : TSD := fun En ss Ed => t ss (fun k => if k = true then a En ss Ed else b En ss Ed) Ed
theorem d_ifS {k : Expr} {a b : List Stmt} {pos : Pos} {t : TTD} {ta tb : TSD} (hk : DT X c k t) (ha : DSs X c a ta) (hb : DSs X c b tb) : DS X c (.If k a b pos) (tdIfS t ta tb) := by
  refine ps_imp (ps_if hk ha hb) fun Dn σ H q => ?_
  obtain ⟨O, Hs, ss, En, Ed, A, h, er, g⟩ := q
  refine ⟨O, Hs, ss, _, Ed, A, h, er, fun b Hs1 H1 e1 q1 => ?_⟩
  cases b with
  | true => exact ⟨O, Hs1, ss, En, Ed, A.next e1, q1, er, g.up e1.fz⟩
  | false => exact ⟨O, Hs1, ss, En, Ed, A.next e1, q1, er, g.up e1.fz⟩
theorem d_pass {pos : Pos} : DS X c (.Pass pos) tdNext := by
  refine ps_imp ps_pass fun Dn σ H q => ?_
  obtain ⟨O, Hs, ss, En, Ed, A, h, er, g⟩ := q
  exact g.nx σ O Hs H ss (.refl _) A h
def tdBrk : TSD := fun En ss _ => En.bk ss
def tdCnt : TSD := fun En ss _ => En.ct ss
theorem d_break {pos : Pos} : DS X c (.Break pos) tdBrk := by
  refine ps_imp ps_break fun Dn σ H q => ?_
  obtain ⟨O, Hs, ss, En, Ed, A, h, er, g⟩ := q
  exact g.bk σ O Hs H ss (.refl _) A h
theorem d_continue {pos : Pos} : DS X c (.Continue pos) tdCnt := by
  refine ps_imp ps_continue fun Dn σ H q => ?_
  obtain ⟨O, Hs, ss, En, Ed, A, h, er, g⟩ := q
  exact g.ct σ O Hs H ss (.refl _) A h
/-! ### targets -/
abbrev GD := D → List Sl → (List Sl → Prop) → Prop
abbrev GsD := List D → List Sl → (List Sl → Prop) → Prop
def fits : Nat → List D → Bool
  | 0, [] => true
  | n + 1, _ :: ds => fits n ds
  | _, _ => false
theorem fits_len : ∀ {n : Nat} {ds : List D}, fits n ds = true → ds.length = n
  | 0, [], _ => rfl
  | n + 1, _ :: ds, h => congrArg Nat.succ (fits_len (n := n) (ds := ds) h)
  | 0, _ :: _, h => by cases h
  | _ + 1, [], h => by cases h
theorem fits_of : ∀ {ds : List D} {n : Nat}, ds.length = n → fits n ds = true
  | [], _, h => by subst h; rfl
  | _ :: ds, _, h => by subst h; exact fits_of (ds := ds) rfl
/-- a name's slot, or a tuple of targets -/
inductive Pat where
  | n (i : Nat) | t (ps : List Pat)
mutual
def Pat.tg (K : PySem.W.Frag) : Pat → TG
  | .n i => gName i
  | .t ps => gTup K ps.length (Pat.tgs K ps)
def Pat.tgs (K : PySem.W.Frag) : List Pat → TGs
  | [] => gNil
  | p :: ps => gCons (Pat.tg K p) (Pat.tgs K ps)
end
mutual
def Pat.gd : Pat → GD
  | .n i => fun d ss Q => Q (put ss i (.d d))
  | .t ps => fun d ss Q => match d with
    | .tup ds => match fits ps.length ds with
      | true => Pat.gds ps ds ss Q
      | false => False
    | _ => False
def Pat.gds : List Pat → GsD
  | [] => fun ds ss Q => match ds with
    | [] => Q ss
    | _ => False
  | p :: ps => fun ds ss Q => match ds with
    | d :: ds => Pat.gd p d ss fun ss' => Pat.gds ps ds ss' Q
    | _ => False
end
mutual
def Pat.vs : Pat → List Nat
  | .n i => [i]
  | .t ps => Pat.vss ps
def Pat.vss : List Pat → List Nat
  | [] => []
  | p :: ps => Pat.vs p ++ Pat.vss ps
end
/-- all slots but these are as they were -/
def Kept (vs : List Nat) (σ σ' : L2.St) : Prop := σ'.length = σ.length ∧ ∀ j, j ∉ vs → σ'[j]? = σ[j]?
mutual
theorem Pat.conn {K : PySem.W.Frag} {c : Cn} {O Hs H} : ∀ (p : Pat) {σ ss d v} {Qd : List Sl → Prop} {Q : L2.St → Hp → Prop}, Abs K c O Hs H σ ss → Is K Hs d v → Pat.gd p d ss Qd →
    (∀ σ' ss', Abs K c O Hs H σ' ss' → Kept p.vs σ σ' → Qd ss' → Q σ' H) → p.tg K v σ H Q
  | .n i, σ, ss, d, v, Qd, Q, A, is, q, f => by
    simp only [Pat.gd] at q
    simp only [Pat.tg]
    exact f _ _ (A.set is) ⟨List.length_set, fun j hj => List.getElem?_set_ne (fun e => hj (by simp [Pat.vs, e]))⟩ q
  | .t ps, σ, ss, d, v, Qd, Q, A, is, q, f => by
    simp only [Pat.gd] at q
    split at q
    · rename_i ds
      split at q
      · rename_i hf
        obtain ⟨a, xs, e, h1, h2⟩ := is
        simp only [Pat.tg]
        exact ⟨a, xs, e, same_sqt A.sub h1, by rw [h2.len]; exact fits_len hf, Pat.conns ps A h2 q fun σ' ss' A' k q' => f σ' ss' A' (by simpa [Pat.vs] using k) q'⟩
      · exact q.elim
    · exact q.elim
theorem Pat.conns {K : PySem.W.Frag} {c : Cn} {O Hs H} : ∀ (ps : List Pat) {σ ss ds us} {Qd : List Sl → Prop} {Q : L2.St → Hp → Prop}, Abs K c O Hs H σ ss → IsA K Hs ds us → Pat.gds ps ds ss Qd →
    (∀ σ' ss', Abs K c O Hs H σ' ss' → Kept (Pat.vss ps) σ σ' → Qd ss' → Q σ' H) → Pat.tgs K ps us σ H Q
  | [], σ, ss, ds, us, Qd, Q, A, is, q, f => by
    cases ds with
    | nil =>
      cases is
      simp only [Pat.gds] at q
      simp only [Pat.tgs]
      exact ⟨rfl, f _ _ A ⟨rfl, fun _ _ => rfl⟩ q⟩
    | cons d ds => simp only [Pat.gds] at q
  | p :: ps, σ, ss, ds, us, Qd, Q, A, is, q, f => by
    cases ds with
    | nil => simp only [Pat.gds] at q
    | cons d ds =>
      obtain ⟨x, ys, e, h3, h4⟩ := is
      simp only [Pat.gds] at q
      simp only [Pat.tgs]
      refine ⟨x, ys, e, Pat.conn p A h3 q fun σ' ss' A' k1 q' => ?_⟩
      refine Pat.conns ps A' h4 q' fun σ2 ss2 A2 k2 q2 => f σ2 ss2 A2 ⟨k2.1.trans k1.1, fun j hj => ?_⟩ q2
      simp only [Pat.vss, List.mem_append, not_or] at hj
      exact (k2.2 j hj.2).trans (k1.2 j hj.1)
end
abbrev DG (X : Cx) (tg : Expr) (p : Pat) : Prop := PG X tg (p.tg X.K)
abbrev DGs (X : Cx) (tgs : List Expr) (ps : List Pat) : Prop := PGs X tgs (Pat.tgs X.K ps)
theorem dg_name {i : Nat} {x : Str} {pos : Pos} (h : PG X (.Name x pos) (gName i)) : DG X (.Name x pos) (.n i) := h
theorem dgs_nil : DGs X [] [] := pgs_nil
theorem dgs_cons {e : Expr} {es : List Expr} {p : Pat} {ps : List Pat} (h1 : DG X e p) (h2 : DGs X es ps) (hst : (assignEach (e :: es) X.env).map (·.2) = assign e X.env :: (assignEach es X.env).map (·.2) := by rfl) : DGs X (e :: es) (p :: ps) := pgs_cons h1 h2 hst
theorem dg_tup {es : List Expr} {k : Nat} {pos : Pos} {ps : List Pat} (hc : X.calm = true) (h : DGs X es ps) (hn : (assignEach es X.env).length = ps.length := by rfl) (hst : (assignEach es X.env).findIdx? (·.1) = none := by rfl) : DG X (.Tuple es k pos) (.t ps) := pg_tup hc h hn hst
/-! ### assignment -/
def tdAsg (te : TD) (p : Pat) : TSD := fun En ss Ed => te ss (fun d => p.gd d ss En.nx) Ed
theorem d_asg {tg e : Expr} {pos : Pos} {te : TD} {p : Pat} (he : DE X c e te) (hg : DG X tg p) (hs : swapsWithSole [tg] e pos.line X.env = pure false := by rfl) (hw : swappedStores [tg] e X.env = pure none := by rfl) (h1 : (assignEach [tg] X.env).map (·.2) = [assign tg X.env] := by rfl) : DS X c (.Assign [tg] e pos) (tdAsg te p) := by
  refine ps_imp (ps_asg he hg hs hw h1) fun Dn σ H q => ?_
  obtain ⟨O, Hs, ss, En, Ed, A, h, er, gc⟩ := q
  exact ⟨O, Hs, ss, _, Ed, A, h, er, fun d v Hs1 H1 e1 i1 q1 => p.conn (A.next e1) i1 q1 fun σ' ss' A' _ q' => gc.nx σ' O Hs1 H1 ss' e1.fz A' q'⟩
/-- x = e, the new list the slot's own -/
def tdSetOwn (i : Nat) (t : TOD) : TSD := fun En ss Ed => t ss (fun ds => ∀ p, En.nx (put ss i (.own p ds))) Ed
theorem Abs.own {K c O Hs H σ ss} (A : Abs K c O Hs H σ ss) {i : Nat} {p : Addr} {ds : List D} {xs : List V} {H0 : Hp} (lv : ∀ a, O a ≠ none → H0 a ≠ none) (c0 : c.H p = none) (n0 : H0 p = none) (n : Hs p = none) (hp : H p = some (.lst xs)) (h : IsA K Hs ds xs) :
    ∃ O', Abs K c O' Hs H (σ.set i (some (.ref p))) (put ss i (.own p ds)) := by
  classical
  have Op : O p = none := by
    cases q : O p with
    | none => rfl
    | some k => exact absurd n0 (lv p (by rw [q]; exact fun z => nomatch z))
  have hO : ∀ a, a ≠ p → (if a = p then some (i + 1) else O a) = O a := fun a h => if_neg h
  refine ⟨fun b => if b = p then some (i + 1) else O b, A.ext, fun a h => ?_, fun a h => ?_, fun a h => ?_, fun a h => ?_, by rw [put_len, List.length_set]; exact A.len, fun j => ?_⟩
  · by_cases e : a = p
    · subst e; exact n
    · rw [hO a e] at h; exact A.fz a h
  · by_cases e : a = p
    · subst e; rw [hp]; exact fun z => nomatch z
    · rw [hO a e] at h; exact A.live a h
  · by_cases e : a = p
    · subst e; exact .inr c0
    · rw [hO a e] at h; exact A.own0 a h
  · by_cases e : a = p
    · subst e
      have := A.z a h
      rw [Op] at this; cases this
    · show (if a = p then some (i + 1) else O a) = some 0
      rw [hO a e]; exact A.z a h
  · by_cases e : j = i
    · subst e
      by_cases l : j < ss.length
      · rw [nth_put l, List.getElem?_set_self (by rw [A.len]; exact l)]
        exact ⟨xs, rfl, if_pos rfl, hp, h⟩
      · rw [put_out (Nat.le_of_not_lt l), nth_out (Nat.le_of_not_lt l)]
        trivial
    · rw [nth_put_ne e, List.getElem?_set_ne (fun z => e z.symm)]
      have q := A.sl j
      revert q
      cases nth ss j with
      | un => exact fun _ => trivial
      | d x => exact fun q => q
      | own p' es =>
        rintro ⟨xs', h1, h2, h3, h4⟩
        have ne : p' ≠ p := by rintro rfl; rw [Op] at h2; cases h2
        exact ⟨xs', h1, (hO p' ne).trans h2, h3, h4⟩
      | pool =>
        rintro ⟨p', h1, h2, h3⟩
        have ne : p' ≠ p := by rintro rfl; rw [Op] at h2; cases h2
        exact ⟨p', h1, (hO p' ne).trans h2, h3⟩
theorem Abs.fresh {K c O Hs H σ ss} (A : Abs K c O Hs H σ ss) {p : Addr} (n : H p = none) : c.H p = none := by
  cases z : c.H p with
  | none => rfl
  | some u => exact absurd n (A.ext.live p (by rw [z]; exact fun z => nomatch z))
theorem d_setO {i : Nat} {x : Str} {e : Expr} {pos pos' : Pos} {t : TOD} (hN : X.N.Nodup) (hi : X.N[i]? = some x) (hx : Loc X.env.scope x) (h : DO X c e t) (hs : swapsWith e (some (.Name x pos')) pos.line X.env = pure false := by rfl)
    (hf : X.fn x = true ∨ X.env.scope.names.lookup x = some .local := by first | exact .inl rfl | exact .inr rfl | assumption) : DS X c (.Assign [.Name x pos'] e pos) (tdSetOwn i t) := by
  refine ps_imp (ps_set hN hi hx h hs hf) fun Dn σ H q => ?_
  obtain ⟨O, Hs, ss, En, Ed, A, h, er, gc⟩ := q
  refine ⟨O, Hs, ss, _, Ed, A, h, er, fun ds p xs Hs1 H1 x1 n1 n2 h1 h2 q1 => ?_⟩
  obtain ⟨O', A'⟩ := (A.next x1).own (i := i) A.live (A.fresh n1) n1 n2 h1 h2
  exact gc.nx _ O' Hs1 _ _ x1.fz A' (q1 p)
/-- return e, e a new list -/
def tdRetO (t : TOD) : TSD := fun En ss Ed => t ss En.ro Ed
theorem d_retO {e : Expr} {pos : Pos} {t : TOD} (he : DO X c e t) : DS X c (.Return (some e) pos) (tdRetO t) := by
  refine ps_imp (ps_ret he) fun Dn σ H q => ?_
  obtain ⟨O, Hs, ss, En, Ed, A, h, er, g⟩ := q
  exact ⟨O, Hs, ss, _, Ed, A, h, er, fun ds p xs Hs1 H1 x1 n1 n2 h1 h2 q1 => g.ro ds p xs Hs1 H1 (A.after x1) (A.fresh n1) n2 h1 h2 q1⟩
/-- a, b = e1, e2 -/
def tdPar (i j : Nat) (ta tb : TD) : TSD := fun En ss Ed => ta ss (fun x => tb ss (fun y => En.nx (put (put ss i (.d x)) j (.d y))) Ed) Ed
theorem d_par {i j : Nat} {x y : Str} {a b : Expr} {ta tb : TD} {px py pt pos : Pos} {kt k2 pt2} (hc : X.calm = true) (hN : X.N.Nodup) (hi : X.N[i]? = some x) (hj : X.N[j]? = some y) (hij : i ≠ j) (hx : X.env.scope.names.lookup x = some .local) (hy : X.env.scope.names.lookup y = some .local)
    (ha : DE X c a ta) (hb : DE X c b tb) (h1 : PS X (.Assign [.Tuple [.Name x px, .Name y py] kt pt] (.Tuple [a, b] k2 pt2) pos) (tPar i j (tCons (lift c X.K ta) (tCons (lift c X.K tb) tNil)))) : DS X c (.Assign [.Tuple [.Name x px, .Name y py] kt pt] (.Tuple [a, b] k2 pt2) pos) (tdPar i j ta tb) := by
  refine ps_imp h1 fun Dn σ H q => ?_
  obtain ⟨O, Hs, ss, En, Ed, A, h, er, gc⟩ := q
  refine ⟨O, Hs, ss, _, Ed, A, h, er, fun d v Hs1 H1 e1 i1 q1 => ?_⟩
  refine ⟨O, Hs1, ss, _, Ed, A.next e1, q1, er, fun d2 v2 Hs2 H2 e2 i2 q2 => ?_⟩
  exact ⟨v, v2, rfl, gc.nx _ O Hs2 H2 _ (e1.fz.trans e2.fz) ((((A.next e1).next e2).set (i1.same e2.fz)).set i2) q2⟩
/-- xs.append(e) of an own list -/
def tdApp (i : Nat) (te : TD) : TSD := fun En ss Ed => match nth ss i with
  | .own p ds => te ss (fun d => ds.length < sizeLine ∧ En.nx (put ss i (.own p (ds ++ [d])))) Ed
  | _ => False
theorem d_app {x e : Expr} {apos pos pos' : Pos} {i : Nat} {te : TD} (hx : PE X x (tVar i)) (he : DE X c e te) (h1 : PE X (.Call (.Attribute x "append" apos) [e] [] pos) (tBM X.K "list" rAppend (tVar i) (tCons (lift c X.K te) tNil))) (hs : swapsWith (.Call (.Attribute x "append" apos) [e] [] pos) none pos'.line X.env = pure false := by rfl) :
    DS X c (.Expr (.Call (.Attribute x "append" apos) [e] [] pos) pos') (tdApp i te) := by
  refine ps_imp (ps_expr h1 hs) fun Dn σ H q => ?_
  obtain ⟨O, Hs, ss, En, Ed, A, h, er, gc⟩ := q
  have hsl := A.sl i
  unfold tdApp at h
  split at h
  · rename_i p ds hds
    rw [hds] at hsl
    have il : i < ss.length := by
      by_cases l : i < ss.length
      · exact l
      · rw [nth_out (Nat.le_of_not_lt l)] at hds; cases hds
    obtain ⟨xs, e1, o1, h1, h2⟩ := hsl
    refine ⟨_, e1, .inl ⟨rfl, _, .inl (.inl h1)⟩, O, Hs, ss, _, Ed, A, h, er, fun d v Hs1 H1 x1 i1 q1 => ?_⟩
    have h3 : H1 p = some (.lst xs) := x1.keep p _ (fun z => by have z : O p = some 0 := z; rw [o1] at z; cases z) h1
    refine ⟨p, xs, v, rfl, rfl, h3, by rw [h2.len]; exact q1.1, ?_⟩
    exact gc.nx σ O Hs1 _ _ x1.fz ((A.next x1).write e1 o1 il ((h2.same x1.fz).app (.one i1))) q1.2
  · exact h.elim
/-! ### loops -/
/-- an iterator that gives these items, from Hs on -/
structure ItIs (K : PySem.W.Frag) (J : It) (items : List D) (Hs : Hp) : Prop where
  go : ∀ i Hs' H, Same Hs Hs' → Same Hs' H → i < items.length → J.go i H
  stop : ∀ i Hs' H, Same Hs Hs' → Same Hs' H → items.length = i → J.stop i H
  yld : ∀ i Hs' H v H' d, Same Hs Hs' → Same Hs' H → J.yld i H v H' → items[i]? = some d → ∃ Hs2, (∀ Z, Ext Z Hs' H Hs2 H') ∧ Is K Hs2 d v
abbrev TID := List Sl → (List D → Prop) → QE → Prop
def liftI (c : Cn) (K : PySem.W.Frag) (t : TID) : TI := fun σ H R => ∃ O Hs ss Qi Ed, Abs K c O Hs H σ ss ∧ t ss Qi Ed ∧ ErrC K c Ed ∧ ∀ items J Hs' H', Ext (Z0 O) Hs H Hs' H' → ItIs K J items Hs' → Qi items → R J H'
abbrev DI (X : Cx) (c : Cn) (tg iter : Expr) (t : TID) : Prop := PI X tg iter (liftI c X.K t)
theorem pi_imp {tg iter : Expr} {t t' : TI} (h : PI X tg iter t) (f : ∀ σ H Q, t' σ H Q → t σ H Q) : PI X tg iter t' := ⟨fun pins s σ H Q I q => h.run pins s σ H Q I (f _ _ _ q)⟩
/-- I: what holds ahead of each turn -/
def tdFor (ti : TID) (p : Pat) (tb : TSD) : TSD := fun En ss Ed => ti ss (fun items => ∃ I : Nat → List Sl → Prop, I 0 ss ∧
  (∀ i d ss', items[i]? = some d → I i ss' → p.gd d ss' fun ss2 => tb { nx := I (i + 1), rt := En.rt, ro := En.ro, bk := En.nx, ct := I (i + 1) } ss2 Ed) ∧ ∀ ss', I items.length ss' → En.nx ss') Ed
theorem d_for {tg iter : Expr} {body : List Stmt} {pos : Pos} {ti : TID} {p : Pat} {tb : TSD} (hp : PassesOwn (model X.prog X.w) X.A X.env X.xe) (hc : X.calm = true) (hi : DI X c tg iter ti) (hg : DG X tg p) (hb : DSs X c body tb)
    (hs : ∀ x, foldedSetIterable iter X.env x = pure x := by intro _; rfl) : DS X c (.For tg iter body [] pos) (tdFor ti p tb) := by
  refine ps_imp (ps_for hp hc hi hg hb hs) fun Dn σ H q => ?_
  obtain ⟨O, Hs, ss, En, Ed, A, h, er, gc⟩ := q
  refine ⟨O, Hs, ss, _, Ed, A, h, er, fun items J Hs1 H1 x1 hJ q1 => ?_⟩
  obtain ⟨I, i0, turn, fin⟩ := q1
  refine ⟨fun i m σ' H' => m = items.length - i ∧ i ≤ items.length ∧ ∃ O' Hs' ss', Abs X.K c O' Hs' H' σ' ss' ∧ Same Hs1 Hs' ∧ I i ss', ⟨_, rfl, Nat.zero_le _, O, Hs1, ss, A.next x1, .refl _, i0⟩, ?_⟩
  rintro i m σ' H' ⟨rfl, hi, O', Hs', ss', A', s', q'⟩
  by_cases hlt : i < items.length
  · refine .inr ⟨hJ.go i Hs' H' s' A'.sub hlt, fun σ2 H2 => ∃ O2 Hs2 ss2, Abs X.K c O2 Hs2 H2 σ2 ss2 ∧ Same Hs1 Hs2 ∧ I (i + 1) ss2, fun σ2 H2 z => ⟨items.length - (i + 1), by omega, rfl, hlt, z⟩, fun v H2 hy => ?_⟩
    have hd : items[i]? = some items[i] := List.getElem?_eq_getElem hlt
    obtain ⟨Hs2, x2, is2⟩ := hJ.yld i Hs' H' v H2 _ s' A'.sub hy hd
    have A2 := A'.next (x2 (Z0 O'))
    refine p.conn A2 is2 (turn i _ ss' hd q') fun σ3 ss3 A3 _ q3 => ?_
    have s3 : Same Hs1 Hs2 := s'.trans (x2 (Z0 O')).fz
    refine ⟨O', Hs2, ss3, _, Ed, A3, q3, er, ?_⟩
    exact ⟨fun σ4 O4 Hs4 H4 ss4 z A4 q4 => ⟨O4, Hs4, ss4, A4, s3.trans z, q4⟩, fun σ4 O4 Hs4 H4 ss4 z A4 q4 => gc.nx σ4 O4 Hs4 H4 ss4 (x1.fz.trans (s3.trans z)) A4 q4, fun σ4 O4 Hs4 H4 ss4 z A4 q4 => ⟨O4, Hs4, ss4, A4, s3.trans z, q4⟩, gc.rt, gc.ro⟩
  · have e : i = items.length := by omega
    subst e
    exact .inl ⟨hJ.stop _ Hs' H' s' A'.sub rfl, gc.nx σ' O' Hs' H' ss' (x1.fz.trans s') A' (fin ss' q')⟩
/-- I: what holds ahead of each turn, by a number that falls -/
def tdWhile (tt : TTD) (tb : TSD) : TSD := fun En ss Ed => ∃ I : Nat → List Sl → Prop, (∃ m, I m ss) ∧ ∀ m ss', I m ss' → tt ss' (fun b => if b = true then
  tb { nx := fun ss2 => ∃ m', m' < m ∧ I m' ss2, rt := En.rt, ro := En.ro, bk := En.nx, ct := fun ss2 => ∃ m', m' < m ∧ I m' ss2 } ss' Ed else En.nx ss') Ed
theorem d_while {k : Expr} {body : List Stmt} {pos : Pos} {tt : TTD} {tb : TSD} (hp : PassesOwn (model X.prog X.w) X.A X.env X.xe) (hk : DT X c k tt) (hb : DSs X c body tb) : DS X c (.While k body [] pos) (tdWhile tt tb) := by
  refine ps_imp (ps_while hp hk hb) fun Dn σ H q => ?_
  obtain ⟨O, Hs, ss, En, Ed, A, ⟨I, ⟨m0, i0⟩, turn⟩, er, gc⟩ := q
  refine ⟨fun m σ' H' => ∃ O' Hs' ss', Abs X.K c O' Hs' H' σ' ss' ∧ Same Hs Hs' ∧ I m ss', ⟨m0, O, Hs, ss, A, .refl _, i0⟩, ?_⟩
  rintro m σ' H' ⟨O', Hs', ss', A', s', q'⟩
  refine ⟨O', Hs', ss', _, Ed, A', turn m ss' q', er, fun b Hs2 H2 x2 q2 => ?_⟩
  cases b with
  | true =>
    rw [if_pos rfl]
    refine ⟨fun σ3 H3 => ∃ m', m' < m ∧ ∃ O3 Hs3 ss3, Abs X.K c O3 Hs3 H3 σ3 ss3 ∧ Same Hs Hs3 ∧ I m' ss3, fun σ3 H3 z => z, ?_⟩
    refine ⟨O', Hs2, ss', _, Ed, A'.next x2, q2, er, ?_⟩
    exact ⟨fun σ4 O4 Hs4 H4 ss4 z A4 ⟨m', hm, q4⟩ => ⟨m', hm, O4, Hs4, ss4, A4, (s'.trans x2.fz).trans z, q4⟩, fun σ4 O4 Hs4 H4 ss4 z A4 q4 => gc.nx σ4 O4 Hs4 H4 ss4 ((s'.trans x2.fz).trans z) A4 q4,
      fun σ4 O4 Hs4 H4 ss4 z A4 ⟨m', hm, q4⟩ => ⟨m', hm, O4, Hs4, ss4, A4, (s'.trans x2.fz).trans z, q4⟩, gc.rt, gc.ro⟩
  | false =>
    rw [if_neg Bool.false_ne_true]
    exact gc.nx σ' O' Hs2 H2 ss' (s'.trans x2.fz) (A'.next x2) q2
/-! ### an own list is read as data, for a while -/
def flatD : D → Bool
  | .non | .bl _ | .int _ | .str _ | .ty _ | .cls _ => true
  | _ => false
theorem flat_is {K H H'} : ∀ {d : D} {v : V}, flatD d = true → Is K H d v → Is K H' d v
  | .non, _, _, h => h
  | .bl _, _, _, h => h
  | .int _, _, _, h => h
  | .str _, _, _, h => h
  | .ty _, _, _, h => h
  | .cls _, _, _, h => h
  | .lst _, _, h, _ => by cases h
  | .tup _, _, h, _ => by cases h
  | .dct _ _, _, h, _ => by cases h
  | .obj _ _ _, _, h, _ => by cases h
  | .is _, _, h, _ => by cases h
def thaw (Hs : Hp) (p : Addr) : Hp := fun b => open Classical in if b = p then none else Hs b
theorem thaw_ne {Hs : Hp} {p b : Addr} (h : b ≠ p) : thaw Hs p b = Hs b := if_neg h
theorem thaw_eq {Hs : Hp} {p : Addr} : thaw Hs p p = none := if_pos rfl
theorem Ext.thaw {O : Addr → Option Nat} {Hs H Hs' H' : Hp} {p : Addr} {o : HO} {k : Nat} (s0 : Same Hs H) (np : Hs p = none) (op : O p = some (k + 1)) (e : Ext (Z0 (Odel O p)) (upd Hs p o) H Hs' H') : Ext (Z0 O) Hs H (DL.thaw Hs' p) H' where
  fz := fun b u h => by
    have hb : b ≠ p := ne_of_none h np
    rw [thaw_ne hb]
    exact e.fz b u (by rw [upd_ne hb]; exact h)
  sub := fun b u h => by
    by_cases hb : b = p
    · subst hb; rw [thaw_eq] at h; cases h
    · rw [thaw_ne hb] at h; exact e.sub b u h
  keep := fun b u z h => e.keep b u (fun z' => by
    by_cases hb : b = p
    · subst hb
      have z' : Odel O b b = some 0 := z'
      rw [Odel_eq] at z'; cases z'
    · have z' : Odel O p b = some 0 := z'
      rw [Odel_ne hb] at z'
      exact z z') h
  live := e.live
  new := fun b h1 h2 => by
    by_cases hb : b = p
    · subst hb; exact thaw_eq
    · rw [thaw_ne hb]; exact e.new b (by rw [upd_ne hb]; exact h1) h2
  pool := fun b l z q => by
    have hb : b ≠ p := by rintro rfl; have z : O b = some 0 := z; rw [op] at z; cases z
    obtain ⟨ns0, a0, b0, c0, h1, h2, h3⟩ := q
    have hl : l ≠ p := ne_of_none h2 np
    obtain ⟨ns, x, y, w, k1, k2, k3⟩ := e.pool b l (show Odel O p b = some 0 by rw [Odel_ne hb]; exact z) ⟨ns0, a0, b0, c0, h1, by rw [upd_ne hl]; exact h2, h3⟩
    exact ⟨ns, x, y, w, k1, by rw [thaw_ne hl]; exact k2, k3⟩
def pubS (ss : List Sl) (i : Nat) : List Sl := match nth ss i with
  | .own _ ds => put ss i (.d (.lst ds))
  | _ => ss
def tdPeek (i : Nat) (t : TD) : TD := fun ss Q Ed => t (pubS ss i) (fun d => flatD d = true ∧ Q d) Ed
theorem d_peek (i : Nat) {e : Expr} {t : TD} (h : DE X c e t) : DE X c e (tdPeek i t) := by
  refine pe_imp h fun σ H Q q => ?_
  obtain ⟨O, Hs, ss, Qd, Ed, A, h, er, g⟩ := q
  unfold tdPeek pubS at h
  split at h
  · rename_i p ds hs
    obtain ⟨xs, np, hp, op, A', s', _⟩ := A.pub hs
    exact ⟨_, _, _, _, Ed, A', h, er, fun d v Hs1 H1 x1 i1 q1 => g d v _ H1 (x1.thaw A.sub np op) (flat_is q1.1 i1) q1.2⟩
  · exact ⟨O, Hs, ss, _, Ed, A, h, er, fun d v Hs1 H1 x1 i1 q1 => g d v Hs1 H1 x1 i1 q1.2⟩
def tdPeekT (i : Nat) (t : TTD) : TTD := fun ss Q Ed => t (pubS ss i) Q Ed
theorem dt_peek (i : Nat) {e : Expr} {t : TTD} (h : DT X c e t) : DT X c e (tdPeekT i t) := by
  refine pt_imp h fun σ H Q q => ?_
  obtain ⟨O, Hs, ss, Qd, Ed, A, h, er, g⟩ := q
  unfold tdPeekT pubS at h
  split at h
  · rename_i p ds hs
    obtain ⟨xs, np, hp, op, A', s', _⟩ := A.pub hs
    exact ⟨_, _, _, _, Ed, A', h, er, fun d Hs1 H1 x1 q1 => g d _ H1 (x1.thaw A.sub np op) q1⟩
  · exact ⟨O, Hs, ss, _, Ed, A, h, er, fun d Hs1 H1 x1 q1 => g d Hs1 H1 x1 q1⟩
end
end DL
set_option Elab.async false
set_option linter.all false
set_option maxRecDepth 100000
set_option maxHeartbeats 4000000
/-! DC: operators, built-ins, iterators, comprehensions over data -/
namespace DL
open PySem PySem.Spec PyProof.Rows L2
section
variable {X : Cx} {c : Cn}
/-! ### arithmetic -/
def CDivA (_ j : Int) : Prop := j ≠ 0 ∧ j.natAbs.log2 < 9000
theorem op_fdivA : OpR X (binaryOp .FloorDiv) (rI CDivA fun i j => .int (i.fdiv j)) := opI fun i j _ _ _ _ _ hc q =>
  floordiv_int hc.1 q (.inl (PyProof.noPylong_of_log2 hc.2))
theorem dv {j : Int} {b : Nat} (h : j ≠ 0) (hb : j.natAbs < 2 ^ b) (h0 : 0 < b := by decide) (h9 : b ≤ 9000 := by decide) : j ≠ 0 ∧ j.natAbs.log2 < 9000 := ⟨h, Nat.lt_of_lt_of_le (PySem.Flt.log2_lt_of h0 hb) h9⟩
/-- two ints -/
def r2i (C : Int → Int → Prop) (g : Int → Int → D) : RD2 := fun x y Q => match x, y with
  | .int i, .int j => C i j ∧ Q (g i j)
  | _, _ => False
def r2i0 (g : Int → Int → D) : RD2 := fun x y Q => match x, y with
  | .int i, .int j => Q (g i j)
  | _, _ => False
theorem r2i_inv {C g x y Q} (h : r2i C g x y Q) : ∃ i j, x = .int i ∧ y = .int j ∧ C i j ∧ Q (g i j) := by
  unfold r2i at h
  split at h
  · exact ⟨_, _, rfl, rfl, h⟩
  · exact h.elim
theorem r2i0_inv {g x y Q} (h : r2i0 g x y Q) : ∃ i j, x = .int i ∧ y = .int j ∧ Q (g i j) := by
  unfold r2i0 at h
  split at h
  · exact ⟨_, _, rfl, rfl, h⟩
  · exact h.elim
theorem opD_i {f : Value → Value → Sem Value} {C : Int → Int → Prop} {g : Int → Int → Int} (h : OpR X f (rI C fun i j => .int (g i j))) : OpD X f (r2i C fun i j => .int (g i j)) := ⟨_, h, fun Z Hs H d e v u Qd Q s i1 i2 q cn => by
  obtain ⟨i, j, rfl, rfl, hc, q⟩ := r2i_inv q
  exact ⟨i, j, i1, i2, hc, cn (.int (g i j)) (.int (g i j)) Hs H (.refl s) rfl q⟩⟩
theorem opD_i0 {f : Value → Value → Sem Value} {g : Int → Int → Int} (h : OpR X f (rI0 fun i j => .int (g i j))) : OpD X f (r2i0 fun i j => .int (g i j)) := ⟨_, h, fun Z Hs H d e v u Qd Q s i1 i2 q cn => by
  obtain ⟨i, j, rfl, rfl, q⟩ := r2i0_inv q
  exact ⟨i, j, i1, i2, cn (.int (g i j)) (.int (g i j)) Hs H (.refl s) rfl q⟩⟩
theorem opD_b0 {f : Value → Value → Sem Value} {g : Int → Int → Bool} (h : OpR X f (rI0 fun i j => .bl (g i j))) : OpD X f (r2i0 fun i j => .bl (g i j)) := ⟨_, h, fun Z Hs H d e v u Qd Q s i1 i2 q cn => by
  obtain ⟨i, j, rfl, rfl, q⟩ := r2i0_inv q
  exact ⟨i, j, i1, i2, cn (.bl (g i j)) (.bl (g i j)) Hs H (.refl s) rfl q⟩⟩
theorem op_or {f : Value → Value → Sem Value} {r1 r2 : R2} (h1 : OpR X f r1) (h2 : OpR X f r2) : OpR X f (fun x y H Q => r1 x y H Q ∨ r2 x y H Q) := fun pins s σ H x y v u Q I rx ry h => by
  rcases h with h | h
  · exact h1 pins s σ H x y v u Q I rx ry h
  · exact h2 pins s σ H x y v u Q I rx ry h
theorem mu {i j : Int} {a b : Nat} (ha : i.natAbs < 2 ^ a) (hb : j.natAbs < 2 ^ b) (h0 : 0 < a := by decide) (h1 : 0 < b := by decide) (h : a + b ≤ 1000000 := by decide) : CMulW i j := wide_mul ha hb h0 h1 h
abbrev rSubD : RD2 := r2i0 fun i j => .int (i - j)
abbrev rMulD : RD2 := r2i CMulW fun i j => .int (i * j)
abbrev rDivD : RD2 := r2i (fun _ j => j ≠ 0 ∧ j.natAbs.log2 < 9000) fun i j => .int (i.fdiv j)
abbrev rModD : RD2 := r2i (fun _ j => j ≠ 0) fun i j => .int (i.fmod j)
abbrev rPowD : RD2 := r2i CPow fun i j => .int (i ^ j.toNat)
theorem od_sub : OpD X (binaryOp .Sub) rSubD := opD_i0 op_sub
theorem od_div : OpD X (binaryOp .FloorDiv) rDivD := opD_i (C := CDivA) op_fdivA
theorem od_mod : OpD X (binaryOp .Mod) rModD := opD_i op_modN
theorem od_pow : OpD X (binaryOp .Pow) rPowD := opD_i op_pow
/-- + of ints, texts, lists, tuples -/
def rAddD : RD2 := fun x y Q => match x, y with
  | .int i, .int j => Q (.int (i + j))
  | .str a, .str b => a.length + b.length ≤ sizeLine ∧ Q (.str (a ++ b))
  | .lst xs, .lst ys => xs.length + ys.length ≤ sizeLine ∧ Q (.lst (xs ++ ys))
  | .tup xs, .tup ys => xs ≠ [] ∧ ys ≠ [] ∧ xs.length + ys.length ≤ sizeLine ∧ Q (.tup (xs ++ ys))
  | _, _ => False
theorem od_add : OpD X (binaryOp .Add) rAddD := ⟨_, op_or op_add (op_or op_add_str (op_or op_cat op_catT)), fun Z Hs H d e v u Qd Q s i1 i2 q cn => by
  unfold rAddD at q
  split at q
  · exact .inl ⟨_, _, i1, i2, cn (.int _) _ Hs H (.refl s) rfl q⟩
  · exact .inr (.inl ⟨_, _, i1, i2, q.1, cn (.str _) _ Hs H (.refl s) rfl q.2⟩)
  · obtain ⟨a, xs, e1, h1, h2⟩ := i1
    obtain ⟨b, ys, e2, h3, h4⟩ := i2
    refine .inr (.inr (.inl ⟨a, b, xs, ys, e1, e2, s _ _ h1, s _ _ h3, by rw [h2.len, h4.len]; exact q.1, fun p np => ?_⟩))
    exact cn (.lst _) _ (upd Hs p (.lst (xs ++ ys))) _ (.laid s np) ⟨p, _, rfl, upd_same, (h2.app h4).same (Ext.laid (Z := Z) s np).fz⟩ q.2
  · obtain ⟨a, xs, e1, h1, h2⟩ := i1
    obtain ⟨b, ys, e2, h3, h4⟩ := i2
    have nx : xs ≠ [] := fun z => q.1 (by rw [z] at h2; have := h2.len; cases hh : (_ : List D) with | nil => exact hh | cons _ _ => rw [hh] at this; cases this)
    have ny : ys ≠ [] := fun z => q.2.1 (by rw [z] at h4; have := h4.len; cases hh : (_ : List D) with | nil => exact hh | cons _ _ => rw [hh] at this; cases this)
    refine .inr (.inr (.inr ⟨a, b, xs, ys, e1, e2, same_sqt s h1, same_sqt s h3, nx, by rw [h2.len, h4.len]; exact q.2.2.1, fun z => absurd z ny, fun _ p np => ?_⟩))
    exact cn (.tup _) _ (upd Hs p (.tup (xs ++ ys))) _ (.laid s np) ⟨p, _, rfl, .inl (.inl upd_same), (h2.app h4).same (Ext.laid (Z := Z) s np).fz⟩ q.2.2.2
  · exact q.elim⟩
/-- * of ints; a list times an int -/
def rMulD2 : RD2 := fun x y Q => match x, y with
  | .int i, .int j => CMulW i j ∧ Q (.int (i * j))
  | .lst xs, .int k => xs.length * k.toNat ≤ 100000 ∧ 0 ≤ k ∧ k ≤ 100000 ∧ Q (.lst (List.replicate k.toNat xs).flatten)
  | _, _ => False
theorem isA_rep {K H} {ds : List D} {xs : List V} (h : IsA K H ds xs) : ∀ n : Nat, IsA K H (List.replicate n ds).flatten (List.replicate n xs).flatten
  | 0 => rfl
  | n + 1 => h.app (isA_rep h n)
theorem od_mul : OpD X (binaryOp .Mult) rMulD2 := ⟨_, op_or op_mulW op_rep, fun Z Hs H d e v u Qd Q s i1 i2 q cn => by
  unfold rMulD2 at q
  split at q
  · exact .inl ⟨_, _, i1, i2, q.1, cn (.int _) _ Hs H (.refl s) rfl q.2⟩
  · obtain ⟨a, xs, e1, h1, h2⟩ := i1
    obtain ⟨q1, q2, q3, q4⟩ := q
    refine .inr ⟨a, _, xs, e1, i2, s _ _ h1, by omega, by omega, ?_, fun p np => ?_⟩
    · rw [h2.len]
      exact Nat.le_trans q1 (by decide)
    · exact cn (.lst _) _ (upd Hs p (.lst _)) _ (.laid s np) ⟨p, _, rfl, upd_same, (isA_rep h2 _).same (Ext.laid (Z := Z) s np).fz⟩ q4
  · exact q.elim⟩
/-- -x -/
def rNegD : D → QD → Prop := fun x Q => match x with
  | .int i => Q (.int (-i))
  | _ => False
theorem ud_neg : UnD X (unaryOp .USub) rNegD := ⟨_, un_neg, fun Z Hs H d v Qd Q s i q cn => by
  unfold rNegD at q
  split at q
  · exact ⟨_, i, cn (.int _) _ Hs H (.refl s) rfl q⟩
  · exact q.elim⟩
/-! ### comparisons -/
/-- by order: ints, texts -/
def rOrdD (f : Int → Int → Bool) (g : Str → Str → Bool) : RD2 := fun x y Q => match x, y with
  | .int i, .int j => Q (.bl (f i j))
  | .str a, .str b => Q (.bl (g a b))
  | _, _ => False
theorem od_ord {fn : Value → Value → Sem Value} {f : Int → Int → Bool} {g : Str → Str → Bool} (h1 : OpR X fn (rI0 fun i j => .bl (f i j))) (h2 : OpR X fn (fun x y H Q => ∃ i j, x = .str i ∧ y = .str j ∧ Q (.bl (g i j)) H)) : OpD X fn (rOrdD f g) := ⟨_, op_or h1 h2, fun Z Hs H d e v u Qd Q s i1 i2 q cn => by
  unfold rOrdD at q
  split at q
  · exact .inl ⟨_, _, i1, i2, cn (.bl _) (.bl _) Hs H (.refl s) rfl q⟩
  · exact .inr ⟨_, _, i1, i2, cn (.bl _) (.bl _) Hs H (.refl s) rfl q⟩
  · exact q.elim⟩
abbrev rLtD : RD2 := rOrdD (fun i j => decide (i < j)) fun a b => decide (a.cps.toList < b.cps.toList)
abbrev rLeD : RD2 := rOrdD (fun i j => decide (i ≤ j)) fun a b => !decide (b.cps.toList < a.cps.toList)
abbrev rGtD : RD2 := rOrdD (fun i j => decide (j < i)) fun a b => decide (b.cps.toList < a.cps.toList)
abbrev rGeD : RD2 := rOrdD (fun i j => decide (j ≤ i)) fun a b => !decide (a.cps.toList < b.cps.toList)
theorem od_lt : OpD X (compareOp .Lt) rLtD := od_ord op_lt op_lt_str
theorem od_le : OpD X (compareOp .LtE) rLeD := od_ord op_le op_le_str
theorem od_gt : OpD X (compareOp .Gt) rGtD := od_ord op_gt op_gt_str
theorem od_ge : OpD X (compareOp .GtE) rGeD := od_ord op_ge op_ge_str
/-- x is None -/
def isNonD : D → Option Bool
  | .non => some true
  | .is _ => none
  | _ => some false
def rIsD (neg : Bool) : RD2 := fun x y Q => match y with
  | .non => (match isNonD x with
    | some b => Q (.bl (b != neg))
    | none => False)
  | .bl b => (match x with
    | .bl a => Q (.bl ((a == b) != neg))
    | _ => False)
  | _ => False
theorem isNonD_is {K H x v b} (i : Is K H x v) (h : isNonD x = some b) : decide (v = V.non) = b := by
  cases x <;> simp only [isNonD, Option.some.injEq, reduceCtorEq] at h <;> subst h
  · cases i; rfl
  · cases i; rfl
  · cases i; rfl
  · cases i; rfl
  · obtain ⟨_, _, e, _⟩ := i; subst e; rfl
  · obtain ⟨_, _, e, _⟩ := i; subst e; rfl
  · obtain ⟨_, _, e, _⟩ := i; subst e; rfl
  · obtain ⟨_, _, _, e, _⟩ := i; subst e; rfl
  · cases i; rfl
  · cases i; rfl
theorem od_is : OpD X (compareOp .Is) (rIsD false) := ⟨_, op_or op_isN op_is_bl, fun Z Hs H d e v u Qd Q s i1 i2 q cn => by
  unfold rIsD at q
  split at q
  · split at q
    · rename_i b hb
      refine .inl ⟨i2, ?_⟩
      rw [isNonD_is i1 hb]
      have e : (b != false) = b := by cases b <;> rfl
      rw [e] at q
      exact cn (.bl b) (.bl b) Hs H (.refl s) rfl q
    · exact q.elim
  · rename_i b
    split at q
    · rename_i a
      refine .inr ⟨_, _, i1, i2, ?_⟩
      refine cn (.bl _) _ Hs H (.refl s) rfl ?_
      have e : ((a == b) != false) = decide (a = b) := by cases a <;> cases b <;> rfl
      rw [e] at q
      exact q
    · exact q.elim
  · exact q.elim⟩
theorem od_isnot : OpD X (compareOp .IsNot) (rIsD true) := ⟨_, op_or op_notN op_isnot_bl, fun Z Hs H d e v u Qd Q s i1 i2 q cn => by
  unfold rIsD at q
  split at q
  · split at q
    · rename_i b hb
      refine .inl ⟨i2, ?_⟩
      rw [isNonD_is i1 hb]
      have e : (b != true) = !b := by cases b <;> rfl
      rw [e] at q
      exact cn (.bl _) (.bl _) Hs H (.refl s) rfl q
    · exact q.elim
  · rename_i b
    split at q
    · rename_i a
      refine .inr ⟨_, _, i1, i2, ?_⟩
      refine cn (.bl _) _ Hs H (.refl s) rfl ?_
      have e : ((a == b) != true) = !decide (a = b) := by cases a <;> cases b <;> rfl
      rw [e] at q
      exact q
    · exact q.elim
  · exact q.elim⟩
/-! ### data as the library's, for == -/
mutual
def py : D → Option PyData
  | .non => some .none
  | .bl b => some (.bool b)
  | .int i => some (.int i)
  | .str x => some (.str x)
  | .lst ds => (pyA ds).map .list
  | .tup ds => (pyA ds).map .tuple
  | _ => none
def pyA : List D → Option (List PyData)
  | [] => some []
  | d :: ds => match py d, pyA ds with
    | some x, some xs => some (x :: xs)
    | _, _ => none
end
mutual
theorem py_dp {K H} : ∀ {d : D} {v : V} {e : PyData}, Is K H d v → py d = some e → Dp K H v e
  | .non, _, _, i, h => by cases i; simp only [py, Option.some.injEq] at h; subst h; exact .non
  | .bl _, _, _, i, h => by cases i; simp only [py, Option.some.injEq] at h; subst h; exact .bl _
  | .int _, _, _, i, h => by cases i; simp only [py, Option.some.injEq] at h; subst h; exact .int _
  | .str _, _, _, i, h => by cases i; simp only [py, Option.some.injEq] at h; subst h; exact .str _
  | .lst ds, _, _, ⟨a, xs, e, h1, h2⟩, h => by
    subst e
    simp only [py] at h
    cases q : pyA ds with
    | none => rw [q] at h; cases h
    | some es => rw [q] at h; cases h; exact .lst (.of h1) (pyA_dp h2 q)
  | .tup ds, _, _, ⟨a, xs, e, h1, h2⟩, h => by
    subst e
    simp only [py] at h
    cases q : pyA ds with
    | none => rw [q] at h; cases h
    | some es => rw [q] at h; cases h; exact .tup h1 (pyA_dp h2 q)
  | .dct _ _, _, _, _, h => by simp [py] at h
  | .obj _ _ _, _, _, _, h => by simp [py] at h
  | .ty _, _, _, _, h => by simp [py] at h
  | .cls _, _, _, _, h => by simp [py] at h
  | .is _, _, _, _, h => by simp [py] at h
theorem pyA_dp {K H} : ∀ {ds : List D} {xs : List V} {es : List PyData}, IsA K H ds xs → pyA ds = some es → DpAll K H xs es
  | [], _, _, i, h => by cases i; simp only [pyA, Option.some.injEq] at h; subst h; exact .nil
  | d :: ds, _, _, ⟨x, ys, e, h1, h2⟩, h => by
    subst e
    simp only [pyA] at h
    split at h
    · rename_i q1 q2
      cases h
      exact .cons (py_dp h1 q1) (pyA_dp h2 q2)
    · cases h
end
/-- x == y: ints, bools, texts at once; else as data -/
def rEqD (f : Bool → Bool) : RD2 := fun x y Q => match x, y with
  | .int i, .int j => Q (.bl (f (decide (i = j))))
  | .bl i, .bl j => Q (.bl (f (decide (i = j))))
  | .str i, .str j => Q (.bl (f (decide (i = j))))
  | x, y => ∃ d e, py x = some d ∧ py y = some e ∧ SeqAt.shaped d = true ∧ SeqAt.shaped e = true ∧ Q (.bl (f (PyData.eqv d e)))
theorem dec_inj {α : Type} [DecidableEq α] {g : α → V} (h : ∀ a b, g a = g b → a = b) (a b : α) : decide (g a = g b) = decide (a = b) := by
  rw [decide_eq_decide]
  exact ⟨h a b, fun e => by rw [e]⟩
theorem od_eqq {fn : Value → Value → Sem Value} {f : Bool → Bool} {r1 r2 : R2} (h1 : OpR X fn r1) (h2 : OpR X fn r2) (k1 : ∀ x y H Q, scal x y = true → Q (.bl (f (decide (x = y)))) H → r1 x y H Q) (k2 : ∀ x y H Q d e, Dp X.K H x d → Dp X.K H y e → SeqAt.shaped d = true → SeqAt.shaped e = true → Q (.bl (f (PyData.eqv d e))) H → r2 x y H Q) : OpD X fn (rEqD f) := ⟨_, op_or h1 h2, fun Z Hs H x y v u Qd Q s i1 i2 q cn => by
  unfold rEqD at q
  split at q
  · refine .inl (k1 _ _ _ _ (by cases i1; cases i2; rfl) ?_)
    cases i1; cases i2
    rw [dec_inj (g := V.int) (fun a b h => V.int.inj h)]
    exact cn (.bl _) (.bl _) Hs H (.refl s) rfl q
  · refine .inl (k1 _ _ _ _ (by cases i1; cases i2; rfl) ?_)
    cases i1; cases i2
    rw [dec_inj (g := V.bl) (fun a b h => V.bl.inj h)]
    exact cn (.bl _) (.bl _) Hs H (.refl s) rfl q
  · refine .inl (k1 _ _ _ _ (by cases i1; cases i2; rfl) ?_)
    cases i1; cases i2
    rw [dec_inj (g := V.str) (fun a b h => V.str.inj h)]
    exact cn (.bl _) (.bl _) Hs H (.refl s) rfl q
  · obtain ⟨d, e, h1, h2, h3, h4, q⟩ := q
    exact .inr (k2 _ _ _ _ d e (py_dp (i1.same s) h1) (py_dp (i2.same s) h2) h3 h4 (cn (.bl _) (.bl _) Hs H (.refl s) rfl q))⟩
abbrev rEqQ : RD2 := rEqD fun b => b
abbrev rNeQ : RD2 := rEqD fun b => !b
theorem od_eq (hu : X.A.units + 64 < cLine) : OpD X (compareOp .Eq) rEqQ := od_eqq op_eq (op_eqD hu) (fun x y H Q h q => ⟨h, q⟩) fun x y H Q d e h1 h2 h3 h4 q => ⟨d, e, h1, h2, h3, h4, q⟩
theorem od_ne (hu : X.A.units + 64 < cLine) : OpD X (compareOp .NotEq) rNeQ := od_eqq op_ne (op_neD hu) (fun x y H Q h q => ⟨h, q⟩) fun x y H Q d e h1 h2 h3 h4 q => ⟨d, e, h1, h2, h3, h4, q⟩
/-- x in y, y a list -/
def rInDD (neg : Bool) : RD2 := fun x y Q => ∃ d ds, py x = some d ∧ py y = some (.list ds) ∧ SeqAt.shaped d = true ∧ SeqAt.shaped (.list ds) = true ∧ Q (.bl ((ds.any fun z => PyData.eqv z d) != neg))
theorem od_in (hu : X.A.units + 65 < cLine) : OpD X (compareOp .In) (rInDD false) := ⟨_, op_inD hu, fun Z Hs H x y v u Qd Q s i1 i2 q cn => by
  obtain ⟨d, ds, h1, h2, h3, h4, q⟩ := q
  have z : ∀ b : Bool, (b != false) = b := fun b => by cases b <;> rfl
  rw [z] at q
  exact ⟨d, ds, py_dp (i1.same s) h1, py_dp (i2.same s) h2, h3, h4, cn (.bl _) (.bl _) Hs H (.refl s) rfl q⟩⟩
/-! ### items -/
def rIxDD : RD2 := fun x y Q => match x, y with
  | .lst ds, .int i => (match atI ds i with
    | some d => Q d
    | none => False)
  | .tup ds, .int i => (match atI ds i with
    | some d => Q d
    | none => False)
  | _, _ => False
theorem atI_is {K H} {ds : List D} {xs : List V} {i : Int} {d : D} (h : IsA K H ds xs) (e : atI ds i = some d) : ∃ x, atI xs i = some x ∧ Is K H d x := by
  unfold atI at e ⊢
  rw [h.len]
  cases q : ixN ds.length i with
  | none => rw [q] at e; cases e
  | some j => rw [q] at e; exact h.get e
theorem ixd : IxD X rIxDD := ⟨_, ix_seq, fun Z Hs H x y v u Qd Q s i1 i2 q cn => by
  unfold rIxDD at q
  split at q
  · obtain ⟨a, xs, e1, h1, h2⟩ := i1
    split at q
    · rename_i hd
      obtain ⟨w, hw, iw⟩ := atI_is h2 hd
      exact .inl ⟨a, xs, _, w, e1, i2, .of (s _ _ h1), hw, cn _ _ Hs H (.refl s) iw q⟩
    · exact q.elim
  · obtain ⟨a, xs, e1, h1, h2⟩ := i1
    split at q
    · rename_i hd
      obtain ⟨w, hw, iw⟩ := atI_is h2 hd
      exact .inr (.inl ⟨a, xs, _, w, e1, i2, same_sqt s h1, hw, cn _ _ Hs H (.refl s) iw q⟩)
    · exact q.elim
  · exact q.elim⟩
end
end DL
set_option Elab.async false
set_option linter.all false
set_option maxRecDepth 100000
set_option maxHeartbeats 4000000
/-! DD: built-ins, iterators, comprehensions, raising, and a def's promise -/
namespace DL
open PySem PySem.Spec PyProof.Rows L2
section
variable {X : Cx} {c : Cn}
/-! ### built-ins -/
theorem call_or {f : Value} {r1 r2 : List V → Hp → VK → Prop} (h1 : CallR X f r1) (h2 : CallR X f r2) : CallR X f (fun vs H Q => r1 vs H Q ∨ r2 vs H Q) := fun pins s σ H vs us Q I r h => by
  rcases h with h | h
  · exact h1 pins s σ H vs us Q I r h
  · exact h2 pins s σ H vs us Q I r h
def rLenD : List D → QD → Prop := fun ds Q => match ds with
  | [.lst xs] => Q (.int (xs.length : Nat))
  | [.tup xs] => Q (.int (xs.length : Nat))
  | [.str y] => y.length ≤ sizeLine ∧ Q (.int (y.length : Nat))
  | _ => False
theorem cd_len : CallD X (.builtin "len") rLenD := ⟨_, call_len, fun Z Hs H ds vs Qd Q s i q cn => by
  unfold rLenD at q
  split at q
  · obtain ⟨x, ys, e, ⟨a, xs, e2, h1, h2⟩, h3⟩ := i
    cases h3; subst e; subst e2
    exact ⟨_, _, rfl, .inl ⟨xs, .of (s _ _ h1), rfl⟩, cn (.int _) _ Hs H (.refl s) rfl (by rw [h2.len]; exact q)⟩
  · obtain ⟨x, ys, e, ⟨a, xs, e2, h1, h2⟩, h3⟩ := i
    cases h3; subst e; subst e2
    exact ⟨_, _, rfl, .inr ⟨xs, same_sqt s h1, rfl⟩, cn (.int _) _ Hs H (.refl s) rfl (by rw [h2.len]; exact q)⟩
  · obtain ⟨x, ys, e, h1, h3⟩ := i
    cases h3; subst e; cases h1
    exact ⟨_, _, rfl, ⟨q.1, rfl⟩, cn (.int _) _ Hs H (.refl s) rfl q.2⟩
  · exact q.elim⟩
def rIntD : List D → QD → Prop := fun ds Q => match ds with
  | [.int i] => Q (.int i)
  | [.bl b] => Q (.int (if b then 1 else 0))
  | _ => False
theorem cd_int : CallD X (.type "int") rIntD := ⟨_, call_int1, fun Z Hs H ds vs Qd Q s i q cn => by
  unfold rIntD at q
  split at q
  · obtain ⟨x, ys, e, h1, h3⟩ := i
    cases h3; subst e; cases h1
    exact .inl ⟨_, rfl, cn (.int _) _ Hs H (.refl s) rfl q⟩
  · obtain ⟨x, ys, e, h1, h3⟩ := i
    cases h3; subst e; cases h1
    exact .inr ⟨_, rfl, cn (.int _) _ Hs H (.refl s) rfl q⟩
  · exact q.elim⟩
def r1iD (g : Int → Int) : List D → QD → Prop := fun ds Q => match ds with
  | [.int i] => Q (.int (g i))
  | _ => False
def r2iD (g : Int → Int → Int) : List D → QD → Prop := fun ds Q => match ds with
  | [.int i, .int j] => Q (.int (g i j))
  | _ => False
theorem cd_abs : CallD X (.builtin "abs") (r1iD fun i => if i < 0 then -i else i) := ⟨_, call_abs, fun Z Hs H ds vs Qd Q s i q cn => by
  unfold r1iD at q
  split at q
  · obtain ⟨x, ys, e, h1, h3⟩ := i
    cases h3; subst e; cases h1
    exact ⟨_, rfl, cn (.int _) _ Hs H (.refl s) rfl q⟩
  · exact q.elim⟩
theorem isA2 {K H} {d e : D} {vs : List V} (h : IsA K H [d, e] vs) : ∃ x y, vs = [x, y] ∧ Is K H d x ∧ Is K H e y := by
  obtain ⟨x, ys, e1, h1, y, zs, e2, h2, h3⟩ := h
  cases h3; subst e2; subst e1
  exact ⟨x, y, rfl, h1, h2⟩
theorem isA1 {K H} {d : D} {vs : List V} (h : IsA K H [d] vs) : ∃ x, vs = [x] ∧ Is K H d x := by
  obtain ⟨x, ys, e1, h1, h3⟩ := h
  cases h3; subst e1
  exact ⟨x, rfl, h1⟩
theorem cd_max2 (hc : X.calm = true) : CallD X (.builtin "max") (r2iD fun i j => if j > i then j else i) := ⟨_, call_max2 hc, fun Z Hs H ds vs Qd Q s i q cn => by
  unfold r2iD at q
  split at q
  · obtain ⟨x, y, e, h1, h2⟩ := isA2 i
    cases h1; cases h2; subst e
    exact ⟨_, _, rfl, cn (.int _) _ Hs H (.refl s) rfl q⟩
  · exact q.elim⟩
theorem cd_min2 (hc : X.calm = true) : CallD X (.builtin "min") (r2iD fun i j => if j < i then j else i) := ⟨_, call_min2 hc, fun Z Hs H ds vs Qd Q s i q cn => by
  unfold r2iD at q
  split at q
  · obtain ⟨x, y, e, h1, h2⟩ := isA2 i
    cases h1; cases h2; subst e
    exact ⟨_, _, rfl, cn (.int _) _ Hs H (.refl s) rfl q⟩
  · exact q.elim⟩
def rGcdD : List D → QD → Prop := fun ds Q => match ds with
  | [.int i, .int j] => Q (.int ((Nat.gcd i.natAbs j.natAbs : Nat) : Int))
  | _ => False
theorem cd_gcd : CallD X (.builtin "math.gcd") rGcdD := ⟨_, cr_gcd, fun Z Hs H ds vs Qd Q s i q cn => by
  unfold rGcdD at q
  split at q
  · obtain ⟨x, y, e, h1, h2⟩ := isA2 i
    cases h1; cases h2; subst e
    exact ⟨_, _, rfl, cn (.int _) _ Hs H (.refl s) rfl q⟩
  · exact q.elim⟩
theorem d_callBfun {x : Str} {p pos : Pos} {e : Expr} {es : List Expr} {t : TAD} {id : String} {r : List D → QD → Prop} (o : CallD X (.builtin id) r) (hm : X.mg x = some (.builtin id)) (ha : DAs X c (e :: es) t) (hg : Gl X x := by rfl) (hdb : (x == ("__debug__" : Str)) = false := by decide)
    (he : starEach (e :: es) X.env = (false, eval e X.env) :: starEach es X.env := by rfl) (hpl : (backTo pos (starEach es X.env)).any (·.1) = false := by rfl) : DE X c (.Call (.Name x p) (e :: es) [] pos) (tdCB r t) := by
  obtain ⟨r0, h0, f⟩ := lift_cb (c := c) o
  exact pe_imp (pe_callBfun h0 hg hm ha hdb he hpl) (f t)
/-- all are intL -/
def intL : List D → Option (List Int)
  | [] => some []
  | .int i :: ds => (intL ds).map (i :: ·)
  | _ :: _ => none
theorem intL_is {K H} : ∀ {ds : List D} {xs : List V} {ns : List Int}, IsA K H ds xs → intL ds = some ns → xs = ns.map V.int
  | [], _, _, h, e => by cases h; cases e; rfl
  | .int i :: ds, _, _, ⟨x, ys, e, h1, h2⟩, q => by
    cases z : intL ds with
    | none => rw [intL, z] at q; cases q
    | some ms => rw [intL, z] at q; cases q; subst e; cases h1; rw [intL_is h2 z]; rfl
  | .non :: _, _, _, _, q => by cases q
  | .bl _ :: _, _, _, _, q => by cases q
  | .str _ :: _, _, _, _, q => by cases q
  | .lst _ :: _, _, _, _, q => by cases q
  | .tup _ :: _, _, _, _, q => by cases q
  | .dct _ _ :: _, _, _, _, q => by cases q
  | .obj _ _ _ :: _, _, _, _, q => by cases q
  | .ty _ :: _, _, _, _, q => by cases q
  | .cls _ :: _, _, _, _, q => by cases q
  | .is _ :: _, _, _, _, q => by cases q
theorem intL_map (ns : List Int) : intL (ns.map D.int) = some ns := by
  induction ns with
  | nil => rfl
  | cons n ns ih => rw [List.map_cons, intL, ih]; rfl
def rSumD : List D → QD → Prop := fun ds Q => match ds with
  | [.lst xs] => ∃ ns, intL xs = some ns ∧ Q (.int ns.sum)
  | _ => False
theorem cd_sum (hc : X.calm = true) : CallD X (.builtin "sum") rSumD := ⟨_, cr_sum hc, fun Z Hs H ds vs Qd Q s i q cn => by
  unfold rSumD at q
  split at q
  · obtain ⟨x, e, a, xs, e2, h1, h2⟩ := isA1 i
    obtain ⟨ns, hn, q⟩ := q
    have := intL_is h2 hn
    subst this; subst e2; subst e
    exact ⟨a, ns, rfl, .of (s _ _ h1), cn (.int _) _ Hs H (.refl s) rfl q⟩
  · exact q.elim⟩
/-- all are boolL -/
def boolL : List D → Option (List Bool)
  | [] => some []
  | .bl i :: ds => (boolL ds).map (i :: ·)
  | _ :: _ => none
theorem boolL_is {K H} : ∀ {ds : List D} {xs : List V} {ns : List Bool}, IsA K H ds xs → boolL ds = some ns → xs = ns.map V.bl
  | [], _, _, h, e => by cases h; cases e; rfl
  | .bl i :: ds, _, _, ⟨x, ys, e, h1, h2⟩, q => by
    cases z : boolL ds with
    | none => rw [boolL, z] at q; cases q
    | some ms => rw [boolL, z] at q; cases q; subst e; cases h1; rw [boolL_is h2 z]; rfl
  | .non :: _, _, _, _, q => by cases q
  | .int _ :: _, _, _, _, q => by cases q
  | .str _ :: _, _, _, _, q => by cases q
  | .lst _ :: _, _, _, _, q => by cases q
  | .tup _ :: _, _, _, _, q => by cases q
  | .dct _ _ :: _, _, _, _, q => by cases q
  | .obj _ _ _ :: _, _, _, _, q => by cases q
  | .ty _ :: _, _, _, _, q => by cases q
  | .cls _ :: _, _, _, _, q => by cases q
  | .is _ :: _, _, _, _, q => by cases q
theorem boolL_map (ns : List Bool) : boolL (ns.map D.bl) = some ns := by
  induction ns with
  | nil => rfl
  | cons n ns ih => rw [List.map_cons, boolL, ih]; rfl
def rAllD (f : List Bool → Bool) : List D → QD → Prop := fun ds Q => match ds with
  | [.lst xs] => ∃ ns, boolL xs = some ns ∧ Q (.bl (f ns))
  | _ => False
theorem cd_all (hc : X.calm = true) : CallD X (.builtin "all") (rAllD fun ns => ns.all id) := ⟨_, cr_all hc, fun Z Hs H ds vs Qd Q s i q cn => by
  unfold rAllD at q
  split at q
  · obtain ⟨x, e, a, xs, e2, h1, h2⟩ := isA1 i
    obtain ⟨ns, hn, q⟩ := q
    have := boolL_is h2 hn
    subst this; subst e2; subst e
    exact ⟨a, ns, rfl, .of (s _ _ h1), cn (.bl _) _ Hs H (.refl s) rfl q⟩
  · exact q.elim⟩
theorem cd_any (hc : X.calm = true) : CallD X (.builtin "any") (rAllD fun ns => ns.any id) := ⟨_, cr_any hc, fun Z Hs H ds vs Qd Q s i q cn => by
  unfold rAllD at q
  split at q
  · obtain ⟨x, e, a, xs, e2, h1, h2⟩ := isA1 i
    obtain ⟨ns, hn, q⟩ := q
    have := boolL_is h2 hn
    subst this; subst e2; subst e
    exact ⟨a, ns, rfl, .of (s _ _ h1), cn (.bl _) _ Hs H (.refl s) rfl q⟩
  · exact q.elim⟩
/-- tuple(x), list(x) of a list or a tuple -/
def rTupD : List D → QD → Prop := fun ds Q => match ds with
  | [.lst xs] => Q (.tup xs)
  | [.tup xs] => Q (.tup xs)
  | _ => False
theorem cd_tuple : CallD X (.type "tuple") rTupD := ⟨_, call_tuple_of, fun Z Hs H ds vs Qd Q s i q cn => by
  unfold rTupD at q
  split at q
  · obtain ⟨x, e, a, xs, e2, h1, h2⟩ := isA1 i
    subst e2; subst e
    exact ⟨a, xs, rfl, .inl ⟨.of (s _ _ h1), fun p np => cn (.tup _) _ (upd Hs p (.tup xs)) _ (.laid s np) ⟨p, xs, rfl, .inl (.inl upd_same), h2.same (Ext.laid (Z := Z) s np).fz⟩ q⟩⟩
  · obtain ⟨x, e, a, xs, e2, h1, h2⟩ := isA1 i
    subst e2; subst e
    exact ⟨a, xs, rfl, .inr ⟨same_sqt s h1, cn (.tup _) _ Hs H (.refl s) ⟨a, xs, rfl, h1, h2⟩ q⟩⟩
  · exact q.elim⟩
def rLstD : List D → QD → Prop := fun ds Q => match ds with
  | [.lst xs] => Q (.lst xs)
  | [.tup xs] => Q (.lst xs)
  | _ => False
theorem cd_list : CallD X (.type "list") rLstD := ⟨_, call_list_of, fun Z Hs H ds vs Qd Q s i q cn => by
  unfold rLstD at q
  split at q
  · obtain ⟨x, e, a, xs, e2, h1, h2⟩ := isA1 i
    subst e2; subst e
    exact ⟨a, xs, rfl, .inl (.of (s _ _ h1)), fun p np => cn (.lst _) _ (upd Hs p (.lst xs)) _ (.laid s np) ⟨p, xs, rfl, upd_same, h2.same (Ext.laid (Z := Z) s np).fz⟩ q⟩
  · obtain ⟨x, e, a, xs, e2, h1, h2⟩ := isA1 i
    subst e2; subst e
    exact ⟨a, xs, rfl, .inr (same_sqt s h1), fun p np => cn (.lst _) _ (upd Hs p (.lst xs)) _ (.laid s np) ⟨p, xs, rfl, upd_same, h2.same (Ext.laid (Z := Z) s np).fz⟩ q⟩
  · exact q.elim⟩
/-! ### isinstance -/
def kindD : D → Option Ty7
  | .non => some .non
  | .bl _ => some .bl
  | .int _ => some .int
  | .str _ => some .str
  | .lst _ => some .lst
  | .tup _ => some .tup
  | .dct _ _ => some .dct
  | _ => none
theorem kindD_ty {K H d v n} (i : Is K H d v) (h : kindD d = some n) : TyX K H v (.type n.name) := by
  cases d <;> simp only [kindD, Option.some.injEq, reduceCtorEq] at h <;> subst h
  · cases i; exact .base .non
  · cases i; exact .base (.bl _)
  · cases i; exact .base (.int _)
  · cases i; exact .base (.str _)
  · obtain ⟨a, xs, e, h1, _⟩ := i
    subst e
    exact .base (.lst h1)
  · obtain ⟨a, xs, e, h1, _⟩ := i
    subst e
    rcases h1 with (h1 | ⟨o, h1⟩) | ⟨o, its, m, hk, hc, _⟩
    · exact .base (.tup h1)
    · exact .fTuple h1
    · exact .kTuple hk hc
  · obtain ⟨a, xs, e, h1, _⟩ := i
    subst e
    exact .base (.dK h1)
/-- k's type is n, or under it -/
def tyLe : Ty7 → Ty7 → Bool
  | .non, .non => true
  | .bl, .bl => true
  | .bl, .int => true
  | .int, .int => true
  | .str, .str => true
  | .lst, .lst => true
  | .tup, .tup => true
  | .dct, .dct => true
  | _, _ => false
theorem kitB7 (k n : Ty7) : kitB k.name n.name = some (tyLe k n) := by
  cases k <;> cases n <;> decide +kernel
def rIsiD : List D → QD → Prop := fun ds Q => match ds with
  | [x, .ty n] => (match kindD x with
    | some k => Q (.bl (tyLe k n))
    | none => False)
  | _ => False
theorem cd_isi : CallD X (.builtin "isinstance") rIsiD := ⟨_, call_isi, fun Z Hs H ds vs Qd Q s i q cn => by
  unfold rIsiD at q
  split at q
  · rename_i x n
    split at q
    · rename_i k hk
      obtain ⟨v, w, e, h1, h2⟩ := isA2 i
      cases h2; subst e
      exact ⟨v, _, _, _, _, rfl, .ty n.name, kindD_ty (h1.same s) hk, kit_ty (kitB7 k n), cn (.bl _) _ Hs H (.refl s) rfl q⟩
    · exact q.elim
  · exact q.elim⟩
theorem d_ty {x : Str} {pos : Pos} (n : Ty7) (hm : X.mg x = none) (hg : Gl X x := by rfl) (hv : bootBuiltins x = some (.type n.name) := by decide +kernel) (hn : x ≠ "__name__" := by decide) (hd : (x == ("__debug__" : Str)) = false := by decide) : DE X c (.Name x pos) (tdC (.ty n)) :=
  d_const (v := .ty n.name) (pe_bltn hg hm hv rfl hn hd) fun _ => rfl
/-- isinstance(x, (T, U)) -/
def tdIsiT (te : TD) (ns : List Ty7) : TD := fun ss Q Ed => te ss (fun x => match kindD x with
  | some k => Q (.bl (ns.any (tyLe k)))
  | none => False) Ed
/-- the types of a written tuple -/
inductive Tys (X : Cx) : List Expr → List Ty7 → Prop where
  | nil : Tys X [] []
  | cons {x : Str} {pos : Pos} {n : Ty7} {es ns} (h : PE X (.Name x pos) (tC (.ty n.name))) (t : Tys X es ns) (hs : starEach (.Name x pos :: es) X.env = (false, eval (.Name x pos) X.env) :: starEach es X.env) : Tys X (.Name x pos :: es) (n :: ns)
def tTys : List Ty7 → TA
  | [] => tNil
  | n :: ns => tCons (tC (.ty n.name)) (tTys ns)
theorem Tys.pa : ∀ {es ns}, Tys X es ns → PA X es (tTys ns)
  | _, _, .nil => pa_nil
  | _, _, .cons h t hs => pa_cons h t.pa hs
theorem tTys_run : ∀ {ns : List Ty7} {σ : L2.St} {H : Hp} {Q : List V → Hp → Prop}, Q (ns.map fun n => V.ty n.name) H → tTys ns σ H Q
  | [], _, _, _, q => q
  | n :: ns, σ, H, Q, q => tTys_run (ns := ns) (Q := fun xs H2 => Q (.ty n.name :: xs) H2) q
theorem kitAny7 {K : PySem.W.Frag} {k : Ty7} : ∀ {ns : List Ty7}, PySem.W.kitAny K (.type k.name) (ns.map fun n => Value.type n.name) = some (ns.any (tyLe k))
  | [] => rfl
  | n :: ns => by
    refine kitAny_cons (kit_ty (K := K) (kitB7 k n)) (fun e => ?_) (fun e => ?_)
    · rw [List.any_cons, e, Bool.false_or]
      exact kitAny7
    · rw [List.any_cons, e, Bool.true_or]
theorem clsv_tys : ∀ ns : List Ty7, Paired ClsV (ns.map fun n => V.ty n.name) (ns.map fun n => Value.type n.name)
  | [] => .nil
  | n :: ns => .cons (.ty n.name) (clsv_tys ns)
theorem d_isiT {p tpos pos : Pos} {e : Expr} {es : List Expr} {kk} {te : TD} {ns : List Ty7} (hm : X.mg "isinstance" = none) (he : DE X c e te) (ht : Tys X es ns) (hl : ns.length ≤ 8 := by decide) (hg : Gl X "isinstance" := by rfl)
    (hs1 : starEach (e :: [.Tuple es kk tpos]) X.env = (false, eval e X.env) :: starEach [.Tuple es kk tpos] X.env := by rfl) (hs2 : starEach [.Tuple es kk tpos] X.env = (false, eval (.Tuple es kk tpos) X.env) :: starEach [] X.env := by rfl) (hpl : (backTo pos (starEach [.Tuple es kk tpos] X.env)).any (·.1) = false := by rfl) :
    DE X c (.Call (.Name "isinstance" p) [e, .Tuple es kk tpos] [] pos) (tdIsiT te ns) := by
  refine pe_imp (pe_callB call_isiT hg hm (by decide +kernel) (pa_cons he (pa_cons (pe_tup (ht.pa)) pa_nil hs2) hs1) (by decide) (by decide) hs1 hpl) fun σ H Q q => ?_
  obtain ⟨O, Hs, ss, Qd, Ed, A, h, er, g⟩ := q
  refine ⟨O, Hs, ss, _, Ed, A, h, er, fun d v Hs1 H1 e1 i1 q1 => ?_⟩
  refine tTys_run ⟨by rw [List.length_map]; exact Nat.le_trans hl (by decide), fun p np => ?_⟩
  split at q1
  · rename_i k hk
    have x1 : Ext (Z0 O) Hs1 H1 Hs1 (upd H1 p (.tup (ns.map fun n => V.ty n.name))) := Ext.grow e1.sub np
    exact ⟨v, p, _, _, _, _, rfl, upd_same, clsv_tys ns, kindD_ty (i1.same x1.sub) hk, kitAny7, g (.bl _) _ Hs1 _ (e1.trans x1) rfl q1⟩
  · exact q1.elim
/-! ### a list of a slot's own: its length, its items -/
def tdLenOwn (i : Nat) : TD := fun ss Q _ => match nth ss i with
  | .own _ ds => Q (.int (ds.length : Nat))
  | _ => False
theorem d_lenOwn {p pos : Pos} {e : Expr} {i : Nat} (hm : X.mg "len" = none) (he : PE X e (tVar i)) (hg : Gl X "len" := by rfl) (hs1 : starEach [e] X.env = (false, eval e X.env) :: starEach [] X.env := by rfl) : DE X c (.Call (.Name "len" p) [e] [] pos) (tdLenOwn i) := by
  refine pe_imp (pe_callB call_len hg hm (by decide +kernel) (pa_cons he pa_nil hs1) (by decide) (by decide) hs1 rfl) fun σ H Q q => ?_
  obtain ⟨O, Hs, ss, Qd, Ed, A, h, er, g⟩ := q
  have hs := A.sl i
  unfold tdLenOwn at h
  split at h
  · rename_i p ds hx
    rw [hx] at hs
    obtain ⟨xs, e1, h1, h2, h3⟩ := hs
    exact ⟨_, e1, _, _, rfl, .inl ⟨xs, .inl (.inl h2), rfl⟩, g (.int _) _ Hs H (.refl A.sub) rfl (by rw [h3.len]; exact h)⟩
  · exact h.elim
def tdIxOwn (i : Nat) (tb : TD) : TD := fun ss Q Ed => match nth ss i with
  | .own _ ds => tb ss (fun y => match y with
    | .int k => (match atI ds k with
      | some d => Q d
      | none => False)
    | _ => False) Ed
  | _ => False
theorem d_ixOwn {a b : Expr} {pos : Pos} {i : Nat} {tb : TD} (ha : PE X a (tVar i)) (hb : DE X c b tb) (hs : PlainIx b := by exact fun _ _ => rfl) : DE X c (.Subscript a b pos) (tdIxOwn i tb) := by
  refine pe_imp (pe_ix ix_list ha hb hs) fun σ H Q q => ?_
  obtain ⟨O, Hs, ss, Qd, Ed, A, h, er, g⟩ := q
  have hsl := A.sl i
  unfold tdIxOwn at h
  split at h
  · rename_i p ds hx
    rw [hx] at hsl
    obtain ⟨xs, e1, h1, h2, h3⟩ := hsl
    refine ⟨_, e1, O, Hs, ss, _, Ed, A, h, er, fun d v Hs1 H1 x1 i1 q1 => ?_⟩
    cases d <;> first | exact q1.elim | skip
    rename_i k
    simp only at q1
    split at q1
    · rename_i d hd
      obtain ⟨w, hw, iw⟩ := atI_is (h3.same x1.fz) hd
      have h4 : H1 p = some (.lst xs) := x1.keep p _ (fun z => by have z : O p = some 0 := z; rw [h1] at z; cases z) h2
      exact ⟨p, xs, k, w, rfl, i1, .inl (.inl h4), hw, g _ _ Hs1 H1 x1 iw q1⟩
    · exact q1.elim
  · exact h.elim
end
end DL
set_option Elab.async false
set_option linter.all false
set_option maxRecDepth 100000
set_option maxHeartbeats 4000000
/-! Promises of defs that are called while nothing is being shown (no repr runs around them), and repr of data -/
namespace LG
open PySem PySem.Spec PyProof.Rows L2
/-- as a promise, of calls where no repr runs -/
structure FnG (P : Program) (w : World) (K : PySem.W.Frag) (mg : Str → Option Value) (base : Heap) (CX : CXT) (k : Nat) (f : Addr) (fd : FuncData) (ps : List Str) (sp : Sp) : Prop where
  len : ∀ vs H Q E, sp vs H Q E → vs.length = ps.length
  run : ∀ (A : Around) (outer : List Env) (s : Shared) (H : Hp) (args : Args) (us : List Value) (vs : List V) (Q : VK) (E : XK), A.guards = some [] → Room k A → Env0 P w K mg base A outer s H → BindsTo s fd args (ps.zip us) → Vals vs us → sp vs H Q E →
    codeAny (model P w) A (.call (.ref f) args) (CR CX outer P w H s Q E) s
section
variable {P : Program} {w : World} {K : PySem.W.Frag} {mg : Str → Option Value} {base : Heap} {CX : CXT} {k : Nat} {f : Addr} {fd : FuncData} {ps : List Str} {sp : Sp}
theorem _root_.L2.FnOk.toG (F : FnOk P w K mg base CX k f fd ps sp) : FnG P w K mg base CX k f fd ps sp := ⟨F.len, fun A outer s H args us vs Q E _ => F.run A outer s H args us vs Q E⟩
theorem FnG.imp {sp' : Sp} (F : FnG P w K mg base CX k f fd ps sp) (h : ∀ vs H Q E, sp' vs H Q E → sp vs H Q E) : FnG P w K mg base CX k f fd ps sp' :=
  ⟨fun vs H Q E q => F.len vs H Q E (h _ _ _ _ q), fun A outer s H args us vs Q E g hr he hb hv hs => F.run A outer s H args us vs Q E g hr he hb hv (h _ _ _ _ hs)⟩
/-- THE RULE for such a def -/
theorem fun_okG {x qual : Str} {st : Stmt} {N : List Str} (F : Fun K x qual st f fd) (S : FnScope N ps (defScope st)) (len : ∀ vs H Q E, sp vs H Q E → vs.length = ps.length)
    (body : ∀ (cdv : Value) (A : Around) (outer : List Env) (s : Shared) (H : Hp) (vs : List V) (Q : VK) (E : XK), A.guards = some [] → Room k (A.deeper (envOfC qual (defScope st) s.heap.objs.size f cdv)) → sp vs H Q E →
      ∃ t, PSs (cxOf CX P w K mg base N qual (defScope st) f cdv A outer s H E) (defBody st) t ∧ t { nx := fun _ H' => Q .non H', rt := Q } (start N vs) H) : FnG P w K mg base CX (k + 1) f fd ps sp := by
  obtain ⟨oc, od, kV, doc, pm, an, cdv, ct, osl, rfl, lk, hcd⟩ := F.ex
  refine ⟨len, fun A outer s H args us vs Q E g hr e0 hb r hsp => ?_⟩
  have kin : K.In s.heap := e0.mod.kin.keeps fun b o e => (e0.bs b o e).1
  have lim : s.heap.NoLimit := e0.mod.nolimit.keeps fun b o e => (e0.bs b o e).1
  refine codeAny_call_function hr.depth (kin _ _ lk) rfl S.co S.gen rfl (PySem.W.codeRec_of kin hcd) (hb _ _ _ _ ?_)
  refine wpAny_newFunctionEnv_cells S.kind (fun y hy => ?_) fun env he s1 x => ?_
  · rcases S.par y.1 (List.of_mem_zip (a := y.1) (b := y.2) hy).1 with q | q
    · exact .inl q
    · exact .inr ⟨q, PySem.W.cellsFrom_some _ _ _ (.inl q)⟩
  subst he
  refine ⟨lim.keeps x.toInCall.keep, codeAny_func ?_⟩
  obtain ⟨t, ht, hq⟩ := body cdv A outer s H vs Q E g (hr.deeper _) hsp
  have I := inv_start (CX := CX) (N := N) (E := E) S hr.hd e0 (len _ _ _ _ hsp) r x
  refine wpAny_mono (ht.run [] s1 (start N vs) H _ I hq) (fun fl s' hs => ?_) fun e s' hs => hs
  cases fl with
  | ret u => exact let ⟨v, _, H', J, rv, q⟩ := hs; ⟨v, H', J.os, J.bare, J.base, J.hok, rv, q⟩
  | next => exact let ⟨_, H', J, q⟩ := hs; ⟨V.non, H', J.os, J.bare, J.base, J.hok, rfl, q⟩
  | brk => exact let ⟨_, _, _, q⟩ := hs; False.elim q
  | cont => exact let ⟨_, _, _, q⟩ := hs; False.elim q
end
section
variable {X : Cx} {CX : CXT} {k : Nat} {f : Addr} {fd : FuncData} {ps : List Str} {sp : Sp} {dvs : List V} {ds : List Value} {E : XK} {x : Str} {p pos : Pos} {e : Expr} {es : List Expr} {t : TA}
/-- f(e, ..) of such a def -/
theorem pe_callG (F : FnG X.prog X.w X.K X.mg X.base CX k f fd ps sp) (g : X.A.guards = some []) (hr : Room k X.A) (hg : Gl X x) (hm : X.mg x = some (.ref f)) (hk : PySem.W.keepIn X.K (.ref f) = true) (hb : Binds X.K fd ps ds) (hd : Vals dvs ds) (hx : Passes CX X E)
    (ha : PA X (e :: es) t) (hdb : (x == ("__debug__" : Str)) = false := by decide) (he : starEach (e :: es) X.env = (false, eval e X.env) :: starEach es X.env := by rfl) (hpl : (backTo pos (starEach es X.env)).any (·.1) = false := by rfl) :
    PE X (.Call (.Name x p) (e :: es) [] pos) (tCall sp dvs E t) := by
  refine ⟨fun pins s σ H Q I h => wpAny_Call_Name_kw (ld_glob I hg hm ?_ hdb)⟩
  refine PySem.W.callWith_K (h₀ := X.base) I.ok.mod.kin hk (thn (ha.run pos pins s σ H _ I h) fun us s1 ⟨vs, H1, J, r, q⟩ => ⟨J.kIn, ?_⟩) he hpl
  have r2 : Vals (vs ++ dvs) (us ++ ds) := r.append hd
  refine wpAny_call (codeAny_mono (F.run X.A X.stack s1 H1 ⟨us, []⟩ _ _ Q E g hr J.env0 (hb s1 us J.kIn (r2.length.symm.trans (F.len _ _ _ _ q))) r2 q) fun r s' hq => ?_)
  cases r with
  | error e => exact hx pins σ H1 s1 e s' J hq
  | ok fl =>
    cases fl with
    | ret u => exact J.after hq
    | next => exact False.elim hq
    | brk => exact False.elim hq
    | cont => exact False.elim hq
end

/-! ### repr of data -/
/-- what may be shown: no dict, no great int, no long text -/
def Fine (d : PyData) : Prop := d.showable = true ∧ d.hasDict = false ∧ d.depth ≤ 8 ∧ d.shown.length ≤ sizeLine
def rRepr (K : PySem.W.Frag) : List V → Hp → VK → Prop := fun vs H Q => ∃ (a : Addr) (d : PyData), vs = [.ref a] ∧ Dp K H (.ref a) d ∧ Fine d ∧ Q (.str d.shown) H
theorem cr_repr {X : Cx} (g : X.A.guards = some []) (hu : X.A.units + 64 < cLine) : CallR X (.builtin "repr") (rRepr X.K) := by
  intro pins s σ H vs us Q I r h
  obtain ⟨a, d, rfl, hd, ⟨f1, f2, f3, f4⟩, q⟩ := h
  rw [Vals.ref1 r]
  obtain ⟨as, rd⟩ := Dp.reads I d _ _ hd rfl
  exact repr_of_reads' rd f1 (fun h' => absurd (f2.symm.trans h') (by decide)) g (by omega) (fun _ _ e => e) (fun h' u tk k => ⟨.str d.shown, H, I.kept k, ⟨_, rfl⟩, q⟩) f4

/-! ### the law's call -/
/-- the script's heap: nothing else is tracked -/
theorem law_callG {P : Program} {w : World} {K : PySem.W.Frag} {mg mb : Str → Option Value} {CX : CXT} {k : Nat} {fa a : Addr} {fd : FuncData} {x : Str} {sp : Sp} {s1 : Shared} {vs : List Value} {ns : List Int}
    (kin : K.In s1.heap) (hns : s1.heap.Ns mainGlobals mg) (hb : s1.heap.Ns builtinsNs mb) (hbb : ∀ x : Str, x ≠ "__name__" → mb x = bootBuiltins x) (lim : s1.heap.NoLimit) (hg : s1.gens = #[])
    (ha : s1.heap.get? a = some { cls := .type "list", data := .seq vs.toArray }) (hi : IntsAre vs ns) (hl : ns.length ≤ sizeLine) (hr : Room k callerA)
    (F : ∀ base : Heap, K.In base → base.Ns mainGlobals mg → FnG P w K mg base CX k fa fd [x] sp) (bind : ∀ (s : Shared) (u : Value), BindsTo s fd ⟨[u], []⟩ [(x, u)])
    (hsp : ∀ H : Hp, Only H → SqL K H a (ns.map V.int) → sp [.ref a] H (fun v _ => v = .bl true) fun _ _ _ => False) (hCX : ∀ H e s', CX [] H s1 (fun _ _ _ => False) e s' → False) :
    codeAny (model P w) callerA (.call (.ref fa) ⟨[.ref a], []⟩) (fun r s' => r = .ok (.ret (.bool true)) ∧ OldK s1.heap s'.heap ∧ s'.os = s1.os ∧ AllBare s'.gens) s1 := by
  have rv := vals_ints hi
  -- over a heap that tracks the script or nothing
  have go : ∀ H : Hp, Only H → SqL K H a (ns.map V.int) → HOk P w H s1.heap → (∀ b u, H b = some u → b = a ∧ K.lookup a = none) →
      codeAny (model P w) callerA (.call (.ref fa) ⟨[.ref a], []⟩) (fun r s' => r = .ok (.ret (.bool true)) ∧ OldK s1.heap s'.heap ∧ s'.os = s1.os ∧ AllBare s'.gens) s1 := by
    intro H only hS hok one
    have free : ∀ {b : Addr} {o : Obj} {es : Array DictEntry} {ep : Nat}, s1.heap.get? b = some o → o.data = .dict es ep → H b = none := fun {b o es ep} e d => by
      cases q : H b with
      | none => rfl
      | some u =>
        obtain ⟨rfl, _⟩ := one b u q
        have e2 := Option.some.inj (e.symm.trans ha)
        subst e2
        cases d
    have ns1 : ∀ {b : Addr} {m : Str → Option Value}, s1.heap.Ns b m → (hidT s1.heap H).Ns b m := fun {b m} ⟨o, es, ep, e, d, r⟩ => ⟨o, es, ep, hidT_get e (free e d), d, r⟩
    have kin1 : K.In (hidT s1.heap H) := fun b o e => hidT_get (kin b o e) (by
      cases q : H b with
      | none => rfl
      | some u =>
        obtain ⟨rfl, z⟩ := one b u q
        rw [z] at e
        cases e)
    have M : Mod K mg (hidT s1.heap H) := ⟨kin1, ns1 hns, ⟨mb, ns1 hb, hbb⟩, let ⟨mc, h1, h2⟩ := lim; ⟨mc, ns1 h1, h2⟩⟩
    have e0 : Env0 P w K mg (hidT s1.heap H) callerA [] s1 H := ⟨rfl, M, fun b o e => of_hidT e, Nat.le_of_eq (hidT_size _ _), trivial, fun b z => absurd (show b ∈ ([] : List Addr) from z) (by simp), hok, .of_eq hg⟩
    refine codeAny_mono ((F _ kin1 (ns1 hns)).run callerA [] s1 H ⟨[.ref a], []⟩ [.ref a] [.ref a] _ _ rfl hr e0 (bind s1 (.ref a)) (.cons rfl .nil) (hsp H only hS)) fun r s' h => ?_
    match r, h with
    | .error e, h => exact (hCX H e s' h).elim
    | .ok .next, h => exact False.elim h
    | .ok .brk, h => exact False.elim h
    | .ok .cont, h => exact False.elim h
    | .ok (.ret u), h =>
      obtain ⟨v, H', os, bare, un, hok', r', q⟩ := h
      have q' : v = .bl true := q
      subst q'
      have r2 : u = Value.bool true := r'
      subst r2
      refine ⟨rfl, OldK.of_keep fun b o e => ?_, os, bare⟩
      cases z : H b with
      | none => exact un.keep b o e z (fun y => absurd (show b ∈ ([] : List Addr) from y) (by simp)) (by simp)
      | some u =>
        rcases only b with y | ⟨ob, xs, y⟩
        · rw [z] at y
          cases y
        · have e1 := (hok b _ y).1
          rw [e] at e1
          cases e1
          exact (hok' b _ (un.frzs b _ _ y)).1
  cases hk : K.lookup a with
  | some o =>
    have e := kin a o hk
    rw [ha] at e
    cases e
    exact go (fun _ => none) (fun _ => .inl rfl) (.inr ⟨_, vs.toArray, _, hk, rfl, rfl, rfl, by rw [List.size_toArray, hi.length]; exact hl, by simpa using rv⟩) (fun b u z => nomatch z) fun b u z => nomatch z
  | none =>
    have at1 : ∀ b, b ≠ a → (fun b => if b = a then some (HO.frz { cls := .type "list", data := .seq vs.toArray } (.lst (ns.map V.int))) else none : Hp) b = none := fun b h => if_neg h
    have at2 : (fun b => if b = a then some (HO.frz { cls := .type "list", data := .seq vs.toArray } (.lst (ns.map V.int))) else none : Hp) a = some (HO.frz { cls := .type "list", data := .seq vs.toArray } (.lst (ns.map V.int))) := if_pos rfl
    generalize (fun b => if b = a then some (HO.frz { cls := .type "list", data := .seq vs.toArray } (.lst (ns.map V.int))) else none : Hp) = H at at1 at2
    refine go H (fun b => ?_) (.inl (.inr ⟨_, at2⟩)) (fun b u z => ?_) fun b u z => ?_
    · by_cases h : b = a
      · subst h
        exact .inr ⟨_, _, at2⟩
      · exact .inl (at1 b h)
    · by_cases h : b = a
      · subst h
        have := Option.some.inj (z.symm.trans at2)
        subst this
        exact ⟨ha, by rw [List.length_map]; exact hl, vs, _, rv, ha⟩
      · rw [at1 b h] at z
        cases z
    · by_cases h : b = a
      · exact ⟨h, hk⟩
      · rw [at1 b h] at z
        cases z
theorem walk_G {l : PySem.W.OpenLaw} {n k : Nat} {q : Program} {loose : List Str} {XP : (Str → Option Value) → Heap → Prop} {YP : World → Heap → Prop} {d : DefRec} {K : Params → PySem.W.Frag} {CX : World → CXT} {sp : World → Sp} {x : Str}
    (hn : l.most = some n) (hn2 : n ≤ sizeLine) (hdf : d.params.defaults = []) (hr : Room k callerA) (hY : ∀ (w : World) (h : Heap), YP w h → (K w.params).In h)
    (F : ∀ (w : World) (mg : Str → Option Value) (fa : Addr) (h : Heap), (K w.params).In h → h.Ns mainGlobals mg → mg d.name = some (.ref fa) →
      ∃ fd : FuncData, (∀ (s : Shared) (u : Value), BindsTo s fd ⟨[u], []⟩ [(x, u)]) ∧ ∀ base : Heap, (K w.params).In base → base.Ns mainGlobals mg → FnG l.prog w (K w.params) mg base (CX w) k fa fd [x] (sp w))
    (hsp : ∀ (w : World) (H : Hp) (a : Addr) (ns : List Int), ns.length ≤ n → Only H → SqL (K w.params) H a (ns.map V.int) → sp w [.ref a] H (fun v _ => v = .bl true) fun _ _ _ => False)
    (hCX : ∀ (w : World) (H : Hp) (s : Shared) (e : Value) (s' : Shared), CX w [] H s (fun _ _ _ => False) e s' → False) :
    PySem.W.WalkO q loose XP YP l.row.toRowW d [] (fun f vs => PySem.call f vs) := by
  refine Att.attach_call hn hdf fun w s₀ s₁ mg mb fa o pm cd doc a vs ns G Y ho hd hcd hmg hobj hints hlen hg => ?_
  obtain ⟨fd, hb, hF⟩ := F w mg fa _ (hY w _ Y) G.T.g hmg
  exact law_callG (hY w _ Y) G.T.g G.T.b G.T.builtins G.T.nolimit hg hobj hints (Nat.le_trans hlen hn2) hr hF hb (fun H hO hS => hsp w H a ns hlen hO hS) fun H e s' => hCX w H s₁ e s'
end LG
set_option Elab.async false
set_option linter.all false
set_option maxRecDepth 100000
set_option maxHeartbeats 4000000
/-! DF: iterators, comprehensions, what is never reached, a def's promise -/
namespace DL
open PySem PySem.Spec PyProof.Rows L2
section
variable {X : Cx} {c : Cn} {tg : Expr}
/-! ### what is walked -/
/-- a list or a tuple -/
def iSeq (K : PySem.W.Frag) (tl : TE) : TI := fun σ H R => tl σ H fun x H1 => ∃ a, x = .ref a ∧ (((∃ xs, SqL K H1 a xs) ∧ R (Itl K a) H1) ∨ ((∃ xs, SqT K H1 a xs) ∧ R (Itt K a) H1))
theorem fp_new {pins : List (Addr × Obj)} {σ : L2.St} {H : Hp} {s : Shared} (I : Inv X pins σ H s) : ∀ b ∈ [s.heap.objs.size], FpOk X pins H b := fun b hb => by
  cases List.mem_singleton.mp hb
  exact I.fpOk (Nat.le_refl _) (I.hok.fresh (Nat.le_refl _))
theorem pi_seq {l : Expr} {tl : TE} (hl : PE X l tl) : PI X tg l (iSeq X.K tl) := by
  refine ⟨fun pins s σ H R I h => thn (hl.run pins s σ H _ I h) fun v s1 ⟨x, H1, J, r1, a, ex, q⟩ => ?_⟩
  subst ex
  cases r1
  have up : ∀ o : Obj, Inv X pins σ H1 { s1 with heap := s1.heap.push o } := fun o => J.kept (t' := s1.toks) fun b o' z => Heap.get?_push_of_some _ z
  rcases q with ⟨⟨xs, hq⟩, q⟩ | ⟨⟨xs, hq⟩, q⟩
  · obtain ⟨its, _, pl, _⟩ := J.list hq
    exact wpAny_pyIter_list pl.isList ⟨s1.heap.objs.size, _, _, _, H1, rfl, up _, turn_list a _, ⟨_, Heap.get?_push_size _ rfl, rfl, rfl⟩, fp_new J, q⟩
  · obtain ⟨its, _, pl, _⟩ := J.tuple hq
    exact wpAny_pyIter_tuple (show s1.heap.IsTuple a its.toArray from pl) ⟨s1.heap.objs.size, _, _, _, H1, rfl, up _, turn_tuple a _, ⟨_, Heap.get?_push_size _ rfl, rfl, rfl⟩, fp_new J, q⟩
/-- the list at a is read where Hs holds it -/
theorem itl_items {K : PySem.W.Frag} {Hs : Hp} {a : Addr} {xs : List V} {ds : List D} (h1 : Hs a = some (.lst xs)) (h2 : IsA K Hs ds xs) : ItIs K (Itl K a) ds Hs where
  go := fun i Hs' H s1 s2 hi => ⟨xs, xs[i]'(by rw [h2.len]; exact hi), .of ((s1.trans s2) _ _ h1), List.getElem?_eq_getElem _⟩
  stop := fun i Hs' H s1 s2 hi0 => have hi := Nat.le_of_eq hi0; ⟨xs, .of ((s1.trans s2) _ _ h1), by rw [h2.len]; exact hi⟩
  yld := fun i Hs' H v H' d s1 s2 y hd => by
    obtain ⟨e, y⟩ := y
    subst e
    have hx := y xs (.of ((s1.trans s2) _ _ h1))
    obtain ⟨x, hx2, ix⟩ := h2.get hd
    rw [hx] at hx2
    cases hx2
    exact ⟨Hs', fun Z => .refl s2, ix.same s1⟩
theorem itt_items {K : PySem.W.Frag} {Hs : Hp} {a : Addr} {xs : List V} {ds : List D} (h1 : SqT K Hs a xs) (h2 : IsA K Hs ds xs) : ItIs K (Itt K a) ds Hs where
  go := fun i Hs' H s1 s2 hi => ⟨xs, xs[i]'(by rw [h2.len]; exact hi), same_sqt (s1.trans s2) h1, List.getElem?_eq_getElem _⟩
  stop := fun i Hs' H s1 s2 hi0 => have hi := Nat.le_of_eq hi0; ⟨xs, same_sqt (s1.trans s2) h1, by rw [h2.len]; exact hi⟩
  yld := fun i Hs' H v H' d s1 s2 y hd => by
    obtain ⟨e, y⟩ := y
    subst e
    have hx := y xs (same_sqt (s1.trans s2) h1)
    obtain ⟨x, hx2, ix⟩ := h2.get hd
    rw [hx] at hx2
    cases hx2
    exact ⟨Hs', fun Z => .refl s2, ix.same s1⟩
def itemsD (x : D) (Q : List D → Prop) : Prop := match x with
  | .lst ds => Q ds
  | .tup ds => Q ds
  | _ => False
def tiSeq (te : TD) : TID := fun ss Q Ed => te ss (fun x => itemsD x Q) Ed
theorem di_seq {l : Expr} {te : TD} (h : DE X c l te) : DI X c tg l (tiSeq te) := by
  refine pi_imp (pi_seq h) fun σ H R q => ?_
  obtain ⟨O, Hs, ss, Qi, Ed, A, h, er, g⟩ := q
  refine ⟨O, Hs, ss, _, Ed, A, h, er, fun d v Hs1 H1 x1 i1 q1 => ?_⟩
  unfold itemsD at q1
  split at q1
  · obtain ⟨a, xs, e, h1, h2⟩ := i1
    exact ⟨a, e, .inl ⟨⟨xs, .of (x1.sub _ _ h1)⟩, g _ _ Hs1 H1 x1 (itl_items h1 h2) q1⟩⟩
  · obtain ⟨a, xs, e, h1, h2⟩ := i1
    exact ⟨a, e, .inr ⟨⟨xs, same_sqt x1.sub h1⟩, g _ _ Hs1 H1 x1 (itt_items h1 h2) q1⟩⟩
  · exact q1.elim
def rngD (lo : Int) (n : Nat) : List D := (List.range n).map fun k : Nat => .int (lo + (k : Int))
theorem rngD_len (lo : Int) (n : Nat) : (rngD lo n).length = n := by unfold rngD; rw [List.length_map, List.length_range]
theorem rngD_get {lo : Int} {n i : Nat} {d : D} (h : (rngD lo n)[i]? = some d) : i < n ∧ d = .int (lo + i) := by
  unfold rngD at h
  rw [List.getElem?_map] at h
  cases q : (List.range n)[i]? with
  | none => rw [q] at h; cases h
  | some k =>
    rw [q] at h
    have hi := (List.getElem?_eq_some_iff.mp q).1
    rw [List.length_range] at hi
    rw [List.getElem?_range hi] at q
    cases q
    exact ⟨hi, (Option.some.inj h).symm⟩
theorem itr_items {K : PySem.W.Frag} {Hs : Hp} (lo : Int) (n : Nat) : ItIs K (Itr lo n) (rngD lo n) Hs where
  go := fun i Hs' H s1 s2 hi => by rw [rngD_len] at hi; exact hi
  stop := fun i Hs' H s1 s2 hi0 => have hi := Nat.le_of_eq hi0; by rw [rngD_len] at hi; exact hi
  yld := fun i Hs' H v H' d s1 s2 y hd => by
    obtain ⟨e, y⟩ := y
    subst e
    obtain ⟨_, e2⟩ := rngD_get hd
    subst e2
    exact ⟨Hs', fun Z => .refl s2, y⟩
def tiRng1 (t : TAD) : TID := fun ss Q Ed => t ss (fun as => allD as fun ds => match ds with
  | [.int j] => (-(2 ^ 62) ≤ j ∧ j < 2 ^ 62) ∧ Q (rngD 0 j.toNat)
  | _ => False) Ed
theorem di_rng1 {a : Expr} {t : TAD} {p pos : Pos} (hm : X.mg "range" = none) (ha : DAs X c [a] t) (hg : Gl X "range" := by rfl) (hs : starEach [a] X.env = [(false, eval a X.env)] := by rfl) : DI X c tg (.Call (.Name "range" p) [a] [] pos) (tiRng1 t) := by
  refine pi_imp (pi_range1 hg hm ha hs) fun σ H R q => ?_
  obtain ⟨O, Hs, ss, Qi, Ed, A, h, er, g⟩ := q
  refine ⟨O, Hs, ss, _, Ed, A, h, er, fun as vs Hs1 H1 x1 i1 q1 => ?_⟩
  obtain ⟨ds, h3, h4⟩ := allD_is i1 q1
  split at h4
  · obtain ⟨x, e, ix⟩ := isA1 h3
    cases ix
    subst e
    exact ⟨_, rfl, h4.1.1, h4.1.2, g _ _ Hs1 H1 x1 (itr_items 0 _) h4.2⟩
  · exact h4.elim
def tiRng2 (t : TAD) : TID := fun ss Q Ed => t ss (fun as => allD as fun ds => match ds with
  | [.int i, .int j] => (-(2 ^ 62) ≤ i ∧ i < 2 ^ 62 ∧ -(2 ^ 62) ≤ j ∧ j < 2 ^ 62) ∧ Q (rngD i (j - i).toNat)
  | _ => False) Ed
theorem di_rng2 {a b : Expr} {t : TAD} {p pos : Pos} (hm : X.mg "range" = none) (ha : DAs X c [a, b] t) (hg : Gl X "range" := by rfl) (hs : starEach [a, b] X.env = [(false, eval a X.env), (false, eval b X.env)] := by rfl) (hs2 : starEach [b] X.env = [(false, eval b X.env)] := by rfl) : DI X c tg (.Call (.Name "range" p) [a, b] [] pos) (tiRng2 t) := by
  refine pi_imp (pi_range2 hg hm ha hs hs2) fun σ H R q => ?_
  obtain ⟨O, Hs, ss, Qi, Ed, A, h, er, g⟩ := q
  refine ⟨O, Hs, ss, _, Ed, A, h, er, fun as vs Hs1 H1 x1 i1 q1 => ?_⟩
  obtain ⟨ds, h3, h4⟩ := allD_is i1 q1
  split at h4
  · obtain ⟨x, y, e, ix, iy⟩ := isA2 h3
    cases ix
    cases iy
    subst e
    exact ⟨_, _, rfl, h4.1, g _ _ Hs1 H1 x1 (itr_items _ _) h4.2⟩
  · exact h4.elim
/-- enumerate of a list -/
def enumD : Nat → List D → List D
  | _, [] => []
  | n, d :: ds => .tup [.int (n : Nat), d] :: enumD (n + 1) ds
theorem enumD_len : ∀ (ds : List D) (n : Nat), (enumD n ds).length = ds.length
  | [], _ => rfl
  | _ :: ds, n => congrArg Nat.succ (enumD_len ds (n + 1))
theorem enumD_get : ∀ {ds : List D} {n i : Nat} {d : D}, (enumD n ds)[i]? = some d → ∃ x, ds[i]? = some x ∧ d = .tup [.int ((n + i : Nat) : Int), x]
  | [], _, _, _, h => by simp [enumD] at h
  | x :: ds, n, 0, d, h => by simp [enumD] at h; exact ⟨x, rfl, h.symm⟩
  | x :: ds, n, i + 1, d, h => by
    obtain ⟨y, h1, h2⟩ := enumD_get (ds := ds) (n := n + 1) (i := i) (d := d) (by simpa [enumD] using h)
    exact ⟨y, by simpa using h1, by rw [h2, show n + 1 + i = n + (i + 1) by omega]⟩
theorem ite_items {K : PySem.W.Frag} {Hs : Hp} {a : Addr} {xs : List V} {ds : List D} (h1 : Hs a = some (.lst xs)) (h2 : IsA K Hs ds xs) : ItIs K (Ite K a) (enumD 0 ds) Hs where
  go := fun i Hs' H s1 s2 hi => ⟨xs, xs[i]'(by rw [h2.len]; rw [enumD_len] at hi; exact hi), .of ((s1.trans s2) _ _ h1), List.getElem?_eq_getElem _⟩
  stop := fun i Hs' H s1 s2 hi0 => have hi := Nat.le_of_eq hi0; ⟨xs, .of ((s1.trans s2) _ _ h1), by rw [h2.len]; rw [enumD_len] at hi; exact hi⟩
  yld := fun i Hs' H v H' d s1 s2 y hd => by
    obtain ⟨T, x, e, nT, e2, y⟩ := y
    subst e; subst e2
    have hx := y xs (.of ((s1.trans s2) _ _ h1))
    obtain ⟨z, hz, ed⟩ := enumD_get hd
    obtain ⟨w, hw, iw⟩ := h2.get hz
    rw [hx] at hw
    cases hw
    subst ed
    have L := fun Z => Ext.laid (Z := Z) (o := .tup [.int (i : Nat), x]) s2 nT
    refine ⟨_, L, T, _, rfl, .inl (.inl upd_same), .int i, _, rfl, ?_, x, _, rfl, (iw.same s1).same (L fun _ => False).fz, rfl⟩
    show V.int (i : Int) = V.int ((0 + i : Nat) : Int)
    rw [Nat.zero_add]
def tiEnum (te : TD) : TID := fun ss Q Ed => te ss (fun x => match x with
  | .lst ds => Q (enumD 0 ds)
  | _ => False) Ed
theorem di_enum {e : Expr} {te : TD} {p pos tpos : Pos} {elts : List Expr} {kk : Nat} (hm : X.mg "enumerate" = none) (h : DE X c e te) (hg : Gl X "enumerate" := by rfl) (hs : starEach [e] X.env = [(false, eval e X.env)] := by rfl) (hs1 : starEach [e] X.env = (false, eval e X.env) :: starEach [] X.env := by rfl) : DI X c (.Tuple elts kk tpos) (.Call (.Name "enumerate" p) [e] [] pos) (tiEnum te) := by
  refine pi_imp (pi_enum hg hm (pa_cons h pa_nil hs1) hs) fun σ H R q => ?_
  obtain ⟨O, Hs, ss, Qi, Ed, A, h, er, g⟩ := q
  refine ⟨O, Hs, ss, _, Ed, A, h, er, fun d v Hs1 H1 x1 i1 q1 => ?_⟩
  split at q1
  · obtain ⟨a, xs, e, h1, h2⟩ := i1
    subst e
    exact ⟨a, xs, rfl, .of (x1.sub _ _ h1), g _ _ Hs1 H1 x1 (ite_items h1 h2) q1⟩
  · exact q1.elim
/-- zip of two lists -/
def zipD : List D → List D → List D
  | x :: xs, y :: ys => .tup [x, y] :: zipD xs ys
  | _, _ => []
theorem zipD_len : ∀ (xs ys : List D), (zipD xs ys).length = min xs.length ys.length
  | [], ys => by simp [zipD]
  | _ :: _, [] => by simp [zipD]
  | _ :: xs, _ :: ys => by simp [zipD, zipD_len xs ys]
theorem zipD_get : ∀ {xs ys : List D} {i : Nat} {d : D}, (zipD xs ys)[i]? = some d → ∃ x y, xs[i]? = some x ∧ ys[i]? = some y ∧ d = .tup [x, y]
  | [], _, _, _, h => by simp [zipD] at h
  | _ :: _, [], _, _, h => by simp [zipD] at h
  | x :: xs, y :: ys, 0, d, h => by simp [zipD] at h; exact ⟨x, y, rfl, rfl, h.symm⟩
  | x :: xs, y :: ys, i + 1, d, h => by
    obtain ⟨a, b, h1, h2, h3⟩ := zipD_get (xs := xs) (ys := ys) (i := i) (d := d) (by simpa [zipD] using h)
    exact ⟨a, b, by simpa using h1, by simpa using h2, h3⟩
theorem itz_items {K : PySem.W.Frag} {Hs : Hp} {a b : Addr} {xs ys : List V} {ds es : List D} (h1 : Hs a = some (.lst xs)) (h2 : IsA K Hs ds xs) (h3 : Hs b = some (.lst ys)) (h4 : IsA K Hs es ys) : ItIs K (Itz K a b) (zipD ds es) Hs where
  go := fun i Hs' H s1 s2 hi => by
    rw [zipD_len] at hi
    exact ⟨xs, ys, xs[i]'(by rw [h2.len]; omega), ys[i]'(by rw [h4.len]; omega), .of ((s1.trans s2) _ _ h1), .of ((s1.trans s2) _ _ h3), List.getElem?_eq_getElem _, List.getElem?_eq_getElem _⟩
  stop := fun i Hs' H s1 s2 hi0 => by
    have hi := Nat.le_of_eq hi0
    rw [zipD_len] at hi
    exact ⟨xs, ys, .of ((s1.trans s2) _ _ h1), .of ((s1.trans s2) _ _ h3), by rw [h2.len, h4.len]; omega⟩
  yld := fun i Hs' H v H' d s1 s2 y hd => by
    obtain ⟨T, x, y', e, nT, e2, y1, y2⟩ := y
    subst e; subst e2
    have hx := y1 xs (.of ((s1.trans s2) _ _ h1))
    have hy := y2 ys (.of ((s1.trans s2) _ _ h3))
    obtain ⟨z, z', hz, hz', ed⟩ := zipD_get hd
    obtain ⟨w, hw, iw⟩ := h2.get hz
    obtain ⟨w', hw', iw'⟩ := h4.get hz'
    rw [hx] at hw
    rw [hy] at hw'
    cases hw
    cases hw'
    subst ed
    have L := fun Z => Ext.laid (Z := Z) (o := .tup [x, y']) s2 nT
    exact ⟨_, L, T, _, rfl, .inl (.inl upd_same), x, _, rfl, (iw.same s1).same (L fun _ => False).fz, y', _, rfl, (iw'.same s1).same (L fun _ => False).fz, rfl⟩
/-- zip of two tuples -/
theorem itzT_items {K : PySem.W.Frag} {Hs : Hp} {a b : Addr} {xs ys : List V} {ds es : List D} (h1 : SqT K Hs a xs) (h2 : IsA K Hs ds xs) (h3 : SqT K Hs b ys) (h4 : IsA K Hs es ys) : ItIs K (RZ.ItzT K a b) (zipD ds es) Hs where
  go := fun i Hs' H s1 s2 hi => by
    rw [zipD_len] at hi
    exact ⟨xs, ys, xs[i]'(by rw [h2.len]; omega), ys[i]'(by rw [h4.len]; omega), same_sqt (s1.trans s2) h1, same_sqt (s1.trans s2) h3, List.getElem?_eq_getElem _, List.getElem?_eq_getElem _⟩
  stop := fun i Hs' H s1 s2 hi0 => by
    have hi := Nat.le_of_eq hi0
    rw [zipD_len] at hi
    exact ⟨xs, ys, same_sqt (s1.trans s2) h1, same_sqt (s1.trans s2) h3, by rw [h2.len, h4.len]; omega⟩
  yld := fun i Hs' H v H' d s1 s2 y hd => by
    obtain ⟨T, x, y', e, nT, e2, y1, y2⟩ := y
    subst e; subst e2
    have hx := y1 xs (same_sqt (s1.trans s2) h1)
    have hy := y2 ys (same_sqt (s1.trans s2) h3)
    obtain ⟨z, z', hz, hz', ed⟩ := zipD_get hd
    obtain ⟨w, hw, iw⟩ := h2.get hz
    obtain ⟨w', hw', iw'⟩ := h4.get hz'
    rw [hx] at hw
    rw [hy] at hw'
    cases hw
    cases hw'
    subst ed
    have L := fun Z => Ext.laid (Z := Z) (o := .tup [x, y']) s2 nT
    exact ⟨_, L, T, _, rfl, .inl (.inl upd_same), x, _, rfl, (iw.same s1).same (L fun _ => False).fz, y', _, rfl, (iw'.same s1).same (L fun _ => False).fz, rfl⟩
def tiZip (t : TAD) : TID := fun ss Q Ed => t ss (fun as => allD as fun ds => match ds with
  | [.lst xs, .lst ys] => Q (zipD xs ys)
  | _ => False) Ed
theorem di_zip {e e2 : Expr} {t : TAD} {p pos tpos : Pos} {elts : List Expr} {kk : Nat} (hm : X.mg "zip" = none) (ha : DAs X c [e, e2] t) (hg : Gl X "zip" := by rfl)
    (hs : starEach [e, e2] X.env = (false, eval e X.env) :: starEach [e2] X.env := by rfl) (hpl : (backTo pos (starEach [e2] X.env)).any (·.1) = false := by rfl) : DI X c (.Tuple elts kk tpos) (.Call (.Name "zip" p) [e, e2] [] pos) (tiZip t) := by
  refine pi_imp (pi_zip hg hm ha hs hpl) fun σ H R q => ?_
  obtain ⟨O, Hs, ss, Qi, Ed, A, h, er, g⟩ := q
  refine ⟨O, Hs, ss, _, Ed, A, h, er, fun as vs Hs1 H1 x1 i1 q1 => ?_⟩
  obtain ⟨ds, h3, h4⟩ := allD_is i1 q1
  split at h4
  · obtain ⟨x, y, e, ⟨a, xs, ea, ha1, ha2⟩, ⟨b, ys, eb, hb1, hb2⟩⟩ := isA2 h3
    subst ea; subst eb; subst e
    exact ⟨a, b, xs, ys, rfl, .of (x1.sub _ _ ha1), .of (x1.sub _ _ hb1), g _ _ Hs1 H1 x1 (itz_items ha1 ha2 hb1 hb2) h4⟩
  · exact h4.elim
/-- over a list of the slot's own, which the body leaves as it is -/
def tdForOwn (i : Nat) (en : Bool) (pt : Pat) (tb : TSD) : TSD := fun En ss Ed => match nth ss i with
  | .own p ds => ∃ I : Nat → List Sl → Prop, I 0 ss ∧ (∀ k ss', I k ss' → nth ss' i = .own p ds) ∧
    (∀ k d ss', (if en then enumD 0 ds else ds)[k]? = some d → I k ss' → pt.gd d ss' fun ss2 => tb { nx := I (k + 1), rt := En.rt, ro := En.ro, bk := En.nx, ct := I (k + 1) } ss2 Ed) ∧ ∀ ss', I ds.length ss' → En.nx ss'
  | _ => False
theorem own_at {K : PySem.W.Frag} {c : Cn} {O Hs H σ ss} (A : Abs K c O Hs H σ ss) {i : Nat} {p : Addr} {ds : List D} (h : nth ss i = .own p ds) : ∃ xs, H p = some (.lst xs) ∧ IsA K Hs ds xs ∧ O p = some (i + 1) := by
  have q := A.sl i
  rw [h] at q
  obtain ⟨xs, _, h1, h2, h3⟩ := q
  exact ⟨xs, h2, h3, h1⟩
theorem own_items {K : PySem.W.Frag} {p : Addr} {ds : List D} {i : Nat} {c : Cn} {O Hs H σ ss} (A : Abs K c O Hs H σ ss) (h : nth ss i = .own p ds) : (∀ k d, ds[k]? = some d → (Itl K p).go k H) ∧ (∀ k, ds.length ≤ k → (Itl K p).stop k H) ∧ ∀ k v H' d, (Itl K p).yld k H v H' → ds[k]? = some d → H' = H ∧ Is K Hs d v := by
  obtain ⟨xs, h1, h2, _⟩ := own_at A h
  refine ⟨fun k d hd => ?_, fun k hk => ⟨xs, .inl (.inl h1), by rw [h2.len]; exact hk⟩, fun k v H' d y hd => ?_⟩
  · obtain ⟨x, hx, _⟩ := h2.get hd
    exact ⟨xs, x, .inl (.inl h1), hx⟩
  · obtain ⟨e, y⟩ := y
    have hx := y xs (.inl (.inl (e ▸ h1)))
    obtain ⟨x, hx2, ix⟩ := h2.get hd
    rw [hx] at hx2
    cases hx2
    exact ⟨e, ix⟩
theorem d_forOwn {iter : Expr} {body : List Stmt} {pos : Pos} {i : Nat} {pt : Pat} {tb : TSD} (hp : PassesOwn (model X.prog X.w) X.A X.env X.xe) (hc : X.calm = true) (hi : PE X iter (tVar i)) (hg : DG X tg pt) (hb : DSs X c body tb)
    (hs : ∀ x, foldedSetIterable iter X.env x = pure x := by intro _; rfl) : DS X c (.For tg iter body [] pos) (tdForOwn i false pt tb) := by
  refine ps_imp (ps_for hp hc (pi_list hi) hg hb hs) fun Dn σ H q => ?_
  obtain ⟨O, Hs, ss, En, Ed, A, h, er, gc⟩ := q
  unfold tdForOwn at h
  split at h
  · rename_i p ds hds
    obtain ⟨I, i0, keep, turn, fin⟩ := h
    simp only [Bool.false_eq_true, if_false] at turn
    have hsl := A.sl i
    rw [hds] at hsl
    obtain ⟨xs, e1, _, h2, _⟩ := hsl
    refine ⟨_, e1, p, rfl, ⟨xs, .inl (.inl h2)⟩, fun k m σ' H' => m = ds.length - k ∧ k ≤ ds.length ∧ ∃ O' Hs' ss', Abs X.K c O' Hs' H' σ' ss' ∧ Same Hs Hs' ∧ I k ss', ⟨_, rfl, Nat.zero_le _, O, Hs, ss, A, .refl _, i0⟩, ?_⟩
    rintro k m σ' H' ⟨rfl, hk, O', Hs', ss', A', s', q'⟩
    obtain ⟨go, stop, yld⟩ := own_items A' (keep k ss' q')
    by_cases hlt : k < ds.length
    · have hd : ds[k]? = some ds[k] := List.getElem?_eq_getElem hlt
      refine .inr ⟨go k _ hd, fun σ2 H2 => ∃ O2 Hs2 ss2, Abs X.K c O2 Hs2 H2 σ2 ss2 ∧ Same Hs Hs2 ∧ I (k + 1) ss2, fun σ2 H2 z => ⟨ds.length - (k + 1), by omega, rfl, hlt, z⟩, fun v H2 hy => ?_⟩
      obtain ⟨e, is2⟩ := yld k v H2 _ hy hd
      subst e
      refine pt.conn A' is2 (turn k _ ss' hd q') fun σ3 ss3 A3 _ q3 => ?_
      refine ⟨O', Hs', ss3, _, Ed, A3, q3, er, ?_⟩
      exact ⟨fun σ4 O4 Hs4 H4 ss4 z A4 q4 => ⟨O4, Hs4, ss4, A4, s'.trans z, q4⟩, fun σ4 O4 Hs4 H4 ss4 z A4 q4 => gc.nx σ4 O4 Hs4 H4 ss4 (s'.trans z) A4 q4, fun σ4 O4 Hs4 H4 ss4 z A4 q4 => ⟨O4, Hs4, ss4, A4, s'.trans z, q4⟩, gc.rt, gc.ro⟩
    · have e : k = ds.length := by omega
      subst e
      exact .inl ⟨stop _ (Nat.le_refl _), gc.nx σ' O' Hs' H' ss' s' A' (fin ss' q')⟩
  · exact h.elim
theorem d_forOwnE {e : Expr} {body : List Stmt} {p0 pos pos' tpos : Pos} {elts : List Expr} {kk : Nat} {i : Nat} {pt : Pat} {tb : TSD} (hp : PassesOwn (model X.prog X.w) X.A X.env X.xe) (hc : X.calm = true) (hm : X.mg "enumerate" = none) (hi : PE X e (tVar i)) (hg : DG X (.Tuple elts kk tpos) pt) (hb : DSs X c body tb)
    (hgl : Gl X "enumerate" := by rfl) (hs0 : starEach [e] X.env = [(false, eval e X.env)] := by rfl) (hs1 : starEach [e] X.env = (false, eval e X.env) :: starEach [] X.env := by rfl)
    (hs : ∀ x, foldedSetIterable (.Call (.Name "enumerate" p0) [e] [] pos') X.env x = pure x := by intro _; rfl) : DS X c (.For (.Tuple elts kk tpos) (.Call (.Name "enumerate" p0) [e] [] pos') body [] pos) (tdForOwn i true pt tb) := by
  refine ps_imp (ps_for hp hc (pi_enum hgl hm (pa_cons hi pa_nil hs1) hs0) hg hb hs) fun Dn σ H q => ?_
  obtain ⟨O, Hs, ss, En, Ed, A, h, er, gc⟩ := q
  unfold tdForOwn at h
  split at h
  · rename_i p ds hds
    obtain ⟨I, i0, keep, turn, fin⟩ := h
    simp only [if_true] at turn
    have hsl := A.sl i
    rw [hds] at hsl
    obtain ⟨xs, e1, _, h2, _⟩ := hsl
    refine ⟨_, e1, p, xs, rfl, .inl (.inl h2), fun k m σ' H' => m = ds.length - k ∧ k ≤ ds.length ∧ ∃ O' Hs' ss', Abs X.K c O' Hs' H' σ' ss' ∧ Same Hs Hs' ∧ I k ss', ⟨_, rfl, Nat.zero_le _, O, Hs, ss, A, .refl _, i0⟩, ?_⟩
    rintro k m σ' H' ⟨rfl, hk, O', Hs', ss', A', s', q'⟩
    obtain ⟨ys, k1, k2, _⟩ := own_at A' (keep k ss' q')
    by_cases hlt : k < ds.length
    · have hd : ds[k]? = some ds[k] := List.getElem?_eq_getElem hlt
      obtain ⟨x, hx, ix⟩ := k2.get hd
      refine .inr ⟨⟨ys, x, .inl (.inl k1), hx⟩, fun σ2 H2 => ∃ O2 Hs2 ss2, Abs X.K c O2 Hs2 H2 σ2 ss2 ∧ Same Hs Hs2 ∧ I (k + 1) ss2, fun σ2 H2 z => ⟨ds.length - (k + 1), by omega, rfl, hlt, z⟩, fun v H2 hy => ?_⟩
      obtain ⟨T, x', e, nT, e2, y⟩ := hy
      subst e; subst e2
      have hx' := y ys (.inl (.inl k1))
      rw [hx] at hx'
      cases hx'
      have L := Ext.laid (Z := Z0 O') (o := .tup [.int (k : Nat), x]) A'.sub nT
      have is2 : Is X.K (upd Hs' T (.tup [.int (k : Nat), x])) (.tup [.int (k : Nat), ds[k]]) (.ref T) := ⟨T, _, rfl, .inl (.inl upd_same), .int (k : Nat), _, rfl, rfl, x, _, rfl, ix.same L.fz, rfl⟩
      have hen : (enumD 0 ds)[k]? = some (.tup [.int (k : Nat), ds[k]]) := by
        have hl : k < (enumD 0 ds).length := by rw [enumD_len]; exact hlt
        have h0 : (enumD 0 ds)[k]? = some (enumD 0 ds)[k] := List.getElem?_eq_getElem hl
        obtain ⟨z, hz, ez⟩ := enumD_get h0
        rw [hd] at hz
        cases hz
        rw [h0, ez, Nat.zero_add]
      refine pt.conn (A'.next L) is2 (turn k _ ss' hen q') fun σ3 ss3 A3 _ q3 => ?_
      refine ⟨O', _, ss3, _, Ed, A3, q3, er, ?_⟩
      exact ⟨fun σ4 O4 Hs4 H4 ss4 z A4 q4 => ⟨O4, Hs4, ss4, A4, (s'.trans L.fz).trans z, q4⟩, fun σ4 O4 Hs4 H4 ss4 z A4 q4 => gc.nx σ4 O4 Hs4 H4 ss4 ((s'.trans L.fz).trans z) A4 q4, fun σ4 O4 Hs4 H4 ss4 z A4 q4 => ⟨O4, Hs4, ss4, A4, (s'.trans L.fz).trans z, q4⟩, gc.rt, gc.ro⟩
    · have e : k = ds.length := by omega
      subst e
      exact .inl ⟨⟨ys, .inl (.inl k1), by rw [k2.len]; exact Nat.le_refl _⟩, gc.nx σ' O' Hs' H' ss' s' A' (fin ss' q')⟩
  · exact h.elim
end
end DL
set_option Elab.async false
set_option linter.all false
set_option maxRecDepth 100000
set_option maxHeartbeats 4000000
/-! DH: list comprehensions over data; a def's promise; what is never reached -/
namespace DL
open PySem PySem.Spec PyProof.Rows L2
section
variable {X : Cx} {c : Cn} {tg : Expr}
/-! ### a list that is being made, in no slot -/
theorem Ext.put {Z : Addr → Prop} {Hs H Hs' H' : Hp} {p : Addr} {o : HO} (e : Ext Z Hs H Hs' H') (n : H p = none) (np : Hs' p = none) : Ext Z Hs H Hs' (upd H' p o) where
  fz := e.fz
  sub := fun b u h => by rw [upd_ne (ne_of_none h np)]; exact e.sub _ _ h
  keep := fun b u z h => by rw [upd_ne (ne_of_none h n)]; exact e.keep b u z h
  live := fun b h => by
    by_cases hb : b = p
    · subst hb; exact absurd n h
    · rw [upd_ne hb]; exact e.live b h
  new := e.new
  pool := fun b l z q => by
    obtain ⟨ns', x', y', w', k1, k2, k3⟩ := e.pool b l z q
    obtain ⟨_, _, _, _, h1, _⟩ := q
    exact ⟨ns', x', y', w', by rw [upd_ne (ne_of_none h1 n)]; exact k1, k2, k3⟩
/-! ### the block's own names -/
def wipeD (ss : List Sl) : List Nat → List Sl
  | [] => ss
  | v :: vs => put (wipeD ss vs) v .un
theorem Abs.wipe {K c O Hs H σ ss} (A : Abs K c O Hs H σ ss) : ∀ vs : List Nat, Abs K c O Hs H (L2.wipe σ vs) (wipeD ss vs)
  | [] => A
  | v :: vs => (A.wipe vs).lose
theorem wipe_eq {σ τ : L2.St} {vs : List Nat} (hl : σ.length = τ.length) (h : ∀ j, j ∉ vs → σ[j]? = τ[j]?) : L2.wipe σ vs = L2.wipe τ vs := by
  have key : ∀ (ρ : L2.St) (j : Nat), j ∈ vs → j < ρ.length → (L2.wipe ρ vs)[j]? = some none := by
    intro ρ j
    clear hl h
    induction vs with
    | nil => intro m; cases m
    | cons v vs ih =>
      intro m l
      unfold L2.wipe
      by_cases e : v = j
      · subst e
        rw [List.getElem?_set_self (by rw [wipe_length]; exact l)]
      · rw [List.getElem?_set_ne e]
        exact ih ((List.mem_cons.mp m).resolve_left fun z => e z.symm) l
  refine List.ext_getElem? fun j => ?_
  by_cases m : j ∈ vs
  · by_cases l : j < σ.length
    · rw [key σ j m l, key τ j m (by omega)]
    · rw [List.getElem?_eq_none (by rw [wipe_length]; omega), List.getElem?_eq_none (by rw [wipe_length]; omega)]
  · rw [wipe_out m, wipe_out m]
    exact h j m
/-- I: what holds of the new list ahead of each turn -/
def toLc (ti : TID) (p : Pat) (tt : TTD) (te : TD) (vs : List Nat) : TOD := fun ss Q Ed => ti ss (fun items => items.length < sizeLine ∧ ∃ I : Nat → List D → Prop, I 0 [] ∧
  (∀ i d acc, items[i]? = some d → I i acc → p.gd d (wipeD ss vs) fun ss2 => tt ss2 (fun b => if b = true then te ss2 (fun y => I (i + 1) (acc ++ [y])) Ed else I (i + 1) acc) Ed) ∧ ∀ acc, I items.length acc → Q acc) Ed
/-- tests of a clause -/
abbrev DTs (X : Cx) (c : Cn) (ifs : List Expr) (t : TTD) : Prop := PTs X ifs (liftT c X.K t)
def tdYes : TTD := fun _ Q _ => Q true
theorem dts_nil : DTs X c [] tdYes := ⟨fun pins s σ H Q I q => by
  obtain ⟨O, Hs, ss, Qd, Ed, A, h, er, g⟩ := q
  exact pts_nil.run pins s σ H Q I (g true Hs H (.refl A.sub) h)⟩
theorem dts_one {e : Expr} {t : TTD} (h : DT X c e t) : DTs X c [e] t := pts_one h
section
variable {elt iter : Expr} {ifs : List Expr} {scope : Scope} {own : List (Str × Nat)} {pos : Pos} {ti : TID} {p : Pat} {tt : TTD} {te : TD}
theorem lc_run (hsub : ∀ j ∈ p.vs, j ∈ own.map (·.2)) : ∀ σ H Q, liftO c X.K (toLc ti p tt te (own.map (·.2))) σ H Q → tLc (liftI c X.K ti) (p.tg X.K) (liftT c X.K tt) (lift c X.K te) (own.map (·.2)) σ H Q := by
  intro σ H Q q
  obtain ⟨O, Hs, ss, Qd, Ed, A, h, er, gc⟩ := q
  refine ⟨O, Hs, ss, _, Ed, A, h, er, fun items J Hs1 H1 x1 hJ q1 => ?_⟩
  obtain ⟨hlen, I, i0, turn, fin⟩ := q1
  intro D nD
  have A1 := A.next x1
  have nD1 : Hs1 D = none := by
    cases z : Hs1 D with
    | none => rfl
    | some u => rw [A1.sub _ _ z] at nD; cases nD
  have oD : O D = none := by
    cases z : O D with
    | none => rfl
    | some k => exact absurd nD (A1.live D (by rw [z]; exact fun z => nomatch z))
  refine ⟨fun i m H2 => m = items.length - i ∧ i ≤ items.length ∧ ∃ Hs2 xs acc, Ext (Z0 O) Hs1 H1 Hs2 H2 ∧ Hs2 D = none ∧ H2 D = some (.lst xs) ∧ IsA X.K Hs2 acc xs ∧ acc.length ≤ i ∧ I i acc, ⟨_, rfl, Nat.zero_le _, Hs1, [], [], Ext.grow x1.sub nD, nD1, upd_same, rfl, Nat.le_refl _, i0⟩, ?_⟩
  rintro i m H2 ⟨rfl, hi, Hs2, xs, acc, x2, n2, h2, h3, h4, q2⟩
  by_cases hlt : i < items.length
  · have hd : items[i]? = some items[i] := List.getElem?_eq_getElem hlt
    refine .inr ⟨hJ.go i Hs2 H2 x2.fz x2.sub hlt, fun H5 => ∃ Hs5 xs5 acc5, Ext (Z0 O) Hs1 H1 Hs5 H5 ∧ Hs5 D = none ∧ H5 D = some (.lst xs5) ∧ IsA X.K Hs5 acc5 xs5 ∧ acc5.length ≤ i + 1 ∧ I (i + 1) acc5, fun H5 z => ⟨items.length - (i + 1), by omega, rfl, hlt, z⟩, fun v H3 hy => ?_⟩
    obtain ⟨Hs3, x3, is3⟩ := hJ.yld i Hs2 H2 v H3 _ x2.fz x2.sub hy hd
    have x13 := x2.trans (x3 (Z0 O))
    have A3 := (A1.next x13).wipe (own.map (·.2))
    have D3 : H3 D = some (.lst xs) := (x3 (Z0 O)).keep D _ (fun z => by have z : O D = some 0 := z; rw [oD] at z; cases z) h2
    have n3 : Hs3 D = none := (x3 (Z0 O)).new D n2 (by rw [h2]; exact fun z => nomatch z)
    refine p.conn A3 is3 (turn i _ acc hd q2) fun σ4 ss4 A4 k4 q4 => ⟨?_, ?_⟩
    · have l0 : (L2.wipe σ (own.map (·.2))).length = σ.length := wipe_length _ _
      have e1 : L2.wipe σ4 (own.map (·.2)) = L2.wipe (L2.wipe σ (own.map (·.2))) (own.map (·.2)) := wipe_eq k4.1 fun j hj => k4.2 j fun m => hj (hsub j m)
      have e2 : L2.wipe (L2.wipe σ (own.map (·.2))) (own.map (·.2)) = L2.wipe σ (own.map (·.2)) := wipe_eq l0 fun j hj => wipe_out hj
      exact e1.trans e2
    · refine ⟨O, Hs3, ss4, _, Ed, A4, q4, er, fun b Hs5 H5 x5 q5 => ?_⟩
      have x15 := x13.trans x5
      have D5 : H5 D = some (.lst xs) := x5.keep D _ (fun z => by have z : O D = some 0 := z; rw [oD] at z; cases z) D3
      have n5 : Hs5 D = none := x5.new D n3 (by rw [D3]; exact fun z => nomatch z)
      cases b with
      | true =>
        simp only [if_true] at q5
        refine iteT ⟨O, Hs5, ss4, _, Ed, A4.next x5, q5, er, fun y w Hs6 H6 x6 i6 q6 => ?_⟩
        have D6 : H6 D = some (.lst xs) := x6.keep D _ (fun z => by have z : O D = some 0 := z; rw [oD] at z; cases z) D5
        have n6 : Hs6 D = none := x6.new D n5 (by rw [D5]; exact fun z => nomatch z)
        have h6 := h3.same ((((x3 (Z0 O)).trans x5).trans x6).fz)
        exact ⟨xs, D6, by rw [h3.len]; omega, Hs6, _, _, (x15.trans x6).put nD n6, n6, upd_same, h6.app (.one i6), by rw [List.length_append]; show acc.length + 1 ≤ i + 1; omega, q6⟩
      | false =>
        simp only [Bool.false_eq_true, if_false] at q5
        exact iteF ⟨Hs5, xs, acc, x15, n5, D5, h3.same (((x3 (Z0 O)).trans x5).fz), by omega, q5⟩
  · have e : i = items.length := by omega
    subst e
    have n0 : H D = none := by
      cases z : H D with
      | none => rfl
      | some u => exact absurd nD (x1.live D (by rw [z]; exact fun z => nomatch z))
    exact .inl ⟨hJ.stop _ Hs2 H2 x2.fz x2.sub rfl, gc acc D xs Hs2 H2 (x1.trans x2) n0 n2 h2 h3 (fin acc q2)⟩
theorem do_lc (hc : X.calm = true) (hN : X.N.Nodup) (hi : DI X c tg iter ti) (ok : BlkOk X.N X.env.scope scope own)
    (hg : ∀ (s : Shared) (H : Hp) (C : Addr) (cl : List (Str × Addr)) (fp : List Addr), DG (X.blk s H scope (compEnvC scope cl C X.env) fp) tg p) (ht : ∀ (s : Shared) (H : Hp) (C : Addr) (cl : List (Str × Addr)) (fp : List Addr), DTs (X.blk s H scope (compEnvC scope cl C X.env) fp) c ifs tt)
    (he : ∀ (s : Shared) (H : Hp) (C : Addr) (cl : List (Str × Addr)) (fp : List Addr), DE (X.blk s H scope (compEnvC scope cl C X.env) fp) c elt te) (hsub : ∀ j ∈ p.vs, j ∈ own.map (·.2) := by decide) (hs : ∀ x, foldedSetIterable iter X.env x = pure x := by intro _; rfl) :
    DO X c (.ListComp elt [⟨tg, iter, ifs, 0⟩] scope pos) (toLc ti p tt te (own.map (·.2))) := pe_imp (pe_lc hc hN hi ok hg ht he hs) (lc_run hsub)
end
end
end DL
/-! LRat: exact numbers, plain mathematics over Rat (core Lean alone). -/
namespace LR

/-- numerator and denominator below 2 ^ b -/
def Sz (b : Nat) (q : Rat) : Prop := q.num.natAbs < 2 ^ b ∧ q.den < 2 ^ b

theorem Sz.mono {a b : Nat} {q : Rat} (h : Sz a q) (e : a ≤ b) : Sz b q :=
  ⟨Nat.lt_of_lt_of_le h.1 (Nat.pow_le_pow_right (by decide) e), Nat.lt_of_lt_of_le h.2 (Nat.pow_le_pow_right (by decide) e)⟩

theorem den_pos (q : Rat) : 0 < q.den := Nat.pos_of_ne_zero q.den_nz

/-- the sign of a denominator times the common divisor: what `ratio` divides by -/
def sdiv (n d : Int) : Int := if d < 0 then -((Nat.gcd n.natAbs d.natAbs : Nat) : Int) else ((Nat.gcd n.natAbs d.natAbs : Nat) : Int)

theorem gcd_pos {n d : Int} (hd : d ≠ 0) : 0 < Nat.gcd n.natAbs d.natAbs := Nat.gcd_pos_of_pos_right _ (Int.natAbs_pos.mpr hd)

theorem sdiv_ne {n d : Int} (hd : d ≠ 0) : sdiv n d ≠ 0 := by
  have h := gcd_pos (n := n) hd
  unfold sdiv
  split <;> omega

theorem sdiv_abs (n d : Int) : (sdiv n d).natAbs = Nat.gcd n.natAbs d.natAbs := by
  unfold sdiv
  split <;> omega

theorem fdiv_neg_of_dvd {a g : Int} (h : g ∣ a) : a.fdiv (-g) = -(a / g) := by
  rw [Int.fdiv_eq_ediv_of_dvd (Int.neg_dvd.mpr h), Int.ediv_neg]

theorem sdiv_num {n d : Int} (hd : d ≠ 0) : n.fdiv (sdiv n d) = (Rat.divInt n d).num := by
  have g1 : ((Nat.gcd n.natAbs d.natAbs : Nat) : Int) ∣ n := Int.ofNat_dvd_left.mpr (Nat.gcd_dvd_left _ _)
  have e : (d.gcd n : Int) = ((Nat.gcd n.natAbs d.natAbs : Nat) : Int) := by
    show ((Nat.gcd d.natAbs n.natAbs : Nat) : Int) = _
    rw [Nat.gcd_comm]
  rw [Rat.num_divInt, e]
  unfold sdiv
  split
  · rename_i h
    rw [fdiv_neg_of_dvd g1, Int.sign_eq_neg_one_of_neg h, Int.neg_one_mul, Int.neg_ediv_of_dvd g1]
  · rename_i h
    rw [Int.fdiv_eq_ediv_of_nonneg _ (Int.natCast_nonneg _), Int.sign_eq_one_of_pos (by omega), Int.one_mul]

theorem sdiv_den {n d : Int} (hd : d ≠ 0) : d.fdiv (sdiv n d) = ((Rat.divInt n d).den : Int) := by
  have g1 : ((Nat.gcd n.natAbs d.natAbs : Nat) : Int) ∣ d := Int.ofNat_dvd_left.mpr (Nat.gcd_dvd_right _ _)
  have e : d.gcd n = Nat.gcd n.natAbs d.natAbs := by
    show Nat.gcd d.natAbs n.natAbs = _
    rw [Nat.gcd_comm]
  rw [Rat.den_divInt, if_neg hd, e, Int.natCast_ediv]
  unfold sdiv
  split
  · rename_i h
    rw [fdiv_neg_of_dvd g1, ← Int.neg_ediv_of_dvd g1]
    congr 1
    omega
  · rename_i h
    rw [Int.fdiv_eq_ediv_of_nonneg _ (Int.natCast_nonneg _)]
    congr 1
    omega

theorem num_le (n d : Int) : (Rat.divInt n d).num.natAbs ≤ n.natAbs := by
  by_cases hd : d = 0
  · subst hd
    rw [Rat.divInt_zero]
    exact Nat.zero_le _
  · rw [Rat.num_divInt, Int.natAbs_ediv_of_dvd]
    · rw [Int.natAbs_mul, Int.natAbs_sign_of_ne_zero hd, Nat.one_mul]
      exact Nat.div_le_self _ _
    · refine Int.dvd_mul_of_dvd_right ?_
      exact Int.gcd_dvd_right _ _
theorem den_le {n d : Int} (hd : d ≠ 0) : (Rat.divInt n d).den ≤ d.natAbs := by
  rw [Rat.den_divInt, if_neg hd]
  exact Nat.div_le_self _ _

theorem sz_divInt {n d : Int} {b : Nat} (hd : d ≠ 0) (h1 : n.natAbs < 2 ^ b) (h2 : d.natAbs < 2 ^ b) : Sz b (Rat.divInt n d) :=
  ⟨Nat.lt_of_le_of_lt (num_le n d) h1, Nat.lt_of_le_of_lt (den_le hd) h2⟩

/-! ### the operations, as `ratio` is asked for them -/
theorem add_as (p q : Rat) : p + q = Rat.divInt (p.num * q.den + q.num * p.den) (p.den * q.den) := by
  rw [Rat.add_def', ← Int.natCast_mul, Rat.divInt_ofNat]
theorem sub_as (p q : Rat) : p - q = Rat.divInt (p.num * q.den - q.num * p.den) (p.den * q.den) := by
  rw [Rat.sub_def', ← Int.natCast_mul, Rat.divInt_ofNat]
theorem mul_as (p q : Rat) : p * q = Rat.divInt (p.num * q.num) (p.den * q.den) := by
  rw [Rat.mul_def', ← Int.natCast_mul, Rat.divInt_ofNat]
theorem div_as (p q : Rat) : p / q = Rat.divInt (p.num * q.den) (p.den * q.num) := by
  rw [Rat.div_def, Rat.inv_def]
  conv => lhs; lhs; rw [← Rat.num_divInt_den p]
  rw [Rat.divInt_mul_divInt]

theorem mul_lt {x y : Nat} {a b : Nat} (hx : x < 2 ^ a) (hy : y < 2 ^ b) : x * y < 2 ^ (a + b) := by
  rw [Nat.pow_add]
  exact Nat.mul_lt_mul'' hx hy
theorem add_lt {x y c : Nat} (hx : x < 2 ^ c) (hy : y < 2 ^ c) : x + y < 2 ^ (c + 1) := by
  rw [Nat.pow_succ]
  omega
theorem den_ne (p q : Rat) : ((p.den : Int) * q.den) ≠ 0 := by
  have h1 := den_pos p
  have h2 := den_pos q
  rw [← Int.natCast_mul]
  have h3 := Nat.mul_pos h1 h2
  omega
theorem Sz.add {a b : Nat} {p q : Rat} (hp : Sz a p) (hq : Sz b q) : Sz (a + b + 1) (p + q) := by
  rw [add_as]
  refine sz_divInt (den_ne p q) ?_ ?_
  · refine Nat.lt_of_le_of_lt (Int.natAbs_add_le _ _) (add_lt ?_ ?_)
    · rw [Int.natAbs_mul, Int.natAbs_natCast]
      exact mul_lt hp.1 hq.2
    · rw [Int.natAbs_mul, Int.natAbs_natCast, Nat.add_comm a b]
      exact mul_lt hq.1 hp.2
  · rw [Int.natAbs_mul, Int.natAbs_natCast, Int.natAbs_natCast]
    exact Nat.lt_of_lt_of_le (mul_lt hp.2 hq.2) (Nat.pow_le_pow_right (by decide) (by omega))
theorem Sz.sub {a b : Nat} {p q : Rat} (hp : Sz a p) (hq : Sz b q) : Sz (a + b + 1) (p - q) := by
  rw [sub_as]
  refine sz_divInt (den_ne p q) ?_ ?_
  · refine Nat.lt_of_le_of_lt (by rw [Int.sub_eq_add_neg]; exact Int.natAbs_add_le _ _) (add_lt ?_ ?_)
    · rw [Int.natAbs_mul, Int.natAbs_natCast]
      exact mul_lt hp.1 hq.2
    · rw [Int.natAbs_neg, Int.natAbs_mul, Int.natAbs_natCast, Nat.add_comm a b]
      exact mul_lt hq.1 hp.2
  · rw [Int.natAbs_mul, Int.natAbs_natCast, Int.natAbs_natCast]
    exact Nat.lt_of_lt_of_le (mul_lt hp.2 hq.2) (Nat.pow_le_pow_right (by decide) (by omega))
theorem Sz.mul {a b : Nat} {p q : Rat} (hp : Sz a p) (hq : Sz b q) : Sz (a + b) (p * q) := by
  rw [mul_as]
  refine sz_divInt (den_ne p q) ?_ ?_
  · rw [Int.natAbs_mul]
    exact mul_lt hp.1 hq.1
  · rw [Int.natAbs_mul, Int.natAbs_natCast, Int.natAbs_natCast]
    exact mul_lt hp.2 hq.2
theorem num_ne {q : Rat} (h : q ≠ 0) : q.num ≠ 0 := fun e => h (Rat.num_eq_zero.mp e)
theorem div_den_ne {p q : Rat} (h : q ≠ 0) : ((p.den : Int) * q.num) ≠ 0 := Int.mul_ne_zero (by have := den_pos p; omega) (num_ne h)
theorem Sz.div {a b : Nat} {p q : Rat} (hp : Sz a p) (hq : Sz b q) (h : q ≠ 0) : Sz (a + b) (p / q) := by
  rw [div_as]
  refine sz_divInt (div_den_ne h) ?_ ?_
  · rw [Int.natAbs_mul, Int.natAbs_natCast]
    exact mul_lt hp.1 hq.2
  · rw [Int.natAbs_mul, Int.natAbs_natCast]
    exact mul_lt hp.2 hq.1
theorem Sz.neg {a : Nat} {p : Rat} (hp : Sz a p) : Sz a (-p) := by
  refine ⟨?_, ?_⟩
  · rw [Rat.neg_num, Int.natAbs_neg]; exact hp.1
  · rw [Rat.neg_den]; exact hp.2
theorem Sz.int {b : Nat} {n : Int} (h0 : 0 < b) (h : n.natAbs < 2 ^ b) : Sz b (n : Rat) := ⟨h, Nat.lt_of_lt_of_le (show 1 < 2 ^ 1 by decide) (Nat.pow_le_pow_right (by decide) h0)⟩

/-! ### floors, remainders -/
theorem floor_divInt {a b : Int} (hb : 0 < b) : (Rat.divInt a b).floor = a / b := by
  have h1 := Rat.floor_le (Rat.divInt a b)
  have h2 := Rat.lt_floor_add_one (Rat.divInt a b)
  have hq : (0 : Rat) < (b : Rat) := Rat.intCast_pos.mpr hb
  rw [Rat.divInt_eq_div] at h1 h2 ⊢
  generalize ((a : Rat) / (b : Rat)).floor = k at h1 h2
  have e1 : (k : Rat) * b ≤ a := by
    have := Rat.mul_le_mul_of_nonneg_right h1 (Rat.le_of_lt hq)
    rwa [Rat.div_mul_cancel (Rat.ne_of_gt hq)] at this
  have e2 : (a : Rat) < ((k + 1 : Int) : Rat) * b := (Rat.div_lt_iff hq).mp h2
  rw [← Rat.intCast_mul, Rat.intCast_le_intCast] at e1
  rw [← Rat.intCast_mul, Rat.intCast_lt_intCast] at e2
  have e3 : a / b = k := by
    refine Int.le_antisymm ?_ ?_
    · exact Int.le_of_lt_add_one (Int.ediv_lt_of_lt_mul hb e2)
    · exact (Int.le_ediv_iff_mul_le hb).mpr e1
  exact e3.symm
/-- the number in [0, m) that differs from p by a multiple of m -/
def rem (p m : Rat) : Rat := p - m * ((p / m).floor : Rat)
theorem rem_as {p m : Rat} (hm : 0 < m) : rem p m = Rat.divInt ((p.num * m.den) % (m.num * p.den)) (p.den * m.den) := by
  have hn : 0 < m.num := by
    have h := Rat.num_nonneg.mpr (Rat.le_of_lt hm)
    have h2 := num_ne (Rat.ne_of_gt hm)
    omega
  have d1 : (0 : Int) < p.den := by have := den_pos p; omega
  have d2 : (0 : Int) < m.den := by have := den_pos m; omega
  have hb : (0 : Int) < p.den * m.num := Int.mul_pos d1 hn
  unfold rem
  rw [div_as, floor_divInt hb, Int.emod_def, Int.mul_comm m.num (p.den : Int)]
  generalize (p.num * ↑m.den) / (↑p.den * m.num) = k
  have q1 : (p.den : Rat) ≠ 0 := by
    have := Rat.natCast_pos.mpr (den_pos p)
    exact Rat.ne_of_gt this
  have q2 : (m.den : Rat) ≠ 0 := by
    have := Rat.natCast_pos.mpr (den_pos m)
    exact Rat.ne_of_gt this
  have ep : p = (p.num : Rat) / (p.den : Rat) := by
    conv => lhs; rw [← Rat.num_divInt_den p, Rat.divInt_eq_div]
    rfl
  have em : m = (m.num : Rat) / (m.den : Rat) := by
    conv => lhs; rw [← Rat.num_divInt_den m, Rat.divInt_eq_div]
    rfl
  rw [Rat.divInt_eq_div]
  conv => lhs; rw [ep]
  conv => lhs; rhs; rw [em]
  simp only [Rat.intCast_sub, Rat.intCast_mul, Rat.intCast_natCast]
  grind
theorem rem_nonneg {p m : Rat} (hm : 0 < m) : 0 ≤ rem p m := by
  have h := Rat.floor_le (p / m)
  have h2 := Rat.mul_le_mul_of_nonneg_left h (Rat.le_of_lt hm)
  have e : m * (p / m) = p := by rw [Rat.mul_comm, Rat.div_mul_cancel (Rat.ne_of_gt hm)]
  rw [e] at h2
  unfold rem
  grind
theorem rem_lt {p m : Rat} (hm : 0 < m) : rem p m < m := by
  have h := Rat.lt_floor_add_one (p / m)
  have h2 := Rat.mul_lt_mul_of_pos_left h hm
  have e : m * (p / m) = p := by rw [Rat.mul_comm, Rat.div_mul_cancel (Rat.ne_of_gt hm)]
  rw [e, Rat.intCast_add] at h2
  unfold rem
  grind
theorem pos_num {m : Rat} (hm : 0 < m) : 0 < m.num := by
  have h := Rat.num_nonneg.mpr (Rat.le_of_lt hm)
  have h2 := num_ne (Rat.ne_of_gt hm)
  omega
theorem num_pos_iff {m : Rat} : 0 < m.num ↔ 0 < m := by
  refine ⟨fun h => ?_, pos_num⟩
  refine Rat.lt_of_le_of_ne (Rat.num_nonneg.mp (Int.le_of_lt h)) ?_
  intro e
  rw [← e] at h
  exact absurd h (by decide)
theorem num_neg_iff {m : Rat} : m.num < 0 ↔ m < 0 := by
  rw [← Rat.not_le, ← Rat.num_nonneg]
  omega
theorem Sz.rem {a b : Nat} {p m : Rat} (hp : Sz a p) (hq : Sz b m) (h : 0 < m) : Sz (a + b) (rem p m) := by
  have hn := pos_num h
  have d1 : (0 : Int) < p.den := by have := den_pos p; omega
  have hb : (0 : Int) < m.num * p.den := Int.mul_pos hn d1
  rw [rem_as h]
  refine sz_divInt (den_ne p m) ?_ ?_
  · have h1 := Int.emod_nonneg (p.num * m.den) (Int.ne_of_gt hb)
    have h2 := Int.emod_lt_of_pos (p.num * m.den) hb
    have h3 : (m.num * p.den).natAbs < 2 ^ (a + b) := by
      rw [Int.natAbs_mul, Int.natAbs_natCast, Nat.add_comm]
      exact mul_lt hq.1 hp.2
    omega
  · rw [Int.natAbs_mul, Int.natAbs_natCast, Int.natAbs_natCast]
    exact mul_lt hp.2 hq.2
end LR
set_option Elab.async false
set_option linter.all false
set_option maxRecDepth 100000
set_option maxHeartbeats 4000000
namespace LR
open PySem PySem.Spec PyProof.Rows L2

/-! ### kinds of values, and numbers among them -/
theorem sqt_ty {K : PySem.W.Frag} {H : Hp} {a : Addr} {xs : List V} (h : SqT K H a xs) : TyX K H (.ref a) (.type "tuple") := by
  rcases h with (h | ⟨o, h⟩) | ⟨o, its, m, hk, hc, _⟩
  · exact .base (.tup h)
  · exact .fTuple h
  · exact .kTuple hk hc
theorem sql_ty {K : PySem.W.Frag} {H : Hp} {a : Addr} {xs : List V} (h : SqL K H a xs) : TyX K H (.ref a) (.type "list") := by
  rcases h with (h | ⟨o, h⟩) | ⟨o, its, m, hk, hc, _⟩
  · exact .base (.lst h)
  · exact .base (.frz h)
  · exact .kList hk hc
theorem same_sqt {K : PySem.W.Frag} {H H' : Hp} {a : Addr} {xs : List V} (s : Same H H') (h : SqT K H a xs) : SqT K H' a xs := by
  rcases h with (h | ⟨o, h⟩) | h
  · exact .inl (.inl (s _ _ h))
  · exact .inl (.inr ⟨o, s _ _ h⟩)
  · exact .inr h
inductive Kd (K : PySem.W.Frag) (H : Hp) : V → String → Prop
  | non : Kd K H .non "NoneType"
  | bl (b : Bool) : Kd K H (.bl b) "bool"
  | int (i : Int) : Kd K H (.int i) "int"
  | str (x : Str) : Kd K H (.str x) "str"
  | lst {a : Addr} {xs : List V} (h : SqL K H a xs) : Kd K H (.ref a) "list"
  | tup {a : Addr} {xs : List V} (h : SqT K H a xs) : Kd K H (.ref a) "tuple"
  | dict {a : Addr} {kvs : List (Key × V)} (h : H a = some (.dK kvs)) : Kd K H (.ref a) "dict"
section
variable {K : PySem.W.Frag} {H H' : Hp} {x : V} {n : String}
theorem Kd.ty (h : Kd K H x n) : TyX K H x (.type n) := by
  cases h with
  | non => exact .base .non
  | bl b => exact .base (.bl b)
  | int i => exact .base (.int i)
  | str z => exact .base (.str z)
  | lst h => exact sql_ty h
  | tup h => exact sqt_ty h
  | dict h => exact .base (.dK h)
theorem Kd.tyB (h : Kd K H x n) : TyB K H x n := by
  cases h with
  | non => exact .non
  | bl b => exact .bl b
  | int i => exact .int i
  | str z => exact .str z
  | lst h => exact .lst h
  | tup h => exact .tup h
  | dict h => exact .dK h
def isI : V → Bool | .int _ => true | _ => false
theorem kd_int (h : Kd K H x n) : PySem.W.kitOne K (.type n) (.type "int") = some (n == "int" || n == "bool") := by
  cases h <;> exact kit_ty (by decide +kernel)
theorem kd_bool (h : Kd K H x n) : PySem.W.kitOne K (.type n) (.type "bool") = some (n == "bool") := by
  cases h <;> exact kit_ty (by decide +kernel)
theorem kd_tuple (h : Kd K H x n) : PySem.W.kitOne K (.type n) (.type "tuple") = some (n == "tuple") := by
  cases h <;> exact kit_ty (by decide +kernel)
theorem kd_list (h : Kd K H x n) : PySem.W.kitOne K (.type n) (.type "list") = some (n == "list") := by
  cases h <;> exact kit_ty (by decide +kernel)
theorem kd_dict (h : Kd K H x n) : PySem.W.kitOne K (.type n) (.type "dict") = some (n == "dict") := by
  cases h <;> exact kit_ty (by decide +kernel)
theorem kd_str (h : Kd K H x n) : PySem.W.kitOne K (.type n) (.type "str") = some (n == "str") := by
  cases h <;> exact kit_ty (by decide +kernel)
theorem kd_isI (h : Kd K H x n) : ((n == "int" || n == "bool") && !(n == "bool")) = isI x := by
  cases h <;> rfl
theorem Kd.same (s : Same H H') (h : Kd K H x n) : Kd K H' x n := by
  cases h with
  | non => exact .non
  | bl b => exact .bl b
  | int i => exact .int i
  | str z => exact .str z
  | lst h => exact .lst (s.seq h)
  | tup h => exact .tup (same_sqt s h)
  | dict h => exact .dict (s _ _ h)
theorem same_new {p : Addr} {o : HO} (h : H p = none) : Same H (upd H p o) := fun b y e => by
  rw [upd_ne (ne_of_none e h)]
  exact e

/-- the two places of a number's tuple -/
abbrev rt (q : Rat) : List V := [.int q.num, .int (q.den : Int)]
def ratOf : List V → Option Rat
  | [.int a, .int d] => if 1 ≤ d ∧ Nat.gcd a.natAbs d.natAbs = 1 then some (Rat.divInt a d) else none
  | _ => none
theorem ratOf_rt (q : Rat) : ratOf (rt q) = some q := by
  have h1 : (1 : Int) ≤ (q.den : Int) := by have := den_pos q; omega
  have h2 : Nat.gcd q.num.natAbs ((q.den : Int)).natAbs = 1 := q.reduced
  show (if 1 ≤ (q.den : Int) ∧ Nat.gcd q.num.natAbs ((q.den : Int)).natAbs = 1 then some (Rat.divInt q.num q.den) else none) = some q
  rw [if_pos ⟨h1, h2⟩, Rat.num_divInt_den]
theorem ratOf_some {xs : List V} {q : Rat} (h : ratOf xs = some q) : xs = rt q := by
  unfold ratOf at h
  split at h
  · rename_i a d
    split at h
    · rename_i c
      obtain ⟨c1, c2⟩ := c
      have e := Option.some.inj h
      subst e
      have g : d.gcd a = 1 := by
        show Nat.gcd d.natAbs a.natAbs = 1
        rw [Nat.gcd_comm]
        exact c2
      have e1 : (Rat.divInt a d).num = a := by
        rw [Rat.num_divInt, g, Int.sign_eq_one_of_pos (by omega)]
        simp
      have e2 : ((Rat.divInt a d).den : Int) = d := by
        rw [Rat.den_divInt, if_neg (by omega), g]
        simp
        omega
      show [V.int a, V.int d] = [V.int (Rat.divInt a d).num, V.int ((Rat.divInt a d).den : Int)]
      rw [e1, e2]
    · cases h
  · cases h
/-- an argument in the place of a number: some q where it is one -/
inductive Arg (K : PySem.W.Frag) (H : Hp) : V → Option Rat → Prop
  | int (i : Int) : Arg K H (.int i) (some (i : Rat))
  | tup {a : Addr} {xs : List V} {o : Option Rat} (h : SqT K H a xs) (k : xs.length = 2 → ∀ x ∈ xs, ∃ n, Kd K H x n) (e : ratOf xs = o) : Arg K H (.ref a) o
  | oth {x : V} {n : String} (h : Kd K H x n) (h1 : (n == "int") = false) (h2 : (n == "tuple") = false) : Arg K H x none
abbrev Num (K : PySem.W.Frag) (H : Hp) (x : V) (q : Rat) : Prop := Arg K H x (some q)
/-- a result: a tuple of the number's two places -/
def Rn (K : PySem.W.Frag) (H : Hp) (x : V) (q : Rat) : Prop := ∃ a, x = .ref a ∧ SqT K H a (rt q)
theorem Rn.num {q : Rat} (h : Rn K H x q) : Num K H x q := by
  obtain ⟨a, rfl, h⟩ := h
  refine .tup h (fun _ y hy => ?_) (ratOf_rt q)
  rcases List.mem_cons.mp hy with e | hy
  · exact ⟨"int", by rw [e]; exact .int _⟩
  · rcases List.mem_cons.mp hy with e | hy
    · exact ⟨"int", by rw [e]; exact .int _⟩
    · cases hy
theorem Arg.same {o : Option Rat} (s : Same H H') (h : Arg K H x o) : Arg K H' x o := by
  cases h with
  | int i => exact .int i
  | tup h k e => exact .tup (same_sqt s h) (fun l y hy => let ⟨m, z⟩ := k l y hy; ⟨m, z.same s⟩) e
  | oth h h1 h2 => exact .oth (h.same s) h1 h2
theorem Rn.same {q : Rat} (s : Same H H') (h : Rn K H x q) : Rn K H' x q := let ⟨a, e, z⟩ := h; ⟨a, e, same_sqt s z⟩
theorem Num.kinds {q : Rat} (h : Num K H x q) : (x = .int q.num ∧ q.den = 1) ∨ Rn K H x q := by
  cases h with
  | int i => exact .inl ⟨rfl, rfl⟩
  | tup h k e => exact .inr ⟨_, rfl, ratOf_some e ▸ h⟩
theorem Rn.mk {q : Rat} {p : Addr} : Rn K (upd H p (.tup (rt q))) (.ref p) q := ⟨p, rfl, .inl (.inl upd_same)⟩
theorem num_int (i : Int) : Num K H (.int i) (i : Rat) := .int i
end

/-! ### operations on great ints -/
def CDivA (_ j : Int) : Prop := j ≠ 0 ∧ j.natAbs.log2 < 9000
section
variable {X : Cx}
theorem op_fdivA : OpR X (binaryOp .FloorDiv) (rI CDivA fun i j => .int (i.fdiv j)) := opI fun i j _ _ _ _ _ hc q =>
  floordiv_int hc.1 q (.inl (PyProof.noPylong_of_log2 hc.2))
end
theorem divA {i j : Int} {b : Nat} (h : j ≠ 0) (hb : j.natAbs < 2 ^ b) (h0 : 0 < b) (h9 : b ≤ 9000) : CDivA i j := ⟨h, Nat.lt_of_lt_of_le (PySem.Flt.log2_lt_of h0 hb) h9⟩

/-! ### raise X(), no argument -/
section
variable {X : Cx} {C : Addr} {bmB : List Value} {B newId initId : String}
theorem pmk_own0 {x : Str} {p pos : Pos} (F : ExcBaseFacts B newId initId bmB) (q : PySem.W.excIn X.K C bmB newId = true) (gC : X.mg x = some (.ref C)) (kC : PySem.W.keepIn X.K (.ref C) = true) (r : Raises X (.ref C)) (hg : Gl X x)
    (hdb : (x == ("__debug__" : Str)) = false := by decide) : PMk X (.Call (.Name x p) [] [] pos) (fun _ H Q => Q (.ref C) none H) := by
  intro pins s σ H Q I h
  refine wpAny_Call_Name_kw (ld_glob I hg gC ?_ hdb)
  refine PySem.W.callWith_K0 I.kIn kC ?_
  obtain ⟨bm, N, nm, qn, bs, hdct, sn, sub, ab, col, dd, k0, k1, k2, k3, k5, mN, hC, hN, hni, T⟩ := exc_obj I.kIn q
  refine wpAny_call_exc_subT F T hC hN hni (fun h' e hm => ?_) (Nat.zero_le _)
  exact mk_of I hm r h (I.hok.gone hm.new)
end

/-- the same where the exception's context is told, and its record -/
theorem pmk5_own0 {X : Cx} {C : Addr} {bmB : List Value} {B newId initId : String} {x : Str} {p pos : Pos} (F : ExcBaseFacts B newId initId bmB) (q : PySem.W.excIn X.K C bmB newId = true) (gC : X.mg x = some (.ref C)) (kC : PySem.W.keepIn X.K (.ref C) = true) (r : Raises X (.ref C)) (hg : Gl X x)
    (hdb : (x == ("__debug__" : Str)) = false := by decide) : L2H.PMk5 X (.Call (.Name x p) [] [] pos) (fun _ H Q => Q (.ref C) none H) := by
  intro pins s σ H Q I h
  refine wpAny_Call_Name_kw (ld_glob I hg gC ?_ hdb)
  refine PySem.W.callWith_K0 I.kIn kC ?_
  obtain ⟨bm, N, nm, qn, bs, hdct, sn, sub, ab, col, dd, k0, k1, k2, k3, k5, mN, hC, hN, hni, T⟩ := exc_obj I.kIn q
  exact wpAny_call_exc_subT F T hC hN hni (fun h' e hm => L2H.mk_of5 I hm r h (I.hok.gone hm.new)) (Nat.zero_le _)

/-! ### the text: defs and error classes as the top has left them -/
/-- a def of the text (no defaults) under its name -/
structure DefAt (K : PySem.W.Frag) (mg : Str → Option Value) (x : Str) (st : Stmt) (ps : List Str) (f : Addr) (fd : FuncData) : Prop where
  F : Fun K x x st f fd
  g : mg x = some (.ref f)
  b : Binds K fd ps []
/-- an own error class without __init__ over the built-in class whose new is named, bm its line of bases -/
structure ErrAt (K : PySem.W.Frag) (mg : Str → Option Value) (x : Str) (bm : List Value) (newId : String) (C : Addr) : Prop where
  g : mg x = some (.ref C)
  k : PySem.W.keepIn K (.ref C) = true
  q : PySem.W.excIn K C bm newId = true
  b : PySem.W.subIn K (.ref C) (.type "BaseException") = some true
  t : PySem.W.typeIn K (.ref C) = some (.type "type")
theorem ErrAt.mk0 {X : Cx} {x : Str} {bm : List Value} {B newId initId : String} {C : Addr} {p pos : Pos} (T : ErrAt X.K X.mg x bm newId C) (F : ExcBaseFacts B newId initId bm) (hg : Gl X x) (hdb : (x == ("__debug__" : Str)) = false := by decide) :
    PMk X (.Call (.Name x p) [] [] pos) (fun _ H Q => Q (.ref C) none H) := pmk_own0 F T.q T.g T.k (raises_own T.b T.t) hg hdb
theorem ErrAt.mk5 {X : Cx} {x : Str} {bm : List Value} {B newId initId : String} {C : Addr} {p pos : Pos} (T : ErrAt X.K X.mg x bm newId C) (F : ExcBaseFacts B newId initId bm) (hg : Gl X x) (hdb : (x == ("__debug__" : Str)) = false := by decide) :
    L2H.PMk5 X (.Call (.Name x p) [] [] pos) (fun _ H Q => Q (.ref C) none H) := pmk5_own0 F T.q T.g T.k (raises_own T.b T.t) hg hdb
/-! ### what a def lets out whose exceptions have no context -/
section
variable {P : Program} {w : World} {K : PySem.W.Frag} {mg : Str → Option Value} {base : Heap} {k : Nat} {f : Addr} {fd : FuncData} {ps : List Str} {sp : Sp}
abbrev CXn (P : Program) (w : World) : CXT := L2N.CX P w
theorem cxn_up {outer : List Env} {H : Hp} {s : Shared} {E : XK} {u : Value} {s' : Shared} (h : CXn P w outer H s E u s') : L2.CX P w outer H s E u s' := by
  obtain ⟨a, B, H', cls, d, e, fl, r⟩ := h
  exact ⟨a, B, H', cls, d, e, L2H.flyingZ_imp (fun _ z => z.zc) fl, r⟩
theorem up (F : FnOk P w K mg base (CXn P w) k f fd ps sp) : FnOk P w K mg base (L2.CX P w) k f fd ps sp :=
  ⟨F.len, fun A outer s H args us vs Q E hr e0 hb hv hs => codeAny_mono (F.run A outer s H args us vs Q E hr e0 hb hv hs) fun r s' h => by
    cases r with
    | error e => exact cxn_up h
    | ok fl => cases fl <;> exact h⟩
theorem _root_.L2.Fun.okN {x qual : Str} {st : Stmt} {N : List Str} (F : Fun K x qual st f fd) (S : FnScope N ps (defScope st)) (len : ∀ vs H Q E, sp vs H Q E → vs.length = ps.length)
    (body : ∀ (cdv : Value) (A : Around) (outer : List Env) (s : Shared) (H : Hp) (vs : List V) (Q : VK) (E : XK), Room k (A.deeper (envOfC qual (defScope st) s.heap.objs.size f cdv)) → sp vs H Q E →
      ∃ t, PSs (cxOf (CXn P w) P w K mg base N qual (defScope st) f cdv A outer s H E) (defBody st) t ∧ t { nx := fun _ H' => Q .non H', rt := Q } (start N vs) H) : FnOk P w K mg base (CXn P w) (k + 1) f fd ps sp := by
  obtain ⟨oc, od, kV, doc, pm, an, cdv, ct, osl, rfl, lk, hcd⟩ := F.ex
  exact fn_of lk hcd S len fun A outer s H vs Q E hr hsp => body cdv A outer s H vs Q E hr hsp
end
theorem passN {X : Cx} : Passes (CXn X.prog X.w) X E0 := fun _ _ _ _ _ _ _ h => by
  obtain ⟨_, _, _, _, _, _, _, _, _, _, _, _, z⟩ := h
  exact z.elim
end LR
set_option Elab.async false
set_option linter.all false
set_option maxRecDepth 100000
set_option maxHeartbeats 4000000
/-! DJ: a def's promise over data; raising -/
namespace DL
open PySem PySem.Spec PyProof.Rows L2
/-- the slots at a def's entry -/
def startD (N : List Str) (as : List Sl) : List Sl := as ++ (N.drop as.length).map fun _ => .un
theorem nth_app_l : ∀ {as bs : List Sl} {i : Nat}, i < as.length → nth (as ++ bs) i = nth as i
  | [], _, _, h => absurd h (Nat.not_lt_zero _)
  | _ :: _, _, 0, _ => rfl
  | _ :: as, bs, i + 1, h => nth_app_l (as := as) (Nat.lt_of_succ_lt_succ h)
theorem nth_app_r : ∀ {as bs : List Sl} {i : Nat}, as.length ≤ i → nth (as ++ bs) i = nth bs (i - as.length)
  | [], _, _, _ => rfl
  | _ :: _, _, 0, h => absurd h (by simp)
  | _ :: as, bs, i + 1, h => by
    rw [List.length_cons, Nat.add_sub_add_right]
    exact nth_app_r (as := as) (Nat.le_of_succ_le_succ h)
theorem nth_un {α : Type} : ∀ (l : List α) (i : Nat), nth (l.map fun _ => Sl.un) i = .un
  | [], _ => rfl
  | _ :: _, 0 => rfl
  | _ :: l, i + 1 => nth_un l i
theorem arg_at {K : PySem.W.Frag} {Z : Addr → Prop} {Hs H : Hp} {O : Addr → Option Nat} (hO : ∀ p, Z p → O p = some 0) : ∀ {as : List Sl} {vs : List V} {i : Nat} {j : Nat}, ArgIs K Z Hs H as vs → i < as.length → SlIs K O Hs H j (some vs[i]?) (nth as i)
  | [], _, _, _, _, h => absurd h (Nat.not_lt_zero _)
  | .d x :: as, _, 0, _, ⟨v, ws, e, h1, _⟩, _ => by subst e; exact ⟨v, rfl, h1⟩
  | .d x :: as, _, i + 1, _, ⟨v, ws, e, _, h2⟩, h => by subst e; exact arg_at (as := as) hO h2 (Nat.lt_of_succ_lt_succ h)
  | .pool :: as, _, 0, _, ⟨p, ws, e, h1, h2, _⟩, _ => by subst e; exact ⟨p, rfl, hO p h1, h2⟩
  | .pool :: as, _, i + 1, _, ⟨p, ws, e, _, _, h2⟩, h => by subst e; exact arg_at (as := as) hO h2 (Nat.lt_of_succ_lt_succ h)
  | .un :: _, _, _, _, h, _ => h.elim
  | .own _ _ :: _, _, _, _, h, _ => h.elim
section
variable {P : Program} {w : World} {K : PySem.W.Frag} {mg : Str → Option Value} {base : Heap}
open Classical in
theorem abs_start {Z : Addr → Prop} {Hs H : Hp} {E : XK} {N : List Str} {as : List Sl} {vs : List V} (sub : Same Hs H) (hz : ∀ p, Z p → Hs p = none ∧ H p ≠ none) (ai : ArgIs K Z Hs H as vs) : ∃ O, Abs K ⟨Z, Hs, H, E⟩ O Hs H (start N vs) (startD N as) := by
  have hO : ∀ p, Z p → (if Z p then some 0 else none) = some 0 := fun p h => if_pos h
  have nO : ∀ p, (if Z p then some 0 else none : Option Nat) ≠ none → Z p := fun p h => by
    by_cases z : Z p
    · exact z
    · exact absurd (if_neg z) h
  have hl := ai.len
  refine ⟨fun b => if Z b then some 0 else none, .refl sub, fun a h => (hz a (nO a h)).1, fun a h => (hz a (nO a h)).2, fun a h => .inl (nO a h), hO, ?_, fun i => ?_⟩
  · unfold L2.start startD
    rw [List.length_append, List.length_append, List.length_map, List.length_map, List.length_replicate, List.length_drop]
    omega
  · unfold L2.start startD
    by_cases hi : i < as.length
    · rw [nth_app_l hi, List.getElem?_append_left (by rw [List.length_map]; omega), List.getElem?_map]
      have q := arg_at (K := K) (Hs := Hs) (H := H) (O := fun b => if Z b then some 0 else none) hO (j := i) ai hi
      have hv : vs[i]? = some (vs[i]'(by omega)) := List.getElem?_eq_getElem (by omega)
      rw [hv] at q ⊢
      exact q
    · rw [nth_app_r (Nat.le_of_not_lt hi), nth_un]
      trivial
/-- the wishes of a body at its entry -/
structure Bd (X : Cx) (c : Cn) : Prop where
  px : Passes (L2.CX X.prog X.w) X c.E
  tk : Takes X (fun cls d _ H => c.E cls d H)
  zz : ∀ p, c.Z p → c.Hs p = none ∧ c.H p ≠ none
theorem fnD {x qual : Str} {st : Stmt} {f : Addr} {fd : FuncData} {N ps : List Str} {k : Nat} {spec : SpD} (F : Fun K x qual st f fd) (S : FnScope N ps (defScope st)) (hlen : ∀ as Qd Ed, spec as Qd Ed → as.length = ps.length)
    (body : ∀ (cdv : Value) (A : Around) (outer : List Env) (s : Shared) (H : Hp) (E : XK) (c : Cn), Room k (A.deeper (envOfC qual (defScope st) s.heap.objs.size f cdv)) → Bd (cxOf (L2.CX P w) P w K mg base N qual (defScope st) f cdv A outer s H E) c →
      ∃ t : TSD, DSs (cxOf (L2.CX P w) P w K mg base N qual (defScope st) f cdv A outer s H E) c (defBody st) t ∧ ∀ as Qd Ed, spec as Qd Ed → t { nx := fun _ => Qd .non, rt := Qd } (startD N as) Ed) :
    FnOk P w K mg base (L2.CX P w) (k + 1) f fd ps (spD K spec) := by
  refine F.okX S (fun vs H Q E h => ?_) (fun cdv A outer s H vs Q E hr h => ?_)
  · obtain ⟨Z, Hs, as, Qd, Ed, _, _, ai, hf, _⟩ := h
    rw [ai.len]
    exact hlen as Qd Ed hf
  · obtain ⟨Z, Hs, as, Qd, Ed, sub, hz, ai, hf, cv, ce⟩ := h
    obtain ⟨t, ht, run⟩ := body cdv A outer s H E ⟨Z, Hs, H, E⟩ hr ⟨passes_call (takes_of rfl rfl rfl rfl) fun _ _ _ _ h => h, takes_of rfl rfl rfl rfl, hz⟩
    obtain ⟨O, A0⟩ := abs_start (K := K) (E := E) (N := N) sub hz ai
    refine ⟨_, ht, O, Hs, _, _, Ed, A0, run as Qd Ed hf, fun er Hs' H' x q => ce er Hs' H' x q, ?_⟩
    exact ⟨fun σ' O' Hs' H' ss' _ A' q => cv .non .non Hs' H' A'.ext rfl q, fun _ _ _ _ _ _ _ q => q.elim, fun _ _ _ _ _ _ _ q => q.elim, fun d v Hs' H' x i q => cv d v Hs' H' x i q, fun ds p xs Hs' H' x n1 n2 h1 h2 q => cv (.lst ds) _ (upd Hs' p (.lst xs)) H' (x.freeze n1 n2 h1) ⟨p, xs, rfl, upd_same, h2.same (same_new0 n2)⟩ q⟩
open LG in
theorem fnDG {x qual : Str} {st : Stmt} {f : Addr} {fd : FuncData} {N ps : List Str} {k : Nat} {spec : SpD} (F : Fun K x qual st f fd) (S : FnScope N ps (defScope st)) (hlen : ∀ as Qd Ed, spec as Qd Ed → as.length = ps.length)
    (body : ∀ (cdv : Value) (A : Around) (outer : List Env) (s : Shared) (H : Hp) (E : XK) (c : Cn), A.guards = some [] → Room k (A.deeper (envOfC qual (defScope st) s.heap.objs.size f cdv)) → Bd (cxOf (L2.CX P w) P w K mg base N qual (defScope st) f cdv A outer s H E) c →
      ∃ t : TSD, DSs (cxOf (L2.CX P w) P w K mg base N qual (defScope st) f cdv A outer s H E) c (defBody st) t ∧ ∀ as Qd Ed, spec as Qd Ed → t { nx := fun _ => Qd .non, rt := Qd } (startD N as) Ed) :
    FnG P w K mg base (L2.CX P w) (k + 1) f fd ps (spD K spec) := by
  refine fun_okG F S (fun vs H Q E h => ?_) (fun cdv A outer s H vs Q E g hr h => ?_)
  · obtain ⟨Z, Hs, as, Qd, Ed, _, _, ai, hf, _⟩ := h
    rw [ai.len]
    exact hlen as Qd Ed hf
  · obtain ⟨Z, Hs, as, Qd, Ed, sub, hz, ai, hf, cv, ce⟩ := h
    obtain ⟨t, ht, run⟩ := body cdv A outer s H E ⟨Z, Hs, H, E⟩ g hr ⟨passes_call (takes_of rfl rfl rfl rfl) fun _ _ _ _ h => h, takes_of rfl rfl rfl rfl, hz⟩
    obtain ⟨O, A0⟩ := abs_start (K := K) (E := E) (N := N) sub hz ai
    refine ⟨_, ht, O, Hs, _, _, Ed, A0, run as Qd Ed hf, fun er Hs' H' x q => ce er Hs' H' x q, ?_⟩
    exact ⟨fun σ' O' Hs' H' ss' _ A' q => cv .non .non Hs' H' A'.ext rfl q, fun _ _ _ _ _ _ _ q => q.elim, fun _ _ _ _ _ _ _ q => q.elim, fun d v Hs' H' x i q => cv d v Hs' H' x i q, fun ds p xs Hs' H' x n1 n2 h1 h2 q => cv (.lst ds) _ (upd Hs' p (.lst xs)) H' (x.freeze n1 n2 h1) ⟨p, xs, rfl, upd_same, h2.same (same_new0 n2)⟩ q⟩
end
/-- a promise of a def that hands back a list of its own -/
abbrev SpF := List Sl → (List D → Prop) → QE → Prop
def spF (K : PySem.W.Frag) (f : SpF) : Sp := fun vs H Q E => ∃ (Z : Addr → Prop) (Hs : Hp) (as : List Sl) (Qo : List D → Prop) (Ed : QE), Same Hs H ∧ (∀ p, Z p → Hs p = none ∧ H p ≠ none) ∧ ArgIs K Z Hs H as vs ∧ f as Qo Ed ∧
  (∀ ds p xs Hs' H', Ext Z Hs H Hs' H' → H p = none → Hs' p = none → H' p = some (.lst xs) → IsA K Hs' ds xs → Qo ds → Q (.ref p) H') ∧ (∀ er Hs' H', Ext Z Hs H Hs' H' → Ed er → ErrPost K E er Hs' H')
theorem fnF {P : Program} {w : World} {K : PySem.W.Frag} {mg : Str → Option Value} {base : Heap} {x qual : Str} {st : Stmt} {f : Addr} {fd : FuncData} {N ps : List Str} {k : Nat} {spec : SpF} (F : Fun K x qual st f fd) (S : FnScope N ps (defScope st)) (hlen : ∀ as Qd Ed, spec as Qd Ed → as.length = ps.length)
    (body : ∀ (cdv : Value) (A : Around) (outer : List Env) (s : Shared) (H : Hp) (E : XK) (c : Cn), Room k (A.deeper (envOfC qual (defScope st) s.heap.objs.size f cdv)) → Bd (cxOf (L2.CX P w) P w K mg base N qual (defScope st) f cdv A outer s H E) c →
      ∃ t : TSD, DSs (cxOf (L2.CX P w) P w K mg base N qual (defScope st) f cdv A outer s H E) c (defBody st) t ∧ ∀ as Qo Ed, spec as Qo Ed → t { nx := fun _ => False, rt := fun _ => False, ro := Qo } (startD N as) Ed) :
    FnOk P w K mg base (L2.CX P w) (k + 1) f fd ps (spF K spec) := by
  refine F.okX S (fun vs H Q E h => ?_) (fun cdv A outer s H vs Q E hr h => ?_)
  · obtain ⟨Z, Hs, as, Qd, Ed, _, _, ai, hf, _⟩ := h
    rw [ai.len]
    exact hlen as Qd Ed hf
  · obtain ⟨Z, Hs, as, Qd, Ed, sub, hz, ai, hf, cv, ce⟩ := h
    obtain ⟨t, ht, run⟩ := body cdv A outer s H E ⟨Z, Hs, H, E⟩ hr ⟨passes_call (takes_of rfl rfl rfl rfl) fun _ _ _ _ h => h, takes_of rfl rfl rfl rfl, hz⟩
    obtain ⟨O, A0⟩ := abs_start (K := K) (E := E) (N := N) sub hz ai
    refine ⟨_, ht, O, Hs, _, _, Ed, A0, run as Qd Ed hf, fun er Hs' H' x q => ce er Hs' H' x q, ?_⟩
    exact ⟨fun _ _ _ _ _ _ _ q => q.elim, fun _ _ _ _ _ _ _ q => q.elim, fun _ _ _ _ _ _ _ q => q.elim, fun _ _ _ _ _ _ q => q.elim, fun ds p xs Hs' H' x n1 n2 h1 h2 q => cv ds p xs Hs' H' x n1 n2 h1 h2 q⟩
section
variable {X : Cx} {c : Cn}
/-- what is never reached -/
def tdDead : TSD := fun _ _ _ => False
theorem d_dead {st : Stmt} : DS X c st tdDead := ps_imp ps_never fun Dn σ H q => by
  obtain ⟨O, Hs, ss, En, Ed, A, h, er, g⟩ := q
  exact h.elim
/-- raise C(), C an own class without __init__ -/
def tdRaise (C : Addr) : TSD := fun _ _ Ed => Ed (.e0 C)
theorem d_raise {x : Str} {bm : List Value} {B newId initId : String} {C : Addr} {p pos pos' : Pos} (b : Bd X c) (hc : X.calm = true) (T : LR.ErrAt X.K X.mg x bm newId C) (F : ExcBaseFacts B newId initId bm) (hg : Gl X x := by rfl) (hdb : (x == ("__debug__" : Str)) = false := by decide) :
    DS X c (.Raise (some (.Call (.Name x p) [] [] pos)) none pos') (tdRaise C) := by
  refine ps_imp (ps_raise hc b.tk (T.mk0 F hg hdb)) fun Dn σ H q => ?_
  obtain ⟨O, Hs, ss, En, Ed, A, h, er, g⟩ := q
  exact er (.e0 C) Hs H A.ext h
section
variable {i : Nat} {y : Str} {py : Pos} {tg elt iter : Expr} {ifs : List Expr} {scope : Scope} {own : List (Str × Nat)} {pos spos : Pos} {ti : TID} {p : Pat} {tt : TTD} {te : TD}
/-- x = [..] on one line, x a local -/
theorem ps_lcO (hc : X.calm = true) (hN : X.N.Nodup) (hy : X.N[i]? = some y) (hyl : X.env.scope.names.lookup y = some .local)
    (hsw : swapsWith (.ListComp elt [⟨tg, iter, ifs, 0⟩] scope pos) (some (.Name y py)) spos.line X.env = pure true) (hi : DI X c tg iter ti) (ok : BlkOk X.N X.env.scope scope own)
    (hg : ∀ (s : Shared) (H : Hp) (C : Addr) (cl : List (Str × Addr)) (fp : List Addr), DG (X.blk s H scope (compEnvC scope cl C X.env) fp) tg p) (ht : ∀ (s : Shared) (H : Hp) (C : Addr) (cl : List (Str × Addr)) (fp : List Addr), DTs (X.blk s H scope (compEnvC scope cl C X.env) fp) c ifs tt)
    (he : ∀ (s : Shared) (H : Hp) (C : Addr) (cl : List (Str × Addr)) (fp : List Addr), DE (X.blk s H scope (compEnvC scope cl C X.env) fp) c elt te) (hsub : ∀ j ∈ p.vs, j ∈ own.map (·.2)) (hs : ∀ x, foldedSetIterable iter X.env x = pure x) :
    PS X (.Assign [.Name y py] (.ListComp elt [⟨tg, iter, ifs, 0⟩] scope pos) spos) (tAsg (liftO c X.K (toLc ti p tt te (own.map (·.2)))) (gName i)) :=
  ps_imp (ps_setLc (g := p.tg X.K) (tt := liftT c X.K tt) (te := lift c X.K te) hc hN hy hyl hsw hi ok hg ht he hs) fun Dn σ H q => lc_run hsub σ H _ q
theorem d_setLc (hc : X.calm = true) (hN : X.N.Nodup) (hy : X.N[i]? = some y) (hyl : X.env.scope.names.lookup y = some .local)
    (hsw : swapsWith (.ListComp elt [⟨tg, iter, ifs, 0⟩] scope pos) (some (.Name y py)) spos.line X.env = pure true) (hi : DI X c tg iter ti) (ok : BlkOk X.N X.env.scope scope own)
    (hg : ∀ (s : Shared) (H : Hp) (C : Addr) (cl : List (Str × Addr)) (fp : List Addr), DG (X.blk s H scope (compEnvC scope cl C X.env) fp) tg p) (ht : ∀ (s : Shared) (H : Hp) (C : Addr) (cl : List (Str × Addr)) (fp : List Addr), DTs (X.blk s H scope (compEnvC scope cl C X.env) fp) c ifs tt)
    (he : ∀ (s : Shared) (H : Hp) (C : Addr) (cl : List (Str × Addr)) (fp : List Addr), DE (X.blk s H scope (compEnvC scope cl C X.env) fp) c elt te) (hsub : ∀ j ∈ p.vs, j ∈ own.map (·.2) := by decide) (hs : ∀ x, foldedSetIterable iter X.env x = pure x := by intro _; rfl) :
    DS X c (.Assign [.Name y py] (.ListComp elt [⟨tg, iter, ifs, 0⟩] scope pos) spos) (tdAsg (tdO (toLc ti p tt te (own.map (·.2)))) (.n i)) := by
  refine ps_imp (ps_lcO hc hN hy hyl hsw hi ok hg ht he hsub hs) fun Dn σ H q => ?_
  obtain ⟨O, Hs, ss, En, Ed, A, h, er, g⟩ := q
  refine ⟨O, Hs, ss, _, Ed, A, h, er, fun ds p xs Hs1 H1 x1 n1 n2 h1 h2 q1 => ?_⟩
  have x2 := x1.freeze n1 n2 h1
  exact g.nx _ O _ H1 _ x2.fz ((A.next x2).set (x := .lst ds) ⟨p, xs, rfl, upd_same, h2.same (same_new0 n2)⟩) q1
theorem d_setLcO (hc : X.calm = true) (hN : X.N.Nodup) (hy : X.N[i]? = some y) (hyl : X.env.scope.names.lookup y = some .local)
    (hsw : swapsWith (.ListComp elt [⟨tg, iter, ifs, 0⟩] scope pos) (some (.Name y py)) spos.line X.env = pure true) (hi : DI X c tg iter ti) (ok : BlkOk X.N X.env.scope scope own)
    (hg : ∀ (s : Shared) (H : Hp) (C : Addr) (cl : List (Str × Addr)) (fp : List Addr), DG (X.blk s H scope (compEnvC scope cl C X.env) fp) tg p) (ht : ∀ (s : Shared) (H : Hp) (C : Addr) (cl : List (Str × Addr)) (fp : List Addr), DTs (X.blk s H scope (compEnvC scope cl C X.env) fp) c ifs tt)
    (he : ∀ (s : Shared) (H : Hp) (C : Addr) (cl : List (Str × Addr)) (fp : List Addr), DE (X.blk s H scope (compEnvC scope cl C X.env) fp) c elt te) (hsub : ∀ j ∈ p.vs, j ∈ own.map (·.2) := by decide) (hs : ∀ x, foldedSetIterable iter X.env x = pure x := by intro _; rfl) :
    DS X c (.Assign [.Name y py] (.ListComp elt [⟨tg, iter, ifs, 0⟩] scope pos) spos) (tdSetOwn i (toLc ti p tt te (own.map (·.2)))) := by
  refine ps_imp (ps_lcO hc hN hy hyl hsw hi ok hg ht he hsub hs) fun Dn σ H q => ?_
  obtain ⟨O, Hs, ss, En, Ed, A, h, er, g⟩ := q
  refine ⟨O, Hs, ss, _, Ed, A, h, er, fun ds p xs Hs1 H1 x1 n1 n2 h1 h2 q1 => ?_⟩
  obtain ⟨O', A'⟩ := (A.next x1).own (i := i) A.live (A.fresh n1) n1 n2 h1 h2
  exact g.nx _ O' Hs1 _ _ x1.fz A' (q1 p)
end
/-- x += e -/
def tdAug (i : Nat) (te : TD) (r : RD2) : TSD := fun En ss Ed => match nth ss i with
  | .d x => te ss (fun y => r x y fun z => En.nx (put ss i (.d z))) Ed
  | _ => False
structure IpD (X : Cx) (op : Operator) (r : RD2) : Prop where
  ex : ∃ r0 : TIp, PIp X op r0 ∧ ∀ (Z : Addr → Prop) (Hs H : Hp) (d e : D) (v u : V) (Qd : QD) (Q : VK), Same Hs H → Is X.K Hs d v → Is X.K Hs e u → r d e Qd →
    (∀ x w Hs' H', Ext Z Hs H Hs' H' → Is X.K Hs' x w → Qd x → Q w H') → r0 v u H Q
theorem ipd_add : IpD X .Add (r2i0 fun i j => .int (i + j)) := ⟨_, ip_add, fun Z Hs H d e v u Qd Q s i1 i2 q cn => by
  obtain ⟨i, j, rfl, rfl, q⟩ := r2i0_inv q
  exact ⟨i, j, i1, i2, cn (.int _) _ Hs H (.refl s) rfl q⟩⟩
theorem ipd_sub : IpD X .Sub (r2i0 fun i j => .int (i - j)) := ⟨_, ip_sub, fun Z Hs H d e v u Qd Q s i1 i2 q cn => by
  obtain ⟨i, j, rfl, rfl, q⟩ := r2i0_inv q
  exact ⟨i, j, i1, i2, cn (.int _) _ Hs H (.refl s) rfl q⟩⟩
theorem d_aug {i : Nat} {x : Str} {e : Expr} {op : Operator} {pos pos' : Pos} {te : TD} {r : RD2} (hN : X.N.Nodup) (hi : X.N[i]? = some x) (hx : Loc X.env.scope x) (he : DE X c e te) (ho : IpD X op r) (hf : X.fn x = true ∨ X.env.scope.names.lookup x = some .local := by first | exact .inl rfl | exact .inr rfl | assumption) :
    DS X c (.AugAssign (.Name x pos') op e pos) (tdAug i te r) := by
  obtain ⟨r0, h0, cn⟩ := ho.ex
  refine ps_imp (ps_aug hN hi hx he h0 hf) fun Dn σ H q => ?_
  obtain ⟨O, Hs, ss, En, Ed, A, h, er, g⟩ := q
  have hs := A.sl i
  unfold tdAug at h
  split at h
  · rename_i d hd
    rw [hd] at hs
    obtain ⟨v, e1, i1⟩ := hs
    refine ⟨v, e1, O, Hs, ss, _, Ed, A, h, er, fun y u Hs1 H1 x1 i2 q1 => ?_⟩
    exact cn (Z0 O) Hs1 H1 d y v u _ _ x1.sub (i1.same x1.fz) i2 q1 fun z z' Hs2 H2 x2 i3 q2 => g.nx _ O Hs2 H2 _ (x1.fz.trans x2.fz) (((A.next x1).next x2).set i3) q2
  · exact h.elim
end
end DL
set_option Elab.async false
set_option linter.all false
set_option maxRecDepth 100000
set_option maxHeartbeats 4000000
/-! DK: short words for terms: defs by name, constants -/
namespace DL
open PySem PySem.Spec PyProof.Rows L2
/-- the def of this name keeps this promise -/
structure DefD (P : Program) (w : World) (K : PySem.W.Frag) (mg : Str → Option Value) (base : Heap) (x : Str) (k : Nat) (sp : SpD) : Prop where
  ex : ∃ f fd ps, FnOk P w K mg base (L2.CX P w) k f fd ps (spD K sp) ∧ mg x = some (.ref f) ∧ PySem.W.keepIn K (.ref f) = true ∧ Binds K fd ps []
theorem DefD.mk1 {P : Program} {w : World} {K : PySem.W.Frag} {mg : Str → Option Value} {base : Heap} {x : Str} {st : Stmt} {ps : List Str} {f : Addr} {fd : FuncData} {k : Nat} {sp : SpD} (D : LR.DefAt K mg x st ps f fd) (G : FnOk P w K mg base (L2.CX P w) k f fd ps (spD K sp)) : DefD P w K mg base x k sp :=
  ⟨f, fd, ps, G, D.g, D.F.kp, D.b⟩
theorem DefD.imp {P : Program} {w : World} {K : PySem.W.Frag} {mg : Str → Option Value} {base : Heap} {x : Str} {k : Nat} {sp sp' : SpD} (D : DefD P w K mg base x k sp) (h : ∀ as Qd Ed, sp' as Qd Ed → sp as Qd Ed) : DefD P w K mg base x k sp' := by
  obtain ⟨f, fd, ps, G, r⟩ := D.ex
  exact ⟨f, fd, ps, G.imp fun vs H Q E ⟨Z, Hs, as, Qd, Ed, a, b, d, e, z⟩ => ⟨Z, Hs, as, Qd, Ed, a, b, d, h _ _ _ e, z⟩, r⟩
structure DefF (P : Program) (w : World) (K : PySem.W.Frag) (mg : Str → Option Value) (base : Heap) (x : Str) (k : Nat) (sp : SpF) : Prop where
  ex : ∃ f fd ps, FnOk P w K mg base (L2.CX P w) k f fd ps (spF K sp) ∧ mg x = some (.ref f) ∧ PySem.W.keepIn K (.ref f) = true ∧ Binds K fd ps []
theorem DefF.mk1 {P : Program} {w : World} {K : PySem.W.Frag} {mg : Str → Option Value} {base : Heap} {x : Str} {st : Stmt} {ps : List Str} {f : Addr} {fd : FuncData} {k : Nat} {sp : SpF} (D : LR.DefAt K mg x st ps f fd) (G : FnOk P w K mg base (L2.CX P w) k f fd ps (spF K sp)) : DefF P w K mg base x k sp :=
  ⟨f, fd, ps, G, D.g, D.F.kp, D.b⟩
theorem DefF.toD {P : Program} {w : World} {K : PySem.W.Frag} {mg : Str → Option Value} {base : Heap} {x : Str} {k : Nat} {sp : SpF} (D : DefF P w K mg base x k sp) : DefD P w K mg base x k (fun as Q Ed => sp as (fun ds => Q (.lst ds)) Ed) := by
  obtain ⟨f, fd, ps, G, r⟩ := D.ex
  exact ⟨f, fd, ps, G.imp fun vs H Q E ⟨Z, Hs, as, Qd, Ed, a, b, d, e, z, y⟩ => ⟨Z, Hs, as, _, Ed, a, b, d, e, fun ds p xs Hs' H' x n1 n2 h1 h2 q => z (.lst ds) _ (upd Hs' p (.lst xs)) H' (x.freeze n1 n2 h1) ⟨p, xs, rfl, upd_same, h2.same (same_new0 n2)⟩ q, y⟩, r⟩
abbrev Er0 : XK := fun _ _ _ => False
theorem pass0D {X : Cx} : Passes (L2.CX X.prog X.w) X Er0 := fun pins σ H s e s' I h => by
  obtain ⟨_, _, _, _, _, _, _, _, _, _, _, _, z⟩ := h
  exact z.elim
section
variable {X : Cx} {c : Cn} {x : Str} {p pos : Pos} {e : Expr} {es : List Expr} {t : TAD} {k : Nat} {sp : SpD}
/-- a call that raises nothing -/
def tdCallN (f : SpD) (t : TAD) : TD := fun ss Q Ed => t ss (fun as => f as Q fun _ => False) Ed
theorem d_cN (G : DefD X.prog X.w X.K X.mg X.base x k sp) (hr : Room k X.A) (ha : DAs X c (e :: es) t) (hg : Gl X x := by rfl) (hdb : (x == ("__debug__" : Str)) = false := by decide) (he : starEach (e :: es) X.env = (false, eval e X.env) :: starEach es X.env := by rfl) (hpl : (backTo pos (starEach es X.env)).any (·.1) = false := by rfl) :
    DE X c (.Call (.Name x p) (e :: es) [] pos) (tdCallN sp t) := by
  obtain ⟨f, fd, ps, F, hm, hk, hb⟩ := G.ex
  refine pe_imp (pe_call F hr hg hm hk hb .nil pass0D ha hdb he hpl) fun σ H Q q => ?_
  obtain ⟨O, Hs, ss, Qd, Ed, A, h, er, g⟩ := q
  refine ⟨O, Hs, ss, _, Ed, A, h, er, fun as vs Hs1 H1 e1 i1 q1 => ?_⟩
  have A1 := A.next e1
  show spD X.K sp (vs ++ []) H1 Q Er0
  rw [List.append_nil]
  exact ⟨Z0 O, Hs1, as, Qd, fun _ => False, A1.sub, fun p hp => ⟨A1.fz p (by rw [hp]; exact fun z => nomatch z), A1.live p (by rw [hp]; exact fun z => nomatch z)⟩, i1, q1,
    fun d v Hs2 H2 e2 i2 q2 => g d v Hs2 H2 (e1.trans e2) i2 q2, fun _ _ _ _ z => z.elim⟩
/-- a call that may raise what the body may let out -/
def tdCallE (f : SpD) (t : TAD) : TD := fun ss Q Ed => t ss (fun as => f as Q Ed) Ed
theorem d_cE (G : DefD X.prog X.w X.K X.mg X.base x k sp) (hr : Room k X.A) (b : Bd X c) (ha : DAs X c (e :: es) t) (hg : Gl X x := by rfl) (hdb : (x == ("__debug__" : Str)) = false := by decide) (he : starEach (e :: es) X.env = (false, eval e X.env) :: starEach es X.env := by rfl) (hpl : (backTo pos (starEach es X.env)).any (·.1) = false := by rfl) :
    DE X c (.Call (.Name x p) (e :: es) [] pos) (tdCallE sp t) := by
  obtain ⟨f, fd, ps, F, hm, hk, hb⟩ := G.ex
  refine pe_imp (pe_call F hr hg hm hk hb .nil b.px ha hdb he hpl) fun σ H Q q => ?_
  obtain ⟨O, Hs, ss, Qd, Ed, A, h, er, g⟩ := q
  refine ⟨O, Hs, ss, _, Ed, A, h, er, fun as vs Hs1 H1 e1 i1 q1 => ?_⟩
  show spD X.K sp (vs ++ []) H1 Q c.E
  rw [List.append_nil]
  exact sp_of (A.next e1) er i1 q1 fun d v Hs2 H2 e2 i2 q2 => g d v Hs2 H2 (e1.trans e2) i2 q2
def toCallN (f : SpF) (t : TAD) : TOD := fun ss Q Ed => t ss (fun as => f as Q fun _ => False) Ed
theorem do_cN {sp : SpF} (G : DefF X.prog X.w X.K X.mg X.base x k sp) (hr : Room k X.A) (ha : DAs X c (e :: es) t) (hg : Gl X x := by rfl) (hdb : (x == ("__debug__" : Str)) = false := by decide) (he : starEach (e :: es) X.env = (false, eval e X.env) :: starEach es X.env := by rfl) (hpl : (backTo pos (starEach es X.env)).any (·.1) = false := by rfl) :
    DO X c (.Call (.Name x p) (e :: es) [] pos) (toCallN sp t) := by
  obtain ⟨f, fd, ps, F, hm, hk, hb⟩ := G.ex
  refine pe_imp (pe_call F hr hg hm hk hb .nil pass0D ha hdb he hpl) fun σ H Q q => ?_
  obtain ⟨O, Hs, ss, Qd, Ed, A, h, er, g⟩ := q
  refine ⟨O, Hs, ss, _, Ed, A, h, er, fun as vs Hs1 H1 e1 i1 q1 => ?_⟩
  have A1 := A.next e1
  have n0 : ∀ p, H1 p = none → H p = none := fun p np => by
    cases z : H p with
    | none => rfl
    | some u => exact absurd np (e1.live p (by rw [z]; exact fun z => nomatch z))
  show spF X.K sp (vs ++ []) H1 Q Er0
  rw [List.append_nil]
  exact ⟨Z0 O, Hs1, as, Qd, fun _ => False, A1.sub, fun p hp => ⟨A1.fz p (by rw [hp]; exact fun z => nomatch z), A1.live p (by rw [hp]; exact fun z => nomatch z)⟩, i1, q1,
    fun ds p xs Hs2 H2 e2 n1 n2 h1 h2 q2 => g ds p xs Hs2 H2 (e1.trans e2) (n0 p n1) n2 h1 h2 q2, fun _ _ _ _ z => z.elim⟩
/-- a constant of the module: an int -/
theorem d_gint {i : Int} {tk : Tok} (hm : X.mg x = some (.int i tk)) (hg : Gl X x := by rfl) (hd : (x == ("__debug__" : Str)) = false := by decide) : DE X c (.Name x pos) (tdC (.int i)) := d_const (v := .int i) (pe_glob hg hm ⟨_, rfl⟩ hd) fun _ => rfl
theorem d_gstr {i : Str} {tk : Tok} (hm : X.mg x = some (.str i tk)) (hg : Gl X x := by rfl) (hd : (x == ("__debug__" : Str)) = false := by decide) : DE X c (.Name x pos) (tdC (.str i)) := d_const (v := .str i) (pe_glob hg hm ⟨_, rfl⟩ hd) fun _ => rfl
end
/-! ### repr, where nothing is being shown -/
section
variable {X : Cx}
/-- bools, and lists and tuples -/
def rReprD : List D → QD → Prop := fun ds Q => match ds with
  | [.bl b] => Q (.str (if b then "True" else "False"))
  | [.lst xs] => ∃ d, py (.lst xs) = some d ∧ LG.Fine d ∧ Q (.str d.shown)
  | [.tup xs] => ∃ d, py (.tup xs) = some d ∧ LG.Fine d ∧ Q (.str d.shown)
  | _ => False
theorem cr_reprB : CallR X (.builtin "repr") (fun vs H Q => ∃ b, vs = [.bl b] ∧ Q (.str (if b then "True" else "False")) H) := by
  intro pins s σ H vs us Q I r h
  obtain ⟨b, rfl, q⟩ := h
  obtain ⟨u, rfl, ru⟩ := vals1 r
  cases ru
  exact PySem.P.repr_of_bool ⟨.str _, H, I.tok _, ⟨_, rfl⟩, q⟩
theorem cd_repr (g : X.A.guards = some []) (hu : X.A.units + 64 < cLine) : CallD X (.builtin "repr") rReprD := ⟨_, call_or cr_reprB (LG.cr_repr g hu), fun Z Hs H ds vs Qd Q s i q cn => by
  unfold rReprD at q
  split at q
  · obtain ⟨v, e, h1⟩ := isA1 i
    cases h1
    exact .inl ⟨_, e, cn (.str _) _ Hs H (.refl s) rfl q⟩
  · obtain ⟨v, e, h1⟩ := isA1 i
    obtain ⟨d, hd, hf, q⟩ := q
    have hp := py_dp (h1.same s) hd
    obtain ⟨a, xs, e2, _⟩ := h1
    subst e2
    exact .inr ⟨a, d, e, hp, hf, cn (.str _) _ Hs H (.refl s) rfl q⟩
  · obtain ⟨v, e, h1⟩ := isA1 i
    obtain ⟨d, hd, hf, q⟩ := q
    have hp := py_dp (h1.same s) hd
    obtain ⟨a, xs, e2, _⟩ := h1
    subst e2
    exact .inr ⟨a, d, e, hp, hf, cn (.str _) _ Hs H (.refl s) rfl q⟩
  · exact q.elim⟩
end
/-! ### the pool -/
section
variable {P : Program} {w : World} {K : PySem.W.Frag} {mg : Str → Option Value} {base : Heap}
/-- _law_draw(pool, many), many above 0: any number below it -/
def sdDraw : SpD := fun as Q _ => match as with
  | [.pool, .d (.int m)] => (0 < m ∧ m.natAbs < 2 ^ 200) ∧ ∀ d : Int, 0 ≤ d → d < m → Q (.int d)
  | _ => False
end
section
variable {X : Cx} {c : Cn}
theorem d_par2 {i j : Nat} {x y : Str} {a b : Expr} {ta tb : TD} {px py pt pos : Pos} {kt k2 pt2} (hc : X.calm = true) (hN : X.N.Nodup) (hi : X.N[i]? = some x) (hj : X.N[j]? = some y) (hij : i ≠ j) (hx : X.env.scope.names.lookup x = some .local) (hy : X.env.scope.names.lookup y = some .local)
    (ha : DE X c a ta) (hb : DE X c b tb) (hw : swappedStores [.Tuple [.Name x px, .Name y py] kt pt] (.Tuple [a, b] k2 pt2) X.env = pure (some [x, y]) := by rfl) (hs : swapsWithSole [.Tuple [.Name x px, .Name y py] kt pt] (.Tuple [a, b] k2 pt2) pos.line X.env = pure false := by rfl)
    (h1 : starEach [a, b] X.env = (false, eval a X.env) :: starEach [b] X.env := by rfl) (h2 : starEach [b] X.env = (false, eval b X.env) :: starEach [] X.env := by rfl) : DS X c (.Assign [.Tuple [.Name x px, .Name y py] kt pt] (.Tuple [a, b] k2 pt2) pos) (tdPar i j ta tb) :=
  d_par hc hN hi hj hij hx hy ha hb (ps_par hc hN hi hj hij hx hy (pa_cons ha (pa_cons hb pa_nil h2) h1) hw hs)
theorem d_append {n : Str} {e : Expr} {np apos pos pos' : Pos} {i : Nat} {te : TD} (hx : PE X (.Name n np) (tVar i)) (he : DE X c e te) (hs1 : starEach [e] X.env = (false, eval e X.env) :: starEach [] X.env := by rfl)
    (hline : (apos.endLine == pos.line) = true := by rfl) (hfew : ((backTo pos (starEach [e] X.env)).all (fun x => !x.1) && (backToKw pos (keywordEach [] X.env)).all (fun x => x.1.isSome) && decide ([e].length + ([] : List Keyword).length + (if ([] : List Keyword).isEmpty then 0 else 1) < 30)) = true := by rfl) (hpl : (backTo pos (starEach [] X.env)).any (·.1) = false := by rfl)
    (hs : swapsWith (.Call (.Attribute (.Name n np) "append" apos) [e] [] pos) none pos'.line X.env = pure false := by rfl) : DS X c (.Expr (.Call (.Attribute (.Name n np) "append" apos) [e] [] pos) pos') (tdApp i te) :=
  d_app hx he (pe_bm PySem.F.plainAttrs_list PySem.F.slot_list_append PySem.F.type_list_append mt_append hx (pa_cons he pa_nil hs1) rfl hfew hline hs1 hpl) hs
end
/-! ### readings -/
theorem ifD {p A B : Prop} [Decidable p] (h1 : p → A) (h2 : ¬ p → B) : if decide p = true then A else B := by
  by_cases h : p
  · rw [if_pos (decide_eq_true h)]; exact h1 h
  · rw [if_neg (by simpa using h)]; exact h2 h
theorem ifN {p A B : Prop} [Decidable p] (h1 : ¬ p → A) (h2 : p → B) : if (!decide p) = true then A else B := by
  by_cases h : p
  · rw [if_neg (by simpa using h)]; exact h2 h
  · rw [if_pos (by simpa using h)]; exact h1 h
theorem ifB {b : Bool} {A B : Prop} (h1 : b = true → A) (h2 : b = false → B) : if b = true then A else B := by
  cases b
  · exact h2 rfl
  · exact h1 rfl
end DL
set_option Elab.async false
set_option linter.all false
set_option maxRecDepth 100000
set_option maxHeartbeats 4000000
/-! EN: enumerate of a tuple, of a list or a tuple -/
namespace DL
open PySem PySem.Spec PyProof.Rows L2
theorem enum_one {v : Value} {o : Obj} {G : Heap → Prop} (B : Begins v o G) :
    Meets (Builtin.«enumerate.__new__» ⟨[.type "enumerate", v], []⟩) (fun _ R s => G s.heap ∧
      R (.ok (.ret (.ref (s.heap.push o).objs.size))) { s with heap := (s.heap.push o).push { cls := .type "enumerate", data := .fields #[.none, .bool false, .ref s.heap.objs.size, rawInt 0, .none, .none] } }) := by
  refine .of_wp fun pr w0 Ar R s hh => ?_
  obtain ⟨hp, gl, dd, tk, os⟩ := s
  obtain ⟨h1, hq⟩ := hh
  have sb := sub_enumerate
  have it1 : ∀ {A1 : Around} {E1 Q1 : Value → Shared → Prop}, Q1 (.ref hp.objs.size) ⟨hp.push o, gl, dd, tk, os⟩ → wpAny (model pr w0) A1 (pyIter v) Q1 E1 ⟨hp, gl, dd, tk, os⟩ := fun q => B.iter pr w0 _ _ ⟨hp, gl, dd, tk, os⟩ _ h1 q
  wp_walk using it1
  refine wpAny_stack_any fun st => wpAny_pure ?_
  split
  · rename_i k _ _ _ _ _
    cases (k == Value.type "enumerate") <;> (wp_walk using it1; exact ⟨_, rfl, hq⟩)
  · wp_walk using it1
    exact ⟨_, rfl, hq⟩
section
variable {pr : Program} {w0 : World} {Ar : Around} {E : Value → Shared → Prop} {s : Shared}
theorem call_enum1 {v : Value} {o : Obj} {G : Heap → Prop} {Q : Value → Shared → Prop} (B : Begins v o G) (h1 : G s.heap)
    (hq : ∀ h2, IsEnum h2 (s.heap.objs.size + 1) s.heap.objs.size 0 .none → h2.get? s.heap.objs.size = some o → (∀ b x, s.heap.get? b = some x → h2.get? b = some x) → Q (.ref (s.heap.objs.size + 1)) { s with heap := h2 }) :
    wpAny (model pr w0) Ar (call (.type "enumerate") [v]) Q E s := by
  refine callType_new F.called_enumerate (by decide) (F.typeCall_enumerate_1 _) (F.newCall_enumerate_1 _) (fun ob => F.args_object_init_2 ob _) F.entry_enumerate_new (enum_one B) ⟨h1, ?_⟩
  have sz : (s.heap.push o).objs.size = s.heap.objs.size + 1 := Heap.size_push ..
  have top := Heap.get?_push_size (s.heap.push o) (o := { cls := .type "enumerate", data := .fields #[.none, .bool false, .ref s.heap.objs.size, rawInt 0, .none, .none] }) rfl
  rw [sz] at top
  show _ ∧ _
  rw [sz]
  exact ⟨⟨_, top, rfl⟩, hq _ top (Heap.get?_push_of_some _ (Heap.get?_push_size _ B.free)) fun b x e => Heap.get?_push_of_some _ (Heap.get?_push_of_some _ e)⟩
end
section
variable {pr : Program} {w0 : World} {Ar : Around} {E : Value → Shared → Prop} {s : Shared}
theorem wpAny_pyNext_enum_endI {e it a : Addr} {i : Nat} {items : Array Value} {c : Int} {old : Value} {Q : Option Value → Shared → Prop} (hh : Ar.handled = none) (he : IsEnum s.heap e it c old) (hi : s.heap.IsTupleIter it a i) (tup : s.heap.IsTuple a items) (ge : items.size ≤ i)
    (hQ : ∀ h', Heap.ExtBut it s.heap h' → Q none { s with heap := h' }) : wpAny (model pr w0) Ar (pyNext (.ref e)) Q E s := by
  have ty : s.TypeIs (.ref e) "enumerate" := ⟨_, he, rfl⟩
  unfold pyNext
  refine wpAny_bind (wpAny_attempt ?_)
  refine wpAny_callSpecial?_slot (name := Str.ofString "__next__") ty F.slot_enumerate_next ?_
  refine wpAny_call_entry F.slot_enumerate_next ty F.entry_enumerate_next ?_ (F.args_enumerate_next_1 _)
  show wpAny _ _ (field (.ref e) 2 >>= _) _ _ _
  refine wpAny_bind (wpAny_field he rfl (x := .ref it) rfl (wpAny_bind ?_))
  refine wpAny_nextOf_tuple_end (A := Ar.in1) hh hi tup (Array.getElem?_eq_none ge) fun h1 x k ⟨o, ho, hc⟩ => ?_
  exact wpAny_bind (wpAny_isInstance (T := "StopIteration") (b := true) ⟨o, ho, hc⟩ isSubtype_stop (wpAny_pure (hQ _ k)))
end
/-- the tuple at a, each item in a new pair -/
def IteT (K : PySem.W.Frag) (a : Addr) : It where
  go := fun i H => ∃ (xs : List V) (x : V), SqT K H a xs ∧ xs[i]? = some x
  yld := fun i H v H' => ∃ p x, v = .ref p ∧ H p = none ∧ H' = upd H p (.tup [.int (i : Nat), x]) ∧ ∀ xs, SqT K H a xs → xs[i]? = some x
  stop := fun i H => ∃ xs : List V, SqT K H a xs ∧ xs.length ≤ i
theorem turn_enumT {P : Program} {w : World} {K : PySem.W.Frag} {elts : List Expr} {kk : Nat} {tpos : Pos} {a e it : Addr} (n1 : e ≠ it) (n2 : a ≠ it) (n3 : a ≠ e) :
    Turn P w K (.Tuple elts kk tpos) (IteT K a) [e, it] e (fun i h => (∃ old, IsEnum h e it ((i : Nat) : Int) old) ∧ h.IsTupleIter it a i) where
  mem := by simp
  obj := fun i h st b hb => by
    obtain ⟨⟨old, he⟩, ⟨o, ho, _, dd⟩⟩ := st
    rcases List.mem_cons.mp hb with z | z
    · subst z; exact ⟨_, he, fun v q => nomatch q⟩
    · rw [List.mem_singleton.mp z]; exact ⟨o, ho, fun v q => by rw [dd] at q; cases q⟩
  keep := fun i h h' st k => by
    obtain ⟨⟨old, he⟩, hi⟩ := st
    exact ⟨⟨old, k e (by simp) _ he⟩, hi.at fun o q => k it (by simp) o q⟩
  item := by
    intro X hP hw hK hc i pins s σ H E I hf st hg
    subst hP hw hK
    obtain ⟨⟨old, he⟩, hi⟩ := st
    obtain ⟨xs, x, hq, hx⟩ := hg
    obtain ⟨its, rv, tp, _⟩ := I.tuple hq
    obtain ⟨u, hu, ru⟩ := rv.get hx
    have tup : s.heap.IsTuple a its.toArray := tp
    have le : e < s.heap.objs.size := Heap.lt_size he
    have li : it < s.heap.objs.size := by obtain ⟨_, q, _⟩ := hi; exact Heap.lt_size q
    have lt : i < its.toArray.size := by
      have := List.getElem?_eq_some_iff.mp hu
      simpa using this.1
    refine wpAny_pyNext_enum_itemD (Draws.tuple (A := X.A.in1) (I.ok.hd hc) it a n2 its.toArray) he (And.intro hi tup) lt n1 (by simp [n1, Ne.symm n3]) fun y h1 tk hy out st1 hT sz hk => ?_
    have ey : y = u := by
      have hy : its.toArray[i]? = some y := hy
      have hu : its.toArray[i]? = some u := by simpa using hu
      exact Option.some.inj (hy.symm.trans hu)
    subst ey
    refine ⟨_, rfl, wpAny_letOwnedTupleGo_enum (s := { s with heap := h1, toks := tk + 1 }) out fun h2 he2 sb => ?_⟩
    have hT2 : h2.get? s.heap.objs.size = some { cls := .type "tuple", data := .seq #[.int i tk, y] } := (sb.2 _ (Nat.ne_of_gt le)).trans hT
    have new : ObjOk X.prog X.w (upd H s.heap.objs.size (.tup [.int (i : Nat), x])) h2 s.heap.objs.size (.tup [.int (i : Nat), x]) := by
      refine ⟨?_, [.int i tk, y], .cons ⟨_, rfl⟩ (.cons ru .nil), ⟨_, hT2, rfl, _, rfl⟩⟩
      show 2 ≤ sizeLine
      decide
    have I1 : Inv X pins σ (upd H s.heap.objs.size (.tup [.int (i : Nat), x])) { s with heap := h2, toks := tk + 1 } := by
      refine I.turnedNew (ch := [e, it]) (fun b o hb q => ?_) hf (Nat.le_refl _) new
      have nb : b ≠ e ∧ b ≠ it := by simpa using hb
      exact (sb.2 b nb.1).trans (hk b o nb.1 nb.2 q)
    refine ⟨.ref s.heap.objs.size, _, I1, rfl, ⟨_, x, rfl, I.hok.fresh (Nat.le_refl _), rfl, fun ys hy2 => by rw [I.tuple_inj hy2 hq]; exact hx⟩, ⟨⟨y, ?_⟩, st1.1.at fun o q => (sb.2 it (Ne.symm n1)).trans q⟩, fun b hb => ?_⟩
    · rw [show ((i + 1 : Nat) : Int) = (i : Int) + 1 by omega]; exact he2
    · have lb : b < s.heap.objs.size := by
        rcases List.mem_cons.mp hb with z | z
        · rw [z]; exact le
        · rw [List.mem_singleton.mp z]; exact li
      rw [upd_ne (Nat.ne_of_lt lb)]
      exact (hf b hb).1
  done := by
    intro X hP hw hK hc i pins s σ H E I hf st hg
    subst hP hw hK
    obtain ⟨⟨old, he⟩, hi⟩ := st
    obtain ⟨xs, hq, hx⟩ := hg
    obtain ⟨its, rv, tp, _⟩ := I.tuple hq
    have tup : s.heap.IsTuple a its.toArray := tp
    obtain ⟨f0, f1, f2, f3, f4, f5⟩ := hf it (by simp)
    have hl := rv.length
    have ge : its.toArray.size ≤ i := by simp; omega
    refine wpAny_pyNext_enum_endI (I.ok.hd hc) he hi tup ge fun h1 eb => ⟨rfl, I.turned (t' := s.toks) (fun b o hb q => eb b o hb q) f0 f1 f3 f4 f5⟩
  self := fun A i s Q E st hq => by
    obtain ⟨⟨_, he⟩, _⟩ := st
    exact wpAny_pyIter_enum he hq
/-- of a list or of a tuple -/
def iEnumA (K : PySem.W.Frag) (ta : TA) : TI := fun σ H R => ta σ H fun vs H1 => ∃ a xs, vs = [.ref a] ∧ ((SqL K H1 a xs ∧ R (Ite K a) H1) ∨ (SqT K H1 a xs ∧ R (IteT K a) H1))
theorem fp2 {X : Cx} {pins : List (Addr × Obj)} {σ : L2.St} {H : Hp} {s : Shared} (I : Inv X pins σ H s) : ∀ b ∈ [s.heap.objs.size + 1, s.heap.objs.size], FpOk X pins H b := fun b hb => by
  have le : s.heap.objs.size ≤ b := by
    rcases List.mem_cons.mp hb with z | z
    · rw [z]; exact Nat.le_succ _
    · rw [List.mem_singleton.mp z]; exact Nat.le_refl _
  exact I.fpOk le (I.hok.fresh le)
theorem pi_enumA {X : Cx} {e : Expr} {ta : TA} {p pos tpos : Pos} {elts : List Expr} {kk : Nat} (hg : Gl X "enumerate") (hm : X.mg "enumerate" = none) (ha : PA X [e] ta) (hs : starEach [e] X.env = [(false, eval e X.env)] := by rfl) :
    PI X (.Tuple elts kk tpos) (.Call (.Name "enumerate" p) [e] [] pos) (iEnumA X.K ta) := ⟨fun pins s σ H R I h => by
  refine Call_ (ld_blt I hg hm boot_enumerate (PyProof.Rows.callWith_type1 ?_ hs rfl))
  refine thn (ha.run pos pins s σ H _ I h) fun us s1 ⟨vs, H1, I1, r1, a, xs, ex, q⟩ => ?_
  subst ex
  rcases r1 with _ | ⟨r, rr⟩
  cases rr
  cases r
  rcases q with ⟨hq, q⟩ | ⟨hq, q⟩
  · obtain ⟨its, rv, lp, _⟩ := I1.list hq
    refine call_enumerate_list lp.isList fun h1 he hi hz hk => wpAny_pyIter_enum he ?_
    exact ⟨s1.heap.objs.size + 1, [s1.heap.objs.size + 1, s1.heap.objs.size], _, _, H1, rfl, I1.kept (t' := s1.toks) hk, turn_enum a (s1.heap.objs.size + 1) s1.heap.objs.size, ⟨⟨.none, he⟩, hi, Nat.succ_ne_self _⟩, fp2 I1, q⟩
  · obtain ⟨its, rv, tp, _⟩ := I1.tuple hq
    have tup : s1.heap.IsTuple a its.toArray := tp
    have la : a < s1.heap.objs.size := by obtain ⟨_, z, _⟩ := tup; exact Heap.lt_size z
    refine call_enum1 (begins_tuple a its.toArray) tup fun h1 he hi hk => wpAny_pyIter_enum he ?_
    refine ⟨s1.heap.objs.size + 1, [s1.heap.objs.size + 1, s1.heap.objs.size], _, _, H1, rfl, I1.kept (t' := s1.toks) hk, turn_enumT (a := a) (it := s1.heap.objs.size) (Nat.succ_ne_self _) (Nat.ne_of_lt la) (Nat.ne_of_lt (Nat.lt_succ_of_lt la)), ⟨⟨.none, he⟩, ⟨_, hi, rfl, rfl⟩⟩, fp2 I1, q⟩⟩
section
variable {X : Cx} {c : Cn} {tg : Expr}
theorem iteT_items {K : PySem.W.Frag} {Hs : Hp} {a : Addr} {xs : List V} {ds : List D} (h1 : SqT K Hs a xs) (h2 : IsA K Hs ds xs) : ItIs K (IteT K a) (enumD 0 ds) Hs where
  go := fun i Hs' H s1 s2 hi => ⟨xs, xs[i]'(by rw [h2.len]; rw [enumD_len] at hi; exact hi), same_sqt (s1.trans s2) h1, List.getElem?_eq_getElem _⟩
  stop := fun i Hs' H s1 s2 hi0 => have hi := Nat.le_of_eq hi0; ⟨xs, same_sqt (s1.trans s2) h1, by rw [h2.len]; rw [enumD_len] at hi; exact hi⟩
  yld := fun i Hs' H v H' d s1 s2 y hd => by
    obtain ⟨T, x, e, nT, e2, y⟩ := y
    subst e; subst e2
    have hx := y xs (same_sqt (s1.trans s2) h1)
    obtain ⟨z, hz, ed⟩ := enumD_get hd
    obtain ⟨w, hw, iw⟩ := h2.get hz
    rw [hx] at hw
    cases hw
    subst ed
    have L := fun Z => Ext.laid (Z := Z) (o := .tup [.int (i : Nat), x]) s2 nT
    refine ⟨_, L, T, _, rfl, .inl (.inl upd_same), .int i, _, rfl, ?_, x, _, rfl, (iw.same s1).same (L fun _ => False).fz, rfl⟩
    show V.int (i : Int) = V.int ((0 + i : Nat) : Int)
    rw [Nat.zero_add]
def tiEnumA (te : TD) : TID := fun ss Q Ed => te ss (fun x => itemsD x fun ds => Q (enumD 0 ds)) Ed
theorem di_enumA {e : Expr} {te : TD} {p pos tpos : Pos} {elts : List Expr} {kk : Nat} (hm : X.mg "enumerate" = none) (h : DE X c e te) (hg : Gl X "enumerate" := by rfl) (hs : starEach [e] X.env = [(false, eval e X.env)] := by rfl) (hs1 : starEach [e] X.env = (false, eval e X.env) :: starEach [] X.env := by rfl) : DI X c (.Tuple elts kk tpos) (.Call (.Name "enumerate" p) [e] [] pos) (tiEnumA te) := by
  refine pi_imp (pi_enumA hg hm (pa_cons h pa_nil hs1) hs) fun σ H R q => ?_
  obtain ⟨O, Hs, ss, Qi, Ed, A, h, er, g⟩ := q
  refine ⟨O, Hs, ss, _, Ed, A, h, er, fun d v Hs1 H1 x1 i1 q1 => ?_⟩
  unfold itemsD at q1
  split at q1
  · obtain ⟨a, xs, e, h1, h2⟩ := i1
    subst e
    exact ⟨a, xs, rfl, .inl ⟨.of (x1.sub _ _ h1), g _ _ Hs1 H1 x1 (ite_items h1 h2) q1⟩⟩
  · obtain ⟨a, xs, e, h1, h2⟩ := i1
    subst e
    exact ⟨a, xs, rfl, .inr ⟨same_sqt x1.sub h1, g _ _ Hs1 H1 x1 (iteT_items h1 h2) q1⟩⟩
  · exact q1.elim
end
end DL
set_option Elab.async false
set_option linter.all false
set_option maxRecDepth 100000
set_option maxHeartbeats 4000000
/-! DQ: defs with keyword-only parameters -/
namespace DL
open PySem PySem.Spec PyProof.Rows L2
/-- n positional parameters, the keyword-only ones ks with the defaults ds -/
structure DefK (P : Program) (w : World) (K : PySem.W.Frag) (mg : Str → Option Value) (base : Heap) (x : Str) (k n : Nat) (ks : List Str) (ds : List D) (sp : SpD) : Prop where
  ex : ∃ f fd ps dus dvs, FnOk P w K mg base (L2.CX P w) k f fd ps (spD K sp) ∧ mg x = some (.ref f) ∧ PySem.W.keepIn K (.ref f) = true ∧ Binds K fd ps dus ∧ Vals dvs dus ∧ (∀ H, IsA K H ds dvs) ∧ KBn K fd ps n ks (fun us ws => us ++ ws) (fun vs zs => vs ++ zs)
theorem ArgIs.app2 {K Z Hs H} : ∀ {as bs : List Sl} {vs ws : List V}, ArgIs K Z Hs H as vs → ArgIs K Z Hs H bs ws → ArgIs K Z Hs H (as ++ bs) (vs ++ ws)
  | [], _, _, _, h, g => by cases h; exact g
  | .d _ :: _, _, _, _, ⟨v, ws', e1, h1, h3⟩, g => by subst e1; exact ⟨v, _, rfl, h1, h3.app2 g⟩
  | .pool :: _, _, _, _, ⟨p, ws', e1, h1, h3, h4⟩, g => by subst e1; exact ⟨p, _, rfl, h1, h3, h4.app2 g⟩
  | .un :: _, _, _, _, h, _ => h.elim
  | .own _ _ :: _, _, _, _, h, _ => h.elim
section
variable {X : Cx} {c : Cn} {x : Str} {p pos kpos : Pos} {e : Expr} {es : List Expr} {kws : List Keyword} {t tk : TAD} {te : TD} {k n : Nat} {ks : List Str} {ds : List D} {sp : SpD} {nm : Option Str}
/-- a call that leaves the keyword-only parameters to their defaults -/
theorem d_cD (G : DefK X.prog X.w X.K X.mg X.base x k n ks ds sp) (hr : Room k X.A) (ha : DAs X c (e :: es) t) (hg : Gl X x := by rfl) (hdb : (x == ("__debug__" : Str)) = false := by decide) (he : starEach (e :: es) X.env = (false, eval e X.env) :: starEach es X.env := by rfl) (hpl : (backTo pos (starEach es X.env)).any (·.1) = false := by rfl) :
    DE X c (.Call (.Name x p) (e :: es) [] pos) (tdCallN (fun as => sp (as ++ dats ds)) t) := by
  obtain ⟨f, fd, ps, dus, dvs, F, hm, hk, hb, hd, hds, _⟩ := G.ex
  refine pe_imp (pe_call F hr hg hm hk hb hd pass0D ha hdb he hpl) fun σ H Q q => ?_
  obtain ⟨O, Hs, ss, Qd, Ed, A, h, er, g⟩ := q
  refine ⟨O, Hs, ss, _, Ed, A, h, er, fun as vs Hs1 H1 e1 i1 q1 => ?_⟩
  have A1 := A.next e1
  exact ⟨Z0 O, Hs1, _, Qd, fun _ => False, A1.sub, fun p hp => ⟨A1.fz p (by rw [hp]; exact fun z => nomatch z), A1.live p (by rw [hp]; exact fun z => nomatch z)⟩, i1.app (hds Hs1), q1,
    fun d v Hs2 H2 e2 i2 q2 => g d v Hs2 H2 (e1.trans e2) i2 q2, fun _ _ _ _ z => z.elim⟩
theorem d_cDE (G : DefK X.prog X.w X.K X.mg X.base x k n ks ds sp) (hr : Room k X.A) (b : Bd X c) (ha : DAs X c (e :: es) t) (hg : Gl X x := by rfl) (hdb : (x == ("__debug__" : Str)) = false := by decide) (he : starEach (e :: es) X.env = (false, eval e X.env) :: starEach es X.env := by rfl) (hpl : (backTo pos (starEach es X.env)).any (·.1) = false := by rfl) :
    DE X c (.Call (.Name x p) (e :: es) [] pos) (tdCallE (fun as => sp (as ++ dats ds)) t) := by
  obtain ⟨f, fd, ps, dus, dvs, F, hm, hk, hb, hd, hds, _⟩ := G.ex
  refine pe_imp (pe_call F hr hg hm hk hb hd b.px ha hdb he hpl) fun σ H Q q => ?_
  obtain ⟨O, Hs, ss, Qd, Ed, A, h, er, g⟩ := q
  refine ⟨O, Hs, ss, _, Ed, A, h, er, fun as vs Hs1 H1 e1 i1 q1 => ?_⟩
  exact sp_of (A.next e1) er (i1.app (hds Hs1)) q1 fun d v Hs2 H2 e2 i2 q2 => g d v Hs2 H2 (e1.trans e2) i2 q2
abbrev DKs (X : Cx) (c : Cn) (kws : List Keyword) (t : TAD) : Prop := PK X kws (liftA c X.K t)
theorem pk_imp {kws : List Keyword} {t t' : TA} (h : PK X kws t) (f : ∀ σ H Q, t' σ H Q → t σ H Q) : PK X kws t' := ⟨fun po pins s σ H Q I q => h.run po pins s σ H Q I (f _ _ _ q)⟩
theorem dk_nil : DKs X c [] tdNil := by
  refine pk_imp pk_nil fun σ H Q q => ?_
  obtain ⟨O, Hs, ss, Qd, Ed, A, h, er, g⟩ := q
  exact g [] [] Hs H (.refl A.sub) rfl h
theorem dk_cons (ha : DE X c e te) (hr : DKs X c kws t) : DKs X c (⟨nm, e, kpos⟩ :: kws) (tdCons te t) := by
  refine pk_imp (pk_cons ha hr) fun σ H Q q => ?_
  obtain ⟨O, Hs, ss, Qd, Ed, A, h, er, g⟩ := q
  refine ⟨O, Hs, ss, _, Ed, A, h, er, fun d v Hs1 H1 e1 i1 q1 => ?_⟩
  exact ⟨O, Hs1, ss, _, Ed, A.next e1, q1, er, fun as vs Hs2 H2 e2 i2 q2 => g (.d d :: as) (v :: vs) Hs2 H2 (e1.trans e2) ⟨v, vs, rfl, i1.same e2.fz, i2⟩ q2⟩
def tdCallK (n m : Nat) (f : SpD) (t tk : TAD) : TD := fun ss Q Ed => t ss (fun as => tk ss (fun bs => as.length = n ∧ bs.length = m ∧ f (as ++ bs) Q fun _ => False) Ed) Ed
def tdCallKE (n m : Nat) (f : SpD) (t tk : TAD) : TD := fun ss Q Ed => t ss (fun as => tk ss (fun bs => as.length = n ∧ bs.length = m ∧ f (as ++ bs) Q Ed) Ed) Ed
/-- f(e, .., k = v, ..) -/
theorem d_cK (G : DefK X.prog X.w X.K X.mg X.base x k n ks ds sp) (hr : Room k X.A) (ha : DAs X c (e :: es) t) (hkw : DKs X c kws tk) (hg : Gl X x := by rfl) (hall : (backToKw pos (keywordEach kws X.env)).all (·.1.isSome) = true := by rfl) (hks : (backToKw pos (keywordEach kws X.env)).filterMap (·.1) = ks := by rfl)
    (hdb : (x == ("__debug__" : Str)) = false := by decide) (he : starEach (e :: es) X.env = (false, eval e X.env) :: starEach es X.env := by rfl)
    (hpl : ((backTo pos (starEach (e :: es) X.env)).any (·.1) || (backToKw pos (keywordEach kws X.env)).any (·.1.isNone)) = false := by rfl) :
    DE X c (.Call (.Name x p) (e :: es) kws pos) (tdCallK n ks.length sp t tk) := by
  obtain ⟨f, fd, ps, dus, dvs, F, hm, hk, _, _, _, hb⟩ := G.ex
  refine pe_imp (pe_callN F hr hg hm hk hb pass0D ha hkw hall hks hdb he hpl) fun σ H Q q => ?_
  obtain ⟨O, Hs, ss, Qd, Ed, A, h, er, g⟩ := q
  refine ⟨O, Hs, ss, _, Ed, A, h, er, fun as vs Hs1 H1 e1 i1 q1 => ?_⟩
  refine ⟨O, Hs1, ss, _, Ed, A.next e1, q1, er, fun bs zs Hs2 H2 e2 i2 q2 => ?_⟩
  obtain ⟨l1, l2, q2⟩ := q2
  have A2 := (A.next e1).next e2
  exact ⟨i1.len.trans l1, i2.len.trans l2, Z0 O, Hs2, _, Qd, fun _ => False, A2.sub, fun p hp => ⟨A2.fz p (by rw [hp]; exact fun z => nomatch z), A2.live p (by rw [hp]; exact fun z => nomatch z)⟩, (i1.next e2).app2 i2, q2,
    fun d v Hs3 H3 e3 i3 q3 => g d v Hs3 H3 ((e1.trans e2).trans e3) i3 q3, fun _ _ _ _ z => z.elim⟩
theorem d_cKE (G : DefK X.prog X.w X.K X.mg X.base x k n ks ds sp) (hr : Room k X.A) (b : Bd X c) (ha : DAs X c (e :: es) t) (hkw : DKs X c kws tk) (hg : Gl X x := by rfl) (hall : (backToKw pos (keywordEach kws X.env)).all (·.1.isSome) = true := by rfl) (hks : (backToKw pos (keywordEach kws X.env)).filterMap (·.1) = ks := by rfl)
    (hdb : (x == ("__debug__" : Str)) = false := by decide) (he : starEach (e :: es) X.env = (false, eval e X.env) :: starEach es X.env := by rfl)
    (hpl : ((backTo pos (starEach (e :: es) X.env)).any (·.1) || (backToKw pos (keywordEach kws X.env)).any (·.1.isNone)) = false := by rfl) :
    DE X c (.Call (.Name x p) (e :: es) kws pos) (tdCallKE n ks.length sp t tk) := by
  obtain ⟨f, fd, ps, dus, dvs, F, hm, hk, _, _, _, hb⟩ := G.ex
  refine pe_imp (pe_callN F hr hg hm hk hb b.px ha hkw hall hks hdb he hpl) fun σ H Q q => ?_
  obtain ⟨O, Hs, ss, Qd, Ed, A, h, er, g⟩ := q
  refine ⟨O, Hs, ss, _, Ed, A, h, er, fun as vs Hs1 H1 e1 i1 q1 => ?_⟩
  refine ⟨O, Hs1, ss, _, Ed, A.next e1, q1, er, fun bs zs Hs2 H2 e2 i2 q2 => ?_⟩
  obtain ⟨l1, l2, q2⟩ := q2
  exact ⟨i1.len.trans l1, i2.len.trans l2, sp_of ((A.next e1).next e2) er ((i1.next e2).app2 i2) q2 fun d v Hs3 H3 e3 i3 q3 => g d v Hs3 H3 ((e1.trans e2).trans e3) i3 q3⟩
end
end DL
set_option Elab.async false
set_option linter.all false
set_option maxRecDepth 100000
set_option maxHeartbeats 4000000
/-! SE: set(xs) and sorted(set(xs)), xs a list of ints -/
namespace DL
open PySem PySem.Spec PyProof.Rows L2
abbrev newSet (w : World) : Obj := { cls := .type "set", dict := none, data := .set #[] 0 (.fresh 0 0 (!w.params.followText "set-order")) }
section
variable {P : Program} {w : World} {A : Around} {E : Value → Shared → Prop} {s : Shared} {l : Addr} {items : Array Value} {ns : List Int}
/-- what the set's __init__ leaves -/
def SetMade (w : World) (s : Shared) (ns : List Int) (s2 : Shared) : Prop := ∃ hp tk k, s2 = { s with heap := hp, toks := tk } ∧ SetR w hp s.heap.objs.size (fun j => decide (j ∈ ns)) k ∧ k ≤ ns.length ∧ ∀ b x, s.heap.get? b = some x → hp.get? b = some x
set_option maxHeartbeats 8000000 in
theorem set_init (hh : A.handled = none) (hl : s.heap.IsList l items) (ii : IntsAre items.toList ns) (few : ns.length + 1 < scanBound) :
    codeAny (model P w) A (.call (.builtin "set.__init__") ⟨[.ref s.heap.objs.size, .ref l], []⟩) (wants (fun r s2 => r = .none ∧ SetMade w s ns s2) E) { s with heap := s.heap.push (newSet w) } := by
  have size : items.size = ns.length := by rw [← IntsAre.length ii, Array.length_toList]
  have atS : (s.heap.push (newSet w)).get? s.heap.objs.size = some (newSet w) := Heap.get?_push_size _ rfl
  have sz1 : (s.heap.push (newSet w)).objs.size = s.heap.objs.size + 1 := Heap.size_push ..
  have ty : Shared.TypeIs { s with heap := s.heap.push (newSet w) } (.ref s.heap.objs.size) "set" := ⟨_, atS, rfl⟩
  have ll : l < s.heap.objs.size := by obtain ⟨_, z, _⟩ := hl; exact Heap.lt_size z
  refine codeAny_call_builtin F.called_set.init.plain F.entry_set_init (check_set_init_1 ty ?_)
  obtain ⟨⟨lc, ld, lt, lx⟩, lo, e1, m, e2⟩ := hl
  cases (show lc = Value.type "list" from e1)
  cases (show lt = Data.seq items m from e2)
  have lo2 : (s.heap.push (newSet w)).get? l = some ⟨.type "list", ld, .seq items m, lx⟩ := Heap.get?_push_of_some _ lo
  have il : (s.heap.push (newSet w)).IsList l items := ⟨_, lo2, rfl, m, rfl⟩
  have k1 := F.sub_list_set
  have k2 := F.sub_list_frozenset
  have k3 : (Value.type "list" == Value.type "dict") = false := by decide
  unfold Builtin.«set.__init__» noKeywords Builtin.Frozenset.updateFrom
  generalize hit : pyIter = it
  wp_walk
  subst hit
  refine wpAny_pyIter_list il (wpAny_bind (wpAny_runValue ?_))
  have nI : l ≠ (s.heap.push (newSet w)).objs.size := by rw [sz1]; exact Nat.ne_of_lt (Nat.lt_succ_of_lt ll)
  have nS : s.heap.objs.size ∉ [(s.heap.push (newSet w)).objs.size, l] := by
    rw [sz1]
    intro z
    rcases List.mem_cons.mp z with z | z
    · exact Nat.ne_of_lt (Nat.lt_succ_self _) z
    · exact Nat.ne_of_gt ll (List.mem_singleton.mp z)
  have value : ∀ (i : Nat) (v : Value), items[i]? = some v → ∃ k t, ns[i]? = some k ∧ v = .int k t := fun i v hv => by
    have lt : i < ns.length := by
      rw [← size]
      exact (Array.getElem?_eq_some_iff.mp hv).1
    obtain ⟨t, e⟩ := PyProof.Rows.IntsAre.int_at ii i v (by rw [Array.getElem?_toList]; exact hv)
    rw [List.getD_eq_getElem?_getD, List.getElem?_eq_getElem lt] at e
    exact ⟨ns[i], t, List.getElem?_eq_getElem lt, e⟩
  have start : SetR w ((s.heap.push (newSet w)).push { cls := .type "list_iterator", data := .fields #[.ref l, .int 0 0] }) s.heap.objs.size (fun j => decide (j ∈ ns.take 0)) 0 := setR_new_at (Heap.get?_push_of_some _ atS)
  have nohand : A.in1.in1.handled = none := by simp [hh]
  have WL := (Walks.list (prog := P) (w := w) nohand _ l nI items).toS
  refine set_update_ints (P := P) (w := w) WL s.heap.objs.size nS ns size few value (items.size - 0) 0 _ (by omega) (Nat.zero_le _) ?_ ?_ ?_
  · exact ⟨⟨_, Heap.get?_push_size _ rfl, rfl, rfl⟩, il.push _⟩
  · exact ⟨0, Nat.le_refl 0, start⟩
  intro s2 k mv hk hS
  obtain ⟨hp, g2, d2, tk, o2⟩ := s2
  cases (show g2 = s.gens from mv.gens)
  cases (show d2 = s.drawn from mv.drawn)
  cases (show o2 = s.os from mv.os)
  show wpAny _ _ _ _ _ _
  refine wpAny_pure ?_
  show wpAny _ _ (ret Value.none) _ _ _
  refine wpAny_pure ⟨rfl, hp, tk, k, rfl, hS, by rw [← size]; exact hk, fun b x e => ?_⟩
  have lb := Heap.lt_size e
  refine mv.heap b x (fun z => ?_) (Heap.get?_push_of_some _ (Heap.get?_push_of_some _ e))
  rcases List.mem_cons.mp z with z | z
  · exact Nat.ne_of_lt lb z
  · have z2 := List.mem_singleton.mp z
    rw [sz1] at z2
    exact Nat.ne_of_lt (Nat.lt_succ_of_lt lb) z2
set_option maxHeartbeats 8000000 in
theorem call_setL {Q : Value → Shared → Prop} (hh : A.handled = none) (hl : s.heap.IsList l items) (ii : IntsAre items.toList ns) (few : ns.length + 1 < scanBound) (hq : ∀ s2, SetMade w s ns s2 → Q (.ref s.heap.objs.size) s2) : wpAny (model P w) A (call (.type "set") [.ref l]) Q E s := by
  obtain ⟨bs, rest, mro⟩ := F.called_set.mro
  have c1 := F.called_set.made
  have c2 := F.called_set.sub
  have c3 := F.called_set.notType
  have c4 := F.called_set.canCreate
  have c5 := F.typeCall_set_1 (.ref l)
  refine wpAny_call (codeAny_of_tree ?_)
  show wpAny _ _ (callAny (.type "set") _) _ _ _
  refine wpAny_pure (And.intro (Code.quiet_builtin _ (by decide +kernel)) (codeAny_builtin F.entry_type_call ?_))
  rw [Around.under_plain (weight_type_call_type "set" [.ref l] []) rfl]
  repeat (any_goals (first | assumption | wp_step))
  refine codeAny_mono (code_set_led1 (.ref l) (E := E) (Q₁ := fun ob s1 => ob = .ref s.heap.objs.size ∧ s1 = { s with heap := s.heap.push (newSet w) }) ⟨rfl, rfl⟩) fun r s1 hr => ?_
  rcases r with e | fl
  · exact hr
  cases fl <;> first | exact hr.elim | skip
  obtain ⟨rfl, rfl⟩ := hr
  have ty : Shared.TypeIs { s with heap := s.heap.push (newSet w) } (.ref s.heap.objs.size) "set" := ⟨_, Heap.get?_push_size _ rfl, rfl⟩
  have i1 := F.called_set.init.lookup
  have i2 := F.called_set.init.bind (.ref s.heap.objs.size)
  repeat (any_goals (first | assumption | wp_step))
  refine codeAny_mono (set_init (E := E) (by simpa using hh) hl ii few) fun r s2 hr => ?_
  rcases r with e | fl
  · exact hr
  cases fl <;> first | exact hr.elim | skip
  obtain ⟨rfl, hr⟩ := hr
  have hr2 := hr
  obtain ⟨hp, tk, k, rfl, _⟩ := hr2
  repeat (any_goals (first | assumption | wp_step))
  exact hq _ hr
end
section
variable {X : Cx} {c : Cn}
theorem cr_setL (hc : X.calm = true) : CallR X (.type "set") (fun vs H Q => ∃ (l : Addr) (ns : List Int), vs = [V.ref l] ∧ SqL X.K H l (ns.map V.int) ∧ ns.length ≤ 1000 ∧
    ∀ (p : Addr) (ks : List Int), H p = none → ks.Nodup → (∀ j, j ∈ ks ↔ j ∈ ns) → Q (.ref p) (upd H p (SetO X.w p (fun j => decide (j ∈ ns)) ks.length))) := by
  intro pins s σ H vs us Q I r h
  obtain ⟨l, ns, rfl, hq, few, q⟩ := h
  rw [Vals.ref1 r]
  obtain ⟨its, rv, lp, _⟩ := I.list hq
  refine call_setL (ns := ns) (I.ok.hd hc) lp.isList (ints_of_vals rv) (by unfold scanBound; omega) fun s2 ⟨hp, tk, k, e, R, _, kp⟩ => ?_
  subst e
  have R2 := R
  obtain ⟨o, es, ep, t, _, _, _, _, nd, mem, _, _, sz, _, _⟩ := R2
  have free := I.hok.fresh (Nat.le_refl s.heap.objs.size)
  have hl : (es.toList.map keyOf).length = k := by rw [List.length_map, Array.length_toList]; exact sz
  refine ⟨.ref _, upd H s.heap.objs.size (SetO X.w s.heap.objs.size (fun j => decide (j ∈ ns)) k), I.laid kp (Nat.le_refl _) (setO_new R), rfl, ?_⟩
  rw [← hl]
  exact q _ _ free nd fun j => by rw [← mem j, decide_eq_true_eq]
/-- sorted(set(xs)): fewer than 64 different ints -/
def tdSortSet (te : TD) : TD := fun ss Q Ed => te ss (fun x => match x with
  | .lst ds => ∃ ns, intL ds = some ns ∧ ns.length ≤ 1000 ∧ (∀ ks : List Int, ks.Nodup → (∀ j, j ∈ ks ↔ j ∈ ns) → ks.length < 64) ∧ ∀ ks : List Int, ks.Pairwise (· < ·) → (∀ j, j ∈ ks ↔ j ∈ ns) → Q (.lst (ks.map .int))
  | _ => False) Ed
theorem isA_ints {K H} : ∀ ks : List Int, IsA K H (ks.map D.int) (ks.map V.int)
  | [] => rfl
  | k :: ks => ⟨.int k, ks.map V.int, rfl, rfl, isA_ints ks⟩
theorem d_sortSet {p p2 pos pos2 : Pos} {a : Expr} {te : TD} (hc : X.calm = true) (m1 : X.mg "sorted" = none) (m2 : X.mg "set" = none) (ha : DE X c a te) (g1 : Gl X "sorted" := by rfl) (g2 : Gl X "set" := by rfl)
    (h1 : starEach [a] X.env = (false, eval a X.env) :: starEach [] X.env := by rfl) (h2 : starEach [.Call (.Name "set" p2) [a] [] pos2] X.env = (false, eval (.Call (.Name "set" p2) [a] [] pos2) X.env) :: starEach [] X.env := by rfl)
    (h3 : (backTo pos (starEach [] X.env)).any (·.1) = false := by rfl) (h4 : (backTo pos2 (starEach [] X.env)).any (·.1) = false := by rfl) : DE X c (.Call (.Name "sorted" p) [.Call (.Name "set" p2) [a] [] pos2] [] pos) (tdSortSet te) := by
  refine pe_imp (pe_callB (cr_sortedSet hc) g1 m1 (by decide +kernel) (pa_cons (pe_callTy (cr_setL hc) g2 m2 (by decide +kernel) (pa_cons ha pa_nil h1) (by decide) (by decide) h1 h4) pa_nil h2) (by decide) (by decide) h2 h3) fun σ H Q q => ?_
  obtain ⟨O, Hs, ss, Qd, Ed, A, h, er, g⟩ := q
  refine ⟨O, Hs, ss, _, Ed, A, h, er, fun d v Hs1 H1 e1 i1 q1 => ?_⟩
  split at q1
  · rename_i ds
    obtain ⟨ns, hi, few, lt, q1⟩ := q1
    obtain ⟨l, xs, rfl, hl, ia⟩ := i1
    have ex := intL_is ia hi
    subst ex
    refine ⟨l, ns, rfl, .of (e1.sub _ _ hl), few, fun a ks na nd mem => ?_⟩
    refine ⟨a, _, _, rfl, upd_same, lt ks nd mem, fun ks2 b pw mem2 _ nb => ?_⟩
    have x2 : Ext (Z0 O) Hs1 H1 Hs1 (upd H1 a (SetO X.w a (fun j => decide (j ∈ ns)) ks.length)) := .grow e1.sub na
    have x3 := Ext.laid (Z := Z0 O) (o := .lst (ks2.map V.int)) x2.sub nb
    refine g _ _ _ _ ((e1.trans x2).trans x3) ?_ (q1 ks2 pw fun j => by rw [mem2 j, decide_eq_true_eq])
    exact ⟨b, _, rfl, upd_same, isA_ints ks2⟩
  · exact q1.elim
end
end DL
set_option Elab.async false
set_option linter.all false
set_option maxRecDepth 100000
set_option maxHeartbeats 4000000
/-! DR: readings of common shapes -/
namespace DL
open PySem PySem.Spec PyProof.Rows L2
/-- [.. for .. in items if ..], each item giving the list g of it (none or one) -/
theorem lc_by {items : List D} (g : D → List D) {p : Pat} {vs : List Nat} {ss : List Sl} {tt : TTD} {te : TD} {Ed : QE} {Q : List D → Prop} (small : items.length ≤ 1000)
    (turn : ∀ d, d ∈ items → ∀ (acc : List D) (J : List D → Prop), J (acc ++ g d) → p.gd d (wipeD ss vs) fun ss2 => tt ss2 (fun b => if b = true then te ss2 (fun y => J (acc ++ [y])) Ed else J acc) Ed) (fin : Q (items.flatMap g)) :
    items.length < sizeLine ∧ ∃ I : Nat → List D → Prop, I 0 [] ∧
  (∀ i d acc, items[i]? = some d → I i acc → p.gd d (wipeD ss vs) fun ss2 => tt ss2 (fun b => if b = true then te ss2 (fun y => I (i + 1) (acc ++ [y])) Ed else I (i + 1) acc) Ed) ∧ ∀ acc, I items.length acc → Q acc := by
  refine ⟨small1000 small, fun i acc => acc = (items.take i).flatMap g, rfl, fun i d acc hd e => ?_, fun acc e => ?_⟩
  · subst e
    exact turn d (List.mem_of_getElem? hd) _ (fun acc => acc = (items.take (i + 1)).flatMap g) (by
      show _ = _
      rw [List.take_add_one, hd]
      simp)
  · rw [e, List.take_length]
    exact fin
def onInt (f : Int → List D) : D → List D
  | .int x => f x
  | _ => []
theorem rng_flat {lo : Int} {n : Nat} (f : Int → Bool) : (rngD lo n).flatMap (onInt fun x => if f x = true then [D.int x] else []) = (((List.range n).map fun k : Nat => lo + (k : Int)).filter f).map D.int := by
  unfold rngD
  induction List.range n with
  | nil => rfl
  | cons k ks ih =>
    rw [List.map_cons, List.flatMap_cons, ih, List.map_cons]
    show (if f (lo + (k : Int)) = true then [D.int (lo + (k : Int))] else []) ++ _ = _
    by_cases h : f (lo + (k : Int)) = true
    · rw [if_pos h, List.filter_cons_of_pos h]; rfl
    · rw [if_neg h, List.filter_cons_of_neg h]; rfl
theorem rng_map {lo : Int} {n : Nat} (f : Int → D) : (rngD lo n).flatMap (onInt fun x => [f x]) = (List.range n).map fun k : Nat => f (lo + (k : Int)) := by
  unfold rngD
  induction List.range n with
  | nil => rfl
  | cons k ks ih => rw [List.map_cons, List.flatMap_cons, ih, List.map_cons]; rfl
theorem ints_map {ks : List Int} (f : Int → D) : (ks.map D.int).flatMap (onInt fun x => [f x]) = ks.map f := by
  induction ks with
  | nil => rfl
  | cons k ks ih => rw [List.map_cons, List.flatMap_cons, ih, List.map_cons]; rfl
theorem rng_mem {lo : Int} {n : Nat} {d : D} (h : d ∈ rngD lo n) : ∃ k : Nat, k < n ∧ d = .int (lo + (k : Int)) := by
  obtain ⟨i, e⟩ := List.getElem?_of_mem h
  obtain ⟨a, b⟩ := rngD_get e
  exact ⟨i, a, b⟩
theorem ints_mem {ks : List Int} {d : D} (h : d ∈ ks.map D.int) : ∃ k, k ∈ ks ∧ d = .int k := by
  obtain ⟨k, a, b⟩ := List.mem_map.mp h
  exact ⟨k, a, b.symm⟩
/-! ### == of data -/
/-- data of ints, bools, texts, None in lists and tuples, not deeper than n -/
def shD : Nat → D → Bool
  | _, .non => true
  | _, .bl _ => true
  | _, .int _ => true
  | _, .str x => PyData.canLay0 (.str x)
  | n + 1, .lst ds => ds.all (shD n)
  | n + 1, .tup ds => ds.all (shD n)
  | _, _ => false
mutual
def eqD : D → D → Bool
  | .non, .non => true
  | .bl a, .bl b => a == b
  | .bl a, .int j => (if a then 1 else 0) == j
  | .int i, .bl b => i == (if b then 1 else 0)
  | .int i, .int j => i == j
  | .str x, .str y => x == y
  | .lst xs, .lst ys => eqDA xs ys
  | .tup xs, .tup ys => eqDA xs ys
  | _, _ => false
def eqDA : List D → List D → Bool
  | [], [] => true
  | x :: xs, y :: ys => eqD x y && eqDA xs ys
  | _, _ => false
end
theorem pyA_len : ∀ {ds : List D} {es : List PyData}, pyA ds = some es → es.length = ds.length
  | [], _, h => by simp only [pyA, Option.some.injEq] at h; subst h; rfl
  | d :: ds, _, h => by
    simp only [pyA] at h
    split at h
    · rename_i q1 q2
      cases h
      exact congrArg Nat.succ (pyA_len q2)
    · cases h
theorem shD_py : ∀ (n : Nat) (d : D), shD n d = true → ∃ e, py d = some e ∧ PyData.canLay0 e = true ∧ PyData.depth e ≤ n := by
  have lst : ∀ (n : Nat), (∀ d : D, shD n d = true → ∃ e, py d = some e ∧ PyData.canLay0 e = true ∧ PyData.depth e ≤ n) → ∀ ds : List D, ds.all (shD n) = true → ∃ es, pyA ds = some es ∧ PyData.canLayAll0 es = true ∧ PyData.depthAll es ≤ n := by
    intro n ih ds
    induction ds with
    | nil => exact fun _ => ⟨[], rfl, rfl, Nat.zero_le _⟩
    | cons d ds id =>
      intro h
      rw [List.all_cons, Bool.and_eq_true] at h
      obtain ⟨e, h1, h2, h3⟩ := ih d h.1
      obtain ⟨es, h4, h5, h6⟩ := id h.2
      refine ⟨e :: es, ?_, ?_, ?_⟩
      · simp only [pyA, h1, h4]
      · simp only [PyData.canLayAll0, h2, h5, Bool.and_self]
      · simp only [PyData.depthAll]; omega
  intro n
  induction n with
  | zero =>
    intro d h
    cases d <;> simp only [shD] at h <;> first | (cases h; done) | skip
    · exact ⟨.none, rfl, rfl, Nat.le_refl _⟩
    · exact ⟨.bool _, rfl, rfl, Nat.le_refl _⟩
    · exact ⟨.int _, rfl, rfl, Nat.le_refl _⟩
    · exact ⟨.str _, rfl, h, Nat.le_refl _⟩
  | succ n ih =>
    intro d h
    cases d <;> simp only [shD] at h <;> first | (cases h; done) | skip
    · exact ⟨.none, rfl, rfl, Nat.zero_le _⟩
    · exact ⟨.bool _, rfl, rfl, Nat.zero_le _⟩
    · exact ⟨.int _, rfl, rfl, Nat.zero_le _⟩
    · exact ⟨.str _, rfl, h, Nat.zero_le _⟩
    · obtain ⟨es, h1, h2, h3⟩ := lst n ih _ h
      exact ⟨.list es, by simp only [py, h1, Option.map_some], by simp only [PyData.canLay0, h2], by simp only [PyData.depth]; omega⟩
    · obtain ⟨es, h1, h2, h3⟩ := lst n ih _ h
      exact ⟨.tuple es, by simp only [py, h1, Option.map_some], by simp only [PyData.canLay0, h2], by simp only [PyData.depth]; omega⟩
mutual
theorem eqD_py : ∀ {x y : D} {a b : PyData}, py x = some a → py y = some b → PyData.eqv a b = eqD x y
  | .non, y, _, b, h, k => by
    simp only [py, Option.some.injEq] at h; subst h
    cases y <;> simp only [py, Option.some.injEq, Option.map_eq_some_iff, reduceCtorEq] at k <;> first | (subst k; rfl) | (obtain ⟨_, _, rfl⟩ := k; rfl)
  | .bl _, y, _, b, h, k => by
    simp only [py, Option.some.injEq] at h; subst h
    cases y <;> simp only [py, Option.some.injEq, Option.map_eq_some_iff, reduceCtorEq] at k <;> first | (subst k; simp only [PyData.eqv, eqD]) | (obtain ⟨_, _, rfl⟩ := k; rfl)
  | .int _, y, _, b, h, k => by
    simp only [py, Option.some.injEq] at h; subst h
    cases y <;> simp only [py, Option.some.injEq, Option.map_eq_some_iff, reduceCtorEq] at k <;> first | (subst k; simp only [PyData.eqv, eqD]) | (obtain ⟨_, _, rfl⟩ := k; rfl)
  | .str _, y, _, b, h, k => by
    simp only [py, Option.some.injEq] at h; subst h
    cases y <;> simp only [py, Option.some.injEq, Option.map_eq_some_iff, reduceCtorEq] at k <;> first | (subst k; simp only [PyData.eqv, eqD]) | (obtain ⟨_, _, rfl⟩ := k; rfl)
  | .lst xs, y, _, b, h, k => by
    simp only [py, Option.map_eq_some_iff] at h
    obtain ⟨as, ha, rfl⟩ := h
    cases y <;> simp only [py, Option.some.injEq, Option.map_eq_some_iff, reduceCtorEq] at k <;> first | (subst k; rfl) | skip
    · obtain ⟨bs, hb, rfl⟩ := k
      simp only [PyData.eqv, eqD]
      exact eqDA_py ha hb
    · obtain ⟨bs, hb, rfl⟩ := k; rfl
  | .tup xs, y, _, b, h, k => by
    simp only [py, Option.map_eq_some_iff] at h
    obtain ⟨as, ha, rfl⟩ := h
    cases y <;> simp only [py, Option.some.injEq, Option.map_eq_some_iff, reduceCtorEq] at k <;> first | (subst k; rfl) | skip
    · obtain ⟨bs, hb, rfl⟩ := k; rfl
    · obtain ⟨bs, hb, rfl⟩ := k
      simp only [PyData.eqv, eqD]
      exact eqDA_py ha hb
  | .dct _ _, _, _, _, h, _ => by simp [py] at h
  | .obj _ _ _, _, _, _, h, _ => by simp [py] at h
  | .ty _, _, _, _, h, _ => by simp [py] at h
  | .cls _, _, _, _, h, _ => by simp [py] at h
  | .is _, _, _, _, h, _ => by simp [py] at h
theorem eqDA_py : ∀ {xs ys : List D} {as bs : List PyData}, pyA xs = some as → pyA ys = some bs → PyData.eqvAll as bs = eqDA xs ys
  | [], [], _, _, h, k => by simp only [pyA, Option.some.injEq] at h k; subst h; subst k; rfl
  | [], _ :: _, _, bs, h, k => by
    have := pyA_len k
    simp only [pyA, Option.some.injEq] at h; subst h
    cases bs with
    | nil => cases this
    | cons _ _ => rfl
  | _ :: _, [], as, _, h, k => by
    have := pyA_len h
    simp only [pyA, Option.some.injEq] at k; subst k
    cases as with
    | nil => cases this
    | cons _ _ => rfl
  | x :: xs, y :: ys, _, _, h, k => by
    simp only [pyA] at h k
    split at h
    · rename_i p1 p2
      cases h
      split at k
      · rename_i q1 q2
        cases k
        simp only [PyData.eqvAll, eqDA]
        rw [eqD_py p1 q1, eqDA_py p2 q2]
      · cases k
    · cases h
end
theorem shaped_of {d : D} (h : shD 60 d = true) : ∃ e, py d = some e ∧ SeqAt.shaped e = true := by
  obtain ⟨e, h1, h2, h3⟩ := shD_py 60 d h
  refine ⟨e, h1, ?_⟩
  unfold SeqAt.shaped
  rw [h2, Bool.true_and, decide_eq_true_eq]
  omega
/-- x == y, whichever data these are -/
theorem rEq_by {f : Bool → Bool} {x y : D} {Q : QD} (hx : shD 60 x = true) (hy : shD 60 y = true) (q : Q (.bl (f (eqD x y)))) : rEqD f x y Q := by
  obtain ⟨a, h1, h2⟩ := shaped_of hx
  obtain ⟨b, h3, h4⟩ := shaped_of hy
  have e := eqD_py h1 h3
  have gen : ∃ d e, py x = some d ∧ py y = some e ∧ SeqAt.shaped d = true ∧ SeqAt.shaped e = true ∧ Q (.bl (f (PyData.eqv d e))) := ⟨a, b, h1, h3, h2, h4, by rw [e]; exact q⟩
  unfold rEqD
  split
  · simp only [eqD] at q
    rename_i i j
    rw [show decide (i = j) = (i == j) from rfl]
    exact q
  · simp only [eqD] at q
    rename_i i j
    rw [show decide (i = j) = (i == j) by cases i <;> cases j <;> rfl]
    exact q
  · simp only [eqD] at q
    rename_i i j
    rw [show decide (i = j) = (i == j) by rw [Bool.eq_iff_iff, decide_eq_true_eq, beq_iff_eq]]
    exact q
  · exact gen
theorem sh_ints : ∀ (n : Nat) (ks : List Int), (ks.map D.int).all (shD n) = true
  | _, [] => rfl
  | n, k :: ks => by
    rw [List.map_cons, List.all_cons, sh_ints n ks, Bool.and_true]
    cases n <;> rfl
theorem eq_ints : ∀ (ks js : List Int), eqDA (ks.map D.int) (js.map D.int) = decide (ks = js)
  | [], [] => rfl
  | [], _ :: _ => by simp [eqDA]
  | _ :: _, [] => by simp [eqDA]
  | k :: ks, j :: js => by
    rw [List.map_cons, List.map_cons]
    simp only [eqDA, eqD]
    rw [eq_ints ks js, Bool.eq_iff_iff]
    simp [beq_iff_eq]
/-- two lists of ints -/
theorem rEq_ints {f : Bool → Bool} {ks js : List Int} {Q : QD} (q : Q (.bl (f (decide (ks = js))))) : rEqD f (.lst (ks.map .int)) (.lst (js.map .int)) Q :=
  rEq_by (sh_ints 59 ks) (sh_ints 59 js) (by simp only [eqD]; rw [eq_ints]; exact q)
end DL
set_option Elab.async false
set_option linter.all false
set_option maxRecDepth 100000
set_option maxHeartbeats 4000000
/-! EX: own errors over any base, whose __init__ stores -/
namespace DL
open PySem PySem.Spec PyProof.Rows L2
open PySem.W (excInitIn excOver takerIn hasDictIn)
/-- such a class at C; bm, newId: of its base; fs: what it stores -/
structure XC (K : PySem.W.Frag) (C : Addr) (B newId initId : String) (bm : List Value) (fs : List Str) : Prop where
  q : excInitIn K C bm newId = true
  o : excOver K C bm = true
  d : hasDictIn K C = true
  sa : PySem.W.findIn K (.ref C) "__setattr__" = some (some (.builtin "object.__setattr__"))
  exC : PySem.W.subIn K (.ref C) (.type "BaseException") = some true
  tyC : PySem.W.typeIn K (.ref C) = some (.type "type")
  kC : PySem.W.keepIn K (.ref C) = true
  FB : ExcBaseFacts B newId initId bm
  SF : StoreFacts B bm "object.__setattr__" "object"
  fr : ∀ f ∈ fs, takerIn K C f = some none
section
open Builtin Builtin.ObjectAttr
variable {prog : Program} {w : World} {A : Around} {E : Value → Shared → Prop} {R : Result → Shared → Prop} {K : PySem.W.Frag} {C x : Addr} {B newId initId : String} {bm : List Value} {fs : List Str} {name : Str} {tk : Tok} {v : Value} {fv : Array Value}
variable {hp : Heap} {g : Array GenState} {d : Drawn} {t : Nat} {os : OsState}
/-- the first store -/
theorem sa_first (T : XC K C B newId initId bm fs) (hf : name ∈ fs) (X : K.In hp) (hx : hp.get? x = some { cls := .ref C, data := .fields fv })
    (hq : ∀ h2 t2 dx, (∀ b o, b ≠ x → hp.get? b = some o → h2.get? b = some o) → hp.objs.size ≤ dx → dx ≠ x → h2.get? x = some { cls := .ref C, dict := some dx, data := .fields fv } → h2.Ns1 dx (fun y => if y = name then some v else none) → R (.ok (.ret .none)) ⟨h2, g, d, t2, os⟩) :
    codeAny (model prog w) A (.call (.builtin "object.__setattr__") ⟨[.ref x, .str name tk, v], []⟩) R ⟨hp, g, d, t, os⟩ := by
  refine PySem.W.osa_openX (s := ⟨hp, g, d, t, os⟩) (od := none) T.SF X ⟨hx, rfl, rfl, trivial⟩ T.o (T.fr _ hf) fun b => ?_
  obtain ⟨cd, hc, hh⟩ := PySem.W.any_some T.d
  have nx : x ≠ hp.objs.size := Nat.ne_of_lt (Heap.lt_size hx)
  have cls : PySem.W.Looks (model prog w) hp (classData C) cd := PySem.W.looks_clsIn X hc
  obtain ⟨nm, bs, mro, ns, qn, hd, sn, sb, ab, col, del⟩ := cd
  cases (show hd = true from hh)
  show wpAny _ _ (storeInOwnDict (.ref x) (.ref C) (.str name tk) name v b) _ _ _
  unfold storeInOwnDict ownDictForStores
  repeat (first | with_reducible refine PySem.HandSPX.store_in_new ?_ ?_ | with_reducible refine wpAny_loadPart_at hx ?_ | with_reducible refine cls.at ?_ | wp_step)
  · exact ⟨_, #[], _, (Heap.get?_update_ne _ _ _ _ nx.symm).trans (Heap.get?_push_at rfl rfl), rfl, fun e he => absurd he (by simp), fun _ => rfl⟩
  · intro h2 t2 n2 sb
    refine hq h2 t2 hp.objs.size (fun b o hb ho => ?_) (Nat.le_refl _) nx.symm ?_ n2
    · rw [sb.2 b (Nat.ne_of_lt (Heap.lt_size ho)), Heap.get?_update_ne _ _ _ _ hb]
      exact Heap.get?_push_of_some _ ho
    · rw [sb.2 x nx]
      exact Heap.get?_update_self _ (Heap.get?_push_of_some _ hx) rfl
/-- a further store -/
theorem sa_more {dx : Addr} {m0 : Str → Option Value} {nl : List Str} (T : XC K C B newId initId bm fs) (hf : name ∈ fs) (X : K.In hp) (hx : hp.get? x = some { cls := .ref C, dict := some dx, data := .fields fv }) (hn : hp.Ns1 dx m0) (hw : Within m0 nl) (hz : nl.length ≤ 1000)
    (hq : ∀ h2 t2, (∀ b o, b ≠ dx → hp.get? b = some o → h2.get? b = some o) → h2.Ns1 dx (fun y => if y = name then some v else m0 y) → R (.ok (.ret .none)) ⟨h2, g, d, t2, os⟩) :
    codeAny (model prog w) A (.call (.builtin "object.__setattr__") ⟨[.ref x, .str name tk, v], []⟩) R ⟨hp, g, d, t, os⟩ := by
  obtain ⟨oD, _, _, hD, _, _⟩ := hn.count hw
  refine PySem.W.osa_openX (s := ⟨hp, g, d, t, os⟩) (od := some oD) T.SF X ⟨hx, rfl, rfl, hD⟩ T.o (T.fr _ hf) fun b => ?_
  obtain ⟨cd, hc, hh⟩ := PySem.W.any_some T.d
  have cls : PySem.W.Looks (model prog w) hp (classData C) cd := PySem.W.looks_clsIn X hc
  obtain ⟨nm, bs, mro, ns, qn, hd, sn, sb, ab, col, del⟩ := cd
  cases (show hd = true from hh)
  show wpAny _ _ (storeInOwnDict (.ref x) (.ref C) (.str name tk) name v b) _ _ _
  unfold storeInOwnDict ownDictForStores
  repeat (first | with_reducible refine PySem.OEX.store_in_old hn hw hz ?_ | with_reducible refine wpAny_loadPart_at hx ?_ | with_reducible refine cls.at ?_ | wp_step)
  intro h2 t2 n2 sb
  exact hq h2 t2 (fun b o hb ho => (sb.2 b hb).trans ho) n2
end
section
variable {X : Cx} {pins : List (Addr × Obj)} {σ : L2.St} {H : Hp} {s : Shared} {a C dx : Addr} {f : Str} {y : V} {u : Value} {gs : List (Str × V)} {Q : Unit → Shared → Prop} {E : Value → Shared → Prop} {A : Around} {B newId initId : String} {bm : List Value} {fs : List Str}
theorem put_first (T : XC X.K C B newId initId bm fs) (hf : f ∈ fs) (I : Inv X pins σ H s) (e : H a = some (exo a C none)) (ry : RelV y u)
    (h : ∀ dx s', H dx = none → dx ≠ a → Inv X pins σ (upd (upd H dx (exd dx [(f, y)])) a (exo a C (some dx))) s' → Q () s') : wpAny (model X.prog X.w) A (setAttr (.ref a) f u) Q E s := by
  obtain ⟨t1, ho⟩ := exo_at I.hok e
  obtain ⟨hp, g, d, t, os⟩ := s
  refine PySem.W.set_plain I.kIn (od := none) ⟨ho, rfl, rfl, trivial⟩ T.sa (sa_first T hf I.kIn ho fun h2 t2 dx k dn ne hx hn => ?_)
  have nd : H dx = none := I.hok.fresh dn
  have old : ∀ {b : Addr} {o : Obj}, hp.get? b = some o → b ≠ dx := fun {b o} z => Nat.ne_of_lt (Nat.lt_of_lt_of_le (Heap.lt_size z) dn)
  have fa : ∀ {b : Addr}, H b = none → b ≠ a := fun {b} n z => by rw [z, e] at n; cases n
  have two : ∀ {b : Addr}, b ≠ a → b ≠ dx → (upd (upd H dx (exd dx [(f, y)])) a (exo a C (some dx))) b = H b := fun {b} h1 h2 => by rw [upd_ne h1, upd_ne h2]
  have kept : ∀ {b : Addr} {o : HO}, H b = some o → exo a C none ≠ o → (upd (upd H dx (exd dx [(f, y)])) a (exo a C (some dx))) b = some o := fun {b o} z nz => by
    rw [two (at_ne e z nz) (ne_of_none z nd)]
    exact z
  refine h dx ⟨h2, g, d, t2, os⟩ nd ne (I.un (t' := t2) ⟨?_, ?_, ?_, ?_, ?_, ?_, ?_⟩ fun b o z => ?_)
  · exact fun b o z n _ _ => k b o (fa n) z
  · exact fun b o z n _ _ => ⟨o.slots, k b o (fa n) z⟩
  · exact fun b o z n _ => by rw [two (fa n) (old z)]; exact n
  · intro b o z _
    by_cases c : b = a
    · subst c; exact ⟨_, hx⟩
    · exact ⟨o, k b o c z⟩
  · exact fun b xs z => kept z exo_tup
  · exact fun b o v z => kept z exo_frz
  · exact fun b ps z => ⟨#[], by rw [kept z exo_tbl]; simp⟩
  · by_cases c : b = a
    · subst c
      rw [upd_same] at z
      cases z
      exact exo_ok hx
    · by_cases c2 : b = dx
      · subst c2
        rw [upd_ne c, upd_same] at z
        cases z
        exact exd_ok hn (relO_put (fs := []) ry fun _ => trivial)
      · rw [two c c2] at z
        refine (I.hok b o z).stay (fun p q hc w => k p q ?_ w) (fun p hc => kept hc exo_own) fun p xs hc => kept hc exo_tup
        rcases hc with hc | hc
        · rw [hc]; exact c
        · exact at_ne e hc exo_own
theorem put_more (T : XC X.K C B newId initId bm fs) (hf : f ∈ fs) (I : Inv X pins σ H s) (e : H a = some (exo a C (some dx))) (ed : H dx = some (exd dx gs)) (hl : gs.length ≤ 900) (ry : RelV y u)
    (h : ∀ s', Inv X pins σ (upd H dx (exd dx ((f, y) :: gs))) s' → Q () s') : wpAny (model X.prog X.w) A (setAttr (.ref a) f u) Q E s := by
  obtain ⟨t1, ho⟩ := exo_at I.hok e
  obtain ⟨mA, hn, rel⟩ := exd_at I.hok ed
  obtain ⟨hp, g, d, t, os⟩ := s
  have hw := within_of rel
  obtain ⟨oD, _, _, hD, _, _⟩ := hn.count hw
  refine PySem.W.set_plain I.kIn (od := some oD) ⟨ho, rfl, rfl, hD⟩ T.sa (sa_more T hf I.kIn ho hn hw (by rw [List.length_map]; omega) fun h2 t2 k n2 => ?_)
  have there : ∃ o, h2.get? dx = some o := by obtain ⟨o, _, _, z, _⟩ := n2; exact ⟨o, z⟩
  exact h _ (I.write (t' := t2) (x := dx) (e := dx) (o := exd dx ((f, y) :: gs)) (by rw [ed]; trivial) (.inl rfl) k there (exd_ok n2 (relO_put ry rel)))
end
/-- self.f = e, in such an __init__ -/
def tPut (K : PySem.W.Frag) (f : Str) (to te : TE) : TS := fun D σ H => te σ H fun y H1 => to σ H1 fun x H2 => ∃ (a C : Addr) (B newId initId : String) (bm : List Value) (fs : List Str), x = .ref a ∧ XC K C B newId initId bm fs ∧ f ∈ fs ∧
  ((H2 a = some (exo a C none) ∧ ∀ dx, H2 dx = none → dx ≠ a → D.nx σ (upd (upd H2 dx (exd dx [(f, y)])) a (exo a C (some dx)))) ∨
    ∃ (dx : Addr) (gs : List (Str × V)), H2 a = some (exo a C (some dx)) ∧ H2 dx = some (exd dx gs) ∧ gs.length ≤ 900 ∧ D.nx σ (upd H2 dx (exd dx ((f, y) :: gs))))
section
variable {X : Cx} {o e : Expr} {es : List Expr} {to te : TE} {ta : TA} {f : Str} {p p' p1 p2 pos : Pos}
theorem ps_put (ho : PE X o to) (he : PE X e te) (hs : swapsWith e (some (.Attribute o f p')) pos.line X.env = pure false := by rfl) : PS X (.Assign [.Attribute o f p'] e pos) (tPut X.K f to te) := ⟨fun pins s σ H D I h => by
  refine plainObj_wpAny_Assign_Attribute (thn (he.run pins s σ H _ I h) fun v s1 ⟨y, H1, I1, r1, q1⟩ => thn (ho.run pins s1 σ H1 _ I1 q1) fun u s2 ⟨x, H2, I2, r2, a, C, _, _, _, _, _, ex, T, hf, q⟩ => ?_) hs
  subst ex
  cases r2
  rcases q with ⟨ea, q⟩ | ⟨dx, gs, ea, ed, hl, q⟩
  · exact put_first T hf I2 ea r1 fun dx s' n ne J => ⟨σ, _, J, q dx n ne⟩
  · exact put_more T hf I2 ea ed hl r1 fun s' J => ⟨σ, _, J, q⟩⟩
/-- C(e, ..): its own __init__ keeps sp -/
def tNewX (C : Addr) (sp : Sp) (ta : TA) : L2.St → Hp → XK → Prop := fun σ H Q => ta σ H fun vs H1 => vs.length ≤ 1000 ∧ ∀ a, H1 a = none → sp (.ref a :: vs) (upd H1 a (exo a C none))
  (fun v H2 => v = .non ∧ ∃ (d : Addr) (gs : List (Str × V)), H2 a = some (exo a C (some d)) ∧ H2 d = some (exd d gs) ∧ H1 d = none ∧ Q (.ref C) (some d) (upd (del H2 a) d (.xd gs))) (fun _ _ _ => False)
theorem pmk_newX {x : Str} {C fI : Addr} {k : Nat} {fd : FuncData} {ps : List Str} {sp : Sp} {B newId initId : String} {bm : List Value} {fs : List Str} (T : XC X.K C B newId initId bm fs) (iC : PySem.W.findIn X.K (.ref C) "__init__" = some (some (.ref fI))) (tI : PySem.W.typeIn X.K (.ref fI) = some (.type "function"))
    (F1 : FnOk X.prog X.w X.K X.mg X.base (L2.CX X.prog X.w) k fI fd ps sp) (hr : Room (k + 1) X.A) (hb : Binds X.K fd ps []) (hx : Passes (L2.CX X.prog X.w) X Er0) (hg : Gl X x) (hm : X.mg x = some (.ref C)) (ha : PA X (e :: es) ta)
    (hdb : (x == ("__debug__" : Str)) = false := by decide) (he : starEach (e :: es) X.env = (false, eval e X.env) :: starEach es X.env := by rfl) (hpl : (backTo pos (starEach es X.env)).any (·.1) = false := by rfl) :
    PMk X (.Call (.Name x p) (e :: es) [] pos) (tNewX C sp ta) := by
  intro pins s σ H Q I h
  refine wpAny_Call_Name_kw (ld_glob I hg hm ?_ hdb)
  refine PySem.W.callWith_K (h₀ := X.base) I.ok.mod.kin T.kC (thn (ha.run pos pins s σ H _ I h) fun us s1 ⟨vs, H1, J, rv, few, q1⟩ => ⟨J.kIn, ?_⟩) he hpl
  obtain ⟨hp, g, dr, tk, os⟩ := s1
  obtain ⟨nm, N, qn, bs, bm', hdct, sn, sub, ab, col, dd, k0, k1, k2, k3, k5, hC, hT⟩ := PySem.W.excInit_of J.kIn T.q
  have le : hp.objs.size ≤ hp.objs.size + 1 := Nat.le_succ _
  have fr := J.hok.fresh le
  have run := q1 (hp.objs.size + 1) fr
  have keep2 : ∀ b x, hp.get? b = some x → ((hp.push (PySem.W.kdv_tup us)).push (PySem.HandSPX.excO C hp.objs.size)).get? b = some x := fun b x z => Heap.get?_push_of_some _ (Heap.get?_push_of_some _ z)
  have new : ((hp.push (PySem.W.kdv_tup us)).push (PySem.HandSPX.excO C hp.objs.size)).get? (hp.objs.size + 1) = some (PySem.HandSPX.excO C hp.objs.size) := by heap_get
  have J2 : Inv X pins σ (upd H1 (hp.objs.size + 1) (exo (hp.objs.size + 1) C none)) ⟨(hp.push (PySem.W.kdv_tup us)).push (PySem.HandSPX.excO C hp.objs.size), g, dr, tk, os⟩ := J.laid (t' := tk) keep2 le (exo_ok new)
  have all : Vals (V.ref (hp.objs.size + 1) :: vs) (Value.ref (hp.objs.size + 1) :: us) := .cons rfl rv
  have len : (Value.ref (hp.objs.size + 1) :: us ++ []).length = ps.length := by
    rw [List.append_nil, ← all.length]
    exact F1.len _ _ _ _ run
  have bnd := hb _ (Value.ref (hp.objs.size + 1) :: us) J2.kIn len
  rw [List.append_nil] at bnd
  have fit : us.length ≤ sizeLine := by rw [← Paired.length rv, sizeLine_eq]; omega
  show wpAny _ _ (call (.ref C) us) _ _ _
  refine wpAny_call (PySem.HandSPX.call_own T.FB hT hC (PySem.W.looks_findIn J.kIn iC) (fun me => PySem.W.bind_fn J.kIn me tI) fit ?_)
  refine codeAny_mono (F1.run _ X.stack _ _ ⟨Value.ref (hp.objs.size + 1) :: us, []⟩ (Value.ref (hp.objs.size + 1) :: us) _ _ Er0 (hr.make C us []) (J2.env0.make C us []) bnd all run) fun r s2 z => ?_
  rcases r with er | fl
  · exact hx pins σ _ _ er s2 J2 z
  cases fl <;> first | exact False.elim z | skip
  obtain ⟨v, H2, w1, w2, w3, w4, w5, ev, d, gs, ea, ed, nd, q2⟩ := z
  subst ev
  obtain ⟨h2, g2, d2, t2, o2⟩ := s2
  exact ⟨w5, mk_end (raises_own T.exC T.tyC) J le keep2 w3 w4 w1 w2 ea ed nd q2⟩
end
/-- what such an __init__(self, y) with self.f = y does -/
def spInit (K : PySem.W.Frag) (f : Str) : Sp := fun vs H Q _ => ∃ (a C : Addr) (y : V) (B newId initId : String) (bm : List Value) (fs : List Str), vs = [.ref a, y] ∧ XC K C B newId initId bm fs ∧ f ∈ fs ∧ H a = some (exo a C none) ∧ ∀ dx, H dx = none → dx ≠ a → Q .non (upd (upd H dx (exd dx [(f, y)])) a (exo a C (some dx)))
/-- the error of this name, whose __init__ stores its one parameter as f -/
structure ErrD1 (P : Program) (w : World) (K : PySem.W.Frag) (mg : Str → Option Value) (base : Heap) (x : Str) (C : Addr) (f : Str) : Prop where
  g : mg x = some (.ref C)
  ex : ∃ B newId initId bm fI fd ps, XC K C B newId initId bm [f] ∧ PySem.W.findIn K (.ref C) "__init__" = some (some (.ref fI)) ∧ PySem.W.typeIn K (.ref fI) = some (.type "function") ∧ FnOk P w K mg base (L2.CX P w) 1 fI fd ps (spInit K f) ∧ Binds K fd ps []
section
variable {P : Program} {w : World} {K : PySem.W.Frag} {mg : Str → Option Value} {base : Heap}
theorem ok_init {qual me y f : Str} {st : Stmt} {fI : Addr} {fd : FuncData} (F : Fun K "__init__" qual st fI fd) (S : FnScope [me, y] [me, y] (defScope st))
    (body : ∀ (cdv : Value) (A : Around) (outer : List Env) (s : Shared) (H : Hp) (E : XK), PSs (cxOf (L2.CX P w) P w K mg base [me, y] qual (defScope st) fI cdv A outer s H E) (defBody st) (tPut K f (tVar 0) (tVar 1))) :
    FnOk P w K mg base (L2.CX P w) 1 fI fd [me, y] (spInit K f) := by
  refine F.okX S (fun vs H Q E h => ?_) (fun cdv A outer s H vs Q E hr h => ⟨_, body cdv A outer s H E, ?_⟩)
  · obtain ⟨_, _, _, _, _, _, _, _, rfl, _⟩ := h
    rfl
  · obtain ⟨a, C, u, B, newId, initId, bm, fs, rfl, T, hf, ha, q⟩ := h
    exact ⟨u, rfl, .ref a, rfl, a, C, B, newId, initId, bm, fs, rfl, T, hf, .inl ⟨ha, q⟩⟩
end
section
variable {X : Cx} {c : Cn} {te : TD} {x f : Str} {C : Addr} {e : Expr} {p pos pos' : Pos}
/-- raise C(e) -/
def tdRaise1 (C : Addr) (f : Str) (te : TD) : TSD := fun _ ss Ed => te ss (fun d => Ed (.e1 C f d)) Ed
theorem d_raise1 (b : Bd X c) (hc : X.calm = true) (T : ErrD1 X.prog X.w X.K X.mg X.base x C f) (hr : Room 2 X.A) (he : DE X c e te) (hg : Gl X x := by rfl) (hdb : (x == ("__debug__" : Str)) = false := by decide) (hs1 : starEach [e] X.env = (false, eval e X.env) :: starEach [] X.env := by rfl) (hpl : (backTo pos (starEach [] X.env)).any (·.1) = false := by rfl) :
    DS X c (.Raise (some (.Call (.Name x p) [e] [] pos)) none pos') (tdRaise1 C f te) := by
  obtain ⟨B, newId, initId, bm, fI, fd, ps, xc, iC, tI, F, hb⟩ := T.ex
  refine ps_imp (ps_raise hc b.tk (pmk_newX xc iC tI F hr hb pass0D hg T.g (pa_cons he pa_nil hs1) hdb hs1 hpl)) fun Dn σ H q => ?_
  obtain ⟨O, Hs, ss, En, Ed, A, h, er, gc⟩ := q
  refine ⟨O, Hs, ss, _, Ed, A, h, er, fun d v Hs1 H1 e1 i1 q1 => ?_⟩
  refine ⟨by show 1 ≤ 1000; decide, fun a na => ⟨a, C, v, B, newId, initId, bm, [f], rfl, xc, List.mem_singleton.mpr rfl, upd_same, fun dx nd ne => ⟨rfl, dx, [(f, v)], upd_same, ?_, ?_, ?_⟩⟩⟩
  · rw [upd_ne ne, upd_same]
  · rw [upd_ne ne] at nd
    exact nd
  · rw [upd_ne ne] at nd
    have eq : upd (del (upd (upd (upd H1 a (exo a C none)) dx (exd dx [(f, v)])) a (exo a C (some dx))) a) dx (.xd [(f, v)]) = upd H1 dx (.xd [(f, v)]) := by
      funext z
      by_cases c1 : z = dx
      · rw [c1, upd_same, upd_same]
      · rw [upd_ne c1, upd_ne c1]
        by_cases c2 : z = a
        · rw [c2, del_same, na]
        · rw [del_ne c2, upd_ne c2, upd_ne c1, upd_ne c2]
    rw [eq]
    have x2 : Ext (Z0 O) Hs H (upd Hs1 dx (.xd [(f, v)])) (upd H1 dx (.xd [(f, v)])) := e1.trans (.laid e1.sub nd)
    exact er (.e1 C f d) _ _ (A.after x2) q1 dx v upd_same (i1.same (Ext.laid (Z := Z0 O) e1.sub nd).fz)
end
end DL
set_option Elab.async false
set_option linter.all false
set_option maxRecDepth 100000
set_option maxHeartbeats 4000000
/-! try: .. with several clauses, `except X as n` (all with one name) and `except X` mixed -/
namespace TM
open PySem PySem.Spec PyProof.Rows L2
abbrev Sui := Addr → Value → Option Addr → TS
/-- behind a suite the name is gone -/
def unset (i : Nat) (D : Ends) : Ends := ⟨fun u G => D.nx (u.set i none) G, D.rt, fun u G => D.bk (u.set i none) G, fun u G => D.ct (u.set i none) G⟩
/-- what the clauses wish, from the first on -/
def wAll (K : PySem.W.Frag) (i : Nat) (Wo : WX) (D : Ends) : List (Value × Bool × Sui) → WX
  | [] => Wo
  | p :: more => fun C dd u G => ∃ yes, PySem.W.exmOne K C p.1 = some yes ∧ (yes = true → ∀ x, G x = none → if p.2.1 then p.2.2 x C dd (unset i D) (u.set i (some (.ref x))) G else p.2.2 x C dd D u G) ∧ (yes = false → wAll K i Wo D more C dd u G)
inductive Clauses (X : Cx) (n : Str) : List ExceptHandler → List (Value × Bool × Sui) → Prop
  | nil : Clauses X n [] []
  | cons {y : Str} {c : Value} {ts : Sui} {b : Stmt} {bs : List Stmt} {p1 p2 : Pos} {hs : List ExceptHandler} {l : List (Value × Bool × Sui)} (names : Names X y c)
      (su : ∀ (x : Addr) (ox : Obj) (C : Value) (dd : Option Addr) (pn : List (Addr × Obj)), Zc C dd ox → (∃ vs, ox.data = .fields vs) → PSs (X.suite x ((x, ox) :: pn)) (b :: bs) (ts x C dd)) (more : Clauses X n hs l) :
      Clauses X n (.ExceptHandler (some (.Name y p1)) (some n) (b :: bs) p2 :: hs) ((c, true, ts) :: l)
  | bare {y : Str} {c : Value} {ts : Sui} {b : Stmt} {bs : List Stmt} {p1 p2 : Pos} {hs : List ExceptHandler} {l : List (Value × Bool × Sui)} (names : Names X y c)
      (su : ∀ (x : Addr) (ox : Obj) (C : Value) (dd : Option Addr) (pn : List (Addr × Obj)), Zc C dd ox → (∃ vs, ox.data = .fields vs) → PSs (X.suite x ((x, ox) :: pn)) (b :: bs) (ts x C dd)) (more : Clauses X n hs l) :
      Clauses X n (.ExceptHandler (some (.Name y p1)) none (b :: bs) p2 :: hs) ((c, false, ts) :: l)
section
variable {X : Cx} {n : Str} {i : Nat} {body : List Stmt} {h1 : ExceptHandler} {hs : List ExceptHandler} {l : List (Value × Bool × Sui)} {pos : Pos} {tb : WX → TS} {Wo : WX}
theorem ps_tryAs (e1 : X.stack = X.env :: X.outer) (e2 : X.env.frame = some X.env.locals) (nd : X.N.Nodup) (at_ : X.N[i]? = some n) (lo : X.env.kindOf n = some .local) (tk : Takes X Wo)
    (hb : ∀ (W : WX) (pn : List (Addr × Obj)) (xe : Value → Shared → Prop), Takes (X.tr pn xe) W → PassesOwn (model X.prog X.w) X.A X.env xe → PSs (X.tr pn xe) body (tb W)) (hh : Clauses X n (h1 :: hs) l) :
    PS X (.Try body (h1 :: hs) [] [] pos) (fun D u G => tb (wAll X.K i Wo D l) D u G) := by
  refine ⟨fun pins s u G D I r => ?_⟩
  have ok := I.ok
  have frames : X.A.frames = some (X.env :: X.outer) := by rw [ok.frames, e1]
  have vis : Loc X.env.scope n := .inl lo
  refine wpAny_Try_except ?_
  refine wpAny_mono ((hb (wAll X.K i Wo D l) (X.pn ++ pins) (fun x t1 => wpAny (model X.prog X.w) X.A (noteFrame x X.env)
      (fun _ t2 => wpAny (model X.prog X.w) X.A (setFlight x none) (fun _ t3 => wpAny (model X.prog X.w) X.A (handleBy x X.env (h1 :: hs)) (SP X pins D) X.xe t3) X.xe t2) X.xe t1)
      (fun v t z => ?_) PassesOwn.looking).run [] s u G D (I.toTry _) r) (fun fl t z => ?_) (fun _ _ z => z)
  · obtain ⟨x, B, t0, pins', u', G', C, dd, rfl, Jt, nb, upt, sky, nx, os, bare, wish⟩ := z
    have J : Inv X pins u' G' t0 := Jt.ofTry ok
    have sky2 : Sky B (X.env :: X.outer) x (Zc C dd) X.env.locals t.heap := e1 ▸ sky
    show wpAny (model X.prog X.w) X.A (noteFrame (.ref x) X.env) _ _ _
    refine Sky.land Zc.steady frames e2 sky2 fun g3 fly up3 => ?_
    have J3 : Inv X pins u' G' { t with heap := g3 } := J.landed nb fly.1 (upt.trans up3) os bare
    obtain ⟨ox, vx, hx, zx, dx⟩ := fly.there
    have out : x ∉ frs (X.env :: X.outer) := fun m => by
      obtain ⟨_, ob, eb, no⟩ := fly.2.2.1.mem m
      cases hx.symm.trans eb
      exact no _ dx
    have notL : x ≠ X.env.locals := fun z => out (List.mem_filterMap.mpr ⟨X.env, List.mem_cons_self, by rw [e2, z]⟩)
    have notF : x ∉ X.fs := fun m => let ⟨v, hv, q⟩ := List.mem_filterMap.mp m; out (List.mem_filterMap.mpr ⟨v, List.mem_cons_of_mem _ hv, q⟩)
    have S3 := J3.suite hx dx nx notL notF
    have ty : PySem.W.Looks (model X.prog X.w) g3 (typeOf (.ref x)) C := fun _ _ _ _ keep q => wpAny_typeOf_ref (keep _ _ hx) (by rw [zx.1]; exact q)
    have go : ∀ {hs' : List ExceptHandler} {l' : List (Value × Bool × Sui)}, Clauses X n hs' l' → wAll X.K i Wo D l' C dd u' G' →
        wpAny (model X.prog X.w) X.A (handleBy (.ref x) X.env hs') (SP X pins D) X.xe { t with heap := g3 } := by
      intro hs' l' cl
      induction cl with
      | nil =>
        intro wish
        refine wpAny_handleBy_nil ?_
        obtain ⟨k1, k2, k3, o9, v9, T, oT, tT, a9, z9, d9, f9, r9⟩ := id fly
        unfold PySem.passOn
        refine wpAny_bind (wpAny_field a9 d9 f9 ?_)
        rw [if_neg (show ¬ ((Value.ref T == Value.none) = true) by simp)]
        have fin : wpAny (model X.prog X.w) X.A (setFlight (.ref x) X.env.frame) (fun _ t4 => wpAny (model X.prog X.w) X.A (throw (.ref x) : Sem Flow) (SP X pins D) X.xe t4) X.xe { t with heap := g3 } := by
          rw [e2]
          exact HandSPX.setFlight_upZ fly fun g4 held up4 => wpAny_throw (tk _ _ ⟨x, B, t0, pins, u', G', C, dd, rfl, J, nb, (upt.trans up3).trans up4, .inr (.inr (e1.symm ▸ held)), nx, os, bare, wish⟩)
        first | exact wpAny_bind (wpAny_pure (wpAny_bind fin)) | exact wpAny_bind fin
      | @cons y c ts b bs p1 p2 hs2 l2 names su more ih =>
        intro wish
        obtain ⟨yes, m1, onYes, onNo⟩ := wish
        refine wpAny_handleBy_cons (codeAny_handlers_test ?_) (fun z => by cases z)
        have names' := names
        have clause : ∀ {Q : Value → Shared → Prop} {E : Value → Shared → Prop}, Q c { t with heap := g3 } → wpAny (model X.prog X.w) (X.A.mark (some (.ref x))) (eval (.Name y p1) X.env) Q E { t with heap := g3 } := fun q => by
          obtain ⟨gl, dbg, m | ⟨m, bv, nn⟩⟩ := names'
          · exact ld_glob (X := X.suite x ((x, ox) :: (X.pn ++ pins))) S3 gl m q dbg
          · exact ld_blt (X := X.suite x ((x, ox) :: (X.pn ++ pins))) S3 gl m bv q nn dbg
        refine clause ((PySem.W.exm_one (M := model X.prog X.w) J3.kIn ty m1).here ?_)
        cases yes with
        | false => exact ih (onNo rfl)
        | true =>
          refine codeAny_handlers_suite_as (HandSPX.lands_againZ fly fun g4 fly4 up4 => ?_)
          have J4 : Inv X pins u' G' { t with heap := g4 } := J.landed nb fly4.1 ((upt.trans up3).trans up4) os bare
          obtain ⟨o4, v4, h4, z4, d4⟩ := fly4.there
          refine store_ok (X := X.suite x ((x, o4) :: (X.pn ++ pins))) (v := .ref x) (J4.suite h4 d4 nx notL notF) nd at_ vis rfl (fun t5 S5 => ?_) (.inr lo)
          refine wpAny_mono ((su x o4 C dd (X.pn ++ pins) z4 ⟨_, d4⟩).run [] t5 _ G' _ S5 (onYes rfl x nx)) (fun fl t6 z => ?_) (fun _ _ z => z.elim)
          have last : ∀ {u6 : L2.St} {G6 : Hp} {Q : Shared → Prop}, Inv (X.suite x ((x, o4) :: (X.pn ++ pins))) [] u6 G6 t6 → (∀ t7, Inv X pins (u6.set i none) G6 t7 → Q t7) →
              wpAny (model X.prog X.w) X.A (do bindName X.env n .none; unbindBehindTheSuite X.env n p2) (fun _ t7 => Q t7) X.xe t6 := fun S6 q => gone_ok (S6.unsuite ok) nd at_ lo q
          cases fl with
          | ret u9 => exact let ⟨_, _, _, S6, rv, q⟩ := z; last S6 fun _ J7 => ⟨_, _, _, J7, rv, q⟩
          | next => exact let ⟨_, _, S6, q⟩ := z; last S6 fun _ J7 => ⟨_, _, J7, q⟩
          | brk => exact let ⟨_, _, S6, q⟩ := z; last S6 fun _ J7 => ⟨_, _, J7, q⟩
          | cont => exact let ⟨_, _, S6, q⟩ := z; last S6 fun _ J7 => ⟨_, _, J7, q⟩
      | @bare y c ts b bs p1 p2 hs2 l2 names su more ih =>
        intro wish
        obtain ⟨yes, m1, onYes, onNo⟩ := wish
        refine wpAny_handleBy_cons (codeAny_handlers_test ?_) (fun z => by cases z)
        have names' := names
        have clause : ∀ {Q : Value → Shared → Prop} {E : Value → Shared → Prop}, Q c { t with heap := g3 } → wpAny (model X.prog X.w) (X.A.mark (some (.ref x))) (eval (.Name y p1) X.env) Q E { t with heap := g3 } := fun q => by
          obtain ⟨gl, dbg, m | ⟨m, bv, nn⟩⟩ := names'
          · exact ld_glob (X := X.suite x ((x, ox) :: (X.pn ++ pins))) S3 gl m q dbg
          · exact ld_blt (X := X.suite x ((x, ox) :: (X.pn ++ pins))) S3 gl m bv q nn dbg
        refine clause ((PySem.W.exm_one (M := model X.prog X.w) J3.kIn ty m1).here ?_)
        cases yes with
        | false => exact ih (onNo rfl)
        | true =>
          refine codeAny_handlers_suite (HandSPX.lands_againZ fly fun g4 fly4 up4 => ?_)
          have J4 : Inv X pins u' G' { t with heap := g4 } := J.landed nb fly4.1 ((upt.trans up3).trans up4) os bare
          obtain ⟨o4, v4, h4, z4, d4⟩ := fly4.there
          refine wpAny_mono ((su x o4 C dd (X.pn ++ pins) z4 ⟨_, d4⟩).run [] _ _ G' _ (J4.suite h4 d4 nx notL notF) (onYes rfl x nx)) (fun fl t6 z => ?_) (fun _ _ z => z.elim)
          cases fl with
          | ret u9 => exact let ⟨_, _, _, S6, rv, q⟩ := z; ⟨_, _, _, S6.unsuite ok, rv, q⟩
          | next => exact let ⟨_, _, S6, q⟩ := z; ⟨_, _, S6.unsuite ok, q⟩
          | brk => exact let ⟨_, _, S6, q⟩ := z; ⟨_, _, S6.unsuite ok, q⟩
          | cont => exact let ⟨_, _, S6, q⟩ := z; ⟨_, _, S6.unsuite ok, q⟩
    exact go hh wish
  · cases fl with
    | ret u9 => exact let ⟨_, _, _, J, rv, q⟩ := z; ⟨_, _, _, J.ofTry ok, rv, q⟩
    | next => exact let ⟨_, _, J, q⟩ := z; wpAny_execs_nil ⟨_, _, J.ofTry ok, q⟩
    | brk => exact let ⟨_, _, J, q⟩ := z; ⟨_, _, J.ofTry ok, q⟩
    | cont => exact let ⟨_, _, J, q⟩ := z; ⟨_, _, J.ofTry ok, q⟩
end
end TM
set_option Elab.async false
set_option linter.all false
set_option maxRecDepth 100000
set_option maxHeartbeats 4000000
/-! TY: try .. except over data -/
namespace DL
open PySem PySem.Spec PyProof.Rows L2
def ErrD.C : ErrD → Addr
  | .e0 C => C
  | .e1 C _ _ => C
/-- an error stands at a, its dict at d -/
def ErrIs (K : PySem.W.Frag) (a : Addr) (d : Option Addr) (er : ErrD) : Hp → V → Prop := fun H v => v = .ref a ∧ match er with
  | .e0 _ => d = none
  | .e1 _ f x => ∃ dd u, d = some dd ∧ H dd = some (.xd [(f, u)]) ∧ Is K H x u
theorem ErrIs.same {K a d er H H' v} (h : ErrIs K a d er H v) (s : Same H H') : ErrIs K a d er H' v := by
  obtain ⟨e, h⟩ := h
  refine ⟨e, ?_⟩
  cases er with
  | e0 C => exact h
  | e1 C f x => obtain ⟨dd, u, h1, h2, h3⟩ := h; exact ⟨dd, u, h1, s _ _ h2, h3.same s⟩
/-- a suite, by what it holds -/
abbrev SuD := Addr → Option Addr → ErrD → TSD
def unS (n : Nat) : List Sl := List.replicate n .un
def suS (K : PySem.W.Frag) (i n : Nat) (as : Bool) (a : Addr) (d : Option Addr) (er : ErrD) : List Sl := if as then put (unS n) i (.d (.is (ErrIs K a d er))) else unS n
def EnD.out (En : EnD) : EnD := { nx := fun _ => False, rt := En.rt, ro := En.ro }
/-- what the clauses make of an error -/
def clsD (K : PySem.W.Frag) (i n : Nat) (En : EnD) (Ed : QE) : List (Value × Bool × SuD) → QE
  | [] => Ed
  | p :: more => fun er => ∃ yes, PySem.W.exmOne K (.ref er.C) p.1 = some yes ∧ (yes = true → ∀ a d, p.2.2 a d er En.out (suS K i n p.2.1 a d er) fun _ => False) ∧ (yes = false → clsD K i n En Ed more er)
def tdTry (K : PySem.W.Frag) (i n : Nat) (tb : TSD) (l : List (Value × Bool × SuD)) : TSD := fun En ss Ed => tb En ss (clsD K i n En Ed l)
inductive ClsD (X : Cx) (c : Cn) (n : Str) : List ExceptHandler → List (Value × Bool × SuD) → Prop
  | nil : ClsD X c n [] []
  | as {y : Str} {cv : Value} {ts : SuD} {b : Stmt} {bs : List Stmt} {p1 p2 : Pos} {hs : List ExceptHandler} {l : List (Value × Bool × SuD)} (names : Names X y cv)
      (su : ∀ (a : Addr) (oe : Obj) (d : Option Addr) (pn : List (Addr × Obj)) (er : ErrD), Zc (.ref er.C) d oe → (∃ vs, oe.data = .fields vs) → DSs (X.suite a ((a, oe) :: pn)) c (b :: bs) (ts a d er)) (more : ClsD X c n hs l) :
      ClsD X c n (.ExceptHandler (some (.Name y p1)) (some n) (b :: bs) p2 :: hs) ((cv, true, ts) :: l)
  | no {y : Str} {cv : Value} {ts : SuD} {b : Stmt} {bs : List Stmt} {p1 p2 : Pos} {hs : List ExceptHandler} {l : List (Value × Bool × SuD)} (names : Names X y cv)
      (su : ∀ (a : Addr) (oe : Obj) (d : Option Addr) (pn : List (Addr × Obj)) (er : ErrD), Zc (.ref er.C) d oe → (∃ vs, oe.data = .fields vs) → DSs (X.suite a ((a, oe) :: pn)) c (b :: bs) (ts a d er)) (more : ClsD X c n hs l) :
      ClsD X c n (.ExceptHandler (some (.Name y p1)) none (b :: bs) p2 :: hs) ((cv, false, ts) :: l)
section
variable {X : Cx} {c : Cn}
def toTM (c : Cn) (K : PySem.W.Frag) (p : Value × Bool × SuD) : Value × Bool × TM.Sui := (p.1, p.2.1, fun a cv d D σ H => ∃ er : ErrD, cv = .ref er.C ∧ liftS c K (p.2.2 a d er) D σ H)
theorem ClsD.tm {n : Str} {hs : List ExceptHandler} {l : List (Value × Bool × SuD)} (h : ClsD X c n hs l) : TM.Clauses X n hs (l.map (toTM c X.K)) := by
  induction h with
  | nil => exact .nil
  | as names su more ih =>
    refine .cons names (fun a oe cv d pn hz hf => ⟨fun pins s σ H D I h => ?_⟩) ih
    obtain ⟨er, rfl, h⟩ := h
    exact (su a oe d pn er hz hf).run pins s σ H D I h
  | no names su more ih =>
    refine .bare names (fun a oe cv d pn hz hf => ⟨fun pins s σ H D I h => ?_⟩) ih
    obtain ⟨er, rfl, h⟩ := h
    exact (su a oe d pn er hz hf).run pins s σ H D I h
/-- how an error lies in a frozen heap -/
def ErrAtD (K : PySem.W.Frag) (Hs : Hp) (er : ErrD) (d : Option Addr) : Prop := match er with
  | .e0 _ => d = none
  | .e1 _ f x => ∃ dd u, d = some dd ∧ Hs dd = some (.xd [(f, u)]) ∧ Is K Hs x u
theorem ErrPost.use {K : PySem.W.Frag} {E : XK} {er : ErrD} {Hs H : Hp} {d : Option Addr} (h : ErrPost K E er Hs H) (a : ErrAtD K Hs er d) : E (.ref er.C) d H := by
  cases er with
  | e0 C => cases a; exact h
  | e1 C f x => obtain ⟨dd, u, rfl, h1, h2⟩ := a; exact h dd u h1 h2
theorem ErrPost.of {K : PySem.W.Frag} {E : XK} {er : ErrD} {Hs H : Hp} (h : ∀ d, ErrAtD K Hs er d → E (.ref er.C) d H) : ErrPost K E er Hs H := by
  cases er with
  | e0 C => exact h none rfl
  | e1 C f x => exact fun dd u h1 h2 => h (some dd) ⟨dd, u, rfl, h1, h2⟩
open Classical in
theorem abs_un {K : PySem.W.Frag} {Hs H : Hp} {σ : L2.St} (x : Ext c.Z c.Hs c.H Hs H) (zz : ∀ p, c.Z p → c.Hs p = none ∧ c.H p ≠ none) : ∃ O, Abs K c O Hs H σ (unS σ.length) := by
  have nO : ∀ p, (if c.Z p then some 0 else none : Option Nat) ≠ none → c.Z p := fun p h => by
    by_cases z : c.Z p
    · exact z
    · exact absurd (if_neg z) h
  refine ⟨fun b => if c.Z b then some 0 else none, x, fun a h => x.new a (zz a (nO a h)).1 (zz a (nO a h)).2, fun a h => x.live a (zz a (nO a h)).2, fun a h => .inl (nO a h), fun a h => if_pos h, by unfold unS; rw [List.length_replicate], fun i => ?_⟩
  have : ∀ (k i : Nat), nth (unS k) i = .un := by
    intro k
    unfold unS
    induction k with
    | zero => exact fun _ => rfl
    | succ k ih =>
      intro i
      cases i with
      | zero => rfl
      | succ i => exact ih i
  rw [this]
  trivial
theorem wAll_of {i n : Nat} {En : EnD} {Ed : QE} {Dn : Ends} {Hs H : Hp} {er : ErrD} {d : Option Addr} {Hs0 : Hp} (x : Ext c.Z c.Hs c.H Hs H) (zz : ∀ p, c.Z p → c.Hs p = none ∧ c.H p ≠ none) (ec : ErrC X.K c Ed) (gc : Conn c X.K Hs0 En Dn) (ha : ErrAtD X.K Hs er d) :
    ∀ (l : List (Value × Bool × SuD)), clsD X.K i n En Ed l er → ∀ σ : L2.St, σ.length = n → TM.wAll X.K i (fun cls d _ H => c.E cls d H) Dn (l.map (toTM c X.K)) (.ref er.C) d σ H
  | [], h, _, _ => (ec er Hs H x h).use ha
  | (cv, as, ts) :: more, h, σ, hl => by
    obtain ⟨yes, m, onY, onN⟩ := h
    refine ⟨yes, m, fun y a na => ?_, fun y => wAll_of x zz ec gc ha more (onN y) σ hl⟩
    have run := onY y a d
    obtain ⟨O, A⟩ := abs_un (K := X.K) (σ := σ) x zz
    rw [hl] at A
    have is : Is X.K Hs (.is (ErrIs X.K a d er)) (.ref a) := fun H' s' => by
      refine ErrIs.same ⟨rfl, ?_⟩ s'
      cases er with
      | e0 C => exact ha
      | e1 C f x => exact ha
    cases as with
    | true =>
      refine ⟨er, rfl, O, Hs, _, En.out, fun _ => False, A.set (i := i) is, run, fun _ _ _ _ z => z.elim, ?_⟩
      exact ⟨fun _ _ _ _ _ _ _ z => z.elim, fun _ _ _ _ _ _ _ z => z.elim, fun _ _ _ _ _ _ _ z => z.elim, gc.rt, gc.ro⟩
    | false =>
      refine ⟨er, rfl, O, Hs, _, En.out, fun _ => False, A, run, fun _ _ _ _ z => z.elim, ?_⟩
      exact ⟨fun _ _ _ _ _ _ _ z => z.elim, fun _ _ _ _ _ _ _ z => z.elim, fun _ _ _ _ _ _ _ z => z.elim, gc.rt, gc.ro⟩
theorem d_try {n : Str} {i : Nat} {body : List Stmt} {h1 : ExceptHandler} {hs : List ExceptHandler} {l : List (Value × Bool × SuD)} {pos : Pos} {tb : TSD} (b : Bd X c) (e1 : X.stack = X.env :: X.outer) (e2 : X.env.frame = some X.env.locals) (nd : X.N.Nodup) (at_ : X.N[i]? = some n) (lo : X.env.kindOf n = some .local)
    (hb : ∀ (c2 : Cn) (pn : List (Addr × Obj)) (xe : Value → Shared → Prop), Bd (X.tr pn xe) c2 → PassesOwn (model X.prog X.w) X.A X.env xe → DSs (X.tr pn xe) c2 body tb) (hh : ClsD X c n (h1 :: hs) l) :
    DS X c (.Try body (h1 :: hs) [] [] pos) (tdTry X.K i X.N.length tb l) := by
  refine ps_imp (TM.ps_tryAs (tb := fun W => liftS ⟨c.Z, c.Hs, c.H, fun cls d H => ∀ σ : L2.St, σ.length = X.N.length → W cls d σ H⟩ X.K tb) e1 e2 nd at_ lo b.tk (fun W pn xe tk po => ?_) hh.tm) fun Dn σ H q => ?_
  · have tk2 : Takes (X.tr pn xe) (fun cls d _ H => ∀ σ : L2.St, σ.length = X.N.length → W cls d σ H) := fun u s' ⟨a, B, sI, pins, σ, H, cls, d, e, I, nb, up, sky, na, os, ag, w⟩ => tk u s' ⟨a, B, sI, pins, σ, H, cls, d, e, I, nb, up, sky, na, os, ag, w σ I.len⟩
    exact hb _ pn xe ⟨passes_call tk2 fun _ _ _ _ h => h, tk2, b.zz⟩ po
  · obtain ⟨O, Hs, ss, En, Ed, A, h, er, gc⟩ := q
    refine ⟨O, Hs, ss, En, clsD X.K i X.N.length En Ed l, ⟨A.ext, A.fz, A.live, A.own0, A.z, A.len, A.sl⟩, h, fun er' Hs' H' x hc => .of fun d ha => fun σ' hl => wAll_of (c := c) x b.zz er gc ha l hc σ' hl, ?_⟩
    have back : ∀ {O' : Addr → Option Nat} {Hs' H' : Hp} {σ' : L2.St} {ss' : List Sl}, Abs X.K ⟨c.Z, c.Hs, c.H, fun cls d H => ∀ σ : L2.St, σ.length = X.N.length → TM.wAll X.K i (fun cls d _ H => c.E cls d H) Dn (l.map (toTM c X.K)) cls d σ H⟩ O' Hs' H' σ' ss' → Abs X.K c O' Hs' H' σ' ss' := fun A => ⟨A.ext, A.fz, A.live, A.own0, A.z, A.len, A.sl⟩
    exact ⟨fun σ' O' Hs' H' ss' s A' q => gc.nx σ' O' Hs' H' ss' s (back A') q, fun σ' O' Hs' H' ss' s A' q => gc.bk σ' O' Hs' H' ss' s (back A') q, fun σ' O' Hs' H' ss' s A' q => gc.ct σ' O' Hs' H' ss' s (back A') q, gc.rt, gc.ro⟩
/-! ### the caught error's field; its class -/
def tdFld (K : PySem.W.Frag) (i : Nat) (a : Addr) (d : Option Addr) (er : ErrD) (f : Str) : TD := fun ss Q _ => match er with
  | .e1 C g x => g = f ∧ XfC K C ∧ PySem.W.findIn K (.ref C) f = some none ∧ nth ss i = .d (.is (ErrIs K a d er)) ∧ Q x
  | .e0 _ => False
theorem d_fld {a : Addr} {oe : Obj} {d : Option Addr} {pn : List (Addr × Obj)} {er : ErrD} {e : Expr} {i : Nat} {f : Str} {pos : Pos} (hz : Zc (.ref er.C) d oe) (hf : ∃ vs, oe.data = .fields vs) (he : PE (X.suite a ((a, oe) :: pn)) e (tVar i)) (hb : attributeBase e f X.env (eval e X.env) = eval e X.env := by rfl) :
    DE (X.suite a ((a, oe) :: pn)) c (.Attribute e f pos) (tdFld X.K i a d er f) := ⟨fun pins s σ H Q I q => by
  obtain ⟨O, Hs, ss, Qd, Ed, A, h, _, g⟩ := q
  unfold tdFld at h
  split at h
  · rename_i C g0 x
    obtain ⟨rfl, T, no, hn, q⟩ := h
    have sl := A.sl i
    rw [hn] at sl
    obtain ⟨v, ev, is⟩ := sl
    obtain ⟨rfl, dd, u, rfl, hd, ix⟩ := is Hs (.refl _)
    refine (pe_xf T no hz hf he hb).run pins s σ H Q I ⟨_, ev, rfl, rfl, dd, _, u, rfl, A.sub _ _ hd, ?_, g x u Hs H (.refl A.sub) ix q⟩
    show List.lookup g0 [(g0, u)] = some u
    simp [List.lookup]
  · exact h.elim⟩
/-- what the class of an error must be, to be asked about -/
structure IsC (K : PySem.W.Frag) (C : Addr) : Prop where
  cl : (PySem.W.clsIn K C).isSome = true
  ga : PySem.W.findIn K (.ref C) "__getattribute__" = some (some (.builtin "BaseException.__getattribute__"))
  gt : PySem.W.findIn K (.ref C) "__getattr__" = some none
  sb : PySem.W.subIn K (.ref C) (.type "BaseException") = some true
  cc : PySem.W.findIn K (.ref C) "__class__" = some (some (.builtin "object.__class__"))
  cg : PySem.W.specialIn K (.builtin "object.__class__") "__get__" = some (some (.builtin "getset_descriptor.__get__"))
  ct : PySem.W.takesIn K (.builtin "object.__class__") = some true
  mo : PySem.W.mroIn K C (.type "object") = some true
theorem call_isX {a : Addr} {oe : Obj} {d : Option Addr} {pn : List (Addr × Obj)} {er : ErrD} (hz : Zc (.ref er.C) d oe) (hf : ∃ vs, oe.data = .fields vs) : CallR (X.suite a ((a, oe) :: pn)) (.builtin "isinstance") (fun xs H Q => ∃ (cv : V) (cu : Value) (b : Bool), xs = [.ref a, cv] ∧ (∀ u, RelV cv u → u = cu) ∧ IsC X.K er.C ∧ PySem.W.kitOne X.K (.ref er.C) cu = some b ∧ ErrIs X.K a d er H (.ref a) ∧ Q (.bl b) H) := by
  intro pins s σ H xs us Q I r h
  obtain ⟨cv, cu, b, rfl, rel, T, k, is, q⟩ := h
  rcases r with _ | ⟨rx, rr⟩
  rcases rr with _ | ⟨rt, rr⟩
  cases rr
  cases rx
  cases rel _ rt
  obtain ⟨ho, _⟩ := I.pin (a, oe) (List.mem_append.mpr (.inl List.mem_cons_self))
  have nc : PySem.W.notCls oe = true := by obtain ⟨vs, hv⟩ := hf; unfold PySem.W.notCls; rw [hv] <;> rfl
  have fin : ∀ od : Option Obj, PySem.W.InstAt s.heap a oe er.C od → wpAny (model X.prog X.w) (X.suite a ((a, oe) :: pn)).A (call (.builtin "isinstance") [.ref a, cu]) (EP (X.suite a ((a, oe) :: pn)) pins σ Q) (X.suite a ((a, oe) :: pn)).xe s := fun od J =>
    PySem.W.kia_one (PySem.W.kitx_exc (od := od) T.cl T.ga T.gt T.sb T.cc T.cg T.ct T.mo) I.kIn J k (fun z => nomatch z) fun tk => ⟨.bl b, H, I.kept (t' := tk) fun _ _ z => z, rfl, q⟩
  obtain ⟨_, is⟩ := is
  cases er with
  | e0 C =>
    have ed : d = none := is
    subst ed
    exact fin none ⟨ho, hz.1, nc, by rw [hz.2]; trivial⟩
  | e1 C f x =>
    obtain ⟨dd, u, rfl, hd, _⟩ := is
    obtain ⟨mA, hns, _⟩ := (I.hok dd _ hd : ObjOk X.prog X.w H s.heap dd (.xd [(f, u)]))
    obtain ⟨od, hod, _⟩ := lookIn_ns hns
    exact fin (some od) ⟨ho, hz.1, nc, by rw [hz.2]; exact hod⟩
/-- isinstance(e, T), T a built-in class -/
def tdIsX (K : PySem.W.Frag) (i : Nat) (a : Addr) (d : Option Addr) (er : ErrD) (T : String) : TD := fun ss Q _ => ∃ b, IsC K er.C ∧ PySem.W.kitOne K (.ref er.C) (.type T) = some b ∧ nth ss i = .d (.is (ErrIs K a d er)) ∧ Q (.bl b)
theorem d_isX {a : Addr} {oe : Obj} {d : Option Addr} {pn : List (Addr × Obj)} {er : ErrD} {e : Expr} {i : Nat} {x : Str} {T : String} {p p2 pos : Pos} (hz : Zc (.ref er.C) d oe) (hf : ∃ vs, oe.data = .fields vs) (mi : X.mg "isinstance" = none) (he : PE (X.suite a ((a, oe) :: pn)) e (tVar i)) (ht : PE (X.suite a ((a, oe) :: pn)) (.Name x p2) (tC (.ty T)))
    (gi : Gl (X.suite a ((a, oe) :: pn)) "isinstance" := by rfl) (h1 : starEach [e, .Name x p2] X.env = (false, eval e X.env) :: starEach [.Name x p2] X.env := by rfl) (h2 : starEach [.Name x p2] X.env = (false, eval (.Name x p2) X.env) :: starEach [] X.env := by rfl) (hpl : (backTo pos (starEach [.Name x p2] X.env)).any (·.1) = false := by rfl) :
    DE (X.suite a ((a, oe) :: pn)) c (.Call (.Name "isinstance" p) [e, .Name x p2] [] pos) (tdIsX X.K i a d er T) := ⟨fun pins s σ H Q I q => by
  obtain ⟨O, Hs, ss, Qd, Ed, A, ⟨b, C, k, hn, q⟩, _, g⟩ := q
  have sl := A.sl i
  rw [hn] at sl
  obtain ⟨v, ev, is⟩ := sl
  have is2 := is H A.sub
  obtain ⟨rfl, _⟩ := is Hs (.refl _)
  refine (pe_callB (call_isX (X := X) (pn := pn) hz hf) gi mi (by decide +kernel) (pa_cons he (pa_cons ht pa_nil h2) h1) (by decide) (by decide) h1 hpl).run pins s σ H Q I ?_
  exact ⟨_, ev, .ty T, .type T, b, rfl, fun u r => r, C, k, is2, g (.bl b) _ Hs H (.refl A.sub) rfl q⟩⟩
end
end DL
set_option Elab.async false
set_option linter.all false
set_option maxRecDepth 100000
set_option maxHeartbeats 4000000
/-! DT: dicts with keys that are ints and texts -/
namespace DL
open PySem PySem.Spec PyProof.Rows L2
def keyD : D → Option Key
  | .int i => some (.inl i)
  | .str x => some (.inr x)
  | _ => none
theorem keyD_is {K : PySem.W.Frag} {H : Hp} {d : D} {v : V} {k : Key} (i : Is K H d v) (h : keyD d = some k) : v = kV k := by
  cases d <;> simp only [keyD, Option.some.injEq, reduceCtorEq] at h <;> subst h <;> exact i
/-- the value of a key -/
def lookD : List Key → List D → Key → Option D
  | k :: ks, d :: ds, j => if k = j then some d else lookD ks ds j
  | _, _, _ => none
theorem look_is {K : PySem.W.Frag} {H : Hp} : ∀ {ks : List Key} {ds : List D} {xs : List V} {j : Key}, ks.length = ds.length → IsA K H ds xs → match lookD ks ds j with
    | some d => ∃ v, valV (zipV ks xs) j = some v ∧ Is K H d v
    | none => valV (zipV ks xs) j = none
  | [], [], _, _, _, h => by cases h; rfl
  | [], _ :: _, _, _, h, _ => by cases h
  | _ :: _, [], _, _, h, _ => by cases h
  | k :: ks, d :: ds, _, j, h, ⟨x, ys, e, h1, h2⟩ => by
    subst e
    unfold lookD
    by_cases c : k = j
    · rw [if_pos c]
      exact ⟨x, valV_pos c, h1⟩
    · rw [if_neg c]
      have q := look_is (j := j) (Nat.succ.inj h) h2
      show match lookD ks ds j with | some d => ∃ v, valV ((k, x) :: zipV ks ys) j = some v ∧ Is K H d v | none => valV ((k, x) :: zipV ks ys) j = none
      rw [valV_neg c]
      exact q
section
variable {X : Cx} {c : Cn}
/-- the pairs of a display -/
def tdPairs : List (TD × TD) → List Sl → (List (D × D) → Prop) → QE → Prop
  | [], _, Q, _ => Q []
  | p :: r, ss, Q, Ed => p.1 ss (fun k => p.2 ss (fun v => tdPairs r ss (fun ps => Q ((k, v) :: ps)) Ed) Ed) Ed
def PairIs (K : PySem.W.Frag) (Hs : Hp) : List (D × D) → List (V × V) → Prop
  | [], vs => vs = []
  | p :: ps, vs => ∃ k v ws, vs = (k, v) :: ws ∧ Is K Hs p.1 k ∧ Is K Hs p.2 v ∧ PairIs K Hs ps ws
theorem PairIs.same {K Hs Hs'} (s : Same Hs Hs') : ∀ {ps : List (D × D)} {vs : List (V × V)}, PairIs K Hs ps vs → PairIs K Hs' ps vs
  | [], _, h => h
  | _ :: _, _, ⟨k, v, ws, e, h1, h2, h3⟩ => ⟨k, v, ws, e, h1.same s, h2.same s, h3.same s⟩
theorem pairs_run : ∀ (trs : List (TD × TD)) {O : Addr → Option Nat} {Hs H : Hp} {σ : L2.St} {ss : List Sl} {Qp : List (D × D) → Prop} {Ed : QE} {Q : List (V × V) → Hp → Prop}, Abs X.K c O Hs H σ ss → tdPairs trs ss Qp Ed → ErrC X.K c Ed →
    (∀ ps vs Hs' H', Ext (Z0 O) Hs H Hs' H' → PairIs X.K Hs' ps vs → Qp ps → Q vs H') → tPairs (trs.map fun p => (lift c X.K p.1, lift c X.K p.2)) σ H Q
  | [], O, Hs, H, σ, ss, Qp, Ed, Q, A, h, er, g => g [] [] Hs H (.refl A.sub) rfl h
  | (tk, tv) :: r, O, Hs, H, σ, ss, Qp, Ed, Q, A, h, er, g => by
    refine ⟨O, Hs, ss, _, Ed, A, h, er, fun d v Hs1 H1 e1 i1 q1 => ?_⟩
    refine ⟨O, Hs1, ss, _, Ed, A.next e1, q1, er, fun d2 v2 Hs2 H2 e2 i2 q2 => ?_⟩
    exact pairs_run r ((A.next e1).next e2) q2 er fun ps vs Hs3 H3 e3 i3 q3 => g ((d, d2) :: ps) ((v, v2) :: vs) Hs3 H3 ((e1.trans e2).trans e3) ⟨v, v2, vs, rfl, (i1.same e2.fz).same e3.fz, i2.same e3.fz, i3⟩ q3
/-- {k: v, ..}: keys that differ -/
def keysD : List (D × D) → Option (List Key)
  | [] => some []
  | p :: ps => match keyD p.1, keysD ps with
    | some k, some ks => some (k :: ks)
    | _, _ => none
def tdDsp (trs : List (TD × TD)) : TD := fun ss Q Ed => tdPairs trs ss (fun ps => ∃ ks, keysD ps = some ks ∧ ks.Nodup ∧ ps.length ≤ 15 ∧ Q (.dct ks (ps.map (·.2)))) Ed
abbrev DPs (X : Cx) (c : Cn) (pos : Pos) (keys : List (Option Expr)) (vals : List Expr) (trs : List (TD × TD)) : Prop := PPs X pos keys vals (trs.map fun p => (lift c X.K p.1, lift c X.K p.2))
theorem dps_nil {pos : Pos} : DPs X c pos [] [] [] := pps_nil
theorem dps_cons {pos : Pos} {k v : Expr} {ks : List (Option Expr)} {vs : List Expr} {tk tv : TD} {trs : List (TD × TD)} (hk : DE X c k tk) (hv : DE X c v tv) (hr : DPs X c pos ks vs trs) : DPs X c pos (some k :: ks) (v :: vs) ((tk, tv) :: trs) := pps_cons hk hv hr
theorem pairs_keys {K : PySem.W.Frag} {Hs : Hp} : ∀ {ps : List (D × D)} {vs : List (V × V)} {ks : List Key}, PairIs K Hs ps vs → keysD ps = some ks → vs = (zipV ks (vs.map (·.2))).map (fun kv => (kV kv.1, kv.2)) ∧ IsA K Hs (ps.map (·.2)) (vs.map (·.2)) ∧ ks.length = ps.length
  | [], _, ks, h, e => by
    simp only [keysD, Option.some.injEq] at e
    subst e
    cases h
    exact ⟨rfl, rfl, rfl⟩
  | p :: ps, _, ks, ⟨k, v, ws, ev, h1, h2, h3⟩, e => by
    subst ev
    simp only [keysD] at e
    split at e
    · rename_i k0 ks0 q1 q2
      cases e
      obtain ⟨a, b, d⟩ := pairs_keys h3 q2
      refine ⟨?_, ⟨v, _, rfl, h2, b⟩, congrArg Nat.succ d⟩
      rw [keyD_is h1 q1]
      show _ = (kV k0, v) :: (zipV ks0 (ws.map (·.2))).map (fun kv => (kV kv.1, kv.2))
      rw [← a]
    · cases e
theorem merge_new : ∀ (more acc : List (Key × V)), (acc.map (·.1) ++ more.map (·.1)).Nodup → mergeK acc more = acc ++ more
  | [], acc, _ => by rw [List.append_nil]; rfl
  | (k, v) :: r, acc, h => by
    have nk : valV acc k = none := by
      have : k ∉ acc.map (·.1) := fun m => by
        rw [List.nodup_append] at h
        exact h.2.2 k m k (by simp) rfl
      unfold valV
      rw [List.find?_eq_none.mpr fun p hp e => this (by rw [← of_decide_eq_true e]; exact List.mem_map_of_mem hp)]
      rfl
    show mergeK (putK acc k v) r = _
    rw [putK_new v nk, merge_new r (acc ++ [(k, v)]) (by simpa using h)]
    simp
theorem zipV_keys : ∀ {ks : List Key} {xs : List V}, ks.length = xs.length → (zipV ks xs).map (·.1) = ks ∧ (zipV ks xs).length = ks.length
  | [], [], _ => ⟨rfl, rfl⟩
  | [], _ :: _, h => by cases h
  | _ :: _, [], h => by cases h
  | k :: ks, x :: xs, h => by
    obtain ⟨a, b⟩ := zipV_keys (Nat.succ.inj h)
    exact ⟨congrArg (k :: ·) a, congrArg Nat.succ b⟩
theorem d_dsp {pos : Pos} {keys : List (Option Expr)} {vals : List Expr} {trs : List (TD × TD)} (h : DPs X c pos keys vals trs) (hall : keys.all (·.isSome) = true := by rfl) (hl : keys.length = vals.length := by rfl) (h0 : keys ≠ [] := by exact fun z => nomatch z) (h15 : keys.length ≤ 15 := by decide) : DE X c (.Dict keys vals pos) (tdDsp trs) := by
  refine pe_imp (pe_disp h hall hl h0 h15) fun σ H Q q => ?_
  obtain ⟨O, Hs, ss, Qd, Ed, A, h, er, g⟩ := q
  intro p np
  have x0 : Ext (Z0 O) Hs H Hs (upd H p (.dK [])) := .grow A.sub np
  have nps : Hs p = none := by
    cases z : Hs p with
    | none => rfl
    | some u => rw [A.sub _ _ z] at np; cases np
  have nz : ¬ Z0 O p := fun z => A.live p (by rw [show O p = some 0 from z]; exact fun w => nomatch w) np
  refine pairs_run trs (A.next x0) h er fun ps vs Hs2 H2 e2 i2 ⟨ks, hk, nd, few, q⟩ => ?_
  obtain ⟨a, b, l⟩ := pairs_keys i2 hk
  have lv : ks.length = (vs.map (·.2)).length := by rw [b.len, List.length_map, l]
  obtain ⟨z1, z2⟩ := zipV_keys lv
  refine ⟨e2.keep p _ nz upd_same, zipV ks (vs.map (·.2)), a, by rw [z2, l]; exact few, ?_⟩
  rw [merge_new _ [] (by rw [z1]; exact nd), List.nil_append]
  have n2 : Hs2 p = none := e2.new p nps (by rw [upd_same]; exact fun w => nomatch w)
  have xt : Ext (Z0 O) Hs H (upd Hs2 p (.dK (zipV ks (vs.map (·.2))))) (upd H2 p (.dK (zipV ks (vs.map (·.2))))) := ((x0.trans e2).put np n2).freeze np n2 upd_same
  refine g _ _ _ _ xt ?_ q
  exact ⟨p, _, rfl, upd_same, by rw [l, List.length_map], b.same (same_new0 n2)⟩
/-- {} -/
theorem d_dsp0 {pos : Pos} : DE X c (.Dict [] [] pos) (tdC (.dct [] [])) := by
  refine pe_imp pe_dnewK fun σ H Q q => ?_
  obtain ⟨O, Hs, ss, Qd, Ed, A, h, er, g⟩ := q
  intro p np
  exact g (.dct [] []) _ _ _ (.laid A.sub np) ⟨p, [], rfl, upd_same, rfl, rfl⟩ h
/-- d.get(k, x) -/
def tdGet2 (td ty tx : TD) : TD := fun ss Q Ed => td ss (fun x => match x with
  | .dct ks xs => ty ss (fun y => match keyD y with
    | some k => tx ss (fun z => Q ((lookD ks xs k).getD z)) Ed
    | none => False) Ed
  | _ => False) Ed
theorem d_get2 {o e f : Expr} {apos cpos : Pos} {td ty tx : TD} (hu : X.A.units + 1 < cLine) (ho : DE X c o td) (he : DE X c e ty) (hf : DE X c f tx) (m : M2 X o "get" apos e f cpos := by exact ⟨rfl, rfl, rfl, rfl⟩) : DE X c (.Call (.Attribute o "get" apos) [e, f] [] cpos) (tdGet2 td ty tx) := by
  refine pe_imp (pe_dget2 hu ho he hf m) fun σ H Q q => ?_
  obtain ⟨O, Hs, ss, Qd, Ed, A, h, er, g⟩ := q
  refine ⟨O, Hs, ss, _, Ed, A, h, er, fun d v Hs1 H1 e1 i1 q1 => ?_⟩
  split at q1
  · rename_i ks xs
    obtain ⟨a, us, rfl, ha, hl, ia⟩ := i1
    refine ⟨a, rfl, .inl ⟨_, .inl (e1.sub _ _ ha)⟩, O, Hs1, ss, _, Ed, A.next e1, q1, er, fun d2 v2 Hs2 H2 e2 i2 q2 => ?_⟩
    split at q2
    · rename_i k hk
      have ek := keyD_is i2 hk
      subst ek
      refine ⟨O, Hs2, ss, _, Ed, (A.next e1).next e2, q2, er, fun d3 v3 Hs3 H3 e3 i3 q3 => ?_⟩
      have ia3 := (ia.same e2.fz).same e3.fz
      refine ⟨valV (zipV ks us) k, .inl ⟨_, k, .inl (e3.sub _ _ (e3.fz _ _ (e2.fz _ _ ha))), rfl, rfl⟩, ?_⟩
      have lk := look_is (j := k) hl ia3
      cases hd : lookD ks xs k with
      | some d =>
        rw [hd] at lk q3
        obtain ⟨u, e, iu⟩ := lk
        rw [e]
        exact g d u Hs3 H3 ((e1.trans e2).trans e3) iu q3
      | none =>
        rw [hd] at lk q3
        have lk : valV (zipV ks us) k = none := lk
        rw [lk]
        exact g d3 v3 Hs3 H3 ((e1.trans e2).trans e3) i3 q3
    · exact q2.elim
  · exact q1.elim
end
end DL
set_option Elab.async false
set_option linter.all false
set_option maxRecDepth 100000
set_option maxHeartbeats 4000000
/-! DZ: zip of lists and tuples, in any mix -/
namespace DL
open PySem PySem.Spec PyProof.Rows L2
/-- t: a tuple; else a list -/
def ItOf (t : Bool) (h : Heap) (it a : Addr) (i : Nat) : Prop := match t with
  | true => h.IsTupleIter it a i
  | false => h.IsListIter it a i
def SqOf (t : Bool) (K : PySem.W.Frag) (H : Hp) (a : Addr) (xs : List V) : Prop := match t with
  | true => SqT K H a xs
  | false => SqL K H a xs
def OfAt (t : Bool) (h : Heap) (a : Addr) (vs : Array Value) : Prop := match t with
  | true => h.IsTuple a vs
  | false => h.IsList a vs
def iterO (t : Bool) (a : Addr) : Obj := match t with
  | true => { cls := .type "tuple_iterator", data := .fields #[.ref a, .int 0 0] }
  | false => { cls := .type "list_iterator", data := .fields #[.ref a, .int 0 0] }
theorem begins_of (t : Bool) (a : Addr) (vs : Array Value) : Begins (.ref a) (iterO t a) fun h => OfAt t h a vs := by
  cases t
  · exact begins_list a vs
  · exact begins_tuple a vs
theorem draws_of {pr : Program} {w0 : World} {Ar : Around} (t : Bool) (hh : Ar.handled = none) (it a : Addr) (ne : a ≠ it) (vs : Array Value) : Draws pr w0 Ar it [it, a] vs.size (fun i v => vs[i]? = some v) (fun i h => ItOf t h it a i ∧ OfAt t h a vs) := by
  cases t
  · exact Draws.list hh it a ne vs
  · exact Draws.tuple hh it a ne vs
theorem ItOf.ob {t : Bool} {h : Heap} {it a : Addr} {i : Nat} (x : ItOf t h it a i) : ∃ o vs, h.get? it = some o ∧ o.data = .fields vs := by
  cases t
  · obtain ⟨o, h1, _, h2⟩ := x; exact ⟨o, _, h1, h2⟩
  · obtain ⟨o, h1, _, h2⟩ := x; exact ⟨o, _, h1, h2⟩
theorem ItOf.at {t : Bool} {h h' : Heap} {it a : Addr} {i : Nat} (x : ItOf t h it a i) (k : ∀ o, h.get? it = some o → h'.get? it = some o) : ItOf t h' it a i := by
  cases t
  · exact Heap.IsListIter.at x k
  · exact Heap.IsTupleIter.at x k
section
variable {X : Cx} {pins : List (Addr × Obj)} {σ : L2.St} {H : Hp} {s : Shared} {a : Addr} {xs ys : List V}
theorem sq_of (I : Inv X pins σ H s) {t : Bool} (h : SqOf t X.K H a xs) : ∃ its : List Value, Vals xs its ∧ OfAt t s.heap a its.toArray ∧ a < s.heap.objs.size := by
  cases t
  · obtain ⟨its, r, p, _⟩ := I.list h
    exact ⟨its, r, p.isList, p.lt⟩
  · obtain ⟨its, r, p, _⟩ := I.tuple h
    have tup : s.heap.IsTuple a its.toArray := p
    refine ⟨its, r, tup, ?_⟩
    obtain ⟨_, z, _⟩ := tup
    exact Heap.lt_size z
theorem sq_inj (I : Inv X pins σ H s) {t : Bool} (h : SqOf t X.K H a xs) (h' : SqOf t X.K H a ys) : xs = ys := by
  cases t
  · exact I.list_inj h h'
  · exact I.tuple_inj h h'
end
/-- the sequences at a and b, the items in new pairs -/
def ItzM (K : PySem.W.Frag) (t u : Bool) (a b : Addr) : It where
  go := fun i H => ∃ (xs ys : List V) (x y : V), SqOf t K H a xs ∧ SqOf u K H b ys ∧ xs[i]? = some x ∧ ys[i]? = some y
  yld := fun i H v H' => ∃ p x y, v = .ref p ∧ H p = none ∧ H' = upd H p (.tup [x, y]) ∧ (∀ xs, SqOf t K H a xs → xs[i]? = some x) ∧ ∀ ys, SqOf u K H b ys → ys[i]? = some y
  stop := fun i H => ∃ xs ys : List V, SqOf t K H a xs ∧ SqOf u K H b ys ∧ i = min xs.length ys.length
theorem turn_zipM {P : Program} {w : World} {K : PySem.W.Frag} {elts : List Expr} {kk : Nat} {tpos : Pos} {t u : Bool} {a b z TI TO i1 i2 : Addr} (S : ZipSep2 z TI TO i1 i2 [i1, a] [i2, b]) (na : a ≠ i1) (nb : b ≠ i2) :
    Turn P w K (.Tuple elts kk tpos) (ItzM K t u a b) [z, TI, TO, i1, i2] z (fun i h => IsZip h z TI TO .none ∧ IsTupOf2 h TI (.ref i1) (.ref i2) ∧ (∃ x y, IsTupOf2 h TO x y) ∧ ItOf t h i1 a i ∧ ItOf u h i2 b i) where
  mem := by simp
  obj := fun i h st c hc => by
    obtain ⟨hz, hTI, ⟨x, y, hTO⟩, h1, h2⟩ := st
    obtain ⟨o1, v1, e1, d1⟩ := h1.ob
    obtain ⟨o2, v2, e2, d2⟩ := h2.ob
    simp only [List.mem_cons, List.not_mem_nil, or_false] at hc
    rcases hc with q | q | q | q | q <;> subst q
    · exact ⟨_, hz, fun v q => nomatch q⟩
    · exact ⟨_, hTI, fun v q => nomatch q⟩
    · exact ⟨_, hTO, fun v q => nomatch q⟩
    · exact ⟨o1, e1, fun v q => by rw [d1] at q; cases q⟩
    · exact ⟨o2, e2, fun v q => by rw [d2] at q; cases q⟩
  keep := fun i h h' st k => by
    obtain ⟨hz, hTI, ⟨x, y, hTO⟩, h1, h2⟩ := st
    exact ⟨k z (by simp) _ hz, k TI (by simp) _ hTI, ⟨x, y, k TO (by simp) _ hTO⟩, h1.at (k i1 (by simp)), h2.at (k i2 (by simp))⟩
  item := by
    intro X hP hw hK hc i pins s σ H E I hf st hg
    subst hP hw hK
    obtain ⟨hz, hTI, ⟨x0, y0, hTO⟩, h1, h2⟩ := st
    obtain ⟨xs, ys, x, y, hqx, hqy, hx, hy⟩ := hg
    obtain ⟨its, rv, o1, _⟩ := sq_of I hqx
    obtain ⟨its2, rv2, o2, _⟩ := sq_of I hqy
    obtain ⟨v, hv, ru⟩ := rv.get hx
    obtain ⟨v2, hv2, ru2⟩ := rv2.get hy
    have lz := Heap.lt_size hz
    have l1 : i < its.toArray.size := by simpa using (List.getElem?_eq_some_iff.mp hv).1
    have l2 : i < its2.toArray.size := by simpa using (List.getElem?_eq_some_iff.mp hv2).1
    refine wpAny_pyNext_zipD2_item S (draws_of (Ar := X.A.in1) t (I.ok.hd hc) i1 a na its.toArray) (draws_of (Ar := X.A.in1) u (I.ok.hd hc) i2 b nb its2.toArray) hz hTI hTO (And.intro h1 o1) (And.intro h2 o2) l1 l2 fun y1 y2 g1 tk q1 q2 z1 to1 d1 d2 pr sz kp => ?_
    have e1 : y1 = v := by
      have q1 : its.toArray[i]? = some y1 := q1
      have : its.toArray[i]? = some v := by simpa using hv
      exact Option.some.inj (q1.symm.trans this)
    have e2 : y2 = v2 := by
      have q2 : its2.toArray[i]? = some y2 := q2
      have : its2.toArray[i]? = some v2 := by simpa using hv2
      exact Option.some.inj (q2.symm.trans this)
    subst e1
    subst e2
    refine ⟨_, rfl, wpAny_letOwnedTupleGo_zip (s := { s with heap := g1, toks := tk }) z1 fun g2 z2 sb => ?_⟩
    have pr2 : IsTupOf2 g2 s.heap.objs.size y1 y2 := (sb.2 _ (Nat.ne_of_gt lz)).trans pr
    have new : ObjOk X.prog X.w (upd H s.heap.objs.size (.tup [x, y])) g2 s.heap.objs.size (.tup [x, y]) := by
      refine ⟨?_, [y1, y2], .cons ru (.cons ru2 .nil), ⟨_, pr2, rfl, _, rfl⟩⟩
      show 2 ≤ sizeLine
      decide
    have I1 : Inv X pins σ (upd H s.heap.objs.size (.tup [x, y])) { s with heap := g2, toks := tk } := by
      refine I.turnedNew (ch := [z, TI, TO, i1, i2]) (fun c o hb q => ?_) hf (Nat.le_refl _) new
      simp only [List.mem_cons, List.not_mem_nil, or_false, not_or] at hb
      exact (sb.2 c hb.1).trans (kp c o hb.1 hb.2.2.1 hb.2.2.2.1 hb.2.2.2.2 q)
    refine ⟨.ref s.heap.objs.size, _, I1, rfl, ⟨_, x, y, rfl, I.hok.fresh (Nat.le_refl _), rfl, fun l hl => by rw [sq_inj I hl hqx]; exact hx, fun l hl => by rw [sq_inj I hl hqy]; exact hy⟩, ⟨z2, ?_, ⟨y1, y2, ?_⟩, ?_, ?_⟩, fun c hcm => ?_⟩
    · exact (sb.2 _ S.TIz).trans (kp _ _ S.TIz S.TITO S.TIi1 S.TIi2 hTI)
    · exact (sb.2 _ S.TOz).trans to1
    · exact d1.1.at fun o q => (sb.2 _ (Ne.symm S.zi1)).trans q
    · exact d2.1.at fun o q => (sb.2 _ (Ne.symm S.zi2)).trans q
    · have lc : c < s.heap.objs.size := by
        obtain ⟨_, _, k1, _⟩ := h1.ob
        obtain ⟨_, _, k2, _⟩ := h2.ob
        simp only [List.mem_cons, List.not_mem_nil, or_false] at hcm
        rcases hcm with q | q | q | q | q <;> subst q <;> first | exact lz | exact Heap.lt_size hTI | exact Heap.lt_size hTO | exact Heap.lt_size k1 | exact Heap.lt_size k2
      rw [upd_ne (Nat.ne_of_lt lc)]
      exact (hf c hcm).1
  done := by
    intro X hP hw hK hc i pins s σ H E I hf st hg
    subst hP hw hK
    obtain ⟨hz, hTI, ⟨x0, y0, hTO⟩, h1, h2⟩ := st
    obtain ⟨xs, ys, hqx, hqy, he⟩ := hg
    obtain ⟨its, rv, o1, _⟩ := sq_of I hqx
    obtain ⟨its2, rv2, o2, _⟩ := sq_of I hqy
    have l1 : its.toArray.size = xs.length := by rw [List.size_toArray]; exact rv.length.symm
    have l2 : its2.toArray.size = ys.length := by rw [List.size_toArray]; exact rv2.length.symm
    refine wpAny_pyNext_zipD2_end S (draws_of (Ar := X.A.in1) t (I.ok.hd hc) i1 a na its.toArray) (draws_of (Ar := X.A.in1) u (I.ok.hd hc) i2 b nb its2.toArray) hz hTI hTO (And.intro h1 o1) (And.intro h2 o2) (by omega) (by omega) (by omega) fun g1 tk kp => ⟨rfl, ?_⟩
    refine I.turnedL (ch := [z, TI, TO, i1, i2]) (fun c o hb q => ?_) hf
    simp only [List.mem_cons, List.not_mem_nil, or_false, not_or] at hb
    exact kp c o hb.1 hb.2.2.1 hb.2.2.2.1 hb.2.2.2.2 q
  self := fun A i s Q E st h => wpAny_pyIter_zip st.1 h
def iZipM (K : PySem.W.Frag) (ta : TA) : TI := fun σ H R => ta σ H fun vs H1 => ∃ (t u : Bool) (a b : Addr) (xs ys : List V), vs = [.ref a, .ref b] ∧ SqOf t K H1 a xs ∧ SqOf u K H1 b ys ∧ R (ItzM K t u a b) H1
theorem pi_zipM {X : Cx} {e e2 : Expr} {ta : TA} {p pos tpos : Pos} {elts : List Expr} {kk : Nat} (hg : Gl X "zip") (hm : X.mg "zip" = none) (ha : PA X [e, e2] ta)
    (hs : starEach [e, e2] X.env = (false, eval e X.env) :: starEach [e2] X.env := by rfl) (hpl : (backTo pos (starEach [e2] X.env)).any (·.1) = false := by rfl) : PI X (.Tuple elts kk tpos) (.Call (.Name "zip" p) [e, e2] [] pos) (iZipM X.K ta) := ⟨fun pins s σ H R I h => by
  refine Call_ (ld_blt I hg hm PyProof.Rows.boot_zip (PyProof.Rows.callWith_type1 ?_ hs hpl))
  refine thn (ha.run pos pins s σ H _ I h) fun us s1 ⟨vs, H1, I1, r1, t, u, a, b, xs, ys, ex, hqx, hqy, q⟩ => ?_
  subst ex
  rcases r1 with _ | ⟨r, rr⟩
  rcases rr with _ | ⟨r', rr⟩
  cases rr
  cases r
  cases r'
  obtain ⟨its, _, o1, la⟩ := sq_of I1 hqx
  obtain ⟨its2, _, o2, lb⟩ := sq_of I1 hqy
  refine zip_begins2 (begins_of t a its.toArray) (begins_of u b its2.toArray) o1 o2 fun g hz hTI hTO i1 i2 sz kp => wpAny_pyIter_zip hz ?_
  have I2 : Inv X pins σ H1 { s1 with heap := g } := I1.kept (t' := s1.toks) kp
  have S : ZipSep2 (s1.heap.objs.size + 4) (s1.heap.objs.size + 2) (s1.heap.objs.size + 3) s1.heap.objs.size (s1.heap.objs.size + 1) [s1.heap.objs.size, a] [s1.heap.objs.size + 1, b] := zip_sep2 (fp1 := [a]) (fp2 := [b]) (fun c hc => by rw [List.mem_singleton.mp hc]; exact la) (fun c hc => by rw [List.mem_singleton.mp hc]; exact lb)
  have s1i : ItOf t g s1.heap.objs.size a 0 := by
    cases t
    · exact ⟨_, i1, rfl, rfl⟩
    · exact ⟨_, i1, rfl, rfl⟩
  have s2i : ItOf u g (s1.heap.objs.size + 1) b 0 := by
    cases u
    · exact ⟨_, i2, rfl, rfl⟩
    · exact ⟨_, i2, rfl, rfl⟩
  refine ⟨s1.heap.objs.size + 4, [s1.heap.objs.size + 4, s1.heap.objs.size + 2, s1.heap.objs.size + 3, s1.heap.objs.size, s1.heap.objs.size + 1], _, _, H1, rfl, I2, turn_zipM (t := t) (u := u) S (Nat.ne_of_lt la) (Nat.ne_of_lt (Nat.lt_succ_of_lt lb)), ⟨hz, hTI, ⟨_, _, hTO⟩, s1i, s2i⟩, fun c hc => ?_, q⟩
  have le : s1.heap.objs.size ≤ c := by
    simp only [List.mem_cons, List.not_mem_nil, or_false] at hc
    rcases hc with z | z | z | z | z <;> subst z <;> first | exact Nat.le_refl _ | exact Nat.le_add_right _ _
  exact I1.fpOk le (I1.hok.fresh le)⟩
section
variable {X : Cx} {c : Cn} {tg : Expr}
theorem sqof_same {t : Bool} {K : PySem.W.Frag} {H H' : Hp} {a : Addr} {xs : List V} (s : Same H H') (h : SqOf t K H a xs) : SqOf t K H' a xs := by
  cases t
  · rcases h with (h | ⟨o, h⟩) | h
    · exact .inl (.inl (s _ _ h))
    · exact .inl (.inr ⟨o, s _ _ h⟩)
    · exact .inr h
  · exact same_sqt s h
theorem itzM_items {K : PySem.W.Frag} {Hs : Hp} {t u : Bool} {a b : Addr} {xs ys : List V} {ds es : List D} (h1 : SqOf t K Hs a xs) (h2 : IsA K Hs ds xs) (h3 : SqOf u K Hs b ys) (h4 : IsA K Hs es ys) : ItIs K (ItzM K t u a b) (zipD ds es) Hs where
  go := fun i Hs' H s1 s2 hi => by
    rw [zipD_len] at hi
    exact ⟨xs, ys, xs[i]'(by rw [h2.len]; omega), ys[i]'(by rw [h4.len]; omega), sqof_same (s1.trans s2) h1, sqof_same (s1.trans s2) h3, List.getElem?_eq_getElem _, List.getElem?_eq_getElem _⟩
  stop := fun i Hs' H s1 s2 hi => by
    rw [zipD_len] at hi
    exact ⟨xs, ys, sqof_same (s1.trans s2) h1, sqof_same (s1.trans s2) h3, by rw [h2.len, h4.len]; exact hi.symm⟩
  yld := fun i Hs' H v H' d s1 s2 y hd => by
    obtain ⟨T, x, y', e, nT, e2, y1, y2⟩ := y
    subst e; subst e2
    have hx := y1 xs (sqof_same (s1.trans s2) h1)
    have hy := y2 ys (sqof_same (s1.trans s2) h3)
    obtain ⟨z, z', hz, hz', ed⟩ := zipD_get hd
    obtain ⟨w, hw, iw⟩ := h2.get hz
    obtain ⟨w', hw', iw'⟩ := h4.get hz'
    rw [hx] at hw
    rw [hy] at hw'
    cases hw
    cases hw'
    subst ed
    have L := fun Z => Ext.laid (Z := Z) (o := .tup [x, y']) s2 nT
    exact ⟨_, L, T, _, rfl, .inl (.inl upd_same), x, _, rfl, (iw.same s1).same (L fun _ => False).fz, y', _, rfl, (iw'.same s1).same (L fun _ => False).fz, rfl⟩
/-- a list's or a tuple's items -/
def seqD : D → Option (List D)
  | .lst ds => some ds
  | .tup ds => some ds
  | _ => none
theorem seqD_is {K : PySem.W.Frag} {Hs : Hp} {d : D} {v : V} {ds : List D} (i : Is K Hs d v) (h : seqD d = some ds) : ∃ (t : Bool) (a : Addr) (xs : List V), v = .ref a ∧ SqOf t K Hs a xs ∧ IsA K Hs ds xs := by
  cases d <;> simp only [seqD, Option.some.injEq, reduceCtorEq] at h <;> subst h
  · obtain ⟨a, xs, e, h1, h2⟩ := i
    exact ⟨false, a, xs, e, .of h1, h2⟩
  · obtain ⟨a, xs, e, h1, h2⟩ := i
    exact ⟨true, a, xs, e, h1, h2⟩
def tiZipM (t : TAD) : TID := fun ss Q Ed => t ss (fun as => allD as fun ds => match ds with
  | [x, y] => (match seqD x, seqD y with
    | some xs, some ys => Q (zipD xs ys)
    | _, _ => False)
  | _ => False) Ed
theorem di_zipM {e e2 : Expr} {t : TAD} {p pos tpos : Pos} {elts : List Expr} {kk : Nat} (hm : X.mg "zip" = none) (ha : DAs X c [e, e2] t) (hg : Gl X "zip" := by rfl)
    (hs : starEach [e, e2] X.env = (false, eval e X.env) :: starEach [e2] X.env := by rfl) (hpl : (backTo pos (starEach [e2] X.env)).any (·.1) = false := by rfl) : DI X c (.Tuple elts kk tpos) (.Call (.Name "zip" p) [e, e2] [] pos) (tiZipM t) := by
  refine pi_imp (pi_zipM hg hm ha hs hpl) fun σ H R q => ?_
  obtain ⟨O, Hs, ss, Qi, Ed, A, h, er, g⟩ := q
  refine ⟨O, Hs, ss, _, Ed, A, h, er, fun as vs Hs1 H1 x1 i1 q1 => ?_⟩
  obtain ⟨ds, h3, h4⟩ := allD_is i1 q1
  split at h4
  · obtain ⟨x, y, e, ix, iy⟩ := isA2 h3
    subst e
    split at h4
    · rename_i k1 k2
      obtain ⟨t, a, xs, rfl, ha1, ha2⟩ := seqD_is ix k1
      obtain ⟨u, b, ys, rfl, hb1, hb2⟩ := seqD_is iy k2
      exact ⟨t, u, a, b, xs, ys, rfl, sqof_same x1.sub ha1, sqof_same x1.sub hb1, g _ _ Hs1 H1 x1 (itzM_items ha1 ha2 hb1 hb2) h4⟩
    · exact h4.elim
  · exact h4.elim
end
end DL
set_option Elab.async false
set_option linter.all false
set_option maxRecDepth 100000
set_option maxHeartbeats 4000000
/-! DM: tuples: +, *, slices, whatever their lengths -/
namespace DL
open PySem PySem.Spec PyProof.Rows L2
theorem tuple_mulS (l : Addr) (items : Array Value) (n : Nat) (dd : Option Addr) (sl : Array (Option Value)) (x : Int) (u : Tok) (c0 : (decide (x < -(2 ^ 63)) || decide (x ≥ 2 ^ 63)) = false) (c1 : (items.isEmpty || x == 1) = true) :
    Meets (Builtin.«tuple.__mul__» ⟨[.ref l, .int x u], []⟩) (fun _ R s => s.heap.get? l = some { cls := .type "tuple", dict := dd, data := .seq items n, slots := sl } ∧
      R (.ok (.ret (Value.ref l))) s) :=
  .of_wp fun prog w A R s h => by
    obtain ⟨hp, g, d, tk, os⟩ := s
    obtain ⟨hl, h⟩ := h
    have f1 := AutoSeq1.idx_int
    wp_walk using wpAny_loadPart' hl
    repeat (first
      | (refine wpAny_ite_false (decide_eq_false (by rw [c0]; exact Bool.false_ne_true)) ?_; wp_walk using wpAny_loadPart' hl)
      | (refine wpAny_ite_true (decide_eq_true c1) ?_; wp_walk using wpAny_loadPart' hl))
    exact ⟨_, rfl, h⟩
theorem tuple_mulZ (l : Addr) (items : Array Value) (n : Nat) (dd : Option Addr) (sl : Array (Option Value)) (x : Int) (u : Tok) (c0 : (decide (x < -(2 ^ 63)) || decide (x ≥ 2 ^ 63)) = false) (c1 : (items.isEmpty || x == 1) = false) (c2 : (decide (x ≤ 0) || items.isEmpty) = true) :
    Meets (Builtin.«tuple.__mul__» ⟨[.ref l, .int x u], []⟩) (fun _ R s => s.heap.get? l = some { cls := .type "tuple", dict := dd, data := .seq items n, slots := sl } ∧
      R (.ok (.ret (Value.ref s.heap.objs.size))) { s with heap := s.heap.push { cls := Value.type "tuple", data := Data.seq #[] }, toks := s.toks }) :=
  .of_wp fun prog w A R s h => by
    obtain ⟨hp, g, d, tk, os⟩ := s
    obtain ⟨hl, h⟩ := h
    have f1 := AutoSeq1.idx_int
    wp_walk using wpAny_loadPart' hl
    repeat (first
      | (refine wpAny_ite_false (decide_eq_false (by rw [c0]; exact Bool.false_ne_true)) ?_; wp_walk using wpAny_loadPart' hl)
      | (refine wpAny_ite_false (decide_eq_false (by rw [c1]; exact Bool.false_ne_true)) ?_; wp_walk using wpAny_loadPart' hl)
      | (refine wpAny_ite_true (decide_eq_true c2) ?_; wp_walk using wpAny_loadPart' hl))
    exact ⟨_, rfl, h⟩
section
variable {X : Cx}
/-- a tuple times an int -/
def rRepA (K : PySem.W.Frag) : R2 := fun x y H Q => ∃ l k xs, x = .ref l ∧ y = .int k ∧ SqT K H l xs ∧ 0 ≤ k ∧ k ≤ 1000 ∧ xs.length ≤ 1000 ∧ (xs = [] ∨ k = 1 → Q (.ref l) H) ∧ (xs ≠ [] → k ≠ 1 → ∀ p, H p = none → Q (.ref p) (upd H p (.tup (List.replicate k.toNat xs).flatten)))
theorem op_repA : OpR X (binaryOp .Mult) (rRepA X.K) := by
  intro pins s σ H x y v u Q I rx ry h
  obtain ⟨l, k, xs, rfl, rfl, hT, h1, h2, hz, q1, q2⟩ := h
  by_cases hs : xs = [] ∨ k = 1
  · have q := q1 hs
    cases rx
    obtain ⟨t, rfl⟩ := ry
    obtain ⟨its, r, ⟨⟨cls, dd, data, sl⟩, ho, hc, n, hd⟩, hs'⟩ := I.tuple hT
    simp only at hc hd
    subst hc hd
    have c0 : (decide (k < -(2 ^ 63)) || decide (k ≥ 2 ^ 63)) = false := by
      rw [decide_eq_false (by omega), decide_eq_false (by omega)] <;> rfl
    have c1 : (its.toArray.isEmpty || k == 1) = true := by
      rcases hs with hs | hs
      · subst hs
        cases r
        rfl
      · rw [hs]
        exact Bool.or_true _
    exact wpAny_binaryOp_repeat_ref (T := "tuple") (U := "int") (by decide) ⟨_, ho, rfl⟩ (fun s' => typeIs_int s' k t) noFill_tuple_mul F.fills_int_mul F.slot_int_rmul repeat_tuple F.slot_int_index.lookup
      (call_meets F.slot_int_rmul (typeIs_int s k t) F.entry_int_rmul (F.args_int_rmul_2 _ _) (int_rmul_tuple k t l its.toArray n dd sl)
        ⟨ho, rfl, ⟨_, ho, rfl⟩, call_meets F.slot_tuple_mul ⟨_, ho, rfl⟩ F.entry_tuple_mul (F.args_tuple_mul_2 _ _) (tuple_mulS l its.toArray n dd sl k t c0 c1) ⟨ho, .ref l, H, I, rfl, q⟩⟩)
  · have hne : xs ≠ [] := fun z => hs (.inl z)
    have k1 : k ≠ 1 := fun z => hs (.inr z)
    by_cases k0 : 2 ≤ k
    · exact op_repT pins s σ H _ _ v u Q I rx ry ⟨l, k, xs, rfl, rfl, hT, hne, k0, h2, hz, q2 hne k1⟩
    · obtain rfl : k = 0 := by omega
      have q := q2 hne k1
      cases rx
      obtain ⟨t, rfl⟩ := ry
      obtain ⟨its, r, ⟨⟨cls, dd, data, sl⟩, ho, hc, n, hd⟩, hs'⟩ := I.tuple hT
      simp only at hc hd
      subst hc hd
      have hi : its.toArray.isEmpty = false := by
        cases its with
        | nil => cases r; exact absurd rfl hne
        | cons a b => rfl
      refine wpAny_binaryOp_repeat_ref (T := "tuple") (U := "int") (by decide) ⟨_, ho, rfl⟩ (fun s' => typeIs_int s' 0 t) noFill_tuple_mul F.fills_int_mul F.slot_int_rmul repeat_tuple F.slot_int_index.lookup
        (call_meets F.slot_int_rmul (typeIs_int s 0 t) F.entry_int_rmul (F.args_int_rmul_2 _ _) (int_rmul_tuple 0 t l its.toArray n dd sl)
          ⟨ho, rfl, ⟨_, ho, rfl⟩, call_meets F.slot_tuple_mul ⟨_, ho, rfl⟩ F.entry_tuple_mul (F.args_tuple_mul_2 _ _) (tuple_mulZ l its.toArray n dd sl 0 t (by decide) (by rw [hi]; rfl) (by rfl)) ⟨ho, ?_⟩⟩)
      refine ⟨.ref s.heap.objs.size, _, I.laid (t' := s.toks) (o := .tup []) (fun b ob q => Heap.get?_push_of_some _ q) (Nat.le_refl _) ?_, rfl, q _ (I.hok.fresh (Nat.le_refl _))⟩
      exact ⟨Nat.zero_le _, [], .nil, IsTup.new _ _⟩
/-- + of ints, texts, lists, tuples of any length -/
def rAddA : RD2 := fun x y Q => match x, y with
  | .tup xs, .tup ys => xs.length + ys.length ≤ sizeLine ∧ Q (.tup (xs ++ ys))
  | _, _ => rAddD x y Q
theorem isA_nil {K : PySem.W.Frag} {H : Hp} {ds : List D} (h : IsA K H ds []) : ds = [] := by
  have := h.len
  cases ds with
  | nil => rfl
  | cons _ _ => cases this
theorem isA_nil2 {K : PySem.W.Frag} {H : Hp} {xs : List V} (h : IsA K H [] xs) : xs = [] := h
theorem od_addA : OpD X (binaryOp .Add) rAddA := by
  obtain ⟨r0, o0, c0⟩ := (od_add (X := X))
  refine ⟨_, op_or o0 op_catA, fun Z Hs H d e v u Qd Q s i1 i2 q cn => ?_⟩
  unfold rAddA at q
  split at q
  · obtain ⟨a, xs, e1, h1, h2⟩ := i1
    obtain ⟨b, ys, e2, h3, h4⟩ := i2
    refine .inr ⟨a, b, xs, ys, e1, e2, same_sqt s h1, same_sqt s h3, by rw [h2.len, h4.len]; exact q.1, fun z => ?_, fun _ z => ?_, fun _ _ p np => ?_⟩
    · subst z
      have := isA_nil h2
      subst this
      exact cn (.tup _) _ Hs H (.refl s) ⟨b, ys, rfl, h3, h4⟩ q.2
    · subst z
      have := isA_nil h4
      subst this
      have q2 := q.2
      rw [List.append_nil] at q2
      exact cn (.tup _) _ Hs H (.refl s) ⟨a, xs, rfl, h1, h2⟩ q2
    · exact cn (.tup _) _ (upd Hs p (.tup (xs ++ ys))) _ (.laid s np) ⟨p, _, rfl, .inl (.inl upd_same), (h2.app h4).same (Ext.laid (Z := Z) s np).fz⟩ q.2
  · exact .inl (c0 Z Hs H _ _ _ _ Qd Q s i1 i2 q cn)
/-- * of ints, of a list or a tuple and an int -/
def rMulA : RD2 := fun x y Q => match x, y with
  | .tup xs, .int k => xs.length ≤ 1000 ∧ 0 ≤ k ∧ k ≤ 1000 ∧ Q (.tup (List.replicate k.toNat xs).flatten)
  | _, _ => rMulD2 x y Q
theorem od_mulA : OpD X (binaryOp .Mult) rMulA := by
  obtain ⟨r0, o0, c0⟩ := (od_mul (X := X))
  refine ⟨_, op_or o0 op_repA, fun Z Hs H d e v u Qd Q s i1 i2 q cn => ?_⟩
  unfold rMulA at q
  split at q
  · obtain ⟨a, xs, e1, h1, h2⟩ := i1
    obtain ⟨q1, q2, q3, q4⟩ := q
    refine .inr ⟨a, _, xs, e1, i2, same_sqt s h1, q2, q3, by rw [h2.len]; exact q1, fun z => ?_, fun _ _ p np => ?_⟩
    · rcases z with z | z
      · subst z
        have := isA_nil h2
        subst this
        have e : ∀ n : Nat, (List.replicate n ([] : List D)).flatten = [] := fun n => by simp
        rw [e] at q4
        exact cn (.tup _) _ Hs H (.refl s) ⟨a, [], rfl, h1, h2⟩ q4
      · subst z
        have e : ∀ ds : List D, (List.replicate (1 : Int).toNat ds).flatten = ds := fun ds => by simp
        rw [e] at q4
        exact cn (.tup _) _ Hs H (.refl s) ⟨a, xs, rfl, h1, h2⟩ q4
    · exact cn (.tup _) _ (upd Hs p (.tup _)) _ (.laid s np) ⟨p, _, rfl, .inl (.inl upd_same), (isA_rep h2 _).same (Ext.laid (Z := Z) s np).fz⟩ q4
  · exact .inl (c0 Z Hs H _ _ _ _ Qd Q s i1 i2 q cn)
/-! ### slices -/
abbrev TPD := List Sl → (Option Int → Prop) → QE → Prop
def liftP (c : Cn) (K : PySem.W.Frag) (t : TPD) : TO := fun σ H Q => ∃ O Hs ss Qd Ed, Abs K c O Hs H σ ss ∧ t ss Qd Ed ∧ ErrC K c Ed ∧ ∀ o Hs' H', Ext (Z0 O) Hs H Hs' H' → Qd o → Q o H'
abbrev DPt (X : Cx) (c : Cn) (e : Option Expr) (t : TPD) : Prop := PO X e (liftP c X.K t)
theorem po_imp {e : Option Expr} {t t' : TO} (h : PO X e t) (f : ∀ σ H Q, t' σ H Q → t σ H Q) : PO X e t' := ⟨fun pins s σ H Q I q => h.run pins s σ H Q I (f _ _ _ q)⟩
def tdNoPt : TPD := fun _ Q _ => Q none
def tdPt (t : TD) : TPD := fun ss Q Ed => t ss (fun x => match x with
  | .int i => Q (some i)
  | _ => False) Ed
theorem dp_none {c : Cn} : DPt X c none tdNoPt := po_imp po_none fun σ H Q q => by
  obtain ⟨O, Hs, ss, Qd, Ed, A, h, er, g⟩ := q
  exact g none Hs H (.refl A.sub) h
theorem dp_some {c : Cn} {e : Expr} {t : TD} (h : DE X c e t) : DPt X c (some e) (tdPt t) := po_imp (po_some h) fun σ H Q q => by
  obtain ⟨O, Hs, ss, Qd, Ed, A, h, er, g⟩ := q
  refine ⟨O, Hs, ss, _, Ed, A, h, er, fun d v Hs1 H1 e1 i1 q1 => ?_⟩
  split at q1
  · exact ⟨_, i1, g _ Hs1 H1 e1 q1⟩
  · exact q1.elim
def cutD (xs : List D) (lo hi : Option Int) : List D := (xs.drop (HT.sIx xs.length 0 lo)).take (HT.sIx xs.length xs.length hi - HT.sIx xs.length 0 lo)
theorem cut_is {K : PySem.W.Frag} {H : Hp} {ds : List D} {xs : List V} (h : IsA K H ds xs) (lo hi : Option Int) : IsA K H (cutD ds lo hi) (cutV xs lo hi) := by
  unfold cutD cutV
  rw [h.len]
  exact (h.drop _).take _
def rSlD (x : D) (lo hi : Option Int) (Q : QD) : Prop := match x with
  | .lst ds => Q (.lst (cutD ds lo hi))
  | .tup ds => Q (.tup (cutD ds lo hi))
  | _ => False
def tdSlice (te : TD) (tl th : TPD) : TD := fun ss Q Ed => te ss (fun x => tl ss (fun l => th ss (fun h => rSlD x l h Q) Ed) Ed) Ed
theorem cut_whole {xs : List D} {lo hi : Option Int} (h : HT.sIx xs.length 0 lo = 0 ∧ HT.sIx xs.length xs.length hi = xs.length) : cutD xs lo hi = xs := by
  unfold cutD
  rw [h.1, h.2, List.drop_zero, Nat.sub_zero, List.take_length]
theorem d_slice {c : Cn} {e : Expr} {lo hi : Option Expr} {te : TD} {tl th : TPD} {pos p2 : Pos} (he : DE X c e te) (hl : DPt X c lo tl) (hh : DPt X c hi th) : DE X c (.Subscript e (.Slice lo hi none p2) pos) (tdSlice te tl th) := by
  refine pe_imp (pe_slice (SlR.or (sl_list (X := X)) sl_tupA) he hl hh) fun σ H Q q => ?_
  obtain ⟨O, Hs, ss, Qd, Ed, A, h, er, g⟩ := q
  refine ⟨O, Hs, ss, _, Ed, A, h, er, fun d v Hs1 H1 e1 i1 q1 => ?_⟩
  refine ⟨O, Hs1, ss, _, Ed, A.next e1, q1, er, fun o Hs2 H2 e2 q2 => ?_⟩
  refine ⟨O, Hs2, ss, _, Ed, A.next (e1.trans e2), q2, er, fun o2 Hs3 H3 e3 q3 => ?_⟩
  have e13 := (e1.trans e2).trans e3
  have i3 := i1.same ((e2.trans e3).fz)
  unfold rSlD at q3
  split at q3
  · obtain ⟨a, xs, ev, h1, h2⟩ := i3
    refine .inl ⟨a, xs, ev, SqL.of (e3.sub _ _ h1), fun p np => ?_⟩
    exact g (.lst _) _ _ _ (e13.trans (.laid e3.sub np)) ⟨p, _, rfl, upd_same, (cut_is h2 o o2).same (Ext.laid (Z := Z0 O) e3.sub np).fz⟩ q3
  · obtain ⟨a, xs, ev, h1, h2⟩ := i3
    refine .inr ⟨a, xs, ev, same_sqt e3.sub h1, fun z => ?_, fun _ p np => ?_⟩
    · rw [h2.len] at z
      rw [cut_whole z] at q3
      exact g (.tup _) _ _ _ e13 ⟨a, xs, rfl, h1, h2⟩ q3
    · exact g (.tup _) _ _ _ (e13.trans (.laid e3.sub np)) ⟨p, _, rfl, .inl (.inl upd_same), (cut_is h2 o o2).same (Ext.laid (Z := Z0 O) e3.sub np).fz⟩ q3
  · exact q3.elim
end
end DL
set_option Elab.async false
set_option linter.all false
set_option maxRecDepth 100000
set_option maxHeartbeats 4000000
namespace LR
open PySem PySem.Spec PyProof.Rows L2 DL
def topS (i : Nat) : Stmt := PySem.Challenge.pw_laprunners_k69_errors_of_observations.main.body.getD i (.Pass ⟨0, 0, 0, 0⟩)
abbrev s_solved : Stmt := topS 2
abbrev s_common : Stmt := topS 3
abbrev s_inverse : Stmt := topS 4
abbrev s_is_integer : Stmt := topS 13
abbrev s_refusal_of : Stmt := topS 15
abbrev s_sums_of : Stmt := topS 16
abbrev s_fitting_speeds : Stmt := topS 20
abbrev s_is_no_speed : Stmt := topS 21
abbrev s_count_speeds : Stmt := topS 22
abbrev s_speeds_between : Stmt := topS 23
abbrev s_next_look : Stmt := topS 24
abbrev s_check : Stmt := topS 25
abbrev s_is_observation : Stmt := topS 26
abbrev s_fitting : Stmt := topS 27
abbrev s_refusal : Stmt := topS 28
abbrev s_conflict : Stmt := topS 29
abbrev s_speeds : Stmt := topS 30
abbrev s_law_pool : Stmt := topS 32
abbrev s_law_draw : Stmt := topS 33
abbrev s_law_call : Stmt := topS 34
abbrev s_law_error : Stmt := topS 35
abbrev s_law : Stmt := topS 36
abbrev c_InvalidNumber : Stmt := topS 6
abbrev c_InvalidLength : Stmt := topS 7
abbrev c_InvalidTime : Stmt := topS 8
abbrev c_InvalidObservation : Stmt := topS 9
abbrev c_NoSpeed : Stmt := topS 10
abbrev c_LimitExceeded : Stmt := topS 11
abbrev N_solved : List Str := ["rate", "wanted", "modulus", "divisor", "step"]
theorem sc_solved : FnScope N_solved ["rate", "wanted", "modulus"] (defScope s_solved) := ⟨rfl, rfl, rfl, by decide +kernel, rfl, by decide +kernel, by decide +kernel⟩
abbrev N_common : List Str := ["first", "step", "other_first", "other_step", "found", "steps", "period"]
theorem sc_common : FnScope N_common ["first", "step", "other_first", "other_step"] (defScope s_common) := ⟨rfl, rfl, rfl, by decide +kernel, rfl, by decide +kernel, by decide +kernel⟩
abbrev N_inverse : List Str := ["value", "modulus", "rest", "other_rest", "factor", "other_factor", "share"]
theorem sc_inverse : FnScope N_inverse ["value", "modulus"] (defScope s_inverse) := ⟨rfl, rfl, rfl, by decide +kernel, rfl, by decide +kernel, by decide +kernel⟩
abbrev N_is_integer : List Str := ["value"]
theorem sc_is_integer : FnScope N_is_integer ["value"] (defScope s_is_integer) := ⟨rfl, rfl, rfl, by decide +kernel, rfl, by decide +kernel, by decide +kernel⟩
abbrev N_refusal_of : List Str := ["many", "given", "at"]
theorem sc_refusal_of : FnScope N_refusal_of ["many", "given"] (defScope s_refusal_of) := ⟨rfl, rfl, rfl, by decide +kernel, rfl, by decide +kernel, by decide +kernel⟩
abbrev N_sums_of : List Str := ["value", "growths", "lacks", "item", "growth", "lack"]
theorem sc_sums_of : FnScope N_sums_of ["value", "growths", "lacks"] (defScope s_sums_of) := ⟨rfl, rfl, rfl, by decide +kernel, rfl, by decide +kernel, by decide +kernel⟩
abbrev N_fitting_speeds : List Str := ["length", "observations", "found"]
theorem sc_fitting_speeds : FnScope N_fitting_speeds ["length", "observations"] (defScope s_fitting_speeds) := ⟨rfl, rfl, rfl, by decide +kernel, rfl, by decide +kernel, by decide +kernel⟩
abbrev N_is_no_speed : List Str := ["length", "observations", "value", "sums", "time", "_", "place"]
theorem sc_is_no_speed : FnScope N_is_no_speed ["length", "observations", "value"] (defScope s_is_no_speed) := ⟨rfl, rfl, rfl, by decide +kernel, rfl, by decide +kernel, by decide +kernel⟩
abbrev N_count_speeds : List Str := ["length", "observations", "low", "high", "_", "many"]
theorem sc_count_speeds : FnScope N_count_speeds ["length", "observations", "low", "high"] (defScope s_count_speeds) := ⟨rfl, rfl, rfl, by decide +kernel, rfl, by decide +kernel, by decide +kernel⟩
abbrev N_speeds_between : List Str := ["length", "observations", "low", "high", "first", "step", "many", "at"]
theorem sc_speeds_between : FnScope N_speeds_between ["length", "observations", "low", "high"] (defScope s_speeds_between) := ⟨rfl, rfl, rfl, by decide +kernel, rfl, by decide +kernel, by decide +kernel⟩
abbrev N_next_look : List Str := ["length", "observations", "low", "high", "after", "_", "step", "many", "circle", "time"]
theorem sc_next_look : FnScope N_next_look ["length", "observations", "low", "high", "after"] (defScope s_next_look) := ⟨rfl, rfl, rfl, by decide +kernel, rfl, by decide +kernel, by decide +kernel⟩
abbrev N_check : List Str := ["length", "observations", "index", "value"]
theorem sc_check : FnScope N_check ["length", "observations"] (defScope s_check) := ⟨rfl, rfl, rfl, by decide +kernel, rfl, by decide +kernel, by decide +kernel⟩
abbrev N_is_observation : List Str := ["value", "time", "place"]
theorem sc_is_observation : FnScope N_is_observation ["value"] (defScope s_is_observation) := ⟨rfl, rfl, rfl, by decide +kernel, rfl, by decide +kernel, by decide +kernel⟩
abbrev N_fitting : List Str := ["length", "observations", "remainder", "modulus", "time", "place", "one", "found"]
theorem sc_fitting : FnScope N_fitting ["length", "observations"] (defScope s_fitting) := ⟨rfl, rfl, rfl, by decide +kernel, rfl, by decide +kernel, by decide +kernel⟩
abbrev N_refusal : List Str := ["length", "observations", "seen", "at", "time", "place", "one", "before", "speed", "modulus", "divisor"]
theorem sc_refusal : FnScope N_refusal ["length", "observations"] (defScope s_refusal) := ⟨rfl, rfl, rfl, by decide +kernel, rfl, by decide +kernel, by decide +kernel⟩
abbrev N_conflict : List Str := ["length", "observations", "before", "at", "distance", "factor", "_", "other_factor"]
theorem sc_conflict : FnScope N_conflict ["length", "observations", "before", "at", "distance"] (defScope s_conflict) := ⟨rfl, rfl, rfl, by decide +kernel, rfl, by decide +kernel, by decide +kernel⟩
abbrev N_speeds : List Str := ["length", "observations", "low", "high", "found", "remainder", "modulus", "first"]
theorem sc_speeds : FnScope N_speeds ["length", "observations", "low", "high"] (defScope s_speeds) := ⟨rfl, rfl, rfl, by decide +kernel, rfl, by decide +kernel, by decide +kernel⟩
abbrev N_law_pool : List Str := ["script"]
theorem sc_law_pool : FnScope N_law_pool ["script"] (defScope s_law_pool) := ⟨rfl, rfl, rfl, by decide +kernel, rfl, by decide +kernel, by decide +kernel⟩
abbrev N_law_draw : List Str := ["pool", "many", "found", "cells", "cell", "mixed"]
theorem sc_law_draw : FnScope N_law_draw ["pool", "many"] (defScope s_law_draw) := ⟨rfl, rfl, rfl, by decide +kernel, rfl, by decide +kernel, by decide +kernel⟩
abbrev N_law_call : List Str := ["kind", "size", "observations", "low", "high", "time"]
theorem sc_law_call : FnScope N_law_call ["kind", "size", "observations", "low", "high", "time"] (defScope s_law_call) := ⟨rfl, rfl, rfl, by decide +kernel, rfl, by decide +kernel, by decide +kernel⟩
abbrev N_law_error : List Str := ["kind", "size", "observations", "low", "high", "time", "e"]
theorem sc_law_error : FnScope N_law_error ["kind", "size", "observations", "low", "high", "time"] (defScope s_law_error) := ⟨rfl, rfl, rfl, by decide +kernel, rfl, by decide +kernel, by decide +kernel⟩
abbrev N_law : List Str := ["script", "pool", "size", "at", "odd", "good", "seen", "low", "more", "kind"]
theorem sc_law : FnScope N_law ["script"] (defScope s_law) := ⟨rfl, rfl, rfl, by decide +kernel, rfl, by decide +kernel, by decide +kernel⟩
end LR
set_option Elab.async false
set_option linter.all false
set_option maxHeartbeats 1000000
/-! OM: integers that leave wanted remainders: plain mathematics -/
namespace OM
theorem gcd_step {a b : Int} (hb : 0 ≤ b) (h : b ≠ 0) (ha : 0 ≤ a) : Nat.gcd b.natAbs (a % b).natAbs = Nat.gcd a.natAbs b.natAbs := by
  have e : (a % b).natAbs = a.natAbs % b.natAbs := by
    obtain ⟨m, rfl⟩ := Int.eq_ofNat_of_zero_le ha
    obtain ⟨n, rfl⟩ := Int.eq_ofNat_of_zero_le hb
    rfl
  rw [e, Nat.gcd_comm b.natAbs, ← Nat.gcd_rec, Nat.gcd_comm]
theorem fdiv_em {r r' : Int} (r0 : 0 ≤ r') : r - r.fdiv r' * r' = r % r' := by
  have h := Int.mul_fdiv_add_fmod r r'
  rw [Int.fmod_eq_emod_of_nonneg _ r0] at h
  have c : r.fdiv r' * r' = r' * r.fdiv r' := Int.mul_comm _ _
  omega
/-- what the search for an inverse keeps -/
structure Euc (v m r r' t t' : Int) : Prop where
  r1 : 0 ≤ r
  r0 : 0 ≤ r'
  d : m ∣ r - t * v
  d' : m ∣ r' - t' * v
  g : Nat.gcd r.natAbs r'.natAbs = Nat.gcd v.natAbs m.natAbs
  b : ∃ e a a' : Int, (e = 1 ∨ e = -1) ∧ 0 ≤ a ∧ 0 ≤ a' ∧ t = e * a ∧ t' = -(e * a') ∧ a * r' + a' * r = m ∧ a' ≤ a' * r
theorem Euc.start {v m : Int} (hv : 0 ≤ v) (hm : 1 ≤ m) : Euc v m v m 1 0 :=
  ⟨hv, by omega, ⟨0, by omega⟩, ⟨1, by omega⟩, rfl, 1, 1, 0, .inl rfl, by omega, by omega, rfl, rfl, by omega, by omega⟩
theorem Euc.next {v m r r' t t' : Int} (h : Euc v m r r' t t') (n : 0 < r') : Euc v m r' (r - r.fdiv r' * r') t' (t - r.fdiv r' * t') := by
  obtain ⟨r1, r0, ⟨x, ex⟩, ⟨y, ey⟩, g, e, a, a', he, a0, a0', et, et', eb, el⟩ := h
  have q0 : 0 ≤ r.fdiv r' := Int.fdiv_nonneg r1 r0
  have em := fdiv_em (r := r) r0
  have a2 : 0 ≤ a + r.fdiv r' * a' := Int.add_nonneg a0 (Int.mul_nonneg q0 a0')
  refine ⟨r0, ?_, ⟨y, ey⟩, ⟨x - r.fdiv r' * y, ?_⟩, ?_, -e, a', a + r.fdiv r' * a', by omega, a0', a2, ?_, ?_, ?_, ?_⟩
  · rw [em]
    exact Int.emod_nonneg _ (by omega)
  · generalize r.fdiv r' = q
    grind
  · rw [em, ← g]
    exact gcd_step r0 (by omega) r1
  · rw [et']
    grind
  · generalize r.fdiv r' = q
    rw [et, et']
    grind
  · generalize r.fdiv r' = q
    grind
  · have := Int.mul_le_mul_of_nonneg_left (show (1 : Int) ≤ r' by omega) a2
    omega
theorem Euc.small {v m r r' t t' : Int} (h : Euc v m r r' t t') (n : 0 < r') : t.natAbs ≤ m.natAbs ∧ t'.natAbs ≤ m.natAbs := by
  obtain ⟨r1, r0, _, _, _, e, a, a', he, a0, a0', et, et', eb, h2⟩ := h
  have h1 : a ≤ a * r' := by
    have := Int.mul_le_mul_of_nonneg_left (show (1 : Int) ≤ r' by omega) a0
    omega
  have h3 : 0 ≤ a * r' := Int.mul_nonneg a0 r0
  have h4 : 0 ≤ a' * r := Int.mul_nonneg a0' r1
  rcases he with rfl | rfl <;> omega
theorem Euc.last {v m r t t' : Int} (h : Euc v m r 0 t t') (hm : 0 < m) (c : Nat.gcd v.natAbs m.natAbs = 1) : m ∣ t.fmod m * v - 1 := by
  obtain ⟨r1, r0, ⟨x, ex⟩, _, g, _⟩ := h
  have er : r = 1 := by
    rw [c] at g
    simp at g
    omega
  subst er
  have e : t.fmod m = t - m * t.fdiv m := by
    have := Int.mul_fdiv_add_fmod t m
    omega
  rw [e]
  refine ⟨-(x + t.fdiv m * v), ?_⟩
  generalize t.fdiv m = z
  grind
theorem Euc.less {v m r r' t t' : Int} (h : Euc v m r r' t t') (n : 0 < r') : (r - r.fdiv r' * r').natAbs < r'.natAbs ∧ (r.fdiv r').natAbs ≤ r.natAbs := by
  have em := fdiv_em (r := r) h.r0
  have l1 := Int.emod_nonneg r (show r' ≠ 0 by omega)
  have l2 := Int.emod_lt_of_pos r n
  have r1 := h.r1
  have q0 : 0 ≤ r.fdiv r' := Int.fdiv_nonneg r1 h.r0
  have q1 : r.fdiv r' ≤ r.fdiv r' * r' := by
    have := Int.mul_le_mul_of_nonneg_left (show (1 : Int) ≤ r' by omega) q0
    omega
  omega
/-! ### rate * x = wanted modulo m -/
/-- s and f tell all solutions -/
structure Sol (a w m f s : Int) : Prop where
  f0 : 0 ≤ f
  fs : f < s
  sm : s * ((Nat.gcd a.natAbs m.natAbs : Nat) : Int) = m
  all : ∀ x, m ∣ a * x - w ↔ s ∣ x - f
theorem gcd_dvd_l (a m : Int) : (((Nat.gcd a.natAbs m.natAbs : Nat) : Int)) ∣ a := Int.natAbs_dvd_natAbs.mp (by rw [Int.natAbs_natCast]; exact Nat.gcd_dvd_left _ _)
theorem gcd_dvd_r (a m : Int) : (((Nat.gcd a.natAbs m.natAbs : Nat) : Int)) ∣ m := Int.natAbs_dvd_natAbs.mp (by rw [Int.natAbs_natCast]; exact Nat.gcd_dvd_right _ _)
theorem gcd_pos {a m : Int} (hm : 1 ≤ m) : 0 < (((Nat.gcd a.natAbs m.natAbs : Nat) : Int)) := by
  have := Nat.gcd_pos_of_pos_right a.natAbs (show 0 < m.natAbs by omega)
  omega
theorem no_sol {a w m x : Int} (h : ¬ (((Nat.gcd a.natAbs m.natAbs : Nat) : Int)) ∣ w) : ¬ m ∣ a * x - w := fun d => h (by
  have h1 := Int.dvd_trans (gcd_dvd_r a m) d
  have h2 := Int.dvd_mul_of_dvd_left (c := x) (gcd_dvd_l a m)
  have := Int.dvd_sub h2 h1
  rwa [show a * x - (a * x - w) = w by omega] at this)
theorem fdiv_mul {g a : Int} (g0 : 0 < g) (h : g ∣ a) : a.fdiv g * g = a := by
  obtain ⟨k, rfl⟩ := h
  rw [Int.mul_fdiv_cancel_left _ (by omega), Int.mul_comm]
theorem div_coprime {a m : Int} (hm : 1 ≤ m) : Nat.gcd (a.fdiv ((Nat.gcd a.natAbs m.natAbs : Nat) : Int)).natAbs (m.fdiv ((Nat.gcd a.natAbs m.natAbs : Nat) : Int)).natAbs = 1 := by
  have g0 := gcd_pos (a := a) hm
  have e1 := fdiv_mul g0 (gcd_dvd_l a m)
  have e2 := fdiv_mul g0 (gcd_dvd_r a m)
  generalize a.fdiv _ = x at e1 ⊢
  generalize m.fdiv _ = y at e2 ⊢
  have h1 : a.natAbs = x.natAbs * Nat.gcd a.natAbs m.natAbs := by
    conv => lhs; rw [← e1]
    rw [Int.natAbs_mul, Int.natAbs_natCast]
  have h2 : m.natAbs = y.natAbs * Nat.gcd a.natAbs m.natAbs := by
    conv => lhs; rw [← e2]
    rw [Int.natAbs_mul, Int.natAbs_natCast]
  have h3 : Nat.gcd a.natAbs m.natAbs = Nat.gcd x.natAbs y.natAbs * Nat.gcd a.natAbs m.natAbs := by
    have h5 : Nat.gcd (x.natAbs * Nat.gcd a.natAbs m.natAbs) (y.natAbs * Nat.gcd a.natAbs m.natAbs) = Nat.gcd x.natAbs y.natAbs * Nat.gcd a.natAbs m.natAbs := Nat.gcd_mul_right _ _ _
    rw [← h1, ← h2] at h5
    exact h5
  have h4 : 0 < Nat.gcd a.natAbs m.natAbs := by omega
  exact Nat.eq_of_mul_eq_mul_right h4 (by omega)
theorem fmod_bounds {x m : Int} (hm : 0 < m) : 0 ≤ x.fmod m ∧ x.fmod m < m := by
  rw [Int.fmod_eq_emod_of_nonneg _ (Int.le_of_lt hm)]
  exact ⟨Int.emod_nonneg _ (Int.ne_of_gt hm), Int.emod_lt_of_pos _ hm⟩
theorem fmod_zero {x m : Int} (hm : 0 < m) : x.fmod m = 0 ↔ m ∣ x := by
  rw [Int.fmod_eq_emod_of_nonneg _ (Int.le_of_lt hm)]
  exact ⟨Int.dvd_of_emod_eq_zero, Int.emod_eq_zero_of_dvd⟩
theorem fmod_sub {x m : Int} : m ∣ x - x.fmod m := ⟨x.fdiv m, by have := Int.mul_fdiv_add_fmod x m; omega⟩
theorem sol_of {a w m i : Int} (hm : 1 ≤ m) (hw : (((Nat.gcd a.natAbs m.natAbs : Nat) : Int)) ∣ w)
    (hi : m.fdiv ((Nat.gcd a.natAbs m.natAbs : Nat) : Int) ∣ i * a.fdiv ((Nat.gcd a.natAbs m.natAbs : Nat) : Int) - 1) :
    Sol a w m ((w.fdiv ((Nat.gcd a.natAbs m.natAbs : Nat) : Int) * i).fmod (m.fdiv ((Nat.gcd a.natAbs m.natAbs : Nat) : Int))) (m.fdiv ((Nat.gcd a.natAbs m.natAbs : Nat) : Int)) := by
  have g0 := gcd_pos (a := a) hm
  have e1 := fdiv_mul g0 (gcd_dvd_l a m)
  have e2 := fdiv_mul g0 (gcd_dvd_r a m)
  have e3 := fdiv_mul g0 hw
  have co := div_coprime (a := a) hm
  generalize hx : a.fdiv ((Nat.gcd a.natAbs m.natAbs : Nat) : Int) = x at *
  generalize hy : m.fdiv ((Nat.gcd a.natAbs m.natAbs : Nat) : Int) = y at *
  generalize hz : w.fdiv ((Nat.gcd a.natAbs m.natAbs : Nat) : Int) = z at *
  generalize hg : ((Nat.gcd a.natAbs m.natAbs : Nat) : Int) = g at *
  have y0 : 0 < y := by
    apply Int.not_le.mp
    intro c
    have := Int.mul_le_mul_of_nonneg_right c (Int.le_of_lt g0)
    omega
  have fb := fmod_bounds (x := z * i) y0
  have fd := fmod_sub (x := z * i) (m := y)
  refine ⟨fb.1, fb.2, by rw [hg]; exact e2, fun k => ?_⟩
  generalize (z * i).fmod y = f at *
  obtain ⟨p, hp⟩ := hi
  obtain ⟨q, hq⟩ := fd
  have key : m ∣ a * k - w ↔ y ∣ x * k - z := by
    rw [← e1, ← e2, ← e3, show x * g * k - z * g = (x * k - z) * g by grind]
    exact ⟨fun ⟨c, h⟩ => ⟨c, Int.eq_of_mul_eq_mul_right (Int.ne_of_gt g0) (by grind)⟩, fun ⟨c, h⟩ => ⟨c, by rw [h]; grind⟩⟩
  rw [key]
  constructor
  · rintro ⟨c, h⟩
    refine ⟨i * c - p * k + q, ?_⟩
    have h1 : k = i * x * k - y * p * k := by grind
    have h2 : i * (x * k - z) = i * (y * c) := by rw [h]
    grind
  · rintro ⟨c, h⟩
    refine ⟨x * c - x * q + p * z, ?_⟩
    have h1 : k = f + y * c := by omega
    have h2 : f = z * i - y * q := by omega
    subst h1
    subst h2
    grind
end OM
namespace OM
/-! ### places that two progressions have in common -/
structure Com (f s f' s' F T : Int) : Prop where
  t1 : 1 ≤ T
  lo : f ≤ F
  hi : F < f + T
  st : s ∣ T
  st' : s' ∣ T
  all : ∀ X, (s ∣ X - f ∧ s' ∣ X - f') ↔ T ∣ X - F
theorem com_none {f s f' s' X : Int} (h1 : s ∣ X - f) (h2 : s' ∣ X - f') : ((Nat.gcd s.natAbs s'.natAbs : Nat) : Int) ∣ f' - f := by
  have h3 := Int.dvd_sub (Int.dvd_trans (gcd_dvd_l s s') h1) (Int.dvd_trans (gcd_dvd_r s s') h2)
  rwa [show X - f - (X - f') = f' - f by omega] at h3
theorem com_of {f s f' s' x p : Int} (s0 : 0 < s) (so : Sol s (f' - f) s' x p) : Com f s f' s' (f + x * s) (s * p) := by
  have p0 : 0 < p := by have := so.f0; have := so.fs; omega
  have sp : 1 ≤ s * p := by have := Int.mul_pos s0 p0; omega
  refine ⟨sp, ?_, ?_, Int.dvd_mul_right _ _, ?_, fun X => ⟨fun ⟨⟨k, hk⟩, h2⟩ => ?_, fun ⟨k, hk⟩ => ⟨⟨x + p * k, by grind⟩, ?_⟩⟩⟩
  · have := Int.mul_nonneg so.f0 (Int.le_of_lt s0)
    omega
  · have h1 : x * s < p * s := Int.mul_lt_mul_of_pos_right so.fs s0
    have h2 : p * s = s * p := Int.mul_comm _ _
    omega
  · obtain ⟨g, hg⟩ := gcd_dvd_l s s'
    refine ⟨g, ?_⟩
    have e := so.sm
    conv => lhs; rw [hg]
    generalize ((Nat.gcd s.natAbs s'.natAbs : Nat) : Int) = z at *
    rw [← e]
    grind
  · have h3 : s' ∣ s * k - (f' - f) := by rwa [show s * k - (f' - f) = X - f' by omega]
    obtain ⟨j, hj⟩ := (so.all k).mp h3
    exact ⟨j, by have : k = x + p * j := by omega
                 subst this
                 grind⟩
  · have h3 := (so.all (x + p * k)).mpr ⟨k, by omega⟩
    rwa [show s * (x + p * k) - (f' - f) = X - f' by grind] at h3
end OM
namespace OM
theorem sub_lt {a b : Int} (ha : a.natAbs < 2 ^ 3000) (hb : b.natAbs < 2 ^ 3000) : (a - b).natAbs < 2 ^ 4000 := by
  have : (2 : Nat) ^ 3000 + 2 ^ 3000 ≤ 2 ^ 4000 := by decide +kernel
  omega
end OM
set_option Elab.async false
set_option linter.all false
set_option maxRecDepth 100000
set_option maxHeartbeats 4000000
set_option exponentiation.threshold 100000
namespace LR
open PySem PySem.Spec PyProof.Rows L2 DL
section
variable {P : Program} {w : World} {K : PySem.W.Frag} {mg : Str → Option Value} {base : Heap}
/-! ### is_integer -/
def isIntD : D → Bool
  | .int _ => true
  | _ => false
def sdInt : SpD := fun as Q _ => match as with
  | [.d x] => (kindD x).isSome = true ∧ Q (.bl (isIntD x))
  | _ => False
theorem sdInt_len (as Q E) (h : sdInt as Q E) : as.length = 1 := by
  unfold sdInt at h
  split at h
  · rfl
  · exact h.elim

theorem ok_int {f fd} (D : DefAt K mg "is_integer" s_is_integer ["value"] f fd) (m_isinstance : mg "isinstance" = none) (m_int : mg "int" = none) (m_bool : mg "bool" = none) : DefD P w K mg base "is_integer" 1 sdInt :=
  .mk1 D (fnD D.F sc_is_integer sdInt_len fun cdv A outer s H E c hr b => ⟨_, (dss_one (d_ret (d_and (d_callB cd_isi m_isinstance (da_name (pv 0) (da_cons (d_ty .int m_int) da_nil))) (d_one (d_not (d_callB cd_isi m_isinstance (da_name (pv 0) (da_cons (d_ty .bl m_bool) da_nil)))))))), fun as Qd Ed h => by
    unfold sdInt at h
    split at h
    · rename_i x
      obtain ⟨h1, h2⟩ := h
      cases x <;> first | exact h2 | cases h1
    · exact h.elim⟩)
/-! ### _inverse -/
def sdInv : SpD := fun as Q _ => match as with
  | [.d (.int v), .d (.int m)] => (0 ≤ v ∧ 1 ≤ m ∧ v.natAbs < 2 ^ 4000 ∧ m.natAbs < 2 ^ 4000 ∧ Nat.gcd v.natAbs m.natAbs = 1) ∧ ∀ i : Int, 0 ≤ i → i < m → m ∣ i * v - 1 → Q (.int i)
  | _ => False
theorem sdInv_len (as Q E) (h : sdInv as Q E) : as.length = 2 := by
  unfold sdInv at h
  split at h
  · rfl
  · exact h.elim

theorem ok_inverse {f fd} (D : DefAt K mg "_inverse" s_inverse ["value", "modulus"] f fd) : DefD P w K mg base "_inverse" 1 sdInv :=
  .mk1 D (fnD D.F sc_inverse sdInv_len fun cdv A outer s H E c hr b => ⟨_, (dss_cons (d_par2 (i := 2) (j := 3) rfl sc_inverse.nd rfl rfl (by decide) rfl rfl (d_var (pv 0)) (d_var (pv 1)))
      (dss_cons (d_asg (d_tup (da_cons d_int (da_cons d_int da_nil))) (dg_tup rfl (dgs_cons (dg_name (pg_name (i := 4) sc_inverse.nd rfl (.inl rfl))) (dgs_cons (dg_name (pg_name (i := 5) sc_inverse.nd rfl (.inl rfl))) dgs_nil))))
      (dss_cons (d_while (passes_of rfl) (dt_truth (d_var (pv 3)))
      (dss_cons (d_asg (d_op od_div (d_var (pv 2)) (d_var (pv 3))) (dg_name (pg_name (i := 6) sc_inverse.nd rfl (.inl rfl))))
      (dss_cons (d_par2 (i := 2) (j := 3) rfl sc_inverse.nd rfl rfl (by decide) rfl rfl (d_var (pv 3)) (d_op od_sub (d_var (pv 2)) (d_op od_mul (d_var (pv 6)) (d_var (pv 3)))))
      (dss_one (d_par2 (i := 4) (j := 5) rfl sc_inverse.nd rfl rfl (by decide) rfl rfl (d_var (pv 5)) (d_op od_sub (d_var (pv 4)) (d_op od_mul (d_var (pv 6)) (d_var (pv 5)))))))))
      (dss_one (d_ret (d_op od_mod (d_var (pv 4)) (d_var (pv 1)))))))), fun as Qd Ed h => by
    unfold sdInv at h
    split at h
    · rename_i v m
      obtain ⟨⟨v0, m1, zv, zm, hg⟩, q⟩ := h
      refine ⟨fun k ss => ∃ (r r' t t' : Int) (o : Sl), ss = [.d (.int v), .d (.int m), .d (.int r), .d (.int r'), .d (.int t), .d (.int t'), o] ∧ OM.Euc v m r r' t t' ∧ k = r'.natAbs ∧ r.natAbs < 2 ^ 4000 ∧ r'.natAbs < 2 ^ 4000, ⟨_, v, m, 1, 0, .un, rfl, .start v0 m1, rfl, zv, zm⟩, ?_⟩
      rintro k _ ⟨r, r', t, t', o, rfl, eu, rfl, zr, zr'⟩
      refine ifB (fun c => ?_) (fun c => ?_)
      · have n0 : r' ≠ 0 := by simpa using c
        have r0 := eu.r0
        have n : 0 < r' := by omega
        have sm := eu.small n
        have ls := eu.less n
        refine ⟨dv n0 zr', ?_⟩
        refine ⟨mu (Nat.lt_of_le_of_lt ls.2 zr) zr', ?_⟩
        refine ⟨mu (Nat.lt_of_le_of_lt ls.2 zr) (Nat.lt_of_le_of_lt sm.2 zm), ?_⟩
        exact ⟨_, ls.1, _, _, _, _, _, rfl, eu.next n, rfl, zr', by omega⟩
      · have e : r' = 0 := by simpa using c
        subst e
        have fb := OM.fmod_bounds (x := t) (m := m) (by omega)
        exact ⟨show m ≠ 0 by omega, q _ fb.1 fb.2 (eu.last (by omega) hg)⟩
    · exact h.elim⟩)
/-! ### solved -/
def sdSolved : SpD := fun as Q _ => match as with
  | [.d (.int a), .d (.int w), .d (.int m)] => (0 ≤ a ∧ 1 ≤ m ∧ a.natAbs < 2 ^ 4000 ∧ w.natAbs < 2 ^ 4000 ∧ m.natAbs < 2 ^ 4000) ∧ (¬ ((Nat.gcd a.natAbs m.natAbs : Nat) : Int) ∣ w → Q .non) ∧ ∀ f s : Int, ((Nat.gcd a.natAbs m.natAbs : Nat) : Int) ∣ w → OM.Sol a w m f s → Q (.tup [.int f, .int s])
  | _ => False
theorem sdSolved_len (as Q E) (h : sdSolved as Q E) : as.length = 3 := by
  unfold sdSolved at h
  split at h
  · rfl
  · exact h.elim

theorem fdiv_le {x g : Int} (hg : 0 < g) : (x.fdiv g).natAbs ≤ x.natAbs := by
  rw [Int.fdiv_eq_ediv_of_nonneg _ (by omega)]
  exact Int.natAbs_ediv_le_natAbs _ _
theorem ok_solved {f fd} (D : DefAt K mg "solved" s_solved ["rate", "wanted", "modulus"] f fd) (m_gcd : mg "gcd" = some (.builtin "math.gcd")) (G_inverse : DefD P w K mg base "_inverse" 1 sdInv) : DefD P w K mg base "solved" 2 sdSolved :=
  .mk1 D (fnD D.F sc_solved sdSolved_len fun cdv A outer s H E c hr b => ⟨_, (dss_cons (d_asg (d_callBfun cd_gcd m_gcd (da_name (pv 0) (da_name (pv 2) da_nil))) (dg_name (pg_name (i := 3) sc_solved.nd rfl (.inl rfl))))
      (dss_cons (d_ifS (dt_cmp (od_ne hr.units) (d_op od_mod (d_var (pv 1)) (d_var (pv 3))) d_int)
      (dss_one (d_ret d_non))
      dss_nil)
      (dss_cons (d_asg (d_op od_div (d_var (pv 2)) (d_var (pv 3))) (dg_name (pg_name (i := 4) sc_solved.nd rfl (.inl rfl))))
      (dss_one (d_ret (d_tup (da_cons (d_op od_mod (d_op od_mul (d_op od_div (d_var (pv 1)) (d_var (pv 3))) (d_cN G_inverse (hr.mono (by decide)) (da_cons (d_op od_div (d_var (pv 0)) (d_var (pv 3))) (da_name (pv 4) da_nil)))) (d_var (pv 4))) (da_name (pv 4) da_nil)))))))), fun as Qd Ed h => by
    unfold sdSolved at h
    split at h
    · rename_i a wa m
      obtain ⟨⟨a0, m1, za, zw, zm⟩, q1, q2⟩ := h
      have g0 := OM.gcd_pos (a := a) m1
      have gl : ((Nat.gcd a.natAbs m.natAbs : Nat) : Int).natAbs ≤ m.natAbs := by
        rw [Int.natAbs_natCast]
        exact Nat.gcd_le_right _ (by omega)
      have zg : ((Nat.gcd a.natAbs m.natAbs : Nat) : Int).natAbs < 2 ^ 4000 := Nat.lt_of_le_of_lt gl zm
      have gn : ((Nat.gcd a.natAbs m.natAbs : Nat) : Int) ≠ 0 := by omega
      refine ⟨gn, ifN (fun c => ?_) (fun c => ?_)⟩
      · exact q1 fun d => c ((OM.fmod_zero g0).mpr d)
      · have d := (OM.fmod_zero g0).mp c
        have d1 := dv (j := ((Nat.gcd a.natAbs m.natAbs : Nat) : Int)) gn zg
        have co := OM.div_coprime (a := a) m1
        have e2 := OM.fdiv_mul g0 (OM.gcd_dvd_r a m)
        have e3 : 0 ≤ a.fdiv ((Nat.gcd a.natAbs m.natAbs : Nat) : Int) := Int.fdiv_nonneg a0 (by omega)
        have y0 : 1 ≤ m.fdiv ((Nat.gcd a.natAbs m.natAbs : Nat) : Int) := by
          apply Int.not_lt.mp
          intro lt
          have := Int.mul_le_mul_of_nonneg_right (show m.fdiv ((Nat.gcd a.natAbs m.natAbs : Nat) : Int) ≤ 0 by omega) (Int.le_of_lt g0)
          omega
        have zy := Nat.lt_of_le_of_lt (fdiv_le (x := m) g0) zm
        refine ⟨d1, d1, d1, ⟨e3, y0, Nat.lt_of_le_of_lt (fdiv_le g0) za, zy, co⟩, fun i i0 i1 hi => ?_⟩
        refine ⟨mu (Nat.lt_of_le_of_lt (fdiv_le g0) zw) (show i.natAbs < 2 ^ 4000 by omega), show _ ≠ (0 : Int) by omega, ?_⟩
        exact q2 _ _ d (OM.sol_of m1 d hi)
    · exact h.elim⟩)
/-! ### common -/
def sdCommon : SpD := fun as Q _ => match as with
  | [.d (.int f), .d (.int s), .d (.int f'), .d (.int s')] => (1 ≤ s ∧ 1 ≤ s' ∧ f.natAbs < 2 ^ 3000 ∧ s.natAbs < 2 ^ 3000 ∧ f'.natAbs < 2 ^ 3000 ∧ s'.natAbs < 2 ^ 3000) ∧ ((¬ ∃ X, s ∣ X - f ∧ s' ∣ X - f') → Q .non) ∧ ∀ F T : Int, OM.Com f s f' s' F T → Q (.tup [.int F, .int T])
  | _ => False
theorem sdCommon_len (as Q E) (h : sdCommon as Q E) : as.length = 4 := by
  unfold sdCommon at h
  split at h
  · rfl
  · exact h.elim

theorem ok_common {f fd} (D : DefAt K mg "common" s_common ["first", "step", "other_first", "other_step"] f fd) (Gsolved : DefD P w K mg base "solved" 2 sdSolved) : DefD P w K mg base "common" 3 sdCommon :=
  .mk1 D (fnD D.F sc_common sdCommon_len fun cdv A outer s H E c hr b => ⟨_, (dss_cons (d_asg (d_cN Gsolved (hr.mono (by decide)) (da_name (pv 1) (da_cons (d_op od_sub (d_var (pv 2)) (d_var (pv 0))) (da_name (pv 3) da_nil)))) (dg_name (pg_name (i := 4) sc_common.nd rfl (.inl rfl))))
      (dss_cons (d_ifS (dt_cmp od_is (d_var (pv 4)) d_non)
      (dss_one (d_ret d_non))
      dss_nil)
      (dss_cons (d_asg (d_var (pv 4)) (dg_tup rfl (dgs_cons (dg_name (pg_name (i := 5) sc_common.nd rfl (.inl rfl))) (dgs_cons (dg_name (pg_name (i := 6) sc_common.nd rfl (.inl rfl))) dgs_nil))))
      (dss_one (d_ret (d_tup (da_cons (d_op od_add (d_var (pv 0)) (d_op od_mul (d_var (pv 5)) (d_var (pv 1)))) (da_cons (d_op od_mul (d_var (pv 1)) (d_var (pv 6))) da_nil)))))))), fun as Qd Ed h => by
    unfold sdCommon at h
    split at h
    · rename_i f s f' s'
      obtain ⟨⟨s1, s1', zf, zs, zf', zs'⟩, q1, q2⟩ := h
      refine ⟨⟨by omega, s1', Nat.lt_trans zs (Nat.pow_lt_pow_right (by decide) (by decide)), OM.sub_lt zf' zf, Nat.lt_trans zs' (Nat.pow_lt_pow_right (by decide) (by decide))⟩, fun no => ?_, fun x p hd so => ?_⟩
      · exact q1 fun ⟨X, h1, h2⟩ => no (OM.com_none h1 h2)
      · have c := OM.com_of (by omega) so
        have p1 : p ≤ s' := by
          have := Int.mul_le_mul_of_nonneg_left (show (1 : Int) ≤ ((Nat.gcd s.natAbs s'.natAbs : Nat) : Int) by have := OM.gcd_pos (a := s) s1'; omega) (show 0 ≤ p by have := so.f0; have := so.fs; omega)
          have e := so.sm
          omega
        have f0 := so.f0
        have fs := so.fs
        exact ⟨mu (show x.natAbs < 2 ^ 3000 by omega) zs, mu zs (show p.natAbs < 2 ^ 3000 by omega), q2 _ _ c⟩
    · exact h.elim⟩)
end
end LR
set_option Elab.async false
set_option linter.all false
set_option maxHeartbeats 1000000
/-! OQ: which speeds fit observations; where they lead: plain mathematics -/
namespace OM
def Fits (L : Int) (os : List (Int × Int)) (x : Int) : Prop := ∀ o ∈ os, L ∣ o.1 * x - o.2
structure Fit (L : Int) (os : List (Int × Int)) (r m : Int) : Prop where
  m1 : 1 ≤ m
  mL : m ∣ L
  r0 : 0 ≤ r
  rm : r < m
  all : ∀ x, Fits L os x ↔ m ∣ x - r
theorem Fit.start {L : Int} : Fit L [] 0 1 :=
  ⟨by omega, ⟨L, by omega⟩, by omega, by omega, fun x => ⟨fun _ => ⟨x - 0, by omega⟩, fun _ o h => nomatch h⟩⟩
theorem fits_snoc {L : Int} {os : List (Int × Int)} {o : Int × Int} {x : Int} : Fits L (os ++ [o]) x ↔ Fits L os x ∧ L ∣ o.1 * x - o.2 := by
  unfold Fits
  constructor
  · intro h
    exact ⟨fun q hq => h q (List.mem_append_left _ hq), h o (by simp)⟩
  · rintro ⟨h1, h2⟩ q hq
    rcases List.mem_append.mp hq with hq | hq
    · exact h1 q hq
    · rw [List.mem_singleton.mp hq]; exact h2
theorem fits_take {L : Int} {os : List (Int × Int)} {x : Int} (i : Nat) (h : Fits L os x) : Fits L (os.take i) x := fun o ho => h o (List.mem_of_mem_take ho)
theorem Com.dvd {f s f' s' F T L : Int} (c : Com f s f' s' F T) (h : s ∣ L) (h' : s' ∣ L) : T ∣ L := by
  have e := (c.all F).mpr ⟨0, by omega⟩
  have h2 := (c.all (L + F)).mp ⟨by
    rw [show L + F - f = L + (F - f) by omega]
    exact Int.dvd_add h e.1, by
    rw [show L + F - f' = L + (F - f') by omega]
    exact Int.dvd_add h' e.2⟩
  rwa [show L + F - F = L by omega] at h2
theorem Fit.next {L : Int} {os : List (Int × Int)} {o : Int × Int} {r m f s F T : Int} (h : Fit L os r m) (so : Sol o.1 o.2 L f s) (c : Com r m f s F T) : Fit L (os ++ [o]) (F.fmod T) T := by
  have T1 := c.t1
  have b := fmod_bounds (x := F) (m := T) (by omega)
  have sL : s ∣ L := ⟨_, so.sm.symm⟩
  refine ⟨T1, c.dvd h.mL sL, b.1, b.2, fun x => ?_⟩
  rw [fits_snoc, h.all, so.all, c.all]
  have e := fmod_sub (x := F) (m := T)
  generalize F.fmod T = G at *
  constructor
  · intro h1
    have := Int.dvd_add h1 e
    rwa [show x - F + (F - G) = x - G by omega] at this
  · intro h1
    have := Int.dvd_sub h1 e
    rwa [show x - G - (F - G) = x - F by omega] at this
theorem fits_no1 {L : Int} {os : List (Int × Int)} {o : Int × Int} {x : Int} (ho : o ∈ os) (h : ¬ (((Nat.gcd o.1.natAbs L.natAbs : Nat) : Int)) ∣ o.2) : ¬ Fits L os x := fun q => no_sol h (q o ho)
theorem Fit.no2 {L : Int} {os : List (Int × Int)} {o : Int × Int} {r m f s x : Int} (h : Fit L os r m) (so : Sol o.1 o.2 L f s) (no : ¬ ∃ X, m ∣ X - r ∧ s ∣ X - f) : ¬ Fits L (os ++ [o]) x := fun q => by
  have q := fits_snoc.mp q
  exact no ⟨x, (h.all x).mp q.1, (so.all x).mp q.2⟩
def fitsB (L : Int) (os : List (Int × Int)) (x : Int) : Bool := os.all fun o => (o.1 * x - o.2).fmod L == 0
theorem fitsB_iff {L : Int} (hL : 1 ≤ L) {os : List (Int × Int)} {x : Int} : fitsB L os x = true ↔ Fits L os x := by
  unfold fitsB Fits
  simp only [List.all_eq_true, beq_iff_eq]
  exact ⟨fun h o ho => (fmod_zero (by omega)).mp (h o ho), fun h o ho => (fmod_zero (by omega)).mpr (h o ho)⟩
/-- the speeds from lo to hi that fit -/
def spd (L : Int) (os : List (Int × Int)) (lo hi : Int) : List Int := ((List.range (hi + 1 - lo).toNat).map fun k : Nat => lo + (k : Int)).filter (fitsB L os)
theorem asc_eq : ∀ {xs ys : List Int}, xs.Pairwise (· < ·) → ys.Pairwise (· < ·) → (∀ x, x ∈ xs ↔ x ∈ ys) → xs = ys
  | [], [], _, _, _ => rfl
  | [], y :: ys, _, _, h => absurd ((h y).mpr (by simp)) (by simp)
  | x :: xs, [], _, _, h => absurd ((h x).mp (by simp)) (by simp)
  | x :: xs, y :: ys, hx, hy, h => by
    rw [List.pairwise_cons] at hx hy
    have e : x = y := by
      have h1 := (h x).mp (by simp)
      have h2 := (h y).mpr (by simp)
      rw [List.mem_cons] at h1 h2
      rcases h1 with h1 | h1
      · exact h1
      · rcases h2 with h2 | h2
        · exact h2.symm
        · have := hx.1 _ h2
          have := hy.1 _ h1
          omega
    subst e
    rw [asc_eq hx.2 hy.2 fun z => ?_]
    have hz := h z
    rw [List.mem_cons, List.mem_cons] at hz
    constructor
    · intro m
      have := hx.1 _ m
      exact (hz.mp (.inr m)).resolve_left (by omega)
    · intro m
      have := hy.1 _ m
      exact (hz.mpr (.inr m)).resolve_left (by omega)
theorem asc_map {g : Nat → Int} (hg : ∀ i j, i < j → g i < g j) (n : Nat) : ((List.range n).map g).Pairwise (· < ·) := by
  rw [List.pairwise_map]
  exact List.Pairwise.imp (fun h => hg _ _ h) List.pairwise_lt_range
theorem spd_eq {L : Int} {os : List (Int × Int)} {lo hi r m : Int} (hL : 1 ≤ L) (h : Fit L os r m) {n : Nat} (hn : (n : Int) = max 0 ((hi - (lo + (r - lo).fmod m)).fdiv m + 1)) :
    spd L os lo hi = (List.range n).map fun k : Nat => lo + (r - lo).fmod m + m * (k : Int) := by
  have m1 := h.m1
  have b := fmod_bounds (x := r - lo) (m := m) (by omega)
  have sb := fmod_sub (x := r - lo) (m := m)
  refine asc_eq ?_ ?_ fun x => ?_
  · exact List.Pairwise.filter _ (asc_map (fun i j h => by omega) _)
  · refine asc_map (fun i j h => ?_) _
    have := Int.mul_lt_mul_of_pos_left (show (i : Int) < j by omega) (show 0 < m by omega)
    omega
  · unfold spd
    rw [List.mem_filter, fitsB_iff hL, h.all]
    generalize hg : (r - lo).fmod m = g at *
    obtain ⟨q, hq⟩ := sb
    have key : m ∣ x - r ↔ ∃ k : Int, x = lo + g + m * k := by
      constructor
      · rintro ⟨k, hk⟩
        refine ⟨k + q, ?_⟩
        rw [Int.mul_add]
        omega
      · rintro ⟨k, hk⟩
        refine ⟨k - q, ?_⟩
        rw [Int.mul_sub]
        omega
    rw [key]
    clear key
    simp only [List.mem_map, List.mem_range]
    have dv := Int.mul_fdiv_add_fmod (hi - (lo + g)) m
    have db := fmod_bounds (x := hi - (lo + g)) (m := m) (by omega)
    generalize hd : (hi - (lo + g)).fdiv m = d at *
    generalize (hi - (lo + g)).fmod m = e at *
    constructor
    · rintro ⟨⟨a, ha, rfl⟩, k, hk⟩
      have k0 : 0 ≤ k := by
        apply Int.not_lt.mp
        intro c
        have := Int.mul_le_mul_of_nonneg_left (show k ≤ -1 by omega) (show 0 ≤ m by omega)
        omega
      have kd : k < d + 1 := by
        apply Int.not_le.mp
        intro c
        have := Int.mul_le_mul_of_nonneg_left c (show 0 ≤ m by omega)
        rw [Int.mul_add] at this
        omega
      exact ⟨k.toNat, by omega, by rw [Int.toNat_of_nonneg k0]; omega⟩
    · rintro ⟨k, hk, rfl⟩
      have k1 : (k : Int) ≤ d := by omega
      have p1 := Int.mul_le_mul_of_nonneg_left k1 (show 0 ≤ m by omega)
      have p0 := Int.mul_nonneg (show 0 ≤ m by omega) (Int.natCast_nonneg k)
      exact ⟨⟨(g + m * (k : Int)).toNat, by omega, by omega⟩, k, rfl⟩
theorem spd_none {L : Int} {os : List (Int × Int)} {lo hi : Int} (hL : 1 ≤ L) (h : ∀ x, ¬ Fits L os x) : spd L os lo hi = [] := by
  unfold spd
  rw [List.filter_eq_nil_iff]
  intro x _
  rw [fitsB_iff hL]
  exact h x
/-! ### places apart -/
def Dis (L : Int) (ks : List Int) (t : Int) : Prop := (ks.map fun x => (x * t).fmod L).Nodup
theorem fmod_same {a b L : Int} (hL : 0 < L) : a.fmod L = b.fmod L ↔ L ∣ b - a := by
  rw [Int.fmod_eq_emod_of_nonneg _ (by omega), Int.fmod_eq_emod_of_nonneg _ (by omega)]
  rw [eq_comm, Int.emod_eq_emod_iff_emod_sub_eq_zero]
  exact ⟨Int.dvd_of_emod_eq_zero, Int.emod_eq_zero_of_dvd⟩
theorem dis_iff {L s c f t : Int} {n : Nat} (s1 : 1 ≤ s) (c1 : 1 ≤ c) (e : L = s * c) (ht : 0 ≤ t) : Dis L ((List.range n).map fun k : Nat => f + s * (k : Int)) t ↔ ((Nat.gcd t.natAbs c.natAbs : Nat) : Int) * (n : Int) ≤ c := by
  have L0 : 0 < L := by rw [e]; exact Int.mul_pos (by omega) (by omega)
  have g0 := gcd_pos (a := t) c1
  have e1 := fdiv_mul g0 (gcd_dvd_l t c)
  have e2 := fdiv_mul g0 (gcd_dvd_r t c)
  have co := div_coprime (a := t) c1
  generalize hg : ((Nat.gcd t.natAbs c.natAbs : Nat) : Int) = g at *
  generalize hx : t.fdiv g = x at *
  generalize hy : c.fdiv g = y at *
  have y0 : 0 < y := by
    apply Int.not_le.mp
    intro z
    have := Int.mul_le_mul_of_nonneg_right z (Int.le_of_lt g0)
    omega
  -- two numbers meet where y divides their distance
  have key : ∀ i j : Nat, ((f + s * (i : Int)) * t).fmod L = ((f + s * (j : Int)) * t).fmod L ↔ y ∣ (j : Int) - (i : Int) := fun i j => by
    rw [fmod_same L0, e]
    rw [show (f + s * (j : Int)) * t - (f + s * (i : Int)) * t = s * (t * ((j : Int) - (i : Int))) by grind]
    rw [Int.mul_dvd_mul_iff_left (by omega)]
    rw [← e1, ← e2, show x * g * ((j : Int) - (i : Int)) = x * ((j : Int) - (i : Int)) * g by grind, Int.mul_dvd_mul_iff_right (by omega)]
    constructor
    · intro d
      have d2 := Int.natAbs_dvd_natAbs.mpr d
      rw [Int.natAbs_mul] at d2
      exact Int.natAbs_dvd_natAbs.mp (Nat.Coprime.dvd_of_dvd_mul_left (show Nat.gcd y.natAbs x.natAbs = 1 by rw [Nat.gcd_comm]; exact co) d2)
    · intro d
      exact Int.dvd_mul_of_dvd_right d
  unfold Dis
  rw [List.map_map]
  unfold List.Nodup
  rw [List.pairwise_map]
  have lhs : List.Pairwise (fun a b => ((fun x => (x * t).fmod L) ∘ fun k : Nat => f + s * (k : Int)) a ≠ ((fun x => (x * t).fmod L) ∘ fun k : Nat => f + s * (k : Int)) b) (List.range n) ↔ ∀ i j : Nat, i < j → j < n → ¬ y ∣ (j : Int) - (i : Int) := by
    rw [List.pairwise_iff_getElem]
    simp only [List.length_range, List.getElem_range, Function.comp]
    constructor
    · intro h i j ij jn d
      exact h i j (by omega) jn ij ((key i j).mpr d)
    · intro h i j _ jn ij d
      exact h i j ij jn ((key i j).mp d)
  rw [lhs]
  have rhs : g * (n : Int) ≤ c ↔ (n : Int) ≤ y := by
    rw [← e2, Int.mul_comm y g]
    exact ⟨fun h => Int.le_of_mul_le_mul_left h g0, fun h => Int.mul_le_mul_of_nonneg_left h (Int.le_of_lt g0)⟩
  rw [rhs]
  constructor
  · intro h
    apply Int.not_lt.mp
    intro lt
    exact h 0 y.toNat (by omega) (by omega) ⟨1, by omega⟩
  · intro h i j ij jn d
    have := Int.le_of_dvd (by omega) d
    omega
/-- some number of any so many ones in a row has no divisor in common with c -/
theorem cop_in {c a : Int} (c1 : 1 ≤ c) : ∃ t, a < t ∧ t ≤ a + c ∧ ((Nat.gcd t.natAbs c.natAbs : Nat) : Int) = 1 := by
  refine ⟨a + c - (a - 1).fmod c, ?_⟩
  have b := fmod_bounds (x := a - 1) (m := c) (by omega)
  obtain ⟨q, hq⟩ := fmod_sub (x := a - 1) (m := c)
  generalize (a - 1).fmod c = z at *
  refine ⟨by omega, by omega, ?_⟩
  have g0 := gcd_pos (a := a + c - z) c1
  have d1 := gcd_dvd_l (a + c - z) c
  have d2 := gcd_dvd_r (a + c - z) c
  generalize ((Nat.gcd (a + c - z).natAbs c.natAbs : Nat) : Int) = g at *
  have d3 : g ∣ 1 := by
    obtain ⟨u, hu⟩ := d1
    obtain ⟨v, hv⟩ := d2
    refine ⟨u - v * (q + 1), ?_⟩
    rw [Int.mul_sub, ← Int.mul_assoc, ← hv, ← hu, Int.mul_add]
    omega
  have := Int.le_of_dvd (by omega) d3
  omega
theorem least {P : Int → Prop} [DecidablePred P] {a b : Int} (hb : a < b) (h : P b) : ∃ t, a < t ∧ t ≤ b ∧ P t ∧ ∀ u, a < u → u < t → ¬ P u := by
  obtain ⟨n, hn⟩ : ∃ n : Nat, b = a + 1 + n := ⟨(b - a - 1).toNat, by omega⟩
  induction n using Nat.strongRecOn generalizing b with
  | _ n ih =>
    by_cases q : ∃ k : Nat, k < n ∧ P (a + 1 + k)
    · obtain ⟨k, hk, pk⟩ := q
      obtain ⟨t, h1, h2, h3, h4⟩ := ih k hk (b := a + 1 + k) (by omega) pk rfl
      exact ⟨t, h1, by omega, h3, h4⟩
    · exact ⟨b, hb, Int.le_refl _, h, fun u h1 h2 pu => q ⟨(u - a - 1).toNat, by omega, by rw [show a + 1 + ((u - a - 1).toNat : Int) = u by omega]; exact pu⟩⟩
/-! ### how many are different -/
theorem erase_len : ∀ {ks ps : List Int}, ks.Nodup → (∀ k ∈ ks, k ∈ ps) → ks.length ≤ ps.length
  | [], _, _, _ => Nat.zero_le _
  | k :: ks, ps, nd, h => by
    rw [List.nodup_cons] at nd
    have hk := h k (by simp)
    have := erase_len (ks := ks) (ps := ps.erase k) nd.2 fun z hz => (List.mem_erase_of_ne (by rintro rfl; exact nd.1 hz)).mpr (h z (by simp [hz]))
    rw [List.length_erase_of_mem hk] at this
    have l : 0 < ps.length := List.length_pos_of_mem hk
    simp only [List.length_cons]
    omega
theorem dup_len : ∀ {ps : List Int}, ¬ ps.Nodup → ∃ qs : List Int, qs.length < ps.length ∧ ∀ x ∈ ps, x ∈ qs
  | [], h => absurd List.nodup_nil h
  | p :: ps, h => by
    by_cases hp : p ∈ ps
    · exact ⟨ps, by simp, fun x hx => by
      rcases List.mem_cons.mp hx with e | e
      · rw [e]; exact hp
      · exact e⟩
    · have h2 : ¬ ps.Nodup := fun n => h (List.nodup_cons.mpr ⟨hp, n⟩)
      obtain ⟨qs, h3, h4⟩ := dup_len h2
      exact ⟨p :: qs, by simp; omega, fun x hx => by
        rcases List.mem_cons.mp hx with e | e
        · simp [e]
        · simp [h4 x e]⟩
theorem len_nodup {ks ps : List Int} (nd : ks.Nodup) (h : ∀ x, x ∈ ks ↔ x ∈ ps) : ks.length = ps.length ↔ ps.Nodup := by
  constructor
  · intro e
    apply Classical.byContradiction
    intro n
    obtain ⟨qs, h1, h2⟩ := dup_len n
    have := erase_len nd fun k hk => h2 k ((h k).mp hk)
    omega
  · intro n
    have h1 := erase_len nd fun k hk => (h k).mp hk
    have h2 := erase_len n fun k hk => (h k).mpr hk
    omega
theorem below_len {ks : List Int} {L : Int} (nd : ks.Nodup) (h : ∀ k ∈ ks, 0 ≤ k ∧ k < L) : (ks.length : Int) ≤ max L 0 := by
  have := erase_len (ps := (List.range L.toNat).map fun k : Nat => (k : Int)) nd fun k hk => by
    have := h k hk
    simp only [List.mem_map, List.mem_range]
    exact ⟨k.toNat, by omega, by omega⟩
  rw [List.length_map, List.length_range] at this
  omega
end OM
set_option Elab.async false
set_option linter.all false
set_option maxRecDepth 100000
set_option maxHeartbeats 4000000
set_option exponentiation.threshold 100000
namespace LR
open PySem PySem.Spec PyProof.Rows L2 DL
section
variable {P : Program} {w : World} {K : PySem.W.Frag} {mg : Str → Option Value} {base : Heap}
/-! ### observations -/
def obsL (os : List (Int × Int)) : List D := os.map fun o => .tup [.int o.1, .int o.2]
theorem obs_get {os : List (Int × Int)} {i : Nat} {d : D} (h : (obsL os)[i]? = some d) : ∃ o, os[i]? = some o ∧ d = .tup [.int o.1, .int o.2] := by
  unfold obsL at h
  rw [List.getElem?_map] at h
  cases q : os[i]? with
  | none => rw [q] at h; cases h
  | some o => rw [q] at h; exact ⟨o, rfl, (Option.some.inj h).symm⟩
theorem obs_len {os : List (Int × Int)} : (obsL os).length = os.length := List.length_map ..
theorem take_snoc {α : Type} {os : List α} {i : Nat} {o : α} (h : os[i]? = some o) : os.take (i + 1) = os.take i ++ [o] := by rw [List.take_add_one, h]; rfl
/-- x is these observations, as a list or a tuple -/
def IsObs (x : D) (os : List (Int × Int)) : Prop := (x = .lst (obsL os) ∨ x = .tup (obsL os)) ∧ os.length ≤ 50 ∧ ∀ o ∈ os, 0 ≤ o.1 ∧ o.1.natAbs < 2 ^ 1000 ∧ o.2.natAbs < 2 ^ 1000
def sdObs1 : SpD := fun as Q _ => match as with
  | [.d (.tup [.int t, .int _])] => 0 ≤ t ∧ Q (.bl true)
  | _ => False
theorem sdObs1_len (as Q E) (h : sdObs1 as Q E) : as.length = 1 := by
  unfold sdObs1 at h
  split at h
  · rfl
  · exact h.elim

theorem ok_isobs {f fd} (D : DefAt K mg "_is_observation" s_is_observation ["value"] f fd) (m_isinstance : mg "isinstance" = none) (m_tuple : mg "tuple" = none) (m_len : mg "len" = none) (Gis_integer : DefD P w K mg base "is_integer" 1 sdInt) : DefD P w K mg base "_is_observation" 2 sdObs1 :=
  .mk1 D (fnD D.F sc_is_observation sdObs1_len fun cdv A outer s H E c hr b => ⟨_, (dss_cons (d_ifS (PW.pt (dw_or (dt_not (dt_val (d_callB cd_isi m_isinstance (da_name (pv 0) (da_cons (d_ty .tup m_tuple) da_nil))))) (dw_or1 (dt_cmp (od_ne hr.units) (d_callB cd_len m_len (da_name (pv 0) da_nil)) d_int))))
      (dss_one (d_ret d_bl))
      dss_nil)
      (dss_cons (d_asg (d_var (pv 0)) (dg_tup rfl (dgs_cons (dg_name (pg_name (i := 1) sc_is_observation.nd rfl (.inl rfl))) (dgs_cons (dg_name (pg_name (i := 2) sc_is_observation.nd rfl (.inl rfl))) dgs_nil))))
      (dss_one (d_ret (d_and (d_cN Gis_integer (hr.mono (by decide)) (da_name (pv 1) da_nil)) (d_and (d_cN Gis_integer (hr.mono (by decide)) (da_name (pv 2) da_nil)) (d_one (d_cmp od_ge (d_var (pv 1)) d_int)))))))), fun as Qd Ed h => by
    unfold sdObs1 at h
    split at h
    · rename_i t p
      obtain ⟨t0, q⟩ := h
      refine ⟨rfl, rfl, ?_⟩
      show Qd (.bl (decide (0 ≤ t)))
      rw [decide_eq_true t0]
      exact q
    · exact h.elim⟩)
def sdCheck0 : SpD := fun as Q _ => match as with
  | [.d (.int l), .d x] => 1 ≤ l ∧ (∃ os, IsObs x os) ∧ Q .non
  | _ => False
theorem sdCheck0_len (as Q E) (h : sdCheck0 as Q E) : as.length = 2 := by
  unfold sdCheck0 at h
  split at h
  · rfl
  · exact h.elim

theorem ok_check0 {f fd} (D : DefAt K mg "_check" s_check ["length", "observations"] f fd) (m_isinstance : mg "isinstance" = none) (m_tuple : mg "tuple" = none) (m_list : mg "list" = none) (m_len : mg "len" = none) (m_enumerate : mg "enumerate" = none)
    {tk : Tok} (m_MOST_OBSERVATIONS : mg "MOST_OBSERVATIONS" = some (.int 50 tk)) (Gis_integer : DefD P w K mg base "is_integer" 1 sdInt) (G_is_observation : DefD P w K mg base "_is_observation" 2 sdObs1) : DefD P w K mg base "_check" 3 sdCheck0 :=
  .mk1 D (fnD D.F sc_check sdCheck0_len fun cdv A outer s H E c hr b => ⟨_, (dss_cons (d_ifS (PW.pt (dw_or (dt_not (dt_val (d_cN Gis_integer (hr.mono (by decide)) (da_name (pv 0) da_nil)))) (dw_or1 (dt_cmp od_lt (d_var (pv 0)) d_int))))
      (dss_one d_dead)
      dss_nil)
      (dss_cons (d_ifS (PW.pt (dw_or (dt_not (dt_val (d_isiT m_isinstance (d_var (pv 1)) (.cons (n := .lst) (pe_bltn (v := .ty (Ty7.name .lst)) (by rfl) m_list (by decide +kernel) rfl) (.cons (n := .tup) (pe_bltn (v := .ty (Ty7.name .tup)) (by rfl) m_tuple (by decide +kernel) rfl) .nil rfl) rfl)))) (dw_or1 (dt_cmp od_gt (d_callB cd_len m_len (da_name (pv 1) da_nil)) (d_gint m_MOST_OBSERVATIONS)))))
      (dss_one d_dead)
      dss_nil)
      (dss_one (d_for (passes_of rfl) rfl (di_enumA m_enumerate (d_var (pv 1))) (dg_tup rfl (dgs_cons (dg_name (pg_name (i := 2) sc_check.nd rfl (.inl rfl))) (dgs_cons (dg_name (pg_name (i := 3) sc_check.nd rfl (.inl rfl))) dgs_nil)))
      (dss_one (d_ifS (dt_not (dt_val (d_cN G_is_observation (hr.mono (by decide)) (da_name (pv 3) da_nil))))
      (dss_one d_dead)
      dss_nil)))))), fun as Qd Ed h => by
    unfold sdCheck0 at h
    split at h
    · rename_i l x
      obtain ⟨l1, ⟨os, ho, hl, hp⟩, q⟩ := h
      have main : ∀ x, (x = .lst (obsL os) ∨ x = .tup (obsL os)) → kindD x = some .lst ∨ kindD x = some .tup := by
        rintro x (rfl | rfl)
        · exact .inl rfl
        · exact .inr rfl
      have dl : decide ((50 : Int) < ((obsL os).length : Nat)) = false := by rw [obs_len]; exact decide_eq_false (by omega)
      have loop : ∀ x o2 o3, ∃ I : Nat → List Sl → Prop, I 0 [.d (.int l), .d x, o2, o3] ∧ (∀ i d ss', (enumD 0 (obsL os))[i]? = some d → I i ss' → (Pat.t [.n 2, .n 3]).gd d ss' fun ss2 => tdIfS (tdNot (tdB (tdCallN sdObs1 (tdConsN 3 tdNil)))) tdDead tdNext { nx := I (i + 1), rt := Qd, ro := fun ds => Qd (.lst ds), bk := fun _ => Qd .non, ct := I (i + 1) } ss2 Ed) ∧ ∀ ss', I (enumD 0 (obsL os)).length ss' → Qd .non := by
        intro x o2 o3
        refine ⟨fun _ ss => ∃ o2 o3, ss = [.d (.int l), .d x, o2, o3], ⟨_, _, rfl⟩, ?_, fun _ _ => q⟩
        rintro i d _ hd ⟨o2, o3, rfl⟩
        obtain ⟨y, hy, rfl⟩ := enumD_get hd
        obtain ⟨o, hi, rfl⟩ := obs_get hy
        exact ⟨(hp o (List.mem_of_getElem? hi)).1, _, _, rfl⟩
      rcases ho with rfl | rfl
      · refine ⟨rfl, ifD (fun c => absurd c (by omega)) fun _ => ?_⟩
        show if decide ((50 : Int) < ((obsL os).length : Nat)) = true then _ else _
        rw [dl]
        exact loop _ _ _
      · refine ⟨rfl, ifD (fun c => absurd c (by omega)) fun _ => ?_⟩
        show if decide ((50 : Int) < ((obsL os).length : Nat)) = true then _ else _
        rw [dl]
        exact loop _ _ _
    · exact h.elim⟩)
/-! ### _fitting -/
def sdFitting : SpD := fun as Q _ => match as with
  | [.d (.int l), .d x] => (1 ≤ l ∧ l.natAbs < 2 ^ 1000) ∧ ∃ os, IsObs x os ∧ ((∀ X, ¬ OM.Fits l os X) → Q .non) ∧ ∀ r m, OM.Fit l os r m → Q (.tup [.int r, .int m])
  | _ => False
theorem sdFitting_len (as Q E) (h : sdFitting as Q E) : as.length = 2 := by
  unfold sdFitting at h
  split at h
  · rfl
  · exact h.elim

theorem le_sz {a l : Int} {b e : Nat} (h : l.natAbs < 2 ^ b) (h1 : 0 ≤ a) (h2 : a ≤ l) (h3 : b ≤ e := by decide) : a.natAbs < 2 ^ e :=
  Nat.lt_of_le_of_lt (show a.natAbs ≤ l.natAbs by omega) (Nat.lt_of_lt_of_le h (Nat.pow_le_pow_right (by decide) h3))
theorem up_sz {a : Int} {b e : Nat} (h : a.natAbs < 2 ^ b) (h3 : b ≤ e := by decide) : a.natAbs < 2 ^ e := Nat.lt_of_lt_of_le h (Nat.pow_le_pow_right (by decide) h3)
theorem ok_fitting {f fd} (D : DefAt K mg "_fitting" s_fitting ["length", "observations"] f fd) (Gsolved : DefD P w K mg base "solved" 2 sdSolved) (Gcommon : DefD P w K mg base "common" 3 sdCommon) : DefD P w K mg base "_fitting" 4 sdFitting :=
  .mk1 D (fnD D.F sc_fitting sdFitting_len fun cdv A outer s H E c hr b => ⟨_, (dss_cons (d_asg (d_tup (da_cons d_int (da_cons d_int da_nil))) (dg_tup rfl (dgs_cons (dg_name (pg_name (i := 2) sc_fitting.nd rfl (.inl rfl))) (dgs_cons (dg_name (pg_name (i := 3) sc_fitting.nd rfl (.inl rfl))) dgs_nil))))
      (dss_cons (d_for (passes_of rfl) rfl (di_seq (d_var (pv 1))) (dg_tup rfl (dgs_cons (dg_name (pg_name (i := 4) sc_fitting.nd rfl (.inl rfl))) (dgs_cons (dg_name (pg_name (i := 5) sc_fitting.nd rfl (.inl rfl))) dgs_nil)))
      (dss_cons (d_asg (d_cN Gsolved (hr.mono (by decide)) (da_name (pv 4) (da_name (pv 5) (da_name (pv 0) da_nil)))) (dg_name (pg_name (i := 6) sc_fitting.nd rfl (.inl rfl))))
      (dss_cons (d_asg (d_if (dt_cmp od_is (d_var (pv 6)) d_non) d_non (d_cN Gcommon (hr.mono (by decide)) (da_name (pv 2) (da_name (pv 3) (da_cons (d_ix ixd (d_var (pv 6)) d_int) (da_cons (d_ix ixd (d_var (pv 6)) d_int) da_nil)))))) (dg_name (pg_name (i := 7) sc_fitting.nd rfl (.inl rfl))))
      (dss_cons (d_ifS (dt_cmp od_is (d_var (pv 7)) d_non)
      (dss_one (d_ret d_non))
      dss_nil)
      (dss_cons (d_asg (d_ix ixd (d_var (pv 7)) d_int) (dg_name (pg_name (i := 3) sc_fitting.nd rfl (.inl rfl))))
      (dss_one (d_asg (d_op od_mod (d_ix ixd (d_var (pv 7)) d_int) (d_var (pv 3))) (dg_name (pg_name (i := 2) sc_fitting.nd rfl (.inl rfl))))))))))
      (dss_one (d_ret (d_tup (da_name (pv 2) (da_name (pv 3) da_nil))))))), fun as Qd Ed h => by
    unfold sdFitting at h
    split at h
    · rename_i l x
      obtain ⟨⟨l1, zl⟩, os, ⟨ho, hl, hp⟩, q1, q2⟩ := h
      have loop : ∃ I : Nat → List Sl → Prop, I 0 [.d (.int l), .d x, .d (.int 0), .d (.int 1), .un, .un, .un, .un] ∧ (∀ i d ss', (obsL os)[i]? = some d → I i ss' → (Pat.t [.n 4, .n 5]).gd d ss' fun ss2 => (tdSeq (tdAsg (tdCallN sdSolved (tdConsN 4 (tdConsN 5 (tdConsN 0 tdNil)))) (.n 6)) (tdSeq (tdAsg (tdIf (tdB (tdOp (rIsD false) (tdVar 6) (tdC .non))) (tdC .non) (tdCallN sdCommon (tdConsN 2 (tdConsN 3 (tdCons (tdOp rIxDD (tdVar 6) (tdC (.int 0))) (tdCons (tdOp rIxDD (tdVar 6) (tdC (.int 1))) tdNil)))))) (.n 7)) (tdSeq (tdIfS (tdB (tdOp (rIsD false) (tdVar 7) (tdC .non))) (tdRet (tdC .non)) tdNext) (tdSeq (tdAsg (tdOp rIxDD (tdVar 7) (tdC (.int 1))) (.n 3)) (tdAsg (tdOp rModD (tdOp rIxDD (tdVar 7) (tdC (.int 0))) (tdVar 3)) (.n 2)))))) { nx := I (i + 1), rt := Qd, ro := fun ds => Qd (.lst ds), bk := fun ss' => tdRet (tdTup (tdConsN 2 (tdConsN 3 tdNil))) { nx := fun _ => Qd .non, rt := Qd } ss' Ed, ct := I (i + 1) } ss2 Ed) ∧ ∀ ss', I (obsL os).length ss' → tdRet (tdTup (tdConsN 2 (tdConsN 3 tdNil))) { nx := fun _ => Qd .non, rt := Qd } ss' Ed := by
        refine ⟨fun i ss => ∃ (r m : Int) (o4 o5 o6 o7 : Sl), ss = [.d (.int l), .d x, .d (.int r), .d (.int m), o4, o5, o6, o7] ∧ OM.Fit l (os.take i) r m, ⟨_, _, _, _, _, _, rfl, OM.Fit.start⟩, ?_, ?_⟩
        · rintro i d _ hd ⟨r, m, o4, o5, o6, o7, rfl, ft⟩
          obtain ⟨o, hi, rfl⟩ := obs_get hd
          obtain ⟨t0, zt, zp⟩ := hp o (List.mem_of_getElem? hi)
          refine ⟨⟨t0, l1, up_sz zt, up_sz zp, up_sz zl⟩, fun no => ?_, fun f s' hd so => ?_⟩
          · exact q1 fun X => OM.fits_no1 (List.mem_of_getElem? hi) no
          · have sl : s' ≤ l := by
              have g0 := OM.gcd_pos (a := o.1) l1
              have := Int.mul_le_mul_of_nonneg_left (show (1 : Int) ≤ ((Nat.gcd o.1.natAbs l.natAbs : Nat) : Int) by omega) (show 0 ≤ s' by have := so.f0; have := so.fs; omega)
              have e := so.sm
              omega
            have f0 := so.f0
            have fs := so.fs
            have m1 := ft.m1
            have ml := Int.le_of_dvd (by omega) ft.mL
            have r0 := ft.r0
            have rm := ft.rm
            refine ⟨⟨m1, by omega, le_sz zl r0 (by omega), le_sz zl (by omega) ml, le_sz zl f0 (by omega), le_sz zl (by omega) sl⟩, fun no => ?_, fun F T' cm => ?_⟩
            · exact q1 fun X hX => ft.no2 so no (by rw [← take_snoc hi]; exact OM.fits_take _ hX)
            · have T1 := cm.t1
              exact ⟨show T' ≠ 0 by omega, _, _, _, _, _, _, rfl, by rw [take_snoc hi]; exact ft.next so cm⟩
        · rintro _ ⟨r, m, o4, o5, o6, o7, rfl, ft⟩
          rw [obs_len, List.take_length] at ft
          exact q2 _ _ ft
      rcases ho with rfl | rfl
      · exact loop
      · exact loop
    · exact h.elim⟩)
end
end LR
set_option Elab.async false
set_option linter.all false
set_option maxRecDepth 100000
set_option maxHeartbeats 4000000
/-! EC: an own error class with __init__, from what the text says of it -/
namespace DL
open PySem PySem.Spec PyProof.Rows L2
open PySem.W (excInitIn excOver excTail)
/-- the bases of ValueError -/
abbrev BMv : List Value := [.type "ValueError", .type "Exception", .type "BaseException", .type "object"]
theorem FBv : ExcBaseFacts "ValueError" "ValueError.__new__" "ValueError.__init__" BMv := PySem.F.excBase_ValueError
section
variable {K : PySem.W.Frag} {C N : Addr} {nm q : Str} {bs bm bmB : List Value} {hd : Bool} {sn : List Str} {sub : List Value} {ab : Bool} {col : Option Bool} {dd : Option Addr} {m0 m1 m2 m3 m5 : Option Value} {newId : String}
theorem xinit_of (xL : K.lookup C = some (excClassObj nm q C N bs bm hd sn sub ab col dd m0 m1 m2 m3 m5 newId)) (t : excTail bmB bm = true) : excInitIn K C bmB newId = true := by
  unfold excInitIn
  rw [xL]
  show (C == C && newId == newId && !false && excTail bmB bm) = true
  rw [t, beq_self_eq_true, beq_self_eq_true]
  rfl
theorem xover_of (xL : K.lookup C = some (excClassObj nm q C N bs bm hd sn sub ab col dd m0 m1 m2 m3 m5 newId)) (t : excTail bmB bm = true) : excOver K C bmB = true := by
  have e : PySem.W.clsIn K C = some { name := nm, bases := bs, mro := .ref C :: bm, ns := N, qualname := q, hasDict := hd, slotNames := sn, subclasses := sub, abstract := ab, collection := col, hasDel := false } := by
    unfold PySem.W.clsIn
    rw [xL]
  unfold excOver
  rw [e]
  show (C == C && excTail bmB bm) = true
  rw [t, beq_self_eq_true]
  rfl
theorem xcls_of (xL : K.lookup C = some (excClassObj nm q C N bs bm hd sn sub ab col dd m0 m1 m2 m3 m5 newId)) : (PySem.W.clsIn K C).isSome = true := by
  unfold PySem.W.clsIn
  rw [xL]
  rfl
theorem cls_some {cd : ClassData} (h : PySem.W.clsIn K C = some cd) : (PySem.W.clsIn K C).isSome = true := by rw [h]; rfl
theorem tk_none {f : Str} (h : PySem.W.findIn K (.ref C) f = some none) : PySem.W.takerIn K C f = some none := by
  unfold PySem.W.takerIn
  rw [h]
  rfl
theorem kit_cv {T : String} {b : Bool} (m : PySem.W.kitMeta T = true) (h : PySem.W.subIn K (.ref C) (.type T) = some b) : PySem.W.kitOne K (.ref C) (.type T) = some b := by
  unfold PySem.W.kitOne
  rw [if_neg (show ¬ (Value.ref C == Value.type T) = true from fun z => by cases z)]
  show (if PySem.W.kitMeta T = true then PySem.W.subIn K (.ref C) (.type T) else none) = some b
  rw [if_pos m]
  exact h
theorem exm_selfD (h1 : PySem.W.subIn K (.ref C) (.type "BaseException") = some true) (h2 : (PySem.W.clsIn K C).isSome = true) (h3 : PySem.W.typeIn K (.ref C) = some (.type "type")) (h4 : PySem.W.subIn K (.ref C) (.ref C) = some true) : PySem.W.exmOne K (.ref C) (.ref C) = some true := by
  have e1 : (PySem.W.subIn K (.ref C) (.type "BaseException") == some true) = true := by rw [h1] <;> rfl
  have e2 : ((PySem.W.clsIn K C).isSome && PySem.W.typeIn K (.ref C) == some (.type "type")) = true := by rw [h2, h3] <;> rfl
  show (if (PySem.W.subIn K (.ref C) (.type "BaseException") == some true) = true then (if ((PySem.W.clsIn K C).isSome && PySem.W.typeIn K (.ref C) == some (.type "type")) = true then PySem.W.subIn K (.ref C) (.ref C) else none) else none) = some true
  rw [if_pos e1, if_pos e2]
  exact h4
theorem exm_otherD {C D : Addr} {b : Bool} (h1 : PySem.W.subIn K (.ref D) (.type "BaseException") = some true) (h2 : (PySem.W.clsIn K D).isSome = true) (h3 : PySem.W.typeIn K (.ref D) = some (.type "type")) (h4 : PySem.W.subIn K (.ref C) (.ref D) = some b) : PySem.W.exmOne K (.ref C) (.ref D) = some b := by
  have e1 : (PySem.W.subIn K (.ref D) (.type "BaseException") == some true) = true := by rw [h1] <;> rfl
  have e2 : ((PySem.W.clsIn K D).isSome && PySem.W.typeIn K (.ref D) == some (.type "type")) = true := by rw [h2, h3] <;> rfl
  show (if (PySem.W.subIn K (.ref D) (.type "BaseException") == some true) = true then (if ((PySem.W.clsIn K D).isSome && PySem.W.typeIn K (.ref D) == some (.type "type")) = true then PySem.W.subIn K (.ref C) (.ref D) else none) else none) = some b
  rw [if_pos e1, if_pos e2]
  exact h4
end
end DL
set_option Elab.async false
set_option linter.all false
set_option maxRecDepth 100000
set_option maxHeartbeats 4000000
set_option exponentiation.threshold 100000
namespace LR
open PySem PySem.Spec PyProof.Rows L2 DL
section
variable {P : Program} {w : World} {K : PySem.W.Frag} {mg : Str → Option Value} {base : Heap}
/-! ### _is_observation, of any data -/
def obsB : DL.D → Bool
  | .tup [.int t, .int _] => decide (0 ≤ t)
  | _ => false
def ObsOk : DL.D → Prop
  | .tup [a, b] => (kindD a).isSome = true ∧ (kindD b).isSome = true
  | x => (kindD x).isSome = true
def sdObsG : SpD := fun as Q _ => match as with
  | [.d x] => ObsOk x ∧ Q (.bl (obsB x))
  | _ => False
theorem sdObsG_len (as Q E) (h : sdObsG as Q E) : as.length = 1 := by
  unfold sdObsG at h
  split at h
  · rfl
  · exact h.elim

theorem ok_isobsG {f fd} (D : DefAt K mg "_is_observation" s_is_observation ["value"] f fd) (m_isinstance : mg "isinstance" = none) (m_tuple : mg "tuple" = none) (m_len : mg "len" = none) (Gis_integer : DefD P w K mg base "is_integer" 1 sdInt) : DefD P w K mg base "_is_observation" 2 sdObsG :=
  .mk1 D (fnD D.F sc_is_observation sdObsG_len fun cdv A outer s H E c hr b => ⟨_, (dss_cons (d_ifS (PW.pt (dw_or (dt_not (dt_val (d_callB cd_isi m_isinstance (da_name (pv 0) (da_cons (d_ty .tup m_tuple) da_nil))))) (dw_or1 (dt_cmp (od_ne hr.units) (d_callB cd_len m_len (da_name (pv 0) da_nil)) d_int))))
      (dss_one (d_ret d_bl))
      dss_nil)
      (dss_cons (d_asg (d_var (pv 0)) (dg_tup rfl (dgs_cons (dg_name (pg_name (i := 1) sc_is_observation.nd rfl (.inl rfl))) (dgs_cons (dg_name (pg_name (i := 2) sc_is_observation.nd rfl (.inl rfl))) dgs_nil))))
      (dss_one (d_ret (d_and (d_cN Gis_integer (hr.mono (by decide)) (da_name (pv 1) da_nil)) (d_and (d_cN Gis_integer (hr.mono (by decide)) (da_name (pv 2) da_nil)) (d_one (d_cmp od_ge (d_var (pv 1)) d_int)))))))), fun as Qd Ed h => by
    unfold sdObsG at h
    split at h
    · rename_i x
      obtain ⟨ok, q⟩ := h
      by_cases tup : ∃ ys, x = .tup ys
      · obtain ⟨ys, rfl⟩ := tup
        rcases ys with _ | ⟨a, _ | ⟨b, _ | ⟨c, ys⟩⟩⟩
        · exact q
        · have e : obsB (.tup [a]) = false := by cases a <;> rfl
          rw [e] at q
          exact q
        · obtain ⟨ka, kb⟩ := ok
          cases a <;> first | exact ⟨ka, q⟩ | (cases ka; done) | (cases b <;> first | exact ⟨ka, kb, q⟩ | (cases kb; done))
        · have e : obsB (.tup (a :: b :: c :: ys)) = false := by cases a <;> cases b <;> rfl
          rw [e] at q
          exact q
      · cases x <;> first | (cases ok; done) | exact absurd ⟨_, rfl⟩ tup | exact q
    · exact h.elim⟩)
/-! ### _check -/
def lenB : DL.D → Bool
  | .int l => decide (1 ≤ l)
  | _ => false
def itemsOf : DL.D → Option (List DL.D)
  | .lst ds => some ds
  | .tup ds => some ds
  | _ => none
def badAt (ds : List DL.D) : Option Nat := ds.findIdx? fun y => !obsB y
def ObsR (CO : Addr) (x : DL.D) (Ed : QE) (P : Prop) : Prop := match itemsOf x with
  | none => (kindD x).isSome = true ∧ Ed (.e1 CO "index" .non)
  | some ds => (50 < ds.length → Ed (.e1 CO "index" .non)) ∧ (ds.length ≤ 50 → (∀ y ∈ ds, ObsOk y) ∧ (match badAt ds with
    | some i => Ed (.e1 CO "index" (.int i))
    | none => P))
def CheckR (CL CO : Addr) (l x : DL.D) (Ed : QE) (P : Prop) : Prop := (kindD l).isSome = true ∧ (lenB l = false → Ed (.e0 CL)) ∧ (lenB l = true → ObsR CO x Ed P)
theorem CheckR.imp {CL CO : Addr} {l x : DL.D} {Ed : QE} {P P' : Prop} (h : CheckR CL CO l x Ed P) (f : P → P') : CheckR CL CO l x Ed P' := by
  refine ⟨h.1, h.2.1, fun e => ?_⟩
  have q := h.2.2 e
  unfold ObsR at q ⊢
  split
  · rename_i e2
    rw [e2] at q
    exact q
  · rename_i ds e2
    rw [e2] at q
    refine ⟨q.1, fun le => ⟨(q.2 le).1, ?_⟩⟩
    have q2 := (q.2 le).2
    split
    · rename_i i e3
      rw [e3] at q2
      exact q2
    · rename_i e3
      rw [e3] at q2
      exact f q2
def sdCheckG (CL CO : Addr) : SpD := fun as Q Ed => match as with
  | [.d l, .d x] => CheckR CL CO l x Ed (Q .non)
  | _ => False
theorem sdCheckG_len (CL CO : Addr) (as Q E) (h : sdCheckG CL CO as Q E) : as.length = 2 := by
  unfold sdCheckG at h
  split at h
  · rfl
  · exact h.elim
theorem ifN' {b : Bool} {A B : Prop} (h1 : b = false → A) (h2 : b = true → B) : if (!b) = true then A else B := by
  cases b
  · exact h1 rfl
  · exact h2 rfl
theorem bad_some {ds : List DL.D} {i : Nat} {y : DL.D} (h : ds[i]? = some y) (pre : ∀ z ∈ ds.take i, obsB z = true) (b : obsB y = false) : badAt ds = some i := by
  unfold badAt
  induction ds generalizing i with
  | nil => simp at h
  | cons d ds ih =>
    cases i with
    | zero =>
      simp at h
      subst h
      rw [List.findIdx?_cons, b]
      rfl
    | succ i =>
      have hd := pre d (by simp)
      rw [List.findIdx?_cons, hd]
      have := ih (i := i) (by simpa using h) (fun z hz => pre z (by simp [hz]))
      rw [this]
      rfl
theorem bad_none {ds : List DL.D} (pre : ∀ z ∈ ds, obsB z = true) : badAt ds = none := by
  unfold badAt
  rw [List.findIdx?_eq_none_iff]
  intro z hz
  rw [pre z hz]
  rfl
theorem ok_checkG {f fd CL CO} (D : DefAt K mg "_check" s_check ["length", "observations"] f fd) (XInvalidLength : LR.ErrAt K mg "InvalidLength" BMv "ValueError.__new__" CL) (EInvalidObservation : ErrD1 P w K mg base "InvalidObservation" CO "index") (m_isinstance : mg "isinstance" = none) (m_tuple : mg "tuple" = none) (m_list : mg "list" = none) (m_len : mg "len" = none) (m_enumerate : mg "enumerate" = none)
    {tk : Tok} (m_MOST_OBSERVATIONS : mg "MOST_OBSERVATIONS" = some (.int 50 tk)) (Gis_integer : DefD P w K mg base "is_integer" 1 sdInt) (G_is_observation : DefD P w K mg base "_is_observation" 2 sdObsG) : DefD P w K mg base "_check" 3 (sdCheckG CL CO) :=
  .mk1 D (fnD D.F sc_check (sdCheckG_len CL CO) fun cdv A outer s H E c hr b => ⟨_, (dss_cons (d_ifS (PW.pt (dw_or (dt_not (dt_val (d_cN Gis_integer (hr.mono (by decide)) (da_name (pv 0) da_nil)))) (dw_or1 (dt_cmp od_lt (d_var (pv 0)) d_int))))
      (dss_one (d_raise b rfl XInvalidLength FBv))
      dss_nil)
      (dss_cons (d_ifS (PW.pt (dw_or (dt_not (dt_val (d_isiT m_isinstance (d_var (pv 1)) (.cons (n := .lst) (pe_bltn (v := .ty (Ty7.name .lst)) (by rfl) m_list (by decide +kernel) rfl) (.cons (n := .tup) (pe_bltn (v := .ty (Ty7.name .tup)) (by rfl) m_tuple (by decide +kernel) rfl) .nil rfl) rfl)))) (dw_or1 (dt_cmp od_gt (d_callB cd_len m_len (da_name (pv 1) da_nil)) (d_gint m_MOST_OBSERVATIONS)))))
      (dss_one (d_raise1 b rfl EInvalidObservation (hr.mono (by decide)) d_non))
      dss_nil)
      (dss_one (d_for (passes_of rfl) rfl (di_enumA m_enumerate (d_var (pv 1))) (dg_tup rfl (dgs_cons (dg_name (pg_name (i := 2) sc_check.nd rfl (.inl rfl))) (dgs_cons (dg_name (pg_name (i := 3) sc_check.nd rfl (.inl rfl))) dgs_nil)))
      (dss_one (d_ifS (dt_not (dt_val (d_cN G_is_observation (hr.mono (by decide)) (da_name (pv 3) da_nil))))
      (dss_one (d_raise1 b rfl EInvalidObservation (hr.mono (by decide)) (d_var (pv 2))))
      dss_nil)))))), fun as Qd Ed h => by
    unfold sdCheckG at h
    split at h
    · rename_i l x
      obtain ⟨kl, h1, h2⟩ := h
      by_cases il : ∃ t, l = .int t
      · obtain ⟨t, rfl⟩ := il
        refine ⟨rfl, ifD (fun c => h1 (decide_eq_false (by omega))) fun c => ?_⟩
        have q := h2 (decide_eq_true (by omega))
        unfold ObsR at q
        by_cases sq : ∃ ds, x = .lst ds ∨ x = .tup ds
        · obtain ⟨ds, rfl | rfl⟩ := sq
          · refine ifD (fun c => q.1 (by omega)) fun c => ?_
            obtain ⟨ok, q⟩ := q.2 (by omega)
            refine ⟨fun i ss => (∃ o2 o3, ss = [.d (.int t), .d (.lst ds), o2, o3]) ∧ ∀ y ∈ ds.take i, obsB y = true, ⟨⟨_, _, rfl⟩, fun y hy => by simp at hy⟩, ?_, ?_⟩
            · rintro i d _ hd ⟨⟨o2, o3, rfl⟩, pre⟩
              obtain ⟨y, hy, rfl⟩ := enumD_get hd
              refine ⟨ok y (List.mem_of_getElem? hy), ?_⟩
              refine ifN' (fun b => ?_) fun b => ?_
              · rw [bad_some hy pre b] at q
                rw [Nat.zero_add]
                exact q
              · refine ⟨⟨_, _, rfl⟩, fun z hz => ?_⟩
                rw [take_snoc hy] at hz
                rcases List.mem_append.mp hz with hz | hz
                · exact pre z hz
                · rw [List.mem_singleton.mp hz]; exact b
            · rintro _ ⟨_, pre⟩
              rw [enumD_len, List.take_length] at pre
              rw [bad_none pre] at q
              exact q
          · refine ifD (fun c => q.1 (by omega)) fun c => ?_
            obtain ⟨ok, q⟩ := q.2 (by omega)
            refine ⟨fun i ss => (∃ o2 o3, ss = [.d (.int t), .d (.tup ds), o2, o3]) ∧ ∀ y ∈ ds.take i, obsB y = true, ⟨⟨_, _, rfl⟩, fun y hy => by simp at hy⟩, ?_, ?_⟩
            · rintro i d _ hd ⟨⟨o2, o3, rfl⟩, pre⟩
              obtain ⟨y, hy, rfl⟩ := enumD_get hd
              refine ⟨ok y (List.mem_of_getElem? hy), ?_⟩
              refine ifN' (fun b => ?_) fun b => ?_
              · rw [bad_some hy pre b] at q
                rw [Nat.zero_add]
                exact q
              · refine ⟨⟨_, _, rfl⟩, fun z hz => ?_⟩
                rw [take_snoc hy] at hz
                rcases List.mem_append.mp hz with hz | hz
                · exact pre z hz
                · rw [List.mem_singleton.mp hz]; exact b
            · rintro _ ⟨_, pre⟩
              rw [enumD_len, List.take_length] at pre
              rw [bad_none pre] at q
              exact q
        · cases x <;> first | (cases q.1; done) | exact absurd ⟨_, .inl rfl⟩ sq | exact absurd ⟨_, .inr rfl⟩ sq | exact q.2
      · cases l <;> first | (cases kl; done) | exact absurd ⟨_, rfl⟩ il | exact ⟨rfl, h1 rfl⟩
    · exact h.elim⟩)
end
end LR
set_option Elab.async false
set_option linter.all false
set_option maxRecDepth 100000
set_option maxHeartbeats 4000000
set_option exponentiation.threshold 100000
namespace LR
open PySem PySem.Spec PyProof.Rows L2 DL
section
variable {P : Program} {w : World} {K : PySem.W.Frag} {mg : Str → Option Value} {base : Heap}
/-! ### _speeds -/
/-- first, step and number of the speeds -/
structure Spd (l : Int) (os : List (Int × Int)) (lo hi f s : Int) (n : Nat) : Prop where
  eq : OM.spd l os lo hi = (List.range n).map fun k : Nat => f + s * (k : Int)
  s1 : 1 ≤ s
  sl : s ∣ l
  zf : f.natAbs < 2 ^ 1100
  zn : n < 2 ^ 1100
theorem mx (i : Int) : (if i > 0 then i else 0) = max 0 i := by split <;> omega
def sdSpeeds : SpD := fun as Q _ => match as with
  | [.d (.int l), .d x, .d (.int lo), .d (.int hi)] => (1 ≤ l ∧ l.natAbs < 2 ^ 1000 ∧ lo.natAbs < 2 ^ 1000 ∧ hi.natAbs < 2 ^ 1000) ∧ ∃ os, IsObs x os ∧ ∀ f s n, Spd l os lo hi f s n → Q (.tup [.int f, .int s, .int (n : Nat)])
  | _ => False
theorem sdSpeeds_len (as Q E) (h : sdSpeeds as Q E) : as.length = 4 := by
  unfold sdSpeeds at h
  split at h
  · rfl
  · exact h.elim

theorem ok_speeds {f fd} (D : DefAt K mg "_speeds" s_speeds ["length", "observations", "low", "high"] f fd) (m_max : mg "max" = none) (Gis_integer : DefD P w K mg base "is_integer" 1 sdInt) (G_check : DefD P w K mg base "_check" 3 sdCheck0) (G_fitting : DefD P w K mg base "_fitting" 4 sdFitting) : DefD P w K mg base "_speeds" 5 sdSpeeds :=
  .mk1 D (fnD D.F sc_speeds sdSpeeds_len fun cdv A outer s H E c hr b => ⟨_, (dss_cons (d_expr (d_cN G_check (hr.mono (by decide)) (da_name (pv 0) (da_name (pv 1) da_nil))))
      (dss_cons (d_ifS (PW.pt (dw_or (dt_not (dt_val (d_cN Gis_integer (hr.mono (by decide)) (da_name (pv 2) da_nil)))) (dw_or1 (dt_not (dt_val (d_cN Gis_integer (hr.mono (by decide)) (da_name (pv 3) da_nil)))))))
      (dss_one d_dead)
      dss_nil)
      (dss_cons (d_asg (d_cN G_fitting (hr.mono (by decide)) (da_name (pv 0) (da_name (pv 1) da_nil))) (dg_name (pg_name (i := 4) sc_speeds.nd rfl (.inl rfl))))
      (dss_cons (d_ifS (dt_cmp od_is (d_var (pv 4)) d_non)
      (dss_one (d_ret (d_tup (da_name (pv 2) (da_cons d_int (da_cons d_int da_nil))))))
      dss_nil)
      (dss_cons (d_asg (d_var (pv 4)) (dg_tup rfl (dgs_cons (dg_name (pg_name (i := 5) sc_speeds.nd rfl (.inl rfl))) (dgs_cons (dg_name (pg_name (i := 6) sc_speeds.nd rfl (.inl rfl))) dgs_nil))))
      (dss_cons (d_asg (d_op od_add (d_var (pv 2)) (d_op od_mod (d_op od_sub (d_var (pv 5)) (d_var (pv 2))) (d_var (pv 6)))) (dg_name (pg_name (i := 7) sc_speeds.nd rfl (.inl rfl))))
      (dss_one (d_ret (d_tup (da_name (pv 7) (da_name (pv 6) (da_cons (d_callB (cd_max2 rfl) m_max (da_cons d_int (da_cons (d_op od_add (d_op od_div (d_op od_sub (d_var (pv 3)) (d_var (pv 7))) (d_var (pv 6))) d_int) da_nil))) da_nil)))))))))))), fun as Qd Ed h => by
    unfold sdSpeeds at h
    split at h
    · rename_i l x lo hi
      obtain ⟨⟨l1, zl, zlo, zhi⟩, os, hx, q⟩ := h
      refine ⟨l1, ⟨os, hx⟩, rfl, rfl, ⟨l1, zl⟩, os, hx, fun no => ?_, fun r m ft => ?_⟩
      · refine q lo 1 0 ⟨?_, by omega, ⟨l, by omega⟩, up_sz zlo, Nat.two_pow_pos _⟩
        rw [OM.spd_none l1 no]
        rfl
      · have m1 := ft.m1
        have ml := Int.le_of_dvd (by omega) ft.mL
        have fb := OM.fmod_bounds (x := r - lo) (m := m) (by omega)
        refine ⟨show m ≠ 0 by omega, dv (show m ≠ 0 by omega) (le_sz (e := 1000) zl (by omega) ml), ?_⟩
        show Qd (.tup [.int (lo + (r - lo).fmod m), .int m, .int (if (hi - (lo + (r - lo).fmod m)).fdiv m + 1 > 0 then (hi - (lo + (r - lo).fmod m)).fdiv m + 1 else 0)])
        rw [mx]
        obtain ⟨n, hn⟩ : ∃ n : Nat, (n : Int) = max 0 ((hi - (lo + (r - lo).fmod m)).fdiv m + 1) := ⟨(max 0 ((hi - (lo + (r - lo).fmod m)).fdiv m + 1)).toNat, by omega⟩
        rw [← hn]
        have p1 : (2 : Nat) ^ 1000 + 2 ^ 1000 + 2 ^ 1000 + 1 < 2 ^ 1100 := by decide +kernel
        refine q _ _ n ⟨OM.spd_eq l1 ft hn, m1, ft.mL, by omega, ?_⟩
        have d1 : (hi - (lo + (r - lo).fmod m)).fdiv m ≤ (hi - (lo + (r - lo).fmod m)).natAbs := by
          rw [Int.fdiv_eq_ediv_of_nonneg _ (by omega)]
          have := Int.natAbs_ediv_le_natAbs (hi - (lo + (r - lo).fmod m)) m
          omega
        omega
    · exact h.elim⟩)
/-! ### count_speeds, speeds_between -/
def sdCount : SpD := fun as Q _ => match as with
  | [.d (.int l), .d x, .d (.int lo), .d (.int hi)] => (1 ≤ l ∧ l.natAbs < 2 ^ 1000 ∧ lo.natAbs < 2 ^ 1000 ∧ hi.natAbs < 2 ^ 1000) ∧ ∃ os, IsObs x os ∧ Q (.int ((OM.spd l os lo hi).length : Nat))
  | _ => False
theorem sdCount_len (as Q E) (h : sdCount as Q E) : as.length = 4 := by
  unfold sdCount at h
  split at h
  · rfl
  · exact h.elim

theorem spd_len {l os lo hi f s n} (h : Spd l os lo hi f s n) : (OM.spd l os lo hi).length = n := by rw [h.eq, List.length_map, List.length_range]
theorem ok_count {f fd} (D : DefAt K mg "count_speeds" s_count_speeds ["length", "observations", "low", "high"] f fd) (G_speeds : DefD P w K mg base "_speeds" 5 sdSpeeds) : DefD P w K mg base "count_speeds" 6 sdCount :=
  .mk1 D (fnD D.F sc_count_speeds sdCount_len fun cdv A outer s H E c hr b => ⟨_, (dss_cons (d_asg (d_cN G_speeds (hr.mono (by decide)) (da_name (pv 0) (da_name (pv 1) (da_name (pv 2) (da_name (pv 3) da_nil))))) (dg_tup rfl (dgs_cons (dg_name (pg_name (i := 4) sc_count_speeds.nd rfl (.inl rfl))) (dgs_cons (dg_name (pg_name (i := 4) sc_count_speeds.nd rfl (.inl rfl))) (dgs_cons (dg_name (pg_name (i := 5) sc_count_speeds.nd rfl (.inl rfl))) dgs_nil)))))
      (dss_one (d_ret (d_var (pv 5))))), fun as Qd Ed h => by
    unfold sdCount at h
    split at h
    · rename_i l x lo hi
      obtain ⟨z, os, hx, q⟩ := h
      refine ⟨z, os, hx, fun f s n hs => ?_⟩
      rw [spd_len hs] at q
      exact q
    · exact h.elim⟩)
def sdBetween : SpF := fun as Q _ => match as with
  | [.d (.int l), .d x, .d (.int lo), .d (.int hi)] => (1 ≤ l ∧ l.natAbs < 2 ^ 1000 ∧ lo.natAbs < 2 ^ 1000 ∧ hi.natAbs < 2 ^ 1000) ∧ ∃ os, IsObs x os ∧ (OM.spd l os lo hi).length ≤ 1000 ∧ Q ((OM.spd l os lo hi).map .int)
  | _ => False
theorem sdBetween_len (as Q E) (h : sdBetween as Q E) : as.length = 4 := by
  unfold sdBetween at h
  split at h
  · rfl
  · exact h.elim

theorem ok_between {f fd} (D : DefAt K mg "speeds_between" s_speeds_between ["length", "observations", "low", "high"] f fd) (m_range : mg "range" = none) {tk : Tok} (m_MOST_SPEEDS : mg "MOST_SPEEDS" = some (.int 2000 tk)) (G_speeds : DefD P w K mg base "_speeds" 5 sdSpeeds) : DefF P w K mg base "speeds_between" 6 sdBetween :=
  .mk1 D (fnF D.F sc_speeds_between sdBetween_len fun cdv A outer s H E c hr b => ⟨_, (dss_cons (d_asg (d_cN G_speeds (hr.mono (by decide)) (da_name (pv 0) (da_name (pv 1) (da_name (pv 2) (da_name (pv 3) da_nil))))) (dg_tup rfl (dgs_cons (dg_name (pg_name (i := 4) sc_speeds_between.nd rfl (.inr rfl))) (dgs_cons (dg_name (pg_name (i := 5) sc_speeds_between.nd rfl (.inr rfl))) (dgs_cons (dg_name (pg_name (i := 6) sc_speeds_between.nd rfl (.inl rfl))) dgs_nil)))))
      (dss_cons (d_ifS (dt_cmp od_gt (d_var (pv 6)) (d_gint m_MOST_SPEEDS))
      (dss_one d_dead)
      dss_nil)
      (dss_one (d_retO (do_lc (own := [("at", 7)]) (p := .n 7) rfl sc_speeds_between.nd (di_rng1 m_range (da_name (pv 6) da_nil)) (blkOk_by (N := N_speeds_between) (sc := defScope s_speeds_between) (by decide +kernel)) (fun _ _ _ _ _ => (dg_name (pg_name (i := 7) sc_speeds_between.nd rfl (.inl rfl)))) (fun _ _ _ _ _ => dts_nil) (fun _ _ _ _ _ => (d_op od_add (d_var (pv 4)) (d_op od_mul (d_var (pv 5)) (d_var (pv 7)))))))))), fun as Qo Ed h => by
    unfold sdBetween at h
    split at h
    · rename_i l x lo hi
      obtain ⟨z, os, hx, few, q⟩ := h
      refine ⟨z, os, hx, fun f s n hs => ?_⟩
      have hn := spd_len hs
      refine ifD (fun c => absurd c (by omega)) fun _ => ?_
      refine ⟨⟨by omega, by omega⟩, ?_⟩
      have zs : s.natAbs < 2 ^ 1000 := le_sz z.2.1 (by have := hs.s1; omega) (Int.le_of_dvd (by have := z.1; omega) hs.sl)
      refine lc_by (onInt fun k => [.int (f + s * k)]) (by rw [rngD_len]; omega) (fun d hd acc J hJ => ?_) ?_
      · obtain ⟨k, hk, rfl⟩ := rng_mem hd
        have : (0 + (k : Int)).natAbs < 2 ^ 20 := by
          have : (1000 : Nat) < 2 ^ 20 := by decide
          omega
        exact ⟨mu zs this, hJ⟩
      · show Qo ((rngD 0 (n : Int).toNat).flatMap (onInt fun k => [.int (f + s * k)]))
        rw [rng_map fun k => .int (f + s * k)]
        have e := hs.eq
        rw [e, List.map_map] at q
        simp only [Int.zero_add]
        rw [Int.toNat_natCast]
        exact q
    · exact h.elim⟩)
/-! ### next_look -/
def sdLook : SpD := fun as Q _ => match as with
  | [.d (.int l), .d x, .d (.int lo), .d (.int hi), .d (.int a)] => ((1 ≤ l ∧ l.natAbs < 2 ^ 1000 ∧ lo.natAbs < 2 ^ 1000 ∧ hi.natAbs < 2 ^ 1000) ∧ ∃ os, IsObs x os ∧ (0 ≤ a ∧ a.natAbs < 2 ^ 1000) ∧ ((∀ t, a < t → ¬ OM.Dis l (OM.spd l os lo hi) t) → Q .non) ∧ ∀ t, a < t → OM.Dis l (OM.spd l os lo hi) t → (∀ u, a < u → u < t → ¬ OM.Dis l (OM.spd l os lo hi) u) → Q (.int t))
  | _ => False
theorem sdLook_len (as Q E) (h : sdLook as Q E) : as.length = 5 := by
  unfold sdLook at h
  split at h
  · rfl
  · exact h.elim

theorem ok_look {f fd} {v : Value} (F : Fun K "next_look" "next_look" s_next_look f fd) (hm : mg "next_look" = some (.ref f)) (hb : Binds K fd ["length", "observations", "low", "high", "after"] [v]) (hv : RelV (.int 0) v) (hk : KBn K fd ["length", "observations", "low", "high", "after"] 4 ["after"] (fun us ws => us ++ ws) (fun vs zs => vs ++ zs))
    (m_gcd : mg "gcd" = some (.builtin "math.gcd")) (Gis_integer : DefD P w K mg base "is_integer" 1 sdInt) (G_speeds : DefD P w K mg base "_speeds" 5 sdSpeeds) : DefK P w K mg base "next_look" 6 4 ["after"] [.int 0] sdLook :=
  ⟨f, fd, _, [v], [.int 0], fnD F sc_next_look sdLook_len fun cdv A outer s H E c hr b => ⟨_, (dss_cons (d_asg (d_cN G_speeds (hr.mono (by decide)) (da_name (pv 0) (da_name (pv 1) (da_name (pv 2) (da_name (pv 3) da_nil))))) (dg_tup rfl (dgs_cons (dg_name (pg_name (i := 5) sc_next_look.nd rfl (.inl rfl))) (dgs_cons (dg_name (pg_name (i := 6) sc_next_look.nd rfl (.inl rfl))) (dgs_cons (dg_name (pg_name (i := 7) sc_next_look.nd rfl (.inl rfl))) dgs_nil)))))
      (dss_cons (d_ifS (PW.pt (dw_or (dt_not (dt_val (d_cN Gis_integer (hr.mono (by decide)) (da_name (pv 4) da_nil)))) (dw_or1 (dt_cmp od_lt (d_var (pv 4)) d_int))))
      (dss_one d_dead)
      dss_nil)
      (dss_cons (d_asg (d_op od_div (d_var (pv 0)) (d_var (pv 6))) (dg_name (pg_name (i := 8) sc_next_look.nd rfl (.inl rfl))))
      (dss_cons (d_ifS (dt_cmp od_gt (d_var (pv 7)) (d_var (pv 8)))
      (dss_one (d_ret d_non))
      dss_nil)
      (dss_cons (d_asg (d_op od_add (d_var (pv 4)) d_int) (dg_name (pg_name (i := 9) sc_next_look.nd rfl (.inl rfl))))
      (dss_cons (d_while (passes_of rfl) (dt_cmp od_gt (d_op od_mul (d_callBfun cd_gcd m_gcd (da_name (pv 9) (da_name (pv 8) da_nil))) (d_var (pv 7))) (d_var (pv 8)))
      (dss_one (d_aug (i := 9) sc_next_look.nd rfl (.inl rfl) d_int ipd_add)))
      (dss_one (d_ret (d_var (pv 9)))))))))), fun as Qd Ed h => by
    unfold sdLook at h
    split at h
    · rename_i l x lo hi a
      obtain ⟨z, os, hx, ⟨a0, za⟩, q1, q2⟩ := h
      refine ⟨z, os, hx, fun f s n hs => ?_⟩
      refine ⟨rfl, ?_⟩
      refine ifD (fun c => absurd c (by omega)) fun _ => ?_
      have s1 := hs.s1
      have l1 := z.1
      have sz : s.natAbs < 2 ^ 1000 := le_sz z.2.1 (by omega) (Int.le_of_dvd (by omega) hs.sl)
      refine ⟨dv (show s ≠ 0 by omega) sz, ?_⟩
      have es := OM.fdiv_mul (show 0 < s by omega) hs.sl
      have c1 : 1 ≤ (l.fdiv s) := by
        apply Int.not_lt.mp
        intro lt
        have := Int.mul_le_mul_of_nonneg_right (show (l.fdiv s) ≤ 0 by omega) (show 0 ≤ s by omega)
        omega
      have cl : (l.fdiv s) ≤ l := by
        have := Int.mul_le_mul_of_nonneg_left (show (1 : Int) ≤ s by omega) (show 0 ≤ (l.fdiv s) by omega)
        omega
      have zn := hs.zn
      have dis : ∀ t : Int, 0 ≤ t → (OM.Dis l (OM.spd l os lo hi) t ↔ ((Nat.gcd t.natAbs (l.fdiv s).natAbs : Nat) : Int) * (n : Int) ≤ (l.fdiv s)) := fun t ht => by
        rw [hs.eq]
        exact OM.dis_iff s1 c1 (by rw [Int.mul_comm]; exact es.symm) ht
      refine ifD (fun gt => ?_) fun le => ?_
      · refine q1 fun t ht => ?_
        rw [dis t (by omega)]
        have g1 := OM.gcd_pos (a := t) c1
        have := Int.mul_le_mul_of_nonneg_right (show (1 : Int) ≤ ((Nat.gcd t.natAbs (l.fdiv s).natAbs : Nat) : Int) by omega) (Int.natCast_nonneg n)
        omega
      · obtain ⟨t1, h1, h2, h3⟩ := OM.cop_in (c := l.fdiv s) (a := a) c1
        have ex : ((Nat.gcd t1.natAbs (l.fdiv s).natAbs : Nat) : Int) * (n : Int) ≤ (l.fdiv s) := by rw [h3]; omega
        obtain ⟨t, ht1, ht2, ht3, ht4⟩ := OM.least (P := fun t => ((Nat.gcd t.natAbs (l.fdiv s).natAbs : Nat) : Int) * (n : Int) ≤ (l.fdiv s)) h1 ex
        have qt := q2 t ht1 ((dis t (by omega)).mpr ht3) fun u hu1 hu2 => by rw [dis u (by omega)]; exact ht4 u hu1 hu2
        have zt : t.natAbs < 2 ^ 1100 := by
          have p1 : (2 : Nat) ^ 1000 + 2 ^ 1000 < 2 ^ 1100 := by decide +kernel
          have := z.2.1
          omega
        refine ⟨fun m ss => ∃ u : Int, ss = [.d (.int l), .d x, .d (.int lo), .d (.int hi), .d (.int a), .d (.int f), .d (.int s), .d (.int (n : Nat)), .d (.int (l.fdiv s)), .d (.int u)] ∧ m = (t - u).natAbs ∧ a < u ∧ u ≤ t, ⟨_, a + 1, rfl, rfl, by omega, by omega⟩, ?_⟩
        rintro m _ ⟨u, rfl, rfl, hu1, hu2⟩
        have zg : ((Nat.gcd u.natAbs (l.fdiv s).natAbs : Nat) : Int).natAbs < 2 ^ 1100 := by
          have := Nat.gcd_le_left (l.fdiv s).natAbs (show 0 < u.natAbs by omega)
          omega
        refine ⟨mu zg (show (n : Int).natAbs < 2 ^ 1100 by omega), ?_⟩
        refine ifD (fun gt => ?_) fun le2 => ?_
        · have ne : u ≠ t := by
            rintro rfl
            have : ((Nat.gcd u.natAbs (l.fdiv s).natAbs : Nat) : Int) * (n : Int) ≤ (l.fdiv s) := ht3
            omega
          exact ⟨_, by omega, u + 1, rfl, rfl, by omega, by omega⟩
        · have e : u = t := by
            apply Classical.byContradiction
            intro ne
            exact ht4 u hu1 (by omega) (by omega)
          subst e
          exact qt
    · exact h.elim⟩, hm, F.kp, hb, .cons hv .nil, fun H => ⟨_, _, rfl, rfl, rfl⟩, hk⟩
end
end LR
set_option Elab.async false
set_option linter.all false
set_option maxHeartbeats 1000000
/-! OR: refusals of observations: plain mathematics -/
namespace OM
/-- numbers for observations: with them the times add up to a multiple of L, the places don't -/
def dot (cs : List Int) (ts : List Int) : Int := (List.zipWith (· * ·) cs ts).sum
structure Ref (L : Int) (os : List (Int × Int)) (cs : List Int) : Prop where
  len : cs.length = os.length
  far : L ∣ dot cs (os.map (·.1))
  lack : ¬ L ∣ dot cs (os.map (·.2))
theorem dot_cons {c t : Int} {cs ts : List Int} : dot (c :: cs) (t :: ts) = c * t + dot cs ts := by
  unfold dot
  rw [List.zipWith_cons_cons, List.sum_cons]
theorem dot_fit {L x : Int} : ∀ {os : List (Int × Int)} {cs : List Int}, Fits L os x → L ∣ x * dot cs (os.map (·.1)) - dot cs (os.map (·.2))
  | [], cs, _ => by
    unfold dot
    cases cs <;> exact ⟨0, by simp⟩
  | _ :: _, [], _ => ⟨0, by simp [dot]⟩
  | o :: os, c :: cs, h => by
    rw [List.map_cons, List.map_cons, dot_cons, dot_cons]
    have h1 := dot_fit (cs := cs) (fun q hq => h q (List.mem_cons_of_mem _ hq) : Fits L os x)
    have h2 : L ∣ c * (o.1 * x - o.2) := Int.dvd_trans (h o (List.mem_cons_self ..)) (Int.dvd_mul_left _ _)
    have := Int.dvd_add h2 h1
    rwa [show c * (o.1 * x - o.2) + (x * dot cs (os.map (·.1)) - dot cs (os.map (·.2))) = x * (c * o.1 + dot cs (os.map (·.1))) - (c * o.2 + dot cs (os.map (·.2))) by grind] at this
/-- a refusal refuses -/
theorem Ref.none {L : Int} {os : List (Int × Int)} {cs : List Int} (h : Ref L os cs) : ∀ x, ¬ Fits L os x := fun x hx => h.lack (by
  have h1 := dot_fit (cs := cs) hx
  have h2 : L ∣ x * dot cs (os.map (·.1)) := Int.dvd_trans h.far (Int.dvd_mul_left _ _)
  have := Int.dvd_sub h2 h1
  rwa [show x * dot cs (os.map (·.1)) - (x * dot cs (os.map (·.1)) - dot cs (os.map (·.2))) = dot cs (os.map (·.2)) by omega] at this)
/-! ### sparse numbers -/
/-- c at i, 0 elsewhere -/
def one (n i : Nat) (c : Int) : List Int := (List.range n).map fun k => if k = i then c else 0
def two (n i j : Nat) (c d : Int) : List Int := (List.range n).map fun k => if k = i then c else if k = j then d else 0
theorem dot_map {f : Nat → Int} : ∀ {ts : List Int} {s : Nat}, dot ((List.range' s ts.length).map f) ts = ((List.range' s ts.length).zip ts |>.map fun p => f p.1 * p.2).sum
  | [], _ => rfl
  | t :: ts, s => by
    rw [List.length_cons, List.range'_succ, List.map_cons, dot_cons, dot_map, List.zip_cons_cons, List.map_cons, List.sum_cons]
theorem dot_zero {f : Nat → Int} : ∀ {ts : List Int} {s : Nat}, (∀ k, s ≤ k → f k = 0) → dot ((List.range' s ts.length).map f) ts = 0
  | [], _, _ => rfl
  | t :: ts, s, h => by
    rw [List.length_cons, List.range'_succ, List.map_cons, dot_cons, h s (Nat.le_refl _), dot_zero fun k hk => h k (by omega)]
    omega
theorem dot_one' {c : Int} {i : Nat} : ∀ {ts : List Int} {s : Nat}, s ≤ i → (ht : i - s < ts.length) → dot ((List.range' s ts.length).map fun k => if k = i then c else 0) ts = c * ts[i - s]
  | [], _, _, ht => absurd ht (Nat.not_lt_zero _)
  | t :: ts, s, hs, ht => by
    rw [show (t :: ts).length = ts.length + 1 from rfl, List.range'_succ, List.map_cons, dot_cons]
    by_cases e : s = i
    · subst e
      rw [if_pos rfl, dot_zero fun k hk => if_neg (by omega)]
      simp
    · rw [if_neg e, dot_one' (by omega) (by simp at ht; omega)]
      have : i - s = (i - (s + 1)) + 1 := by omega
      simp only [this, List.getElem_cons_succ]
      omega
theorem dot_add {f g : Nat → Int} : ∀ {ts : List Int} {s : Nat}, dot ((List.range' s ts.length).map fun k => f k + g k) ts = dot ((List.range' s ts.length).map f) ts + dot ((List.range' s ts.length).map g) ts
  | [], _ => rfl
  | t :: ts, s => by
    rw [show (t :: ts).length = ts.length + 1 from rfl, List.range'_succ, List.map_cons, List.map_cons, List.map_cons, dot_cons, dot_cons, dot_cons, dot_add, Int.add_mul]
    omega
theorem dot_one {c t : Int} {n i : Nat} {ts : List Int} (hn : ts.length = n) (h : ts[i]? = some t) : dot (one n i c) ts = c * t := by
  subst hn
  obtain ⟨lt, rfl⟩ := List.getElem?_eq_some_iff.mp h
  have := dot_one' (c := c) (s := 0) (Nat.zero_le i) (by simpa using lt)
  unfold one
  rw [List.range_eq_range']
  simpa using this
theorem dot_two {c d t u : Int} {n i j : Nat} {ts : List Int} (hn : ts.length = n) (h : ts[i]? = some t) (h2 : ts[j]? = some u) (ne : i ≠ j) : dot (two n i j c d) ts = c * t + d * u := by
  subst hn
  rw [← dot_one rfl h, ← dot_one rfl h2]
  unfold two one
  rw [List.range_eq_range', ← dot_add]
  congr 1
  refine List.map_congr_left fun k _ => ?_
  by_cases e : k = i
  · rw [if_pos e, if_pos e, if_neg (by omega)]; omega
  · rw [if_neg e, if_neg e]; omega
theorem at_map {os : List (Int × Int)} {i : Nat} {o : Int × Int} (h : os[i]? = some o) : (os.map (·.1))[i]? = some o.1 ∧ (os.map (·.2))[i]? = some o.2 := by
  rw [List.getElem?_map, List.getElem?_map, h]
  exact ⟨rfl, rfl⟩
theorem ref_one {L : Int} {os : List (Int × Int)} {i : Nat} {o : Int × Int} (hL : 1 ≤ L) (hi : os[i]? = some o) (h : ¬ (((Nat.gcd o.1.natAbs L.natAbs : Nat) : Int)) ∣ o.2) : Ref L os (one os.length i (L.fdiv ((Nat.gcd o.1.natAbs L.natAbs : Nat) : Int))) := by
  have am := at_map hi
  have g0 := gcd_pos (a := o.1) hL
  have e2 := fdiv_mul g0 (gcd_dvd_r o.1 L)
  have d1 := gcd_dvd_l o.1 L
  generalize ((Nat.gcd o.1.natAbs L.natAbs : Nat) : Int) = g at *
  generalize L.fdiv g = q at *
  have l1 : (os.map (·.1)).length = os.length := List.length_map ..
  have l2 : (os.map (·.2)).length = os.length := List.length_map ..
  refine ⟨by unfold one; simp, ?_, ?_⟩
  · rw [dot_one l1 am.1]
    obtain ⟨k, hk⟩ := d1
    exact ⟨k, by rw [hk, ← e2, Int.mul_assoc]⟩
  · rw [dot_one l2 am.2]
    rintro ⟨k, hk⟩
    refine h ⟨k, ?_⟩
    have q0 : q ≠ 0 := by rintro rfl; omega
    refine Int.eq_of_mul_eq_mul_left q0 ?_
    rw [hk, ← e2, Int.mul_assoc]
/-- two observations at odds -/
theorem ref_two {L D x1 x2 f1 s1 f2 s2 : Int} {os : List (Int × Int)} {i j : Nat} {o1 o2 : Int × Int} (hi : os[i]? = some o1) (hj : os[j]? = some o2) (ne : i ≠ j) (h1 : Sol o1.1 o1.2 L f1 s1) (h2 : Sol o2.1 o2.2 L f2 s2) (a1 : L ∣ o1.1 * x1 - D) (a2 : L ∣ o2.1 * x2 - -D) (no : ¬ L ∣ D * (f1 - f2)) : Ref L os (two os.length i j x1 x2) := by
  have am := at_map hi
  have bm := at_map hj
  have l1 : (os.map (·.1)).length = os.length := List.length_map ..
  have l2 : (os.map (·.2)).length = os.length := List.length_map ..
  refine ⟨by unfold two; simp, ?_, ?_⟩
  · rw [dot_two l1 am.1 bm.1 ne]
    have := Int.dvd_add a1 a2
    rwa [show o1.1 * x1 - D + (o2.1 * x2 - -D) = x1 * o1.1 + x2 * o2.1 by grind] at this
  · rw [dot_two l2 am.2 bm.2 ne]
    intro d
    have b1 := (h1.all f1).mpr ⟨0, by omega⟩
    have b2 := (h2.all f2).mpr ⟨0, by omega⟩
    apply no
    obtain ⟨u, hu⟩ := a1
    obtain ⟨v, hv⟩ := a2
    obtain ⟨y, hy⟩ := b1
    obtain ⟨z, hz⟩ := b2
    obtain ⟨w, hw⟩ := d
    refine ⟨w + x1 * y + x2 * z - u * f1 - v * f2, ?_⟩
    have k1 : o1.2 = o1.1 * f1 - L * y := by omega
    have k2 : o2.2 = o2.1 * f2 - L * z := by omega
    have k3 : D = o1.1 * x1 - L * u := by omega
    have k4 : D = L * v - o2.1 * x2 := by omega
    have k5 : D * (f1 - f2) = (o1.1 * x1 - L * u) * f1 - (L * v - o2.1 * x2) * f2 := by rw [← k3, ← k4]; grind
    rw [k5]
    rw [k1, k2] at hw
    grind
/-! ### each two suffice -/
theorem gcd_lcm_dvd {a b s y : Nat} (h1 : Nat.gcd a s ∣ y) (h2 : Nat.gcd b s ∣ y) : Nat.gcd (Nat.lcm a b) s ∣ y := by
  -- e: the divisor
  have he : Nat.gcd (Nat.lcm a b) s ∣ Nat.lcm (Nat.gcd a (Nat.gcd (Nat.lcm a b) s)) (Nat.gcd b (Nat.gcd (Nat.lcm a b) s)) := by
    have em : Nat.gcd (Nat.lcm a b) s ∣ Nat.lcm a b := Nat.gcd_dvd_left _ _
    generalize Nat.gcd (Nat.lcm a b) s = e at em ⊢
    by_cases e0 : e = 0
    · subst e0
      have : Nat.lcm a b = 0 := Nat.eq_zero_of_zero_dvd em
      rw [Nat.gcd_zero_right, Nat.gcd_zero_right, this]
      exact Nat.dvd_refl 0
    have ab : e * Nat.gcd a b ∣ a * b := by
      rw [← Nat.gcd_mul_lcm a b, Nat.mul_comm]
      exact Nat.mul_dvd_mul_left _ em
    have gg : Nat.gcd (Nat.gcd a e) (Nat.gcd b e) = Nat.gcd (Nat.gcd a b) e := by
      apply Nat.dvd_antisymm
      · refine Nat.dvd_gcd (Nat.dvd_gcd ?_ ?_) ?_
        · exact Nat.dvd_trans (Nat.gcd_dvd_left _ _) (Nat.gcd_dvd_left _ _)
        · exact Nat.dvd_trans (Nat.gcd_dvd_right _ _) (Nat.gcd_dvd_left _ _)
        · exact Nat.dvd_trans (Nat.gcd_dvd_left _ _) (Nat.gcd_dvd_right _ _)
      · refine Nat.dvd_gcd (Nat.dvd_gcd ?_ (Nat.gcd_dvd_right _ _)) (Nat.dvd_gcd ?_ (Nat.gcd_dvd_right _ _))
        · exact Nat.dvd_trans (Nat.gcd_dvd_left _ _) (Nat.gcd_dvd_left _ _)
        · exact Nat.dvd_trans (Nat.gcd_dvd_left _ _) (Nat.gcd_dvd_right _ _)
    have prod : Nat.gcd a e * Nat.gcd b e = Nat.gcd (Nat.gcd (a * b) (a * e)) (Nat.gcd (e * b) (e * e)) := by
      rw [Nat.gcd_mul_left, Nat.gcd_mul_left, Nat.gcd_mul_right]
    have k : e * Nat.gcd (Nat.gcd a e) (Nat.gcd b e) ∣ Nat.gcd a e * Nat.gcd b e := by
      rw [gg, prod]
      have gl : Nat.gcd (Nat.gcd a b) e ∣ e := Nat.gcd_dvd_right _ _
      have ga : Nat.gcd (Nat.gcd a b) e ∣ a := Nat.dvd_trans (Nat.gcd_dvd_left _ _) (Nat.gcd_dvd_left _ _)
      have gb : Nat.gcd (Nat.gcd a b) e ∣ b := Nat.dvd_trans (Nat.gcd_dvd_left _ _) (Nat.gcd_dvd_right _ _)
      refine Nat.dvd_gcd (Nat.dvd_gcd ?_ ?_) (Nat.dvd_gcd ?_ ?_)
      · exact Nat.dvd_trans (Nat.mul_dvd_mul_left e (Nat.gcd_dvd_left _ _)) ab
      · rw [Nat.mul_comm a e]; exact Nat.mul_dvd_mul_left e ga
      · exact Nat.mul_dvd_mul_left e gb
      · exact Nat.mul_dvd_mul_left e gl
    have g0 : 0 < Nat.gcd (Nat.gcd a e) (Nat.gcd b e) := by
      rw [gg]
      exact Nat.gcd_pos_of_pos_right _ (Nat.pos_of_ne_zero e0)
    rw [← Nat.gcd_mul_lcm (Nat.gcd a e) (Nat.gcd b e), Nat.mul_comm (Nat.gcd _ _)] at k
    exact Nat.dvd_of_mul_dvd_mul_right g0 k
  refine Nat.dvd_trans he (Nat.lcm_dvd ?_ ?_)
  · exact Nat.dvd_trans (Nat.dvd_gcd (Nat.gcd_dvd_left _ _) (Nat.dvd_trans (Nat.gcd_dvd_right _ _) (Nat.gcd_dvd_right _ _))) h1
  · exact Nat.dvd_trans (Nat.dvd_gcd (Nat.gcd_dvd_left _ _) (Nat.dvd_trans (Nat.gcd_dvd_right _ _) (Nat.gcd_dvd_right _ _))) h2
theorem inv_ex {v m : Int} (hv : 0 ≤ v) (hm : 1 ≤ m) (c : Nat.gcd v.natAbs m.natAbs = 1) : ∃ i, m ∣ i * v - 1 := by
  have : ∀ (n : Nat) (r r' t t' : Int), r'.natAbs = n → Euc v m r r' t t' → ∃ i, m ∣ i * v - 1 := by
    intro n
    induction n using Nat.strongRecOn with
    | _ n ih =>
      intro r r' t t' e h
      by_cases z : r' = 0
      · subst z
        exact ⟨_, h.last (by omega) c⟩
      · have n0 : 0 < r' := by have := h.r0; omega
        exact ih _ (by have := (h.less n0).1; omega) _ _ _ _ rfl (h.next n0)
  exact this _ _ _ _ _ rfl (.start hv hm)
theorem lin_ex {a w m : Int} (ha : 0 ≤ a) (hm : 1 ≤ m) (h : (((Nat.gcd a.natAbs m.natAbs : Nat) : Int)) ∣ w) : ∃ k, m ∣ a * k - w := by
  have g0 := gcd_pos (a := a) hm
  have y0 : 1 ≤ m.fdiv ((Nat.gcd a.natAbs m.natAbs : Nat) : Int) := by
    have e2 := fdiv_mul g0 (gcd_dvd_r a m)
    apply Int.not_lt.mp
    intro lt
    have := Int.mul_le_mul_of_nonneg_right (show m.fdiv ((Nat.gcd a.natAbs m.natAbs : Nat) : Int) ≤ 0 by omega) (Int.le_of_lt g0)
    omega
  obtain ⟨i, hi⟩ := inv_ex (Int.fdiv_nonneg ha (by omega)) y0 (div_coprime (a := a) hm)
  exact ⟨_, ((sol_of hm h hi).all _).mpr ⟨0, Int.sub_self _ |>.trans (Int.mul_zero _).symm⟩⟩
/-- progressions of which each two have a place in common: all have one -/
theorem crt : ∀ (ps : List (Int × Int)), (∀ p ∈ ps, 1 ≤ p.2) → ps.Pairwise (fun p q => ((Nat.gcd p.2.natAbs q.2.natAbs : Nat) : Int) ∣ p.1 - q.1) → ∃ x M : Int, 1 ≤ M ∧ (∀ p ∈ ps, p.2 ∣ x - p.1 ∧ p.2 ∣ M) ∧ ∀ (s : Nat) (y : Int), (∀ p ∈ ps, ((Nat.gcd p.2.natAbs s : Nat) : Int) ∣ y) → ((Nat.gcd M.natAbs s : Nat) : Int) ∣ y
  | [], _, _ => ⟨0, 1, Int.le_refl _, fun p hp => (nomatch hp), fun s y _ => by simp⟩
  | p :: ps, h, w => by
    rw [List.pairwise_cons] at w
    obtain ⟨x, M, M1, hx, hg⟩ := crt ps (fun q hq => h q (List.mem_cons_of_mem _ hq)) w.2
    have s1 := h p (List.mem_cons_self ..)
    have d : ((Nat.gcd M.natAbs p.2.natAbs : Nat) : Int) ∣ p.1 - x := hg _ _ fun q hq => by
      have a1 := w.1 q hq
      have a2 := Int.dvd_trans (gcd_dvd_l q.2 p.2) (hx q hq).1
      have comm : ((Nat.gcd q.2.natAbs p.2.natAbs : Nat) : Int) = ((Nat.gcd p.2.natAbs q.2.natAbs : Nat) : Int) := by rw [Nat.gcd_comm]
      rw [comm] at a2 ⊢
      have := Int.dvd_sub a1 a2
      rwa [show p.1 - q.1 - (x - q.1) = p.1 - x by omega] at this
    obtain ⟨k, hk⟩ := lin_ex (a := M) (by omega) s1 d
    have pos := Nat.lcm_pos (show 0 < M.natAbs by omega) (show 0 < p.2.natAbs by omega)
    have dM : M ∣ ((Nat.lcm M.natAbs p.2.natAbs : Nat) : Int) := Int.natAbs_dvd_natAbs.mp (by rw [Int.natAbs_natCast]; exact Nat.dvd_lcm_left _ _)
    have dp : p.2 ∣ ((Nat.lcm M.natAbs p.2.natAbs : Nat) : Int) := Int.natAbs_dvd_natAbs.mp (by rw [Int.natAbs_natCast]; exact Nat.dvd_lcm_right _ _)
    refine ⟨x + M * k, ((Nat.lcm M.natAbs p.2.natAbs : Nat) : Int), by omega, fun q hq => ?_, fun s y hy => ?_⟩
    · rcases List.mem_cons.mp hq with e | hq
      · subst e
        exact ⟨by rwa [show x + M * k - q.1 = M * k - (q.1 - x) by omega], dp⟩
      · obtain ⟨a, b⟩ := hx q hq
        refine ⟨?_, Int.dvd_trans b dM⟩
        have := Int.dvd_add a (Int.dvd_trans b (Int.dvd_mul_right M k))
        rwa [show x - q.1 + M * k = x + M * k - q.1 by omega] at this
    · rw [Int.natAbs_natCast]
      have a1 := hg s y fun q hq => hy q (List.mem_cons_of_mem _ hq)
      have a2 := hy p (List.mem_cons_self ..)
      have b1 := Int.natAbs_dvd_natAbs.mpr a1
      have b2 := Int.natAbs_dvd_natAbs.mpr a2
      rw [Int.natAbs_natCast] at b1 b2
      exact Int.natAbs_dvd_natAbs.mp (by rw [Int.natAbs_natCast]; exact gcd_lcm_dvd b1 b2)
/-- each observation alone can be met, each two together: all can -/
theorem all_fit {L : Int} {os : List (Int × Int)} {ps : List (Int × Int)} (hl : ps.length = os.length) (hs : ∀ (i : Nat) (o p : Int × Int), os[i]? = some o → ps[i]? = some p → Sol o.1 o.2 L p.1 p.2) (w : ps.Pairwise (fun p q => ((Nat.gcd p.2.natAbs q.2.natAbs : Nat) : Int) ∣ p.1 - q.1)) : ∃ x, Fits L os x := by
  obtain ⟨x, M, _, hx, _⟩ := crt ps (fun p hp => by
    obtain ⟨i, hi⟩ := List.getElem?_of_mem hp
    have lt : i < os.length := by
      have := (List.getElem?_eq_some_iff.mp hi).1
      omega
    have so := hs i _ p (List.getElem?_eq_getElem lt) hi
    have := so.f0
    have := so.fs
    omega) w
  refine ⟨x, fun o ho => ?_⟩
  obtain ⟨i, hi⟩ := List.getElem?_of_mem ho
  have lt : i < ps.length := by
    have := (List.getElem?_eq_some_iff.mp hi).1
    omega
  have so := hs i o _ hi (List.getElem?_eq_getElem lt)
  exact (so.all x).mpr (hx _ (List.getElem_mem lt)).1
end OM
namespace OM
/-- two observations at odds: with which distance they are told -/
theorem conf_facts {L f1 s1 f2 s2 : Int} {o1 o2 : Int × Int} (hL : 1 ≤ L) (h1 : Sol o1.1 o1.2 L f1 s1) (h2 : Sol o2.1 o2.2 L f2 s2) (no : ¬ (((Nat.gcd s1.natAbs s2.natAbs : Nat) : Int)) ∣ f1 - f2) :
    ((Nat.gcd o1.1.natAbs L.natAbs : Nat) : Int) ∣ L.fdiv ((Nat.gcd s1.natAbs s2.natAbs : Nat) : Int) ∧ ((Nat.gcd o2.1.natAbs L.natAbs : Nat) : Int) ∣ L.fdiv ((Nat.gcd s1.natAbs s2.natAbs : Nat) : Int) ∧ ¬ L ∣ L.fdiv ((Nat.gcd s1.natAbs s2.natAbs : Nat) : Int) * (f1 - f2) ∧ 0 ≤ L.fdiv ((Nat.gcd s1.natAbs s2.natAbs : Nat) : Int) ∧ L.fdiv ((Nat.gcd s1.natAbs s2.natAbs : Nat) : Int) ≤ L ∧ 0 < ((Nat.gcd s1.natAbs s2.natAbs : Nat) : Int) := by
  have p2 : 1 ≤ s2 := by have := h2.f0; have := h2.fs; omega
  have g0 := gcd_pos (a := s1) p2
  have d1 := gcd_dvd_l s1 s2
  have d2 := gcd_dvd_r s1 s2
  have e1 := h1.sm
  have e2 := h2.sm
  generalize ((Nat.gcd s1.natAbs s2.natAbs : Nat) : Int) = g at *
  have dL : g ∣ L := Int.dvd_trans d1 ⟨_, e1.symm⟩
  have e := fdiv_mul g0 dL
  have q0 : 0 ≤ L.fdiv g := Int.fdiv_nonneg (by omega) (by omega)
  generalize L.fdiv g = q at *
  have nz : g ≠ 0 := by omega
  refine ⟨?_, ?_, ?_, q0, ?_, g0⟩
  · obtain ⟨k, hk⟩ := d1
    refine ⟨k, Int.eq_of_mul_eq_mul_right nz ?_⟩
    rw [e, ← e1, hk]
    grind
  · obtain ⟨k, hk⟩ := d2
    refine ⟨k, Int.eq_of_mul_eq_mul_right nz ?_⟩
    rw [e, ← e2, hk]
    grind
  · rintro ⟨k, hk⟩
    refine no ⟨k, ?_⟩
    have qz : q ≠ 0 := by rintro rfl; omega
    refine Int.eq_of_mul_eq_mul_left qz ?_
    rw [hk, ← e]
    grind
  · have := Int.mul_le_mul_of_nonneg_left (show (1 : Int) ≤ g by omega) q0
    omega
end OM
set_option Elab.async false
set_option linter.all false
set_option maxRecDepth 100000
set_option maxHeartbeats 4000000
set_option exponentiation.threshold 100000
namespace LR
open PySem PySem.Spec PyProof.Rows L2 DL
section
variable {P : Program} {w : World} {K : PySem.W.Frag} {mg : Str → Option Value} {base : Heap}
/-! ### refusal_of -/
def refOf (n : Nat) (ks : List Key) (xs : List DL.D) : List DL.D := (List.range n).map fun i : Nat => (lookD ks xs (.inl (i : Int))).getD (.int 0)
theorem refOf_one {n i : Nat} {c : Int} : refOf n [.inl (i : Int)] [.int c] = (OM.one n i c).map .int := by
  unfold refOf OM.one
  rw [List.map_map]
  refine List.map_congr_left fun k _ => ?_
  show ((if (Sum.inl (i : Int) : Key) = .inl (k : Int) then some (DL.D.int c) else none).getD (.int 0)) = .int (if k = i then c else 0)
  by_cases e : k = i
  · rw [if_pos (by rw [e]), if_pos e]; rfl
  · rw [if_neg (by intro h; exact e (by have := Sum.inl.inj h; omega)), if_neg e]; rfl
theorem refOf_two {n i j : Nat} {c d : Int} : refOf n [.inl (i : Int), .inl (j : Int)] [.int c, .int d] = (OM.two n i j c d).map .int := by
  unfold refOf OM.two
  rw [List.map_map]
  refine List.map_congr_left fun k _ => ?_
  show ((if (Sum.inl (i : Int) : Key) = .inl (k : Int) then some (DL.D.int c) else if (Sum.inl (j : Int) : Key) = .inl (k : Int) then some (DL.D.int d) else none).getD (.int 0)) = .int (if k = i then c else if k = j then d else 0)
  by_cases e : k = i
  · rw [if_pos (by rw [e]), if_pos e]; rfl
  · rw [if_neg (by intro h; exact e (by have := Sum.inl.inj h; omega)), if_neg e]
    by_cases e2 : k = j
    · rw [if_pos (by rw [e2]), if_pos e2]; rfl
    · rw [if_neg (by intro h; exact e2 (by have := Sum.inl.inj h; omega)), if_neg e2]; rfl
def sdRefOf : SpD := fun as Q _ => match as with
  | [.d (.int n), .d (.dct ks xs)] => (0 ≤ n ∧ n ≤ 1000) ∧ Q (.tup (refOf n.toNat ks xs))
  | _ => False
theorem sdRefOf_len (as Q E) (h : sdRefOf as Q E) : as.length = 2 := by
  unfold sdRefOf at h
  split at h
  · rfl
  · exact h.elim

theorem ok_refof {f fd} (D : DefAt K mg "refusal_of" s_refusal_of ["many", "given"] f fd) (m_range : mg "range" = none) (m_tuple : mg "tuple" = none) : DefD P w K mg base "refusal_of" 1 sdRefOf :=
  .mk1 D (fnD D.F sc_refusal_of sdRefOf_len fun cdv A outer s H E c hr b => ⟨_, (dss_one (d_ret (d_callTy cd_tuple m_tuple (da_cons (d_ofO (do_lc (own := [("at", 2)]) (p := .n 2) rfl sc_refusal_of.nd (di_rng1 m_range (da_name (pv 0) da_nil)) (blkOk_by (N := N_refusal_of) (sc := defScope s_refusal_of) (by decide +kernel)) (fun _ _ _ _ _ => (dg_name (pg_name (i := 2) sc_refusal_of.nd rfl (.inl rfl)))) (fun _ _ _ _ _ => dts_nil) (fun _ _ _ _ _ => (d_get2 (Nat.lt_of_le_of_lt (Nat.add_le_add_left (by decide) _) hr.units) (d_var (pv 1)) (d_var (pv 2)) d_int)))) da_nil)))), fun as Qd Ed h => by
    unfold sdRefOf at h
    split at h
    · rename_i n ks xs
      obtain ⟨⟨n0, n1⟩, q⟩ := h
      refine ⟨⟨by omega, by omega⟩, ?_⟩
      refine lc_by (onInt fun k => [(lookD ks xs (.inl k)).getD (.int 0)]) (by rw [rngD_len]; omega) (fun d hd acc J hJ => ?_) ?_
      · obtain ⟨k, hk, rfl⟩ := rng_mem hd
        exact hJ
      · rw [rng_map fun k => (lookD ks xs (.inl k)).getD (.int 0)]
        simp only [Int.zero_add]
        exact q
    · exact h.elim⟩)
/-! ### sums_of -/
/-- the numbers of a value that may be a refusal -/
def numsD (x : DL.D) (n : Nat) : Option (List Int) := match x with
  | .tup ys => if ys.length = n then intL ys else none
  | _ => none
def sumsD (x : DL.D) (gs ls : List Int) : DL.D := match numsD x gs.length with
  | some cs => .tup [.int (OM.dot cs gs), .int (OM.dot cs ls)]
  | none => .non
theorem numsD_tup (ys : List DL.D) (n : Nat) : numsD (.tup ys) n = if ys.length = n then intL ys else none := rfl
def TupOk (x : DL.D) : Prop := match x with
  | .tup ys => ys.length ≤ 1000 ∧ (∀ y ∈ ys, (kindD y).isSome = true) ∧ ∀ c : Int, DL.D.int c ∈ ys → c.natAbs < 2 ^ 3000
  | _ => True
def sdSums : SpD := fun as Q _ => match as with
  | [.d x, .d (.lst gd), .d (.lst ld)] => (∃ k, kindD x = some k) ∧ TupOk x ∧ ∃ gs ls : List Int, gd = gs.map .int ∧ ld = ls.map .int ∧ gs.length = ls.length ∧ gs.length ≤ 1000 ∧ (∀ g ∈ gs, g.natAbs < 2 ^ 1000) ∧ (∀ l ∈ ls, l.natAbs < 2 ^ 1000) ∧ Q (sumsD x gs ls)
  | _ => False
theorem sdSums_len (as Q E) (h : sdSums as Q E) : as.length = 3 := by
  unfold sdSums at h
  split at h
  · rfl
  · exact h.elim

theorem all_ints : ∀ (ys : List DL.D), ys.all isIntD = true → ∃ cs : List Int, ys = cs.map .int
  | [], _ => ⟨[], rfl⟩
  | y :: ys, h => by
    rw [List.all_cons, Bool.and_eq_true] at h
    obtain ⟨cs, e⟩ := all_ints ys h.2
    cases y <;> simp only [isIntD, Bool.false_eq_true] at h <;> first | exact h.1.elim | exact ⟨_ :: cs, by rw [e]; rfl⟩ | simp at h
theorem not_ints : ∀ (ys : List DL.D), ys.all isIntD = false → intL ys = none
  | [], h => by cases h
  | y :: ys, h => by
    rw [List.all_cons] at h
    cases y <;> first | rfl | (have h2 := not_ints ys h; rw [intL, h2]; rfl)
theorem zip_ints : ∀ (cs gs : List Int), zipD (cs.map DL.D.int) (gs.map DL.D.int) = (List.zipWith (fun c g => DL.D.tup [.int c, .int g]) cs gs)
  | [], _ => by simp [zipD]
  | _ :: _, [] => by simp [zipD]
  | c :: cs, g :: gs => by simp [zipD, zip_ints cs gs]
def mulD : DL.D → List DL.D
  | .tup [.int c, .int g] => [.int (c * g)]
  | _ => []
theorem zip_mul : ∀ (cs gs : List Int), (zipD (cs.map DL.D.int) (gs.map DL.D.int)).flatMap mulD = (List.zipWith (· * ·) cs gs).map .int
  | [], _ => by simp [zipD]
  | _ :: _, [] => by simp [zipD]
  | c :: cs, g :: gs => by
    rw [List.map_cons, List.map_cons, zipD, List.flatMap_cons, zip_mul cs gs, List.zipWith_cons_cons, List.map_cons]
    rfl
theorem ok_sums {f fd} (D : DefAt K mg "sums_of" s_sums_of ["value", "growths", "lacks"] f fd) (m_isinstance : mg "isinstance" = none) (m_tuple : mg "tuple" = none) (m_len : mg "len" = none) (m_all : mg "all" = none) (m_sum : mg "sum" = none) (m_zip : mg "zip" = none) (Gis_integer : DefD P w K mg base "is_integer" 1 sdInt) : DefD P w K mg base "sums_of" 2 sdSums :=
  .mk1 D (fnD D.F sc_sums_of sdSums_len fun cdv A outer s H E c hr b => ⟨_, (dss_cons (d_ifS (PW.pt (dw_or (dt_not (dt_val (d_callB cd_isi m_isinstance (da_name (pv 0) (da_cons (d_ty .tup m_tuple) da_nil))))) (dw_or (dt_cmp (od_ne hr.units) (d_callB cd_len m_len (da_name (pv 0) da_nil)) (d_callB cd_len m_len (da_name (pv 1) da_nil))) (dw_or1 (dt_not (dt_val (d_callB (cd_all rfl) m_all (da_cons (d_ofO (do_lc (own := [("item", 3)]) (p := .n 3) rfl sc_sums_of.nd (di_seq (d_var (pv 0))) (blkOk_by (N := N_sums_of) (sc := defScope s_sums_of) (by decide +kernel)) (fun _ _ _ _ _ => (dg_name (pg_name (i := 3) sc_sums_of.nd rfl (.inl rfl)))) (fun _ _ _ _ _ => dts_nil) (fun _ _ _ _ _ => (d_cN Gis_integer (hr.mono (by decide)) (da_name (pv 3) da_nil))))) da_nil))))))))
      (dss_one (d_ret d_non))
      dss_nil)
      (dss_one (d_ret (d_tup (da_cons (d_callB (cd_sum rfl) m_sum (da_cons (d_ofO (do_lc (own := [("item", 3), ("growth", 4)]) (p := .t [.n 3, .n 4]) rfl sc_sums_of.nd (di_zipM m_zip (da_name (pv 0) (da_name (pv 1) da_nil))) (blkOk_by (N := N_sums_of) (sc := defScope s_sums_of) (by decide +kernel)) (fun _ _ _ _ _ => (dg_tup rfl (dgs_cons (dg_name (pg_name (i := 3) sc_sums_of.nd rfl (.inl rfl))) (dgs_cons (dg_name (pg_name (i := 4) sc_sums_of.nd rfl (.inl rfl))) dgs_nil)))) (fun _ _ _ _ _ => dts_nil) (fun _ _ _ _ _ => (d_op od_mul (d_var (pv 3)) (d_var (pv 4)))))) da_nil)) (da_cons (d_callB (cd_sum rfl) m_sum (da_cons (d_ofO (do_lc (own := [("item", 3), ("lack", 5)]) (p := .t [.n 3, .n 5]) rfl sc_sums_of.nd (di_zipM m_zip (da_name (pv 0) (da_name (pv 2) da_nil))) (blkOk_by (N := N_sums_of) (sc := defScope s_sums_of) (by decide +kernel)) (fun _ _ _ _ _ => (dg_tup rfl (dgs_cons (dg_name (pg_name (i := 3) sc_sums_of.nd rfl (.inl rfl))) (dgs_cons (dg_name (pg_name (i := 5) sc_sums_of.nd rfl (.inl rfl))) dgs_nil)))) (fun _ _ _ _ _ => dts_nil) (fun _ _ _ _ _ => (d_op od_mul (d_var (pv 3)) (d_var (pv 5)))))) da_nil)) da_nil)))))), fun as Qd Ed h => by
    unfold sdSums at h
    split at h
    · rename_i x gd ld
      obtain ⟨⟨k, hk⟩, ht, gs, ls, rfl, rfl, hl, hm, hg, hls, q⟩ := h
      by_cases tup : ∃ ys, x = .tup ys
      · obtain ⟨ys, rfl⟩ := tup
        obtain ⟨t1, t2, t3⟩ := ht
        refine ifN (fun ne => ?_) fun eq => ?_
        · have e : sumsD (.tup ys) gs ls = .non := by
            unfold sumsD
            rw [numsD_tup, if_neg (by rw [List.length_map] at ne; omega)]
          rw [e] at q
          exact q
        · have len : ys.length = gs.length := by rw [List.length_map] at eq; omega
          refine lc_by (fun y => [.bl (isIntD y)]) t1 (fun d hd acc J hJ => ⟨t2 d hd, hJ⟩) ?_
          have fl : (ys.flatMap fun y => [DL.D.bl (isIntD y)]) = (ys.map isIntD).map .bl := by
            clear t1 t2 t3 q hk len eq
            induction ys with
            | nil => rfl
            | cons y ys ih => rw [List.flatMap_cons, ih]; rfl
          rw [fl]
          refine ⟨_, boolL_map _, ?_⟩
          refine ifB (fun c => ?_) fun c => ?_
          · have na : ys.all isIntD = false := by simpa using c
            have e : sumsD (.tup ys) gs ls = .non := by
              unfold sumsD
              rw [numsD_tup, if_pos len, not_ints ys na]
            rw [e] at q
            exact q
          · have ya : ys.all isIntD = true := by simpa using c
            obtain ⟨cs, rfl⟩ := all_ints ys ya
            have e : sumsD (.tup (cs.map .int)) gs ls = .tup [.int (OM.dot cs gs), .int (OM.dot cs ls)] := by
              unfold sumsD
              rw [numsD_tup, if_pos len, intL_map]
            rw [e] at q
            have zc : ∀ c ∈ cs, c.natAbs < 2 ^ 3000 := fun c hc => t3 c (List.mem_map_of_mem hc)
            have zl : ∀ hs : List Int, (zipD (cs.map DL.D.int) (hs.map DL.D.int)).length ≤ 1000 := fun hs => by
              rw [zipD_len, List.length_map] at *
              have := t1
              omega
            have mem : ∀ (hs : List Int) (d : DL.D), (∀ g ∈ hs, g.natAbs < 2 ^ 1000) → d ∈ zipD (cs.map DL.D.int) (hs.map DL.D.int) → ∃ c g : Int, d = .tup [.int c, .int g] ∧ c.natAbs < 2 ^ 3000 ∧ g.natAbs < 2 ^ 1000 := by
              intro hs d hb hd
              obtain ⟨i, hi⟩ := List.getElem?_of_mem hd
              obtain ⟨x, y, h1, h2, rfl⟩ := zipD_get hi
              obtain ⟨c, hc, rfl⟩ := List.mem_map.mp (List.mem_of_getElem? h1)
              obtain ⟨g, hg, rfl⟩ := List.mem_map.mp (List.mem_of_getElem? h2)
              exact ⟨c, g, rfl, zc c hc, hb g hg⟩
            refine lc_by mulD (zl gs) (fun d hd acc J hJ => ?_) ?_
            · obtain ⟨c, g, rfl, z1, z2⟩ := mem gs d hg hd
              exact ⟨mu z1 z2, hJ⟩
            · rw [zip_mul]
              refine ⟨_, intL_map _, ?_⟩
              refine lc_by mulD (zl ls) (fun d hd acc J hJ => ?_) ?_
              · obtain ⟨c, g, rfl, z1, z2⟩ := mem ls d hls hd
                exact ⟨mu z1 z2, hJ⟩
              · rw [zip_mul]
                exact ⟨_, intL_map _, q⟩
      · cases x <;> first | (cases hk; done) | exact absurd ⟨_, rfl⟩ tup | exact q
    · exact h.elim⟩)
end
end LR
set_option Elab.async false
set_option linter.all false
set_option maxRecDepth 100000
set_option maxHeartbeats 4000000
set_option exponentiation.threshold 100000
namespace LR
open PySem PySem.Spec PyProof.Rows L2 DL
section
variable {P : Program} {w : World} {K : PySem.W.Frag} {mg : Str → Option Value} {base : Heap}
/-! ### fitting_speeds, is_no_speed -/
def GoodR (l x : DL.D) (P : Prop) : Prop := ∃ (L : Int) (os : List (Int × Int)), l = .int L ∧ (1 ≤ L ∧ L.natAbs < 2 ^ 1000) ∧ IsObs x os ∧ (∃ r m, OM.Fit L os r m) ∧ P
def sdFitE (CL CO : Addr) : SpD := fun as Q Ed => match as with
  | [.d l, .d x] => CheckR CL CO l x Ed (GoodR l x (∀ d, Q d))
  | _ => False
theorem sdFitE_len (CL CO : Addr) (as Q E) (h : sdFitE CL CO as Q E) : as.length = 2 := by
  unfold sdFitE at h
  split at h
  · rfl
  · exact h.elim

theorem ok_fitE {f fd CL CO} (D : DefAt K mg "fitting_speeds" s_fitting_speeds ["length", "observations"] f fd) (G_check : DefD P w K mg base "_check" 3 (sdCheckG CL CO)) (G_fitting : DefD P w K mg base "_fitting" 4 sdFitting) : DefD P w K mg base "fitting_speeds" 5 (sdFitE CL CO) :=
  .mk1 D (fnD D.F sc_fitting_speeds (sdFitE_len CL CO) fun cdv A outer s H E c hr b => ⟨_, (dss_cons (d_expr (d_cE G_check (hr.mono (by decide)) b (da_name (pv 0) (da_name (pv 1) da_nil))))
      (dss_cons (d_asg (d_cN G_fitting (hr.mono (by decide)) (da_name (pv 0) (da_name (pv 1) da_nil))) (dg_name (pg_name (i := 2) sc_fitting_speeds.nd rfl (.inl rfl))))
      (dss_cons (d_ifS (dt_cmp od_is (d_var (pv 2)) d_non)
      (dss_one d_dead)
      dss_nil)
      (dss_one (d_ret (d_var (pv 2))))))), fun as Qd Ed h => by
    unfold sdFitE at h
    split at h
    · rename_i l x
      refine CheckR.imp h ?_
      rintro ⟨L, os, rfl, z, hx, ⟨r0, m0, ft0⟩, q⟩
      refine ⟨z, os, hx, fun no => ?_, fun r m ft => q _⟩
      exact absurd ((ft0.all r0).mpr ⟨0, by omega⟩) (no r0)
    · exact h.elim⟩)
def sdNoE (CL CO : Addr) : SpD := fun as Q Ed => match as with
  | [.d l, .d x, .d .non] => CheckR CL CO l x Ed (GoodR l x (∀ d, Q d))
  | _ => False
theorem sdNoE_len (CL CO : Addr) (as Q E) (h : sdNoE CL CO as Q E) : as.length = 3 := by
  unfold sdNoE at h
  split at h
  · rfl
  · exact h.elim

theorem ok_noE {f fd CL CO} (D : DefAt K mg "is_no_speed" s_is_no_speed ["length", "observations", "value"] f fd) (G_check : DefD P w K mg base "_check" 3 (sdCheckG CL CO)) (Gsums_of : DefD P w K mg base "sums_of" 2 sdSums) : DefD P w K mg base "is_no_speed" 4 (sdNoE CL CO) :=
  .mk1 D (fnD D.F sc_is_no_speed (sdNoE_len CL CO) fun cdv A outer s H E c hr b => ⟨_, (dss_cons (d_expr (d_cE G_check (hr.mono (by decide)) b (da_name (pv 0) (da_name (pv 1) da_nil))))
      (dss_cons (d_asg (d_cN Gsums_of (hr.mono (by decide)) (da_name (pv 2) (da_cons (d_ofO (do_lc (own := [("time", 4), ("_", 5)]) (p := .t [.n 4, .n 5]) rfl sc_is_no_speed.nd (di_seq (d_var (pv 1))) (blkOk_by (N := N_is_no_speed) (sc := defScope s_is_no_speed) (by decide +kernel)) (fun _ _ _ _ _ => (dg_tup rfl (dgs_cons (dg_name (pg_name (i := 4) sc_is_no_speed.nd rfl (.inl rfl))) (dgs_cons (dg_name (pg_name (i := 5) sc_is_no_speed.nd rfl (.inl rfl))) dgs_nil)))) (fun _ _ _ _ _ => dts_nil) (fun _ _ _ _ _ => (d_var (pv 4))))) (da_cons (d_ofO (do_lc (own := [("_", 5), ("place", 6)]) (p := .t [.n 5, .n 6]) rfl sc_is_no_speed.nd (di_seq (d_var (pv 1))) (blkOk_by (N := N_is_no_speed) (sc := defScope s_is_no_speed) (by decide +kernel)) (fun _ _ _ _ _ => (dg_tup rfl (dgs_cons (dg_name (pg_name (i := 5) sc_is_no_speed.nd rfl (.inl rfl))) (dgs_cons (dg_name (pg_name (i := 6) sc_is_no_speed.nd rfl (.inl rfl))) dgs_nil)))) (fun _ _ _ _ _ => dts_nil) (fun _ _ _ _ _ => (d_var (pv 6))))) da_nil)))) (dg_name (pg_name (i := 3) sc_is_no_speed.nd rfl (.inl rfl))))
      (dss_one (d_ret (d_and (d_cmp od_isnot (d_var (pv 3)) d_non) (d_and (d_cmp (od_eq hr.units) (d_op od_mod (d_ix ixd (d_var (pv 3)) d_int) (d_var (pv 0))) d_int) (d_one (d_cmp (od_ne hr.units) (d_op od_mod (d_ix ixd (d_var (pv 3)) d_int) (d_var (pv 0))) d_int)))))))), fun as Qd Ed h => by
    unfold sdNoE at h
    split at h
    · rename_i l x
      refine CheckR.imp h ?_
      rintro ⟨L, os, rfl, z, hx, fit, q⟩
      clear fit
      obtain ⟨ho, hl, hb⟩ := hx
      have e1 : (obsL os).flatMap (fun d => match d with | .tup [a, _] => [a] | _ => []) = (os.map (·.1)).map .int := by
        clear hb hl ho
        induction os with
        | nil => rfl
        | cons o os ih => rw [show obsL (o :: os) = .tup [.int o.1, .int o.2] :: obsL os from rfl, List.flatMap_cons, ih]; rfl
      have e2 : (obsL os).flatMap (fun d => match d with | .tup [_, a] => [a] | _ => []) = (os.map (·.2)).map .int := by
        clear hb hl ho e1
        induction os with
        | nil => rfl
        | cons o os ih => rw [show obsL (o :: os) = .tup [.int o.1, .int o.2] :: obsL os from rfl, List.flatMap_cons, ih]; rfl
      rcases ho with rfl | rfl
      · refine lc_by (fun d => match d with | .tup [a, _] => [a] | _ => []) (by rw [obs_len]; omega) (fun d hd acc J hJ => ?_) ?_
        · obtain ⟨o, ho, rfl⟩ := List.mem_map.mp hd
          exact hJ
        · rw [e1]
          refine lc_by (fun d => match d with | .tup [_, a] => [a] | _ => []) (by rw [obs_len]; omega) (fun d hd acc J hJ => ?_) ?_
          · obtain ⟨o, ho, rfl⟩ := List.mem_map.mp hd
            exact hJ
          · rw [e2]
            refine ⟨⟨_, rfl⟩, trivial, _, _, rfl, rfl, by rw [List.length_map, List.length_map], by rw [List.length_map]; omega, fun g hg => ?_, fun g hg => ?_, q _⟩
            · obtain ⟨o, ho, rfl⟩ := List.mem_map.mp hg
              exact (hb o ho).2.1
            · obtain ⟨o, ho, rfl⟩ := List.mem_map.mp hg
              exact (hb o ho).2.2
      · refine lc_by (fun d => match d with | .tup [a, _] => [a] | _ => []) (by rw [obs_len]; omega) (fun d hd acc J hJ => ?_) ?_
        · obtain ⟨o, ho, rfl⟩ := List.mem_map.mp hd
          exact hJ
        · rw [e1]
          refine lc_by (fun d => match d with | .tup [_, a] => [a] | _ => []) (by rw [obs_len]; omega) (fun d hd acc J hJ => ?_) ?_
          · obtain ⟨o, ho, rfl⟩ := List.mem_map.mp hd
            exact hJ
          · rw [e2]
            refine ⟨⟨_, rfl⟩, trivial, _, _, rfl, rfl, by rw [List.length_map, List.length_map], by rw [List.length_map]; omega, fun g hg => ?_, fun g hg => ?_, q _⟩
            · obtain ⟨o, ho, rfl⟩ := List.mem_map.mp hg
              exact (hb o ho).2.1
            · obtain ⟨o, ho, rfl⟩ := List.mem_map.mp hg
              exact (hb o ho).2.2
    · exact h.elim⟩)
/-! ### _speeds -/
def sdSpdE (CL CO CN : Addr) : SpD := fun as Q Ed => match as with
  | [.d l, .d x, .d lo, .d hi] => CheckR CL CO l x Ed ((kindD lo).isSome = true ∧ (kindD hi).isSome = true ∧ ((isIntD lo && isIntD hi) = false → Ed (.e0 CN)) ∧ ((isIntD lo && isIntD hi) = true → ∃ L a b os, l = .int L ∧ lo = .int a ∧ hi = .int b ∧ (1 ≤ L ∧ L.natAbs < 2 ^ 1000 ∧ a.natAbs < 2 ^ 1000 ∧ b.natAbs < 2 ^ 1000) ∧ IsObs x os ∧ ∀ f s n, Spd L os a b f s n → Q (.tup [.int f, .int s, .int (n : Nat)])))
  | _ => False
theorem sdSpdE_len (CL CO CN : Addr) (as Q E) (h : sdSpdE CL CO CN as Q E) : as.length = 4 := by
  unfold sdSpdE at h
  split at h
  · rfl
  · exact h.elim

theorem ok_spdE {f fd CL CO CN} (D : DefAt K mg "_speeds" s_speeds ["length", "observations", "low", "high"] f fd) (m_max : mg "max" = none) (XInvalidNumber : LR.ErrAt K mg "InvalidNumber" BMv "ValueError.__new__" CN) (Gis_integer : DefD P w K mg base "is_integer" 1 sdInt) (G_check : DefD P w K mg base "_check" 3 (sdCheckG CL CO)) (G_fitting : DefD P w K mg base "_fitting" 4 sdFitting) : DefD P w K mg base "_speeds" 5 (sdSpdE CL CO CN) :=
  .mk1 D (fnD D.F sc_speeds (sdSpdE_len CL CO CN) fun cdv A outer s H E c hr b => ⟨_, (dss_cons (d_expr (d_cE G_check (hr.mono (by decide)) b (da_name (pv 0) (da_name (pv 1) da_nil))))
      (dss_cons (d_ifS (PW.pt (dw_or (dt_not (dt_val (d_cN Gis_integer (hr.mono (by decide)) (da_name (pv 2) da_nil)))) (dw_or1 (dt_not (dt_val (d_cN Gis_integer (hr.mono (by decide)) (da_name (pv 3) da_nil)))))))
      (dss_one (d_raise b rfl XInvalidNumber FBv))
      dss_nil)
      (dss_cons (d_asg (d_cN G_fitting (hr.mono (by decide)) (da_name (pv 0) (da_name (pv 1) da_nil))) (dg_name (pg_name (i := 4) sc_speeds.nd rfl (.inl rfl))))
      (dss_cons (d_ifS (dt_cmp od_is (d_var (pv 4)) d_non)
      (dss_one (d_ret (d_tup (da_name (pv 2) (da_cons d_int (da_cons d_int da_nil))))))
      dss_nil)
      (dss_cons (d_asg (d_var (pv 4)) (dg_tup rfl (dgs_cons (dg_name (pg_name (i := 5) sc_speeds.nd rfl (.inl rfl))) (dgs_cons (dg_name (pg_name (i := 6) sc_speeds.nd rfl (.inl rfl))) dgs_nil))))
      (dss_cons (d_asg (d_op od_add (d_var (pv 2)) (d_op od_mod (d_op od_sub (d_var (pv 5)) (d_var (pv 2))) (d_var (pv 6)))) (dg_name (pg_name (i := 7) sc_speeds.nd rfl (.inl rfl))))
      (dss_one (d_ret (d_tup (da_name (pv 7) (da_name (pv 6) (da_cons (d_callB (cd_max2 rfl) m_max (da_cons d_int (da_cons (d_op od_add (d_op od_div (d_op od_sub (d_var (pv 3)) (d_var (pv 7))) (d_var (pv 6))) d_int) da_nil))) da_nil)))))))))))), fun as Qd Ed h => by
    unfold sdSpdE at h
    split at h
    · rename_i l x dlo dhi
      refine CheckR.imp h ?_
      rintro ⟨klo, khi, bad, good⟩
      by_cases ib : (isIntD dlo && isIntD dhi) = true
      · obtain ⟨l, lo, hi, os, rfl, rfl, rfl, ⟨l1, zl, zlo, zhi⟩, hx, q⟩ := good ib
        refine ⟨rfl, rfl, ⟨l1, zl⟩, os, hx, fun no => ?_, fun r m ft => ?_⟩
        · refine q lo 1 0 ⟨?_, by omega, ⟨l, by omega⟩, up_sz zlo, Nat.two_pow_pos _⟩
          rw [OM.spd_none l1 no]
          rfl
        · have m1 := ft.m1
          have ml := Int.le_of_dvd (by omega) ft.mL
          have fb := OM.fmod_bounds (x := r - lo) (m := m) (by omega)
          refine ⟨show m ≠ 0 by omega, dv (show m ≠ 0 by omega) (le_sz (e := 1000) zl (by omega) ml), ?_⟩
          show Qd (.tup [.int (lo + (r - lo).fmod m), .int m, .int (if (hi - (lo + (r - lo).fmod m)).fdiv m + 1 > 0 then (hi - (lo + (r - lo).fmod m)).fdiv m + 1 else 0)])
          rw [mx]
          obtain ⟨n, hn⟩ : ∃ n : Nat, (n : Int) = max 0 ((hi - (lo + (r - lo).fmod m)).fdiv m + 1) := ⟨(max 0 ((hi - (lo + (r - lo).fmod m)).fdiv m + 1)).toNat, by omega⟩
          rw [← hn]
          have p1 : (2 : Nat) ^ 1000 + 2 ^ 1000 + 2 ^ 1000 + 1 < 2 ^ 1100 := by decide +kernel
          refine q _ _ n ⟨OM.spd_eq l1 ft hn, m1, ft.mL, by omega, ?_⟩
          have d1 : (hi - (lo + (r - lo).fmod m)).fdiv m ≤ (hi - (lo + (r - lo).fmod m)).natAbs := by
            rw [Int.fdiv_eq_ediv_of_nonneg _ (by omega)]
            have := Int.natAbs_ediv_le_natAbs (hi - (lo + (r - lo).fmod m)) m
            omega
          omega
      · have q := bad (by simpa using ib)
        cases dlo <;> first | exact ⟨klo, q⟩ | (cases klo; done) | (cases dhi <;> first | exact ⟨klo, khi, q⟩ | (cases khi; done) | exact absurd rfl ib)
    · exact h.elim⟩)
/-! ### count_speeds, speeds_between, next_look -/
def NumR (CN : Addr) (l x lo hi : DL.D) (Ed : QE) (P : Int → Int → Int → List (Int × Int) → Prop) : Prop := (kindD lo).isSome = true ∧ (kindD hi).isSome = true ∧ ((isIntD lo && isIntD hi) = false → Ed (.e0 CN)) ∧ ((isIntD lo && isIntD hi) = true → ∃ L a b os, l = .int L ∧ lo = .int a ∧ hi = .int b ∧ (1 ≤ L ∧ L.natAbs < 2 ^ 1000 ∧ a.natAbs < 2 ^ 1000 ∧ b.natAbs < 2 ^ 1000) ∧ IsObs x os ∧ P L a b os)
def sdCntE (CL CO CN : Addr) : SpD := fun as Q Ed => match as with
  | [.d l, .d x, .d lo, .d hi] => CheckR CL CO l x Ed (NumR CN l x lo hi Ed fun _ _ _ _ => ∀ d, Q d)
  | _ => False
theorem sdCntE_len (CL CO CN : Addr) (as Q E) (h : sdCntE CL CO CN as Q E) : as.length = 4 := by
  unfold sdCntE at h
  split at h
  · rfl
  · exact h.elim

theorem ok_cntE {f fd CL CO CN} (D : DefAt K mg "count_speeds" s_count_speeds ["length", "observations", "low", "high"] f fd) (G_speeds : DefD P w K mg base "_speeds" 5 (sdSpdE CL CO CN)) : DefD P w K mg base "count_speeds" 6 (sdCntE CL CO CN) :=
  .mk1 D (fnD D.F sc_count_speeds (sdCntE_len CL CO CN) fun cdv A outer s H E c hr b => ⟨_, (dss_cons (d_asg (d_cE G_speeds (hr.mono (by decide)) b (da_name (pv 0) (da_name (pv 1) (da_name (pv 2) (da_name (pv 3) da_nil))))) (dg_tup rfl (dgs_cons (dg_name (pg_name (i := 4) sc_count_speeds.nd rfl (.inl rfl))) (dgs_cons (dg_name (pg_name (i := 4) sc_count_speeds.nd rfl (.inl rfl))) (dgs_cons (dg_name (pg_name (i := 5) sc_count_speeds.nd rfl (.inl rfl))) dgs_nil)))))
      (dss_one (d_ret (d_var (pv 5))))), fun as Qd Ed h => by
    unfold sdCntE at h
    split at h
    · rename_i l x lo hi
      refine CheckR.imp h ?_
      rintro ⟨h1, h2, h3, h4⟩
      refine ⟨h1, h2, h3, fun e => ?_⟩
      obtain ⟨L, a, b, os, rfl, rfl, rfl, z, hx, q⟩ := h4 e
      exact ⟨L, a, b, os, rfl, rfl, rfl, z, hx, fun f s n hs => q _⟩
    · exact h.elim⟩)
def sdBtwE (CL CO CN CM : Addr) : SpD := fun as Q Ed => match as with
  | [.d l, .d x, .d lo, .d hi] => CheckR CL CO l x Ed (NumR CN l x lo hi Ed fun L a b os => (2000 < (OM.spd L os a b).length → Ed (.e1 CM "limit" (.int 2000))) ∧ ((OM.spd L os a b).length ≤ 2000 → ∀ d, Q d))
  | _ => False
theorem sdBtwE_len (CL CO CN CM : Addr) (as Q E) (h : sdBtwE CL CO CN CM as Q E) : as.length = 4 := by
  unfold sdBtwE at h
  split at h
  · rfl
  · exact h.elim

theorem ok_btwE {f fd CL CO CN CM} (D : DefAt K mg "speeds_between" s_speeds_between ["length", "observations", "low", "high"] f fd) (m_range : mg "range" = none) {tk : Tok} (m_MOST_SPEEDS : mg "MOST_SPEEDS" = some (.int 2000 tk)) (ELimitExceeded : ErrD1 P w K mg base "LimitExceeded" CM "limit") (G_speeds : DefD P w K mg base "_speeds" 5 (sdSpdE CL CO CN)) : DefD P w K mg base "speeds_between" 6 (sdBtwE CL CO CN CM) :=
  .mk1 D (fnD D.F sc_speeds_between (sdBtwE_len CL CO CN CM) fun cdv A outer s H E c hr b => ⟨_, (dss_cons (d_asg (d_cE G_speeds (hr.mono (by decide)) b (da_name (pv 0) (da_name (pv 1) (da_name (pv 2) (da_name (pv 3) da_nil))))) (dg_tup rfl (dgs_cons (dg_name (pg_name (i := 4) sc_speeds_between.nd rfl (.inr rfl))) (dgs_cons (dg_name (pg_name (i := 5) sc_speeds_between.nd rfl (.inr rfl))) (dgs_cons (dg_name (pg_name (i := 6) sc_speeds_between.nd rfl (.inl rfl))) dgs_nil)))))
      (dss_cons (d_ifS (dt_cmp od_gt (d_var (pv 6)) (d_gint m_MOST_SPEEDS))
      (dss_one (d_raise1 b rfl ELimitExceeded (hr.mono (by decide)) (d_gint m_MOST_SPEEDS)))
      dss_nil)
      (dss_one (d_ret (d_ofO (do_lc (own := [("at", 7)]) (p := .n 7) rfl sc_speeds_between.nd (di_rng1 m_range (da_name (pv 6) da_nil)) (blkOk_by (N := N_speeds_between) (sc := defScope s_speeds_between) (by decide +kernel)) (fun _ _ _ _ _ => (dg_name (pg_name (i := 7) sc_speeds_between.nd rfl (.inl rfl)))) (fun _ _ _ _ _ => dts_nil) (fun _ _ _ _ _ => (d_op od_add (d_var (pv 4)) (d_op od_mul (d_var (pv 5)) (d_var (pv 7))))))))))), fun as Qd Ed h => by
    unfold sdBtwE at h
    split at h
    · rename_i l x lo hi
      refine CheckR.imp h ?_
      rintro ⟨h1, h2, h3, h4⟩
      refine ⟨h1, h2, h3, fun e => ?_⟩
      obtain ⟨L, a, b, os, rfl, rfl, rfl, z, hx, q1, q2⟩ := h4 e
      refine ⟨L, a, b, os, rfl, rfl, rfl, z, hx, fun f s n hs => ?_⟩
      have hn := spd_len hs
      refine ifD (fun c => q1 (by omega)) fun c => ?_
      refine ⟨⟨by omega, by omega⟩, ?_⟩
      have zs : s.natAbs < 2 ^ 1000 := le_sz z.2.1 (by have := hs.s1; omega) (Int.le_of_dvd (by have := z.1; omega) hs.sl)
      refine ⟨by rw [rngD_len]; exact Nat.lt_of_le_of_lt (show (n : Int).toNat ≤ 2000 by omega) (by decide), fun _ _ => True, trivial, ?_, fun acc _ => q2 (by omega) _⟩
      intro i d acc hd _
      obtain ⟨hi, rfl⟩ := rngD_get hd
      have : (0 + (i : Int)).natAbs < 2 ^ 20 := by
        have : (2000 : Nat) < 2 ^ 20 := by decide
        omega
      exact ⟨mu zs this, trivial⟩
    · exact h.elim⟩)
def nnB : DL.D → Bool
  | .int t => decide (0 ≤ t)
  | _ => false
def sdLookE (CL CO CN CT : Addr) : SpD := fun as Q Ed => match as with
  | [.d l, .d x, .d lo, .d hi, .d af] => CheckR CL CO l x Ed (NumR CN l x lo hi Ed fun _ _ _ _ => (kindD af).isSome = true ∧ (nnB af = false → Ed (.e0 CT)) ∧ (nnB af = true → (∀ t, af = .int t → t.natAbs < 2 ^ 1000) ∧ ∀ d, Q d))
  | _ => False
theorem sdLookE_len (CL CO CN CT : Addr) (as Q E) (h : sdLookE CL CO CN CT as Q E) : as.length = 5 := by
  unfold sdLookE at h
  split at h
  · rfl
  · exact h.elim

theorem ok_lookE {f fd CL CO CN CT} {v : Value} (F : Fun K "next_look" "next_look" s_next_look f fd) (hm : mg "next_look" = some (.ref f)) (hb : Binds K fd ["length", "observations", "low", "high", "after"] [v]) (hv : RelV (.int 0) v) (hk : KBn K fd ["length", "observations", "low", "high", "after"] 4 ["after"] (fun us ws => us ++ ws) (fun vs zs => vs ++ zs))
    (m_gcd : mg "gcd" = some (.builtin "math.gcd")) (XInvalidTime : LR.ErrAt K mg "InvalidTime" BMv "ValueError.__new__" CT) (Gis_integer : DefD P w K mg base "is_integer" 1 sdInt) (G_speeds : DefD P w K mg base "_speeds" 5 (sdSpdE CL CO CN)) : DefK P w K mg base "next_look" 6 4 ["after"] [.int 0] (sdLookE CL CO CN CT) :=
  ⟨f, fd, _, [v], [.int 0], fnD F sc_next_look (sdLookE_len CL CO CN CT) fun cdv A outer s H E c hr b => ⟨_, (dss_cons (d_asg (d_cE G_speeds (hr.mono (by decide)) b (da_name (pv 0) (da_name (pv 1) (da_name (pv 2) (da_name (pv 3) da_nil))))) (dg_tup rfl (dgs_cons (dg_name (pg_name (i := 5) sc_next_look.nd rfl (.inl rfl))) (dgs_cons (dg_name (pg_name (i := 6) sc_next_look.nd rfl (.inl rfl))) (dgs_cons (dg_name (pg_name (i := 7) sc_next_look.nd rfl (.inl rfl))) dgs_nil)))))
      (dss_cons (d_ifS (PW.pt (dw_or (dt_not (dt_val (d_cN Gis_integer (hr.mono (by decide)) (da_name (pv 4) da_nil)))) (dw_or1 (dt_cmp od_lt (d_var (pv 4)) d_int))))
      (dss_one (d_raise b rfl XInvalidTime FBv))
      dss_nil)
      (dss_cons (d_asg (d_op od_div (d_var (pv 0)) (d_var (pv 6))) (dg_name (pg_name (i := 8) sc_next_look.nd rfl (.inl rfl))))
      (dss_cons (d_ifS (dt_cmp od_gt (d_var (pv 7)) (d_var (pv 8)))
      (dss_one (d_ret d_non))
      dss_nil)
      (dss_cons (d_asg (d_op od_add (d_var (pv 4)) d_int) (dg_name (pg_name (i := 9) sc_next_look.nd rfl (.inl rfl))))
      (dss_cons (d_while (passes_of rfl) (dt_cmp od_gt (d_op od_mul (d_callBfun cd_gcd m_gcd (da_name (pv 9) (da_name (pv 8) da_nil))) (d_var (pv 7))) (d_var (pv 8)))
      (dss_one (d_aug (i := 9) sc_next_look.nd rfl (.inl rfl) d_int ipd_add)))
      (dss_one (d_ret (d_var (pv 9)))))))))), fun as Qd Ed h => by
    unfold sdLookE at h
    split at h
    · rename_i l x lo hi af
      refine CheckR.imp h ?_
      rintro ⟨h1, h2, h3, h4⟩
      refine ⟨h1, h2, h3, fun e => ?_⟩
      obtain ⟨l, lo, hi, os, rfl, rfl, rfl, z, hx, ka, bad, good⟩ := h4 e
      refine ⟨l, lo, hi, os, rfl, rfl, rfl, z, hx, fun f s n hs => ?_⟩
      by_cases ia : ∃ t, af = .int t
      · obtain ⟨a, rfl⟩ := ia
        refine ⟨rfl, ?_⟩
        refine ifD (fun c => bad (decide_eq_false (by omega))) fun a0 => ?_
        obtain ⟨za, q⟩ := good (decide_eq_true (by omega))
        have za := za a rfl
        have s1 := hs.s1
        have l1 := z.1
        have sz : s.natAbs < 2 ^ 1000 := le_sz z.2.1 (by omega) (Int.le_of_dvd (by omega) hs.sl)
        refine ⟨dv (show s ≠ 0 by omega) sz, ?_⟩
        have es := OM.fdiv_mul (show 0 < s by omega) hs.sl
        have c1 : 1 ≤ (l.fdiv s) := by
          apply Int.not_lt.mp
          intro lt
          have := Int.mul_le_mul_of_nonneg_right (show (l.fdiv s) ≤ 0 by omega) (show 0 ≤ s by omega)
          omega
        have cl : (l.fdiv s) ≤ l := by
          have := Int.mul_le_mul_of_nonneg_left (show (1 : Int) ≤ s by omega) (show 0 ≤ (l.fdiv s) by omega)
          omega
        have zn := hs.zn
        have dis : ∀ t : Int, 0 ≤ t → (OM.Dis l (OM.spd l os lo hi) t ↔ ((Nat.gcd t.natAbs (l.fdiv s).natAbs : Nat) : Int) * (n : Int) ≤ (l.fdiv s)) := fun t ht => by
          rw [hs.eq]
          exact OM.dis_iff s1 c1 (by rw [Int.mul_comm]; exact es.symm) ht
        refine ifD (fun gt => ?_) fun le => ?_
        · exact q _
        · obtain ⟨t1, h1, h2, h3⟩ := OM.cop_in (c := l.fdiv s) (a := a) c1
          have ex : ((Nat.gcd t1.natAbs (l.fdiv s).natAbs : Nat) : Int) * (n : Int) ≤ (l.fdiv s) := by rw [h3]; omega
          obtain ⟨t, ht1, ht2, ht3, ht4⟩ := OM.least (P := fun t => ((Nat.gcd t.natAbs (l.fdiv s).natAbs : Nat) : Int) * (n : Int) ≤ (l.fdiv s)) h1 ex
          have qt := q (.int t)
          have zt : t.natAbs < 2 ^ 1100 := by
            have p1 : (2 : Nat) ^ 1000 + 2 ^ 1000 < 2 ^ 1100 := by decide +kernel
            have := z.2.1
            omega
          refine ⟨fun m ss => ∃ u : Int, ss = [.d (.int l), .d x, .d (.int lo), .d (.int hi), .d (.int a), .d (.int f), .d (.int s), .d (.int (n : Nat)), .d (.int (l.fdiv s)), .d (.int u)] ∧ m = (t - u).natAbs ∧ a < u ∧ u ≤ t, ⟨_, a + 1, rfl, rfl, by omega, by omega⟩, ?_⟩
          rintro m _ ⟨u, rfl, rfl, hu1, hu2⟩
          have zg : ((Nat.gcd u.natAbs (l.fdiv s).natAbs : Nat) : Int).natAbs < 2 ^ 1100 := by
            have := Nat.gcd_le_left (l.fdiv s).natAbs (show 0 < u.natAbs by omega)
            omega
          refine ⟨mu zg (show (n : Int).natAbs < 2 ^ 1100 by omega), ?_⟩
          refine ifD (fun gt => ?_) fun le2 => ?_
          · have ne : u ≠ t := by
              rintro rfl
              have : ((Nat.gcd u.natAbs (l.fdiv s).natAbs : Nat) : Int) * (n : Int) ≤ (l.fdiv s) := ht3
              omega
            exact ⟨_, by omega, u + 1, rfl, rfl, by omega, by omega⟩
          · have e : u = t := by
              apply Classical.byContradiction
              intro ne
              exact ht4 u hu1 (by omega) (by omega)
            subst e
            exact qt
      · cases af <;> first | (cases ka; done) | exact absurd ⟨_, rfl⟩ ia | exact ⟨rfl, bad rfl⟩
    · exact h.elim⟩, hm, F.kp, hb, .cons hv .nil, fun H => ⟨_, _, rfl, rfl, rfl⟩, hk⟩
end
end LR
set_option Elab.async false
set_option linter.all false
set_option maxRecDepth 100000
set_option maxHeartbeats 4000000
set_option exponentiation.threshold 100000
namespace LR
open PySem PySem.Spec PyProof.Rows L2 DL
section
variable {P : Program} {w : World} {K : PySem.W.Frag} {mg : Str → Option Value} {base : Heap}

theorem CheckR.impE {CL CO : Addr} {l x : DL.D} {Ed Ed' : QE} {P P' : Prop} (g : ∀ er, Ed er → Ed' er) (f : P → P') (h : CheckR CL CO l x Ed P) : CheckR CL CO l x Ed' P' := by
  refine ⟨h.1, fun e => g _ (h.2.1 e), fun e => ?_⟩
  have q := h.2.2 e
  unfold ObsR at q ⊢
  split
  · rename_i e2
    rw [e2] at q
    exact ⟨q.1, g _ q.2⟩
  · rename_i ds e2
    rw [e2] at q
    refine ⟨fun lt => g _ (q.1 lt), fun le => ⟨(q.2 le).1, ?_⟩⟩
    have q2 := (q.2 le).2
    split
    · rename_i i e3
      rw [e3] at q2
      exact g _ q2
    · rename_i e3
      rw [e3] at q2
      exact f q2
theorem NumR.impE {CN : Addr} {l x lo hi : DL.D} {Ed Ed' : QE} {P P' : Int → Int → Int → List (Int × Int) → Prop} (g : ∀ er, Ed er → Ed' er) (f : ∀ L a b os, P L a b os → P' L a b os) (h : NumR CN l x lo hi Ed P) : NumR CN l x lo hi Ed' P' := by
  obtain ⟨h1, h2, h3, h4⟩ := h
  refine ⟨h1, h2, fun e => g _ (h3 e), fun e => ?_⟩
  obtain ⟨L, a, b, os, e1, e2, e3, z, hx, p⟩ := h4 e
  exact ⟨L, a, b, os, e1, e2, e3, z, hx, f _ _ _ _ p⟩
def CallR (CL CO CN CT CM : Addr) (kind : Int) (l x lo hi t : DL.D) (Ed : QE) (P : Prop) : Prop :=
  (kind = 0 → CheckR CL CO l x Ed (GoodR l x P)) ∧ (kind = 1 → CheckR CL CO l x Ed (GoodR l x P)) ∧ (kind = 2 → CheckR CL CO l x Ed (NumR CN l x lo hi Ed fun _ _ _ _ => P)) ∧
  (kind = 3 → CheckR CL CO l x Ed (NumR CN l x lo hi Ed fun L a b os => (2000 < (OM.spd L os a b).length → Ed (.e1 CM "limit" (.int 2000))) ∧ ((OM.spd L os a b).length ≤ 2000 → P))) ∧
  (kind = 4 → CheckR CL CO l x Ed (NumR CN l x lo hi Ed fun _ _ _ _ => (kindD t).isSome = true ∧ (nnB t = false → Ed (.e0 CT)) ∧ (nnB t = true → (∀ i, t = .int i → i.natAbs < 2 ^ 1000) ∧ P))) ∧ 0 ≤ kind ∧ kind ≤ 4
theorem CallR.impE {CL CO CN CT CM : Addr} {kind : Int} {l x lo hi t : DL.D} {Ed Ed' : QE} {P P' : Prop} (g : ∀ er, Ed er → Ed' er) (f : P → P') (h : CallR CL CO CN CT CM kind l x lo hi t Ed P) : CallR CL CO CN CT CM kind l x lo hi t Ed' P' := by
  obtain ⟨h0, h1, h2, h3, h4, b0, b4⟩ := h
  have gd : GoodR l x P → GoodR l x P' := fun ⟨L, os, e, z, hx, ft, p⟩ => ⟨L, os, e, z, hx, ft, f p⟩
  refine ⟨fun e => (h0 e).impE g gd, fun e => (h1 e).impE g gd, fun e => (h2 e).impE g fun n => n.impE g fun _ _ _ _ => f, fun e => (h3 e).impE g fun n => n.impE g fun _ _ _ _ p => ⟨fun lt => g _ (p.1 lt), fun le => f (p.2 le)⟩, fun e => (h4 e).impE g fun n => n.impE g fun _ _ _ _ p => ⟨p.1, fun e => g _ (p.2.1 e), fun e => ⟨(p.2.2 e).1, f (p.2.2 e).2⟩⟩, b0, b4⟩
def sdCallE (CL CO CN CT CM : Addr) : SpD := fun as Q Ed => match as with
  | [.d (.int kind), .d l, .d x, .d lo, .d hi, .d t] => CallR CL CO CN CT CM kind l x lo hi t Ed (∀ d, Q d)
  | _ => False
theorem sdCallE_len (CL CO CN CT CM : Addr) (as Q E) (h : sdCallE CL CO CN CT CM as Q E) : as.length = 6 := by
  unfold sdCallE at h
  split at h
  · rfl
  · exact h.elim

theorem ok_call {f fd CL CO CN CT CM} (D : DefAt K mg "_law_call" s_law_call ["kind", "size", "observations", "low", "high", "time"] f fd) (Gfitting_speeds : DefD P w K mg base "fitting_speeds" 5 (sdFitE CL CO)) (Gis_no_speed : DefD P w K mg base "is_no_speed" 4 (sdNoE CL CO)) (Gcount_speeds : DefD P w K mg base "count_speeds" 6 (sdCntE CL CO CN)) (Gspeeds_between : DefD P w K mg base "speeds_between" 6 (sdBtwE CL CO CN CM)) (Gnext_look : DefK P w K mg base "next_look" 6 4 ["after"] [.int 0] (sdLookE CL CO CN CT)) : DefD P w K mg base "_law_call" 7 (sdCallE CL CO CN CT CM) :=
  .mk1 D (fnD D.F sc_law_call (sdCallE_len CL CO CN CT CM) fun cdv A outer s H E c hr b => ⟨_, (dss_cons (d_ifS (dt_cmp (od_eq hr.units) (d_var (pv 0)) d_int)
      (dss_one (d_ret (d_cE Gfitting_speeds (hr.mono (by decide)) b (da_name (pv 1) (da_name (pv 2) da_nil)))))
      dss_nil)
      (dss_cons (d_ifS (dt_cmp (od_eq hr.units) (d_var (pv 0)) d_int)
      (dss_one (d_ret (d_cE Gis_no_speed (hr.mono (by decide)) b (da_name (pv 1) (da_name (pv 2) (da_cons d_non da_nil))))))
      dss_nil)
      (dss_cons (d_ifS (dt_cmp (od_eq hr.units) (d_var (pv 0)) d_int)
      (dss_one (d_ret (d_cE Gcount_speeds (hr.mono (by decide)) b (da_name (pv 1) (da_name (pv 2) (da_name (pv 3) (da_name (pv 4) da_nil)))))))
      dss_nil)
      (dss_cons (d_ifS (dt_cmp (od_eq hr.units) (d_var (pv 0)) d_int)
      (dss_one (d_ret (d_cE Gspeeds_between (hr.mono (by decide)) b (da_name (pv 1) (da_name (pv 2) (da_name (pv 3) (da_name (pv 4) da_nil)))))))
      dss_nil)
      (dss_one (d_ret (d_cKE Gnext_look (hr.mono (by decide)) b (da_name (pv 1) (da_name (pv 2) (da_name (pv 3) (da_name (pv 4) da_nil)))) (dk_cons (d_var (pv 5)) dk_nil)))))))), fun as Qd Ed h => by
    unfold sdCallE at h
    split at h
    · rename_i kind l x lo hi t
      obtain ⟨h0, h1, h2, h3, h4, b0, b4⟩ := h
      refine ifD (fun e => h0 e) fun e0 => ?_
      refine ifD (fun e => h1 e) fun e1 => ?_
      refine ifD (fun e => h2 e) fun e2 => ?_
      refine ifD (fun e => h3 e) fun e3 => ?_
      exact ⟨rfl, rfl, h4 (by omega)⟩
    · exact h.elim⟩)
/-! ### _law_error -/
def ErQ (CL CO CN CT CM : Addr) (Q : QD) : QE := fun er => match er with
  | .e0 C => (C = CL ∧ Q (.str "length")) ∨ (C = CN ∧ Q (.str "number")) ∨ (C = CT ∧ Q (.str "time"))
  | .e1 C f v => (C = CO ∧ f = "index" ∧ Q (.lst [.str "seen", v, .bl true])) ∨ (C = CM ∧ f = "limit" ∧ Q (.lst [.str "limit", v]))
def sdErrE (CL CO CN CT CM : Addr) : SpD := fun as Q Ed => match as with
  | [.d (.int kind), .d l, .d x, .d lo, .d hi, .d t] => CallR CL CO CN CT CM kind l x lo hi t (ErQ CL CO CN CT CM Q) (Q .non)
  | _ => False
theorem sdErrE_len (CL CO CN CT CM : Addr) (as Q E) (h : sdErrE CL CO CN CT CM as Q E) : as.length = 6 := by
  unfold sdErrE at h
  split at h
  · rfl
  · exact h.elim

theorem ok_err {f fd CL CO CN CT CM} (D : DefAt K mg "_law_error" s_law_error ["kind", "size", "observations", "low", "high", "time"] f fd) (NInvalidLength : mg "InvalidLength" = some (.ref CL)) (NInvalidObservation : mg "InvalidObservation" = some (.ref CO)) (NInvalidNumber : mg "InvalidNumber" = some (.ref CN)) (NInvalidTime : mg "InvalidTime" = some (.ref CT)) (NLimitExceeded : mg "LimitExceeded" = some (.ref CM)) (m_isinstance : mg "isinstance" = none) (m_ValueError : mg "ValueError" = none)
    (xLL : PySem.W.exmOne K (.ref CL) (.ref CL) = some true) (xOL : PySem.W.exmOne K (.ref CO) (.ref CL) = some false) (xOO : PySem.W.exmOne K (.ref CO) (.ref CO) = some true) (xNL : PySem.W.exmOne K (.ref CN) (.ref CL) = some false) (xNO : PySem.W.exmOne K (.ref CN) (.ref CO) = some false) (xNN : PySem.W.exmOne K (.ref CN) (.ref CN) = some true) (xTL : PySem.W.exmOne K (.ref CT) (.ref CL) = some false) (xTO : PySem.W.exmOne K (.ref CT) (.ref CO) = some false) (xTN : PySem.W.exmOne K (.ref CT) (.ref CN) = some false) (xTT : PySem.W.exmOne K (.ref CT) (.ref CT) = some true) (xML : PySem.W.exmOne K (.ref CM) (.ref CL) = some false) (xMO : PySem.W.exmOne K (.ref CM) (.ref CO) = some false) (xMN : PySem.W.exmOne K (.ref CM) (.ref CN) = some false) (xMT : PySem.W.exmOne K (.ref CM) (.ref CT) = some false) (xMM : PySem.W.exmOne K (.ref CM) (.ref CM) = some true)
    (fO : XfC K CO) (nO : PySem.W.findIn K (.ref CO) "index" = some none) (fM : XfC K CM) (nM : PySem.W.findIn K (.ref CM) "limit" = some none) (iL : IsC K CL) (vL : PySem.W.kitOne K (.ref CL) (.type "ValueError") = some true) (iO : IsC K CO) (vO : PySem.W.kitOne K (.ref CO) (.type "ValueError") = some true)
    (G_law_call : DefD P w K mg base "_law_call" 7 (sdCallE CL CO CN CT CM)) : DefD P w K mg base "_law_error" 8 (sdErrE CL CO CN CT CM) :=
  .mk1 D (fnD D.F sc_law_error (sdErrE_len CL CO CN CT CM) fun cdv A outer s H E c hr b => ⟨_, (dss_cons (d_try (i := 6) b rfl rfl sc_law_error.nd rfl rfl (fun c2 pn xe b po => (dss_one (d_expr (d_cE G_law_call (hr.mono (by decide)) b (da_name (pv 0) (da_name (pv 1) (da_name (pv 2) (da_name (pv 3) (da_name (pv 4) (da_name (pv 5) da_nil)))))))))) (.as ⟨rfl, by decide, .inl NInvalidLength⟩ (fun a oe d pn er hz hf => (dss_one (d_ret (d_if (dt_val (d_isX (T := "ValueError") hz hf m_isinstance (pv 6) (pe_bltn (v := .ty "ValueError") (by rfl) m_ValueError (by decide +kernel) rfl))) d_str d_str)))) (.as ⟨rfl, by decide, .inl NInvalidObservation⟩ (fun a oe d pn er hz hf => (dss_one (d_ret (d_lst (da_cons d_str (da_cons (d_fld hz hf (pv 6)) (da_cons (d_isX (T := "ValueError") hz hf m_isinstance (pv 6) (pe_bltn (v := .ty "ValueError") (by rfl) m_ValueError (by decide +kernel) rfl)) da_nil))))))) (.no ⟨rfl, by decide, .inl NInvalidNumber⟩ (fun a oe d pn er hz hf => (dss_one (d_ret d_str))) (.no ⟨rfl, by decide, .inl NInvalidTime⟩ (fun a oe d pn er hz hf => (dss_one (d_ret d_str))) (.as ⟨rfl, by decide, .inl NLimitExceeded⟩ (fun a oe d pn er hz hf => (dss_one (d_ret (d_lst (da_cons d_str (da_cons (d_fld hz hf (pv 6)) da_nil)))))) .nil))))))
      (dss_one (d_ret d_non))), fun as Qd Ed h => by
    unfold sdErrE at h
    split at h
    · rename_i kind l x lo hi t
      refine CallR.impE (fun er he => ?_) (fun q _ => q) h
      cases er with
      | e0 C =>
        rcases he with ⟨rfl, q⟩ | ⟨rfl, q⟩ | ⟨rfl, q⟩
        · refine ⟨true, xLL, fun _ a d => ?_, fun e => by cases e⟩
          exact ⟨true, iL, vL, rfl, q⟩
        · refine ⟨false, xNL, (fun e => by cases e), fun _ => ?_⟩
          refine ⟨false, xNO, (fun e => by cases e), fun _ => ?_⟩
          exact ⟨true, xNN, fun _ a d => q, fun e => by cases e⟩
        · refine ⟨false, xTL, (fun e => by cases e), fun _ => ?_⟩
          refine ⟨false, xTO, (fun e => by cases e), fun _ => ?_⟩
          refine ⟨false, xTN, (fun e => by cases e), fun _ => ?_⟩
          exact ⟨true, xTT, fun _ a d => q, fun e => by cases e⟩
      | e1 C f v =>
        rcases he with ⟨rfl, rfl, q⟩ | ⟨rfl, rfl, q⟩
        · refine ⟨false, xOL, (fun e => by cases e), fun _ => ?_⟩
          refine ⟨true, xOO, fun _ a d => ?_, fun e => by cases e⟩
          exact ⟨rfl, fO, nO, rfl, true, iO, vO, rfl, q⟩
        · refine ⟨false, xML, (fun e => by cases e), fun _ => ?_⟩
          refine ⟨false, xMO, (fun e => by cases e), fun _ => ?_⟩
          refine ⟨false, xMN, (fun e => by cases e), fun _ => ?_⟩
          refine ⟨false, xMT, (fun e => by cases e), fun _ => ?_⟩
          refine ⟨true, xMM, fun _ a d => ?_, fun e => by cases e⟩
          exact ⟨rfl, fM, nM, rfl, q⟩
    · exact h.elim⟩)
end
end LR
set_option Elab.async false
set_option linter.all false
set_option maxRecDepth 100000
set_option maxHeartbeats 4000000
set_option exponentiation.threshold 100000
/-! DP: the pool of a law: _law_pool, _law_draw over data; a new pool in a slot; the law itself -/
namespace LR
open PySem PySem.Spec PyProof.Rows L2 DL
def But (p : Addr) (H H' : Hp) : Prop := ∀ x u, x ≠ p → H x = some u → H' x = some u
section
variable {H H1 H2 : Hp} {p : Addr} {o : HO}
theorem but_new : But p H (upd H p o) := fun x y n e => by rw [upd_ne n]; exact e
theorem but_upd (b : But p H H1) : But p H (upd H1 p o) := fun x y n e => by rw [upd_ne n]; exact b x y n e
theorem but_trans (a : But p H H1) (b : But p H1 H2) : But p H H2 := fun x y n e => b x y n (a x y n e)
theorem but_same (b : But p H H1) (s : Same H1 H2) : But p H H2 := fun x y n e => s _ _ (b x y n e)
end
/-- a pool stands at p, its cells at l -/
def PoolH (H : Hp) (p l : Addr) : Prop := ∃ (ns : List Int) (a b c : Int), H p = some (.lst [.ref l, .int a, .int b, .int c]) ∧ H l = some (.lst (ns.map V.int)) ∧ ns.length ≤ 63
theorem pool_ne {H : Hp} {p l : Addr} {ns : List Int} {a b c : Int} (h1 : H p = some (.lst [.ref l, .int a, .int b, .int c])) (h2 : H l = some (.lst (ns.map V.int))) : l ≠ p := by
  intro e
  rw [e, h1] at h2
  have h3 := HO.lst.inj (Option.some.inj h2)
  cases ns <;> cases h3
section
variable {P : Program} {w : World} {K : PySem.W.Frag} {mg : Str → Option Value} {base : Heap}
theorem mod_in {x m : Int} (hm : 0 < m) : 0 ≤ x.fmod m ∧ x.fmod m < m := by
  rw [Int.fmod_eq_emod_of_nonneg _ (Int.le_of_lt hm)]
  exact ⟨Int.emod_nonneg _ (Int.ne_of_gt hm), Int.emod_lt_of_pos _ hm⟩
theorem dvA {i j : Int} {b : Nat} (h : j ≠ 0) (hb : j.natAbs < 2 ^ b) (h0 : 0 < b) (h9 : b ≤ 9000) : DL.CDivA i j := dv h hb h0 h9
/-! ### _law_draw -/
theorem p10 (z : Int) : CPow 10 18 := ⟨by decide, by decide, by decide⟩
abbrev datI (i : Int) : PyData := .int i
theorem canIs : ∀ ns : List Int, PyData.canLayAll0 (ns.map datI) = true
  | [] => rfl
  | n :: ns => by
    show (true && PyData.canLayAll0 (ns.map datI)) = true
    rw [canIs ns]
    rfl
theorem depIs : ∀ ns : List Int, PyData.depthAll (ns.map datI) = 0
  | [] => rfl
  | n :: ns => by
    have := depIs ns
    show max 0 (PyData.depthAll (ns.map datI)) = 0
    omega
theorem shapedIs (ns : List Int) : SeqAt.shaped (.list (ns.map datI)) = true := by
  unfold SeqAt.shaped
  rw [show (PyData.list (ns.map datI)).canLay0 = PyData.canLayAll0 (ns.map datI) from rfl, canIs, Bool.true_and, decide_eq_true_eq]
  have := depIs ns
  show PyData.depthAll (ns.map datI) + 1 ≤ 64
  omega
theorem dpIs {H : Hp} : ∀ ns : List Int, DpAll K H (ns.map V.int) (ns.map datI)
  | [] => .nil
  | n :: ns => .cons (.int n) (dpIs ns)
theorem eqvNil : ∀ ns : List Int, PyData.eqv (.list (ns.map datI)) (.list []) = ns.isEmpty
  | [] => rfl
  | _ :: _ => rfl
def spDraw2 : Sp := fun vs H Q _ => ∃ (p : Addr) (m : Int) (l : Addr), vs = [.ref p, .int m] ∧ PoolH H p l ∧ 0 < m ∧ m.natAbs < 2 ^ 200 ∧ ∀ d H', 0 ≤ d → d < m → But p H H' → PoolH H' p l → Q (.int d) H'
theorem ok_Draw2 {f : Addr} {fd : FuncData} (D : DefAt K mg "_law_draw" s_law_draw ["pool", "many"] f fd) (mi : mg "int" = none) (ml : mg "len" = none) : FnOk P w K mg base (L2.CX P w) 1 f fd ["pool", "many"] spDraw2 := by
  refine D.F.okX sc_law_draw (fun vs H Q E h => ?_) (fun cdv A outer s H vs Q E hr h => ?_)
  · obtain ⟨p, m, l, rfl, _⟩ := h
    rfl
  · obtain ⟨p, m, l, rfl, ⟨ns, a, b, c, hp, hl, ln⟩, m0, mb, q⟩ := h
    refine ⟨_, pss_cons (ps_asg (pe_op op_add (pe_ix ix_list (pv 0) pe_int (fun _ _ => rfl)) pe_int) (pg_sub (pv 0) pe_int set_list))
      (pss_cons (ps_if (pt_cmpR op_gt (pe_ix ix_list (pv 0) pe_int (fun _ _ => rfl)) pe_int (nomark _))
        (pss_cons (ps_set (i := 2) sc_law_draw.nd rfl (.inl rfl) (pe_op op_modN (pe_ix ix_list (pv 0) pe_int (fun _ _ => rfl)) (pv 1)))
        (pss_cons (ps_asg (pe_op DL.op_fdivA (pe_ix ix_list (pv 0) pe_int (fun _ _ => rfl)) (pv 1)) (pg_sub (pv 0) pe_int set_list))
        (pss_one (ps_ret (pv 2))))) pss_nil)
      (pss_cons (ps_set (i := 3) sc_law_draw.nd rfl (.inl rfl) (pe_op op_cat (pe_ix ix_list (pv 0) pe_int (fun _ _ => rfl)) (pe_op op_rep (pe_lst (pa_cons pe_int pa_nil)) (pe_callTy call_int1 (by rfl) mi (by decide +kernel) (pa_cons (pe_cmpR (op_eqD hr.units) (pe_ix ix_list (pv 0) pe_int (fun _ _ => rfl)) (pe_lst pa_nil) (nomark _)) pa_nil)))))
      (pss_cons (ps_set (i := 4) sc_law_draw.nd rfl (.inl rfl) (pe_ix ix_list (pv 3) (pe_op op_modN (pe_ix ix_list (pv 0) pe_int (fun _ _ => rfl)) (pe_callB call_len_seq (by rfl) ml PySem.boot_len (pa_cons (pv 3) pa_nil))) (fun _ _ => rfl)))
      (pss_cons (ps_asg (pe_op op_add (pe_ix ix_list (pv 0) pe_int (fun _ _ => rfl)) pe_int) (pg_sub (pv 0) pe_int set_list))
      (pss_cons (ps_if (pt_cmpR op_ge (pv 4) (pe_op op_pow pe_int pe_int) (nomark _))
        (pss_cons (ps_asg (pe_op DL.op_fdivA (pv 4) (pv 1)) (pg_sub (pv 0) pe_int set_list)) (pss_one (ps_ret (pe_op op_modN (pv 4) (pv 1))))) pss_nil)
      (pss_cons (ps_set (i := 5) sc_law_draw.nd rfl (.inl rfl) (pe_op op_modN (pe_op op_add (pv 4) (pe_op op_mul pe_int (pe_ix ix_list (pv 0) pe_int (fun _ _ => rfl)))) pe_int))
      (pss_one (ps_ret (pe_op op_modN (pe_op op_fdivN (pe_op op_modN (pe_op op_mul (pe_op op_pow (pv 5) pe_int) pe_int) pe_int) pe_int) (pv 1)))))))))), ?_⟩
    have lp := pool_ne hp hl
    -- pool[3] = pool[3] + 1
    refine ⟨.ref p, rfl, p, _, 3, _, rfl, rfl, .of hp, atI_nat (j := 3) rfl, c, 1, rfl, rfl, ?_⟩
    refine ⟨.ref p, rfl, p, _, 3, 3, rfl, rfl, hp, rfl, ?_⟩
    have b1 : But p H (upd H p (.lst [.ref l, .int a, .int b, .int (c + 1)])) := but_new
    have h1 : (upd H p (.lst [.ref l, .int a, .int b, .int (c + 1)])) p = some (.lst [.ref l, .int a, .int b, .int (c + 1)]) := upd_same
    show tNext _ _ (upd H p (.lst [.ref l, .int a, .int b, .int (c + 1)]))
    generalize (upd H p (.lst [.ref l, .int a, .int b, .int (c + 1)])) = H1 at b1 h1 ⊢
    have l1 := b1 _ _ lp hl
    refine ⟨.ref p, rfl, p, _, 2, _, rfl, rfl, .of h1, atI_nat (j := 2) rfl, b, 0, rfl, rfl, _, rfl, ite2 (fun _ => ?_) (fun _ => ?_)⟩
    · have md := mod_in (x := b) m0
      refine ⟨.ref p, rfl, p, _, 2, _, rfl, rfl, .of h1, atI_nat (j := 2) rfl, _, rfl, b, m, rfl, rfl, show m ≠ 0 by omega, ?_⟩
      refine ⟨.ref p, rfl, p, _, 2, _, rfl, rfl, .of h1, atI_nat (j := 2) rfl, _, rfl, b, m, rfl, rfl, dvA (b := 200) (by omega) mb (by decide) (by decide), ?_⟩
      refine ⟨.ref p, rfl, p, _, 2, 2, rfl, rfl, h1, rfl, ?_⟩
      refine ⟨_, rfl, ?_⟩
      exact q _ _ md.1 md.2 (but_upd b1) ⟨ns, _, _, _, upd_same, by rw [upd_ne lp]; exact l1, ln⟩
    · -- cells
      refine ⟨.ref p, rfl, p, _, 0, _, rfl, rfl, .of h1, atI_nat (j := 0) rfl, ?_⟩
      refine ⟨by show 1 ≤ sizeLine; decide, fun e1 ne1 => ?_⟩
      have s2 : Same H1 (upd H1 e1 (.lst [.int 0])) := same_new ne1
      have he1 : (upd H1 e1 (.lst [.int 0])) e1 = some (.lst [.int 0]) := upd_same
      show tOp _ _ _ _ (upd H1 e1 (.lst [.int 0])) _
      generalize (upd H1 e1 (.lst [.int 0])) = H2 at s2 he1 ⊢
      refine ⟨.ref p, rfl, p, _, 0, _, rfl, rfl, .of (s2 _ _ h1), atI_nat (j := 0) rfl, by show 0 ≤ sizeLine; decide, fun e2 ne2 => ?_⟩
      have s3 : Same H2 (upd H2 e2 (.lst [])) := same_new ne2
      have he2 : (upd H2 e2 (.lst [])) e2 = some (.lst []) := upd_same
      show rEqD _ _ _ (upd H2 e2 (.lst [])) _
      generalize (upd H2 e2 (.lst [])) = H3 at s3 he2 ⊢
      have l3 := (s2.trans s3) _ _ l1
      refine ⟨_, _, .lst (.of l3) (dpIs ns), .lst (.of he2) .nil, shapedIs ns, by decide, ?_⟩
      rw [eqvNil]
      refine .inr ⟨_, rfl, e1, _, [.int 0], rfl, rfl, s3 _ _ he1, by cases ns.isEmpty <;> decide, by cases ns.isEmpty <;> decide, by cases ns.isEmpty <;> decide, fun e3 ne3 => ?_⟩
      obtain ⟨ms, hms, hml, hm0⟩ : ∃ ms : List Int, ns.map V.int ++ (List.replicate (if ns.isEmpty = true then (1 : Int) else 0).toNat [V.int 0]).flatten = ms.map V.int ∧ ms.length ≤ 64 ∧ 0 < ms.length := by
        cases ns with
        | nil => exact ⟨[0], rfl, by decide, by decide⟩
        | cons n ns => exact ⟨n :: ns, by simp, by simp at ln ⊢; omega, by simp⟩
      have s4 : Same H3 (upd H3 e3 (.lst (List.replicate (if ns.isEmpty = true then (1 : Int) else 0).toNat [V.int 0]).flatten)) := same_new ne3
      have he3 : (upd H3 e3 (.lst (List.replicate (if ns.isEmpty = true then (1 : Int) else 0).toNat [V.int 0]).flatten)) e3 = some (.lst (List.replicate (if ns.isEmpty = true then (1 : Int) else 0).toNat [V.int 0]).flatten) := upd_same
      have hle : (List.replicate (if ns.isEmpty = true then (1 : Int) else 0).toNat [V.int 0]).flatten.length ≤ 1 := by cases ns.isEmpty <;> decide
      show rCat _ _ (upd H3 e3 (.lst (List.replicate (if ns.isEmpty = true then (1 : Int) else 0).toNat [V.int 0]).flatten)) _
      generalize (upd H3 e3 (.lst (List.replicate (if ns.isEmpty = true then (1 : Int) else 0).toNat [V.int 0]).flatten)) = H4 at s4 he3 ⊢
      generalize (List.replicate (if ns.isEmpty = true then (1 : Int) else 0).toNat [V.int 0]).flatten = zz at he3 hms hle
      refine ⟨l, e3, _, zz, rfl, rfl, s4 _ _ l3, he3, Nat.le_trans (show (ns.map V.int).length + zz.length ≤ 1000 by rw [List.length_map]; omega) (Nat.le_of_lt (small1000 (Nat.le_refl _))), fun e4 ne4 => ?_⟩
      rw [hms]
      have s5 : Same H4 (upd H4 e4 (.lst (ms.map V.int))) := same_new ne4
      have he4 : (upd H4 e4 (.lst (ms.map V.int))) e4 = some (.lst (ms.map V.int)) := upd_same
      show tNext _ _ (upd H4 e4 (.lst (ms.map V.int)))
      generalize (upd H4 e4 (.lst (ms.map V.int))) = H5 at s5 he4 ⊢
      have s15 := (((s2.trans s3).trans s4).trans s5)
      have h5 := s15 _ _ h1
      have l5 := s15 _ _ l1
      have b5 : But p H H5 := but_same b1 s15
      -- cell
      have ml0 : (0 : Int) < (((ms.map V.int).length : Nat) : Int) := by rw [List.length_map]; omega
      have mm := mod_in (x := a) ml0
      obtain ⟨z, hz⟩ : ∃ z : Int, (ms.map V.int)[(a.fmod (((ms.map V.int).length : Nat) : Int)).toNat]? = some (.int z) := by
        have hi : (a.fmod (((ms.map V.int).length : Nat) : Int)).toNat < ms.length := by rw [List.length_map] at mm ⊢; omega
        exact ⟨ms[(a.fmod (((ms.map V.int).length : Nat) : Int)).toNat]'hi, by rw [List.getElem?_map, List.getElem?_eq_getElem hi]; rfl⟩
      refine ⟨.ref e4, rfl, .ref p, rfl, p, _, 1, _, rfl, rfl, .of h5, atI_nat (j := 1) rfl, .ref e4, rfl, e4, _, rfl, .inl (.of he4), a, _, rfl, rfl, Int.ne_of_gt ml0, e4, _, _, .int z, rfl, rfl, .of he4, at_of (j := (a.fmod (((ms.map V.int).length : Nat) : Int)).toNat) (by omega) hz, ?_⟩
      -- pool[1] = pool[1] + 1
      refine ⟨.ref p, rfl, p, _, 1, _, rfl, rfl, .of h5, atI_nat (j := 1) rfl, a, 1, rfl, rfl, ?_⟩
      refine ⟨.ref p, rfl, p, _, 1, 1, rfl, rfl, h5, rfl, ?_⟩
      have b6 : But p H5 (upd H5 p (.lst [.ref l, .int (a + 1), .int b, .int (c + 1)])) := but_new
      have h6 : (upd H5 p (.lst [.ref l, .int (a + 1), .int b, .int (c + 1)])) p = some (.lst [.ref l, .int (a + 1), .int b, .int (c + 1)]) := upd_same
      show tNext _ _ (upd H5 p (.lst [.ref l, .int (a + 1), .int b, .int (c + 1)]))
      generalize (upd H5 p (.lst [.ref l, .int (a + 1), .int b, .int (c + 1)])) = H6 at b6 h6 ⊢
      have l6 := b6 _ _ lp l5
      have b06 := but_trans b5 b6
      refine ⟨_, rfl, 10, 18, rfl, rfl, p10 0, z, _, rfl, rfl, _, rfl, ite2 (fun _ => ?_) (fun _ => ?_)⟩
      · have md := mod_in (x := z) m0
        refine ⟨_, rfl, _, rfl, z, m, rfl, rfl, dvA (b := 200) (by omega) mb (by decide) (by decide), ?_⟩
        refine ⟨.ref p, rfl, p, _, 2, 2, rfl, rfl, h6, rfl, ?_⟩
        refine ⟨_, rfl, _, rfl, z, m, rfl, rfl, show m ≠ 0 by omega, ?_⟩
        exact q _ _ md.1 md.2 (but_upd b06) ⟨ns, _, _, _, upd_same, by rw [upd_ne lp]; exact l6, ln⟩
      · refine ⟨_, rfl, _, rfl, p, _, 3, _, rfl, rfl, .of h6, atI_nat (j := 3) rfl, 7919, _, rfl, rfl, .inl ⟨by decide, by decide⟩, z, _, rfl, rfl, _, 2147483647, rfl, rfl, show (2147483647 : Int) ≠ 0 by decide, ?_⟩
        have m2 := mod_in (x := z + 7919 * (c + 1)) (m := 2147483647) (by decide)
        refine ⟨_, rfl, _, 5, rfl, rfl, ⟨by decide, by decide, by omega⟩, _, 48271, rfl, rfl, .inr ⟨by decide, by decide⟩, _, 2147483629, rfl, rfl, show (2147483629 : Int) ≠ 0 by decide, _, 16, rfl, rfl, ⟨by decide, by decide⟩, _, rfl, _, m, rfl, rfl, show m ≠ 0 by omega, ?_⟩
        have md := mod_in (x := ((((z + 7919 * (c + 1)).fmod 2147483647) ^ (5 : Int).toNat * 48271).fmod 2147483629).fdiv 16) m0
        exact q _ _ md.1 md.2 b06 ⟨ns, _, _, _, h6, l6, ln⟩
theorem ok_draw {f : Addr} {fd : FuncData} (D : DefAt K mg "_law_draw" s_law_draw ["pool", "many"] f fd) (mi : mg "int" = none) (ml : mg "len" = none) : DefD P w K mg base "_law_draw" 1 sdDraw :=
  .mk1 D ((ok_Draw2 D mi ml).imp fun vs H Q E h => by
    obtain ⟨Z, Hs, as, Qd, Ed, sub, hz, ai, hf, cv, _⟩ := h
    unfold sdDraw at hf
    split at hf
    · rename_i m
      obtain ⟨⟨m0, m1⟩, q⟩ := hf
      obtain ⟨p, ws, rfl, zp, ⟨l, ns, a, b, c, h1, h2, h3⟩, v, ws', rfl, rfl, rfl⟩ := ai
      refine ⟨p, m, l, rfl, ⟨ns, a, b, c, h1, sub _ _ h2, h3⟩, m0, m1, fun d H' d0 d1 bu po => cv (.int d) _ Hs H' ?_ rfl (q d d0 d1)⟩
      have np := (hz p zp).1
      have pl : ∃ r, H' p = some (.lst r) := by obtain ⟨_, _, _, _, k1, _⟩ := po; exact ⟨_, k1⟩
      refine ⟨.refl _, fun x u e => bu x u (ne_of_none e np) (sub _ _ e), fun x u nz e => bu x u (fun z => nz (by rw [z]; exact zp)) e, fun x e => ?_, fun x e _ => e, fun x l' zx hx => ?_⟩
      · by_cases z : x = p
        · obtain ⟨r, k⟩ := pl
          rw [z, k]; exact fun y => nomatch y
        · cases k : H x with
          | none => exact absurd k e
          | some u => rw [bu x u z k]; exact fun y => nomatch y
      · obtain ⟨ns2, a2, b2, c2, k1, k2, k3⟩ := hx
        by_cases z : x = p
        · subst z
          rw [h1] at k1
          cases k1
          obtain ⟨ns4, a4, b4, c4, j1, _, _⟩ := po
          exact ⟨ns2, a4, b4, c4, j1, k2, k3⟩
        · exact ⟨ns2, a2, b2, c2, bu _ _ z k1, k2, k3⟩
    · exact hf.elim)
/-! ### _law_pool -/
theorem cut_ints (ns : List Int) (lo hi : Option Int) : ∃ ms : List Int, cutV (ns.map V.int) lo hi = ms.map V.int ∧ ms.length ≤ ns.length := by
  refine ⟨(ns.drop (HT.sIx (ns.map V.int).length 0 lo)).take (HT.sIx (ns.map V.int).length (ns.map V.int).length hi - HT.sIx (ns.map V.int).length 0 lo), ?_, ?_⟩
  · unfold cutV
    rw [List.map_take, List.map_drop]
  · rw [List.length_take, List.length_drop]
    omega
def isScr (K : PySem.W.Frag) (H : Hp) (v : V) : Prop := ∃ (a : Addr) (ns : List Int), v = .ref a ∧ SqL K H a (ns.map V.int) ∧ ns.length ≤ 63
theorem isScr.same {H H' : Hp} {v : V} (h : isScr K H v) (s : Same H H') : isScr K H' v := by
  obtain ⟨a, ns, e, h1, h2⟩ := h
  refine ⟨a, ns, e, ?_, h2⟩
  rcases h1 with (h | ⟨o, h⟩) | h
  · exact .inl (.inl (s _ _ h))
  · exact .inl (.inr ⟨o, s _ _ h⟩)
  · exact .inr h
def spPool2 (K : PySem.W.Frag) : Sp := fun vs H Q _ => ∃ v, vs = [v] ∧ isScr K H v ∧ ∀ (ms : List Int) (l p : Addr), ms.length ≤ 63 → H l = none → (upd H l (.lst (ms.map V.int))) p = none → Q (.ref p) (upd (upd H l (.lst (ms.map V.int))) p (.lst [.ref l, .int 0, .int 0, .int 0]))
theorem ok_Pool2 {f : Addr} {fd : FuncData} (D : DefAt K mg "_law_pool" s_law_pool ["script"] f fd) : FnOk P w K mg base (L2.CX P w) 1 f fd ["script"] (spPool2 K) := by
  refine D.F.okX sc_law_pool (fun vs H Q E h => ?_) (fun cdv A outer s H vs Q E hr h => ?_)
  · obtain ⟨v, rfl, _⟩ := h
    rfl
  · obtain ⟨v, rfl, ⟨a, ns, rfl, hS, hl⟩, q⟩ := h
    refine ⟨_, pss_one (ps_ret (pe_lst (pa_cons (pe_slice sl_list (pv 0) po_none (po_some pe_int)) (pa_cons pe_int (pa_cons pe_int (pa_cons pe_int pa_nil)))))), ?_⟩
    refine ⟨.ref a, rfl, _, rfl, a, _, rfl, hS, fun l nl => ?_⟩
    obtain ⟨ms, e, hm⟩ := cut_ints ns none (some 63)
    show [V.ref l, V.int 0, V.int 0, V.int 0].length ≤ sizeLine ∧ ∀ p, (upd H l (.lst (cutV (ns.map V.int) none (some 63)))) p = none → Q (.ref p) (upd (upd H l (.lst (cutV (ns.map V.int) none (some 63)))) p (.lst [.ref l, .int 0, .int 0, .int 0]))
    rw [e]
    exact ⟨by show 4 ≤ sizeLine; decide, fun p np => q ms l p (Nat.le_trans hm hl) nl np⟩
structure PoolDef (P : Program) (w : World) (K : PySem.W.Frag) (mg : Str → Option Value) (base : Heap) : Prop where
  ex : ∃ f fd ps, FnOk P w K mg base (L2.CX P w) 1 f fd ps (spPool2 K) ∧ mg "_law_pool" = some (.ref f) ∧ PySem.W.keepIn K (.ref f) = true ∧ Binds K fd ps []
theorem ok_pool {f : Addr} {fd : FuncData} (D : DefAt K mg "_law_pool" s_law_pool ["script"] f fd) : PoolDef P w K mg base := ⟨f, fd, _, ok_Pool2 D, D.g, D.F.kp, D.b⟩
end
section
variable {X : Cx} {c : Cn}
open Classical in
theorem abs_pool {K : PySem.W.Frag} {O : Addr → Option Nat} {Hs H : Hp} {σ : L2.St} {ss : List Sl} (A : Abs K c O Hs H σ ss) {i : Nat} {ms : List Int} {l p : Addr} (hm : ms.length ≤ 63) (nl : H l = none) (np : (upd H l (.lst (ms.map V.int))) p = none) :
    ∃ O', Abs K c O' (upd Hs l (.lst (ms.map V.int))) (upd (upd H l (.lst (ms.map V.int))) p (.lst [.ref l, .int 0, .int 0, .int 0])) (σ.set i (some (.ref p))) (put ss i .pool) := by
  have pl : p ≠ l := by rintro rfl; rw [upd_same] at np; cases np
  have np0 : H p = none := by rw [upd_ne pl] at np; exact np
  have x1 : Ext (Z0 O) Hs H (upd Hs l (.lst (ms.map V.int))) (upd H l (.lst (ms.map V.int))) := .laid A.sub nl
  have x2 := x1.trans (.grow x1.sub np (o := .lst [.ref l, .int 0, .int 0, .int 0]))
  have A2 := A.next x2
  have Op : O p = none := by
    cases q : O p with
    | none => rfl
    | some k => exact absurd np0 (A.live p (by rw [q]; exact fun z => nomatch z))
  have ns : (upd Hs l (.lst (ms.map V.int))) p = none := by
    rw [upd_ne pl]
    cases q : Hs p with
    | none => rfl
    | some u => rw [A.sub _ _ q] at np0; cases np0
  have hO : ∀ a, a ≠ p → (if a = p then some 0 else O a) = O a := fun a h => if_neg h
  refine ⟨fun b => if b = p then some 0 else O b, A2.ext, fun a h => ?_, fun a h => ?_, fun a h => ?_, fun a h => ?_, by rw [put_len, List.length_set]; exact A.len, fun j => ?_⟩
  · by_cases e : a = p
    · subst e; exact ns
    · rw [hO a e] at h; exact A2.fz a h
  · by_cases e : a = p
    · subst e; rw [upd_same]; exact fun z => nomatch z
    · rw [hO a e] at h; exact A2.live a h
  · by_cases e : a = p
    · subst e; exact .inr (A.fresh np0)
    · rw [hO a e] at h; exact A2.own0 a h
  · show (if a = p then some 0 else O a) = some 0
    by_cases e : a = p
    · rw [if_pos e]
    · rw [hO a e]; exact A2.z a h
  · by_cases e : j = i
    · subst e
      by_cases l : j < ss.length
      · rw [nth_put l, List.getElem?_set_self (by rw [A.len]; exact l)]
        refine ⟨p, rfl, if_pos rfl, _, ms, 0, 0, 0, upd_same, upd_same, hm⟩
      · rw [put_out (Nat.le_of_not_lt l), nth_out (Nat.le_of_not_lt l)]
        trivial
    · rw [nth_put_ne e, List.getElem?_set_ne (fun z => e z.symm)]
      have q := A2.sl j
      revert q
      cases nth ss j with
      | un => exact fun _ => trivial
      | d x => exact fun q => q
      | own p' es =>
        rintro ⟨xs', h1, h2, h3, h4⟩
        exact ⟨xs', h1, (hO p' (by rintro rfl; rw [Op] at h2; cases h2)).trans h2, h3, h4⟩
      | pool =>
        rintro ⟨p', h1, h2, h3⟩
        exact ⟨p', h1, (hO p' (by rintro rfl; rw [Op] at h2; cases h2)).trans h2, h3⟩
/-- pool = _law_pool(script) -/
def tdNewPool (K : PySem.W.Frag) (i : Nat) (te : TD) : TSD := fun En ss Ed => te ss (fun x => match x with
  | .is R => R = isScr K ∧ En.nx (put ss i .pool)
  | _ => False) Ed
theorem d_newPool {i : Nat} {x : Str} {e : Expr} {p pos pos' pos2 : Pos} {te : TD} (G : PoolDef X.prog X.w X.K X.mg X.base) (hr : Room 1 X.A) (he : DE X c e te) (hN : X.N.Nodup) (hi : X.N[i]? = some x) (hx : Loc X.env.scope x) (hg : Gl X "_law_pool" := by rfl)
    (hs1 : starEach [e] X.env = (false, eval e X.env) :: starEach [] X.env := by rfl) (hpl : (backTo pos (starEach [] X.env)).any (·.1) = false := by rfl) (hs : swapsWith (.Call (.Name "_law_pool" p) [e] [] pos) (some (.Name x pos')) pos2.line X.env = pure false := by rfl)
    (hf : X.fn x = true ∨ X.env.scope.names.lookup x = some .local := by first | exact .inl rfl | exact .inr rfl | assumption) : DS X c (.Assign [.Name x pos'] (.Call (.Name "_law_pool" p) [e] [] pos) pos2) (tdNewPool X.K i te) := by
  obtain ⟨f, fd, ps, F, hm, hk, hb⟩ := G.ex
  refine ps_imp (ps_set hN hi hx (pe_call F hr hg hm hk hb .nil pass0D (pa_cons he pa_nil hs1) (by decide) hs1 hpl) hs hf) fun Dn σ H q => ?_
  obtain ⟨O, Hs, ss, En, Ed, A, h, er, gc⟩ := q
  refine ⟨O, Hs, ss, _, Ed, A, h, er, fun d v Hs1 H1 x1 i1 q1 => ?_⟩
  split at q1
  · rename_i R
    obtain ⟨rfl, q1⟩ := q1
    refine ⟨v, rfl, i1 H1 x1.sub, fun ms l p hl nl np => ?_⟩
    obtain ⟨O', A'⟩ := abs_pool (i := i) (A.next x1) hl nl np
    exact gc.nx _ O' _ _ _ (x1.fz.trans (same_new0 (by
      cases q : Hs1 l with
      | none => rfl
      | some u => rw [x1.sub _ _ q] at nl; cases nl))) A' q1
  · exact q1.elim
end
/-! ### the law -/
def spLaw (K : PySem.W.Frag) : Sp := fun vs H Q _ => ∃ (a : Addr) (ns : List Int), vs = [.ref a] ∧ SqL K H a (ns.map V.int) ∧ ns.length ≤ 63 ∧ ∀ H', Q (.bl true) H'
def sdLaw (K : PySem.W.Frag) : SpD := fun as Q _ => match as with
  | [.d (.is R)] => R = isScr K ∧ Q (.bl true)
  | _ => False
theorem sdLaw_len {K : PySem.W.Frag} (as Q E) (h : sdLaw K as Q E) : as.length = 1 := by
  unfold sdLaw at h
  split at h
  · rfl
  · exact h.elim
theorem law_of {K : PySem.W.Frag} (vs H Q E) (h : spLaw K vs H Q E) : spD K (sdLaw K) vs H Q E := by
  obtain ⟨a, ns, rfl, h1, h2, q⟩ := h
  refine ⟨fun _ => False, H, [.d (.is (isScr K))], fun d => d = .bl true, fun _ => False, .refl _, fun _ z => z.elim, ⟨_, _, rfl, fun H' s => isScr.same ⟨a, ns, rfl, h1, h2⟩ s, rfl⟩, ⟨rfl, rfl⟩, fun d v Hs' H' _ i e => ?_, fun _ _ _ _ z => z.elim⟩
  subst e
  cases i
  exact q H'
end LR
set_option Elab.async false
set_option linter.all false
set_option maxRecDepth 100000
set_option maxHeartbeats 4000000
/-! DV: data that may be shown -/
namespace DL
open PySem PySem.Spec PyProof.Rows L2
/-- ints below 2 ** 250, bools, None, in lists and tuples -/
def vwD : Nat → D → Bool
  | _, .non => true
  | _, .bl _ => true
  | _, .int i => decide (i.natAbs.log2 < 250)
  | n + 1, .lst ds => ds.all (vwD n)
  | n + 1, .tup ds => ds.all (vwD n)
  | _, _ => false
mutual
def bulkD : D → Nat
  | .lst ds => bulkDA ds
  | .tup ds => bulkDA ds
  | _ => 0
def bulkDA : List D → Nat
  | [] => 0
  | d :: ds => bulkD d + 1 + bulkDA ds
end
structure Vw (n : Nat) (d : D) (e : PyData) : Prop where
  p : py d = some e
  s : e.showable = true
  h : e.hasDict = false
  l : e.leavesShort 260 = true
  dp : e.depth ≤ n
  b : e.bulk = bulkD d
structure VwA (n : Nat) (ds : List D) (es : List PyData) : Prop where
  p : pyA ds = some es
  s : PyData.showableAll es = true
  h : PyData.hasDictAll es = false
  l : PyData.leavesShortAll 260 es = true
  dp : PyData.depthAll es ≤ n
  b : PyData.bulkAll es = bulkDA ds
theorem vw_int {n : Nat} {i : Int} (h : i.natAbs.log2 < 250) : Vw n (.int i) (.int i) where
  p := rfl
  s := decide_eq_true (by omega)
  h := rfl
  l := by
    refine decide_eq_true ?_
    have := int_text_length_le (k := 250) (by decide) h
    show (Str.ofString (toString i)).length ≤ 260
    rw [PySem.ofString_length]
    omega
  dp := Nat.zero_le _
  b := rfl
theorem vw_all (n : Nat) (ih : ∀ d : D, vwD n d = true → ∃ e, Vw n d e) : ∀ ds : List D, ds.all (vwD n) = true → ∃ es, VwA n ds es
  | [], _ => ⟨[], rfl, rfl, rfl, rfl, Nat.zero_le _, rfl⟩
  | d :: ds, h => by
    rw [List.all_cons, Bool.and_eq_true] at h
    obtain ⟨e, v⟩ := ih d h.1
    obtain ⟨es, w⟩ := vw_all n ih ds h.2
    refine ⟨e :: es, ?_, ?_, ?_, ?_, ?_, ?_⟩
    · simp only [pyA, v.p, w.p]
    · simp only [PyData.showableAll, v.s, w.s, Bool.and_self]
    · simp only [PyData.hasDictAll, v.h, w.h, Bool.or_self]
    · simp only [PyData.leavesShortAll, v.l, w.l, Bool.and_self]
    · simp only [PyData.depthAll]
      have := v.dp
      have := w.dp
      omega
    · simp only [PyData.bulkAll, bulkDA, v.b, w.b]
theorem vw_of : ∀ (n : Nat) (d : D), vwD n d = true → ∃ e, Vw n d e := by
  intro n
  induction n with
  | zero =>
    intro d h
    cases d <;> simp only [vwD, Bool.false_eq_true] at h
    · exact ⟨.none, rfl, rfl, rfl, by decide, Nat.le_refl _, rfl⟩
    · rename_i b
      exact ⟨.bool b, rfl, rfl, rfl, by cases b <;> decide, Nat.le_refl _, rfl⟩
    · exact ⟨_, vw_int (of_decide_eq_true h)⟩
  | succ n ih =>
    intro d h
    cases d <;> simp only [vwD, Bool.false_eq_true] at h
    · exact ⟨.none, rfl, rfl, rfl, by decide, Nat.zero_le _, rfl⟩
    · rename_i b
      exact ⟨.bool b, rfl, rfl, rfl, by cases b <;> decide, Nat.zero_le _, rfl⟩
    · exact ⟨_, vw_int (of_decide_eq_true h)⟩
    · obtain ⟨es, w⟩ := vw_all n ih _ h
      refine ⟨.list es, by simp only [py, w.p, Option.map_some], w.s, w.h, w.l, ?_, w.b⟩
      simp only [PyData.depth]
      have := w.dp
      omega
    · obtain ⟨es, w⟩ := vw_all n ih _ h
      refine ⟨.tuple es, by simp only [py, w.p, Option.map_some], w.s, w.h, w.l, ?_, w.b⟩
      simp only [PyData.depth]
      have := w.dp
      omega
/-- such data may be shown -/
theorem fine_of {d : D} (h : vwD 8 d = true) (hb : bulkD d ≤ 10000) : ∃ e, py d = some e ∧ LG.Fine e := by
  obtain ⟨e, v⟩ := vw_of 8 d h
  refine ⟨e, v.p, v.s, v.h, v.dp, ?_⟩
  have := PyData.shown_le_bulk 260 (by decide) e v.l
  rw [v.b] at this
  have : (260 + 2) * bulkD d ≤ (260 + 2) * 10000 := Nat.mul_le_mul_left _ hb
  rw [sizeLine_eq]
  omega
theorem vw_small {n : Nat} {i : Int} (h : i.natAbs < 2 ^ 250) : vwD n (.int i) = true := by
  have : i.natAbs.log2 < 250 := by
    by_cases z : i.natAbs = 0
    · rw [z]; decide
    · exact (Nat.log2_lt z).mpr h
  cases n <;> exact decide_eq_true this
/-- data are equal to themselves -/
theorem eqD_refl : ∀ (n : Nat) (d : D), shD n d = true → eqD d d = true := by
  intro n
  induction n with
  | zero =>
    intro d h
    cases d <;> first | rfl | exact beq_self_eq_true _ | (simp only [shD, Bool.false_eq_true] at h)
  | succ n ih =>
    have all : ∀ ds : List D, ds.all (shD n) = true → eqDA ds ds = true := by
      intro ds
      induction ds with
      | nil => intro _; rfl
      | cons d ds ih2 =>
        intro h
        rw [List.all_cons, Bool.and_eq_true] at h
        show (eqD d d && eqDA ds ds) = true
        rw [ih d h.1, ih2 h.2]
        rfl
    intro d h
    cases d <;> first | rfl | exact beq_self_eq_true _ | exact all _ h | (simp only [shD, Bool.false_eq_true] at h)
end DL
set_option Elab.async false
set_option linter.all false
set_option maxRecDepth 100000
set_option maxHeartbeats 4000000
set_option exponentiation.threshold 100000
namespace LR
open PySem PySem.Spec PyProof.Rows L2 DL
section
variable {P : Program} {w : World} {K : PySem.W.Frag} {mg : Str → Option Value} {base : Heap}

/-- every speed fits the observation (0, 0) -/
theorem fit_zero {L : Int} {os : List (Int × Int)} (h : ∀ o ∈ os, o = (0, 0)) : OM.Fit L os 0 1 where
  m1 := by omega
  mL := ⟨L, by omega⟩
  r0 := by omega
  rm := by omega
  all := fun x => ⟨fun _ => ⟨x - 0, by omega⟩, fun _ o ho => by rw [h o ho]; exact ⟨0, by simp⟩⟩
theorem spd_zero {L a b : Int} {os : List (Int × Int)} (hL : 1 ≤ L) (h : ∀ o ∈ os, o = (0, 0)) : (OM.spd L os a b).length = (max 0 (b - a + 1)).toNat := by
  obtain ⟨n, hn⟩ : ∃ n : Nat, (n : Int) = max 0 ((b - (a + (0 - a).fmod 1)).fdiv 1 + 1) := ⟨(max 0 ((b - (a + (0 - a).fmod 1)).fdiv 1 + 1)).toNat, by omega⟩
  rw [OM.spd_eq hL (fit_zero h) hn, List.length_map, List.length_range]
  have e1 : (0 - a).fmod 1 = 0 := by rw [Int.fmod_eq_emod_of_nonneg _ (by omega)]; omega
  rw [e1, Int.fdiv_eq_ediv_of_nonneg _ (by omega), Int.ediv_one] at hn
  omega
theorem drw {m : Int} {b : Nat} (h : 0 < m) (h2 : m.natAbs < 2 ^ b) (h3 : b ≤ 200 := by decide) : 0 < m ∧ m.natAbs < 2 ^ 200 := ⟨h, Nat.lt_of_lt_of_le h2 (Nat.pow_le_pow_right (by decide) h3)⟩
/-! ### the answers -/
section
variable {CL CO CN CT CM : Addr} {k : Int} {l x lo hi t : DL.D} {Q : QD}
theorem errL (h : lenB l = false) (kl : (kindD l).isSome = true) (k0 : 0 ≤ k) (k4 : k ≤ 4) (q : Q (.str "length")) : CallR CL CO CN CT CM k l x lo hi t (ErQ CL CO CN CT CM Q) (Q .non) := by
  have c : ∀ P, CheckR CL CO l x (ErQ CL CO CN CT CM Q) P := fun P => ⟨kl, fun _ => .inl ⟨rfl, q⟩, fun e => by rw [h] at e; cases e⟩
  exact ⟨fun _ => c _, fun _ => c _, fun _ => c _, fun _ => c _, fun _ => c _, k0, k4⟩
/-- x is no list of observations, told by v -/
def SeenBad (x v : DL.D) : Prop := match itemsOf x with
  | none => (kindD x).isSome = true ∧ v = .non
  | some ds => (50 < ds.length ∧ v = .non) ∨ (ds.length ≤ 50 ∧ (∀ y ∈ ds, ObsOk y) ∧ ∃ i : Nat, badAt ds = some i ∧ v = .int i)
theorem seen_R {v : DL.D} {Ed : QE} {P : Prop} (h : SeenBad x v) (e : Ed (.e1 CO "index" v)) : ObsR CO x Ed P := by
  unfold SeenBad at h
  unfold ObsR
  revert h
  cases itemsOf x with
  | none =>
    intro h
    have h : (kindD x).isSome = true ∧ v = .non := h
    rw [h.2] at e
    exact ⟨h.1, e⟩
  | some ds =>
    intro h
    have h : (50 < ds.length ∧ v = .non) ∨ (ds.length ≤ 50 ∧ (∀ y ∈ ds, ObsOk y) ∧ ∃ i : Nat, badAt ds = some i ∧ v = .int i) := h
    rcases h with ⟨h1, h2⟩ | ⟨h1, h2, i, h3, h4⟩
    · rw [h2] at e
      exact ⟨fun _ => e, fun z => absurd h1 (by omega)⟩
    · refine ⟨fun z => absurd z (by omega), fun _ => ⟨h2, ?_⟩⟩
      rw [h3]
      rw [h4] at e
      exact e
theorem errO {n : Int} {v : DL.D} (n0 : 0 ≤ n) (h : SeenBad x v) (k0 : 0 ≤ k) (k4 : k ≤ 4) (q : Q (.lst [.str "seen", v, .bl true])) : CallR CL CO CN CT CM k (.int (1 + n)) x lo hi t (ErQ CL CO CN CT CM Q) (Q .non) := by
  have c : ∀ P, CheckR CL CO (.int (1 + n)) x (ErQ CL CO CN CT CM Q) P := fun P => ⟨rfl, fun e => (by
    have : decide (1 ≤ 1 + n) = true := decide_eq_true (by omega)
    rw [show lenB (.int (1 + n)) = decide (1 ≤ 1 + n) from rfl, this] at e
    cases e), fun _ => seen_R h (.inl ⟨rfl, rfl, q⟩)⟩
  exact ⟨fun _ => c _, fun _ => c _, fun _ => c _, fun _ => c _, fun _ => c _, k0, k4⟩
/-- observations that are all (0, 0) -/
theorem zero_ok {os : List (Int × Int)} (h : ∀ o ∈ os, o = (0, 0)) (hl : os.length ≤ 50) : IsObs (.lst (obsL os)) os := ⟨.inl rfl, hl, fun o ho => by rw [h o ho]; exact ⟨Int.le_refl _, Nat.pow_pos (by decide), Nat.pow_pos (by decide)⟩⟩
theorem zero_bad {os : List (Int × Int)} (h : ∀ o ∈ os, o = (0, 0)) : badAt (obsL os) = none ∧ ∀ y ∈ obsL os, ObsOk y := by
  have hy : ∀ y ∈ obsL os, y = .tup [.int 0, .int 0] := fun y hy => by
    obtain ⟨o, ho, rfl⟩ := List.mem_map.mp hy
    rw [h o ho]
  exact ⟨bad_none fun y m => by rw [hy y m]; rfl, fun y m => by rw [hy y m]; exact ⟨rfl, rfl⟩⟩
theorem chk_zero {n : Int} {os : List (Int × Int)} {Ed : QE} {P : Prop} (n0 : 0 ≤ n) (h : ∀ o ∈ os, o = (0, 0)) (hl : os.length ≤ 50) (p : P) : CheckR CL CO (.int (1 + n)) (.lst (obsL os)) Ed P := by
  refine ⟨rfl, fun e => ?_, fun _ => ?_⟩
  · have : decide (1 ≤ 1 + n) = true := decide_eq_true (by omega)
    rw [show lenB (.int (1 + n)) = decide (1 ≤ 1 + n) from rfl, this] at e
    cases e
  · have z := zero_bad h
    refine ⟨fun lt => absurd lt (by rw [obs_len]; omega), fun _ => ⟨z.2, ?_⟩⟩
    rw [z.1]
    exact p
theorem errN {n : Int} {os : List (Int × Int)} (n0 : 0 ≤ n) (h : ∀ o ∈ os, o = (0, 0)) (hl : os.length ≤ 50) (kl : (kindD lo).isSome = true) (kh : (kindD hi).isSome = true) (bad : (isIntD lo && isIntD hi) = false) (k2 : 2 ≤ k) (k4 : k ≤ 4) (q : Q (.str "number")) : CallR CL CO CN CT CM k (.int (1 + n)) (.lst (obsL os)) lo hi t (ErQ CL CO CN CT CM Q) (Q .non) := by
  have c : ∀ P, CheckR CL CO (.int (1 + n)) (.lst (obsL os)) (ErQ CL CO CN CT CM Q) (NumR CN (.int (1 + n)) (.lst (obsL os)) lo hi (ErQ CL CO CN CT CM Q) P) := fun P => chk_zero n0 h hl ⟨kl, kh, fun _ => .inr (.inl ⟨rfl, q⟩), fun e => (by rw [bad] at e; cases e)⟩
  exact ⟨fun e => absurd e (by omega), fun e => absurd e (by omega), fun _ => c _, fun _ => c _, fun _ => c _, by omega, k4⟩
theorem num_zero {n a b : Int} {os : List (Int × Int)} {Ed : QE} {P : Int → Int → Int → List (Int × Int) → Prop} (n0 : 0 ≤ n) (n1 : n < 40) (h : ∀ o ∈ os, o = (0, 0)) (hl : os.length ≤ 50) (za : a.natAbs < 2 ^ 1000) (zb : b.natAbs < 2 ^ 1000) (p : P (1 + n) a b os) : CheckR CL CO (.int (1 + n)) (.lst (obsL os)) Ed (NumR CN (.int (1 + n)) (.lst (obsL os)) (.int a) (.int b) Ed P) :=
  chk_zero n0 h hl ⟨rfl, rfl, fun e => (by cases e), fun _ => ⟨1 + n, a, b, os, rfl, rfl, rfl, ⟨by omega, Nat.lt_of_lt_of_le (show (1 + n).natAbs < 2 ^ 10 by omega) (Nat.pow_le_pow_right (by decide) (by decide)), za, zb⟩, zero_ok h hl, p⟩⟩
theorem errT {n a b : Int} {os : List (Int × Int)} (n0 : 0 ≤ n) (n1 : n < 40) (h : ∀ o ∈ os, o = (0, 0)) (hl : os.length ≤ 50) (za : a.natAbs < 2 ^ 1000) (zb : b.natAbs < 2 ^ 1000) (kt : (kindD t).isSome = true) (bad : nnB t = false) (q : Q (.str "time")) : CallR CL CO CN CT CM 4 (.int (1 + n)) (.lst (obsL os)) (.int a) (.int b) t (ErQ CL CO CN CT CM Q) (Q .non) := by
  refine ⟨fun e => absurd e (by omega), fun e => absurd e (by omega), fun e => absurd e (by omega), fun e => absurd e (by omega), fun _ => ?_, by omega, by omega⟩
  exact num_zero n0 n1 h hl za zb ⟨kt, fun _ => .inr (.inr ⟨rfl, q⟩), fun e => by rw [bad] at e; cases e⟩
theorem errM {n a b : Int} {os : List (Int × Int)} (n0 : 0 ≤ n) (n1 : n < 40) (h : ∀ o ∈ os, o = (0, 0)) (hl : os.length ≤ 50) (za : a.natAbs < 2 ^ 1000) (zb : b.natAbs < 2 ^ 1000) (q1 : 2000 < b - a + 1 → Q (.lst [.str "limit", .int 2000])) (q2 : b - a + 1 ≤ 2000 → Q .non) : CallR CL CO CN CT CM 3 (.int (1 + n)) (.lst (obsL os)) (.int a) (.int b) t (ErQ CL CO CN CT CM Q) (Q .non) := by
  refine ⟨fun e => absurd e (by omega), fun e => absurd e (by omega), fun e => absurd e (by omega), fun _ => ?_, fun e => absurd e (by omega), by omega, by omega⟩
  refine num_zero n0 n1 h hl za zb ?_
  rw [spd_zero (by omega) h]
  exact ⟨fun lt => .inr ⟨rfl, rfl, q1 (by omega)⟩, fun le => q2 (by omega)⟩
theorem okA {n a b u : Int} {os : List (Int × Int)} (n0 : 0 ≤ n) (n1 : n < 40) (h : ∀ o ∈ os, o = (0, 0)) (hl : os.length ≤ 50) (za : a.natAbs < 2 ^ 1000) (zb : b.natAbs < 2 ^ 1000) (ab : b - a + 1 ≤ 2000) (u0 : 0 ≤ u) (zu : u.natAbs < 2 ^ 1000) (k0 : 0 ≤ k) (k4 : k ≤ 4) (q : Q .non) : CallR CL CO CN CT CM k (.int (1 + n)) (.lst (obsL os)) (.int a) (.int b) (.int u) (ErQ CL CO CN CT CM Q) (Q .non) := by
  have g : GoodR (.int (1 + n)) (.lst (obsL os)) (Q .non) := ⟨1 + n, os, rfl, ⟨by omega, Nat.lt_of_lt_of_le (show (1 + n).natAbs < 2 ^ 10 by omega) (Nat.pow_le_pow_right (by decide) (by decide))⟩, zero_ok h hl, ⟨0, 1, fit_zero h⟩, q⟩
  refine ⟨fun _ => chk_zero n0 h hl g, fun _ => chk_zero n0 h hl g, fun _ => num_zero n0 n1 h hl za zb q, fun _ => num_zero n0 n1 h hl za zb ?_, fun _ => num_zero n0 n1 h hl za zb ⟨rfl, fun e => ?_, fun _ => ⟨fun i e => by cases e; exact zu, q⟩⟩, k0, k4⟩
  · rw [spd_zero (by omega) h]
    exact ⟨fun lt => absurd lt (by omega), fun _ => q⟩
  · rw [show nnB (.int u) = decide (0 ≤ u) from rfl, decide_eq_true u0] at e
    cases e
end
/-! ### good, and what stands behind its begin -/
def zz5 : List (Int × Int) := [(0, 0), (0, 0), (0, 0), (0, 0), (0, 0)]
theorem zz5_h : ∀ o ∈ zz5, o = (0, 0) := by decide
def zz50 : List (Int × Int) := List.replicate 50 (0, 0)
theorem zz50_h : ∀ o ∈ zz50, o = (0, 0) := fun o h => (List.mem_replicate.mp h).2
theorem seen_pre {ps : List DL.D} {odd nx : DL.D} {a : Int} (h : ∀ y ∈ ps, y = .tup [.int 0, .int 0]) (hl : (ps.length : Int) = a) (h5 : ps.length ≤ 5) (bo : obsB odd = false) (ok : ObsOk odd) (on : ObsOk nx) : SeenBad (.lst (ps ++ [odd, nx])) (.int a) ∧ SeenBad (.tup (ps ++ [odd, nx])) (.int a) := by
  have e : badAt (ps ++ [odd, nx]) = some ps.length := by
    refine bad_some (y := odd) ?_ (fun z hz => ?_) bo
    · rw [List.getElem?_append_right (Nat.le_refl _), Nat.sub_self]; rfl
    · rw [List.take_left'  rfl] at hz
      rw [h z hz]; rfl
  have o : ∀ y ∈ ps ++ [odd, nx], ObsOk y := fun y hy => by
    rcases List.mem_append.mp hy with hy | hy
    · rw [h y hy]; exact ⟨rfl, rfl⟩
    · simp only [List.mem_cons, List.not_mem_nil, or_false] at hy
      rcases hy with rfl | rfl
      · exact ok
      · exact on
  have l : (ps ++ [odd, nx]).length ≤ 50 := by rw [List.length_append]; show ps.length + 2 ≤ 50; omega
  have r : ∃ i : Nat, badAt (ps ++ [odd, nx]) = some i ∧ (DL.D.int a) = .int i := ⟨_, e, by rw [hl]⟩
  exact ⟨.inr ⟨l, o, r⟩, .inr ⟨l, o, r⟩⟩
theorem cut_good {a : Int} (a0 : 0 ≤ a) (a5 : a < 5) : ∃ ps, cutD (obsL zz5) none (some a) = ps ∧ (∀ y ∈ ps, y = .tup [.int 0, .int 0]) ∧ (ps.length : Int) = a ∧ ps.length ≤ 5 := by
  have : a = 0 ∨ a = 1 ∨ a = 2 ∨ a = 3 ∨ a = 4 := by omega
  rcases this with rfl | rfl | rfl | rfl | rfl
  all_goals
    refine ⟨_, rfl, fun y hy => ?_, rfl, by decide⟩
    have hy := List.mem_of_mem_drop (List.mem_of_mem_take hy)
    obtain ⟨o, ho, rfl⟩ := List.mem_map.mp hy
    rw [zz5_h o ho]
theorem ne_same {x : DL.D} {m : Nat} {Q : QD} (hs : shD 59 x = true) (q : Q (.bl false)) : rNeQ (.lst (List.replicate m x)) (.lst (List.replicate m x)) Q := by
  have s : shD 60 (.lst (List.replicate m x)) = true := by
    show (List.replicate m x).all (shD 59) = true
    rw [List.all_eq_true]
    intro y hy
    rw [(List.mem_replicate.mp hy).2]
    exact hs
  refine rEq_by s s ?_
  rw [eqD_refl 60 _ s]
  exact q
theorem eq_same {x : DL.D} {m : Nat} {Q : QD} (hs : shD 59 x = true) (q : Q (.bl true)) : rEqQ (.lst (List.replicate m x)) (.lst (List.replicate m x)) Q := by
  have s : shD 60 (.lst (List.replicate m x)) = true := by
    show (List.replicate m x).all (shD 59) = true
    rw [List.all_eq_true]
    intro y hy
    rw [(List.mem_replicate.mp hy).2]
    exact hs
  refine rEq_by s s ?_
  rw [eqD_refl 60 _ s]
  exact q
theorem sh3 {a b c : DL.D} (h1 : shD 58 a = true) (h2 : shD 58 b = true) (h3 : shD 58 c = true) : shD 59 (.lst [a, b, c]) = true := by
  show (shD 58 a && (shD 58 b && (shD 58 c && true))) = true
  rw [h1, h2, h3]
  rfl
theorem sh2 {a b : DL.D} (h1 : shD 58 a = true) (h2 : shD 58 b = true) : shD 59 (.lst [a, b]) = true := by
  show (shD 58 a && (shD 58 b && true)) = true
  rw [h1, h2]
  rfl
theorem p1000 (i : Int) (h : i.natAbs < 2 ^ 20) : i.natAbs < 2 ^ 1000 := Nat.lt_of_lt_of_le h (Nat.pow_le_pow_right (by decide) (by decide))
theorem rEq_same {f : Bool → Bool} {x : Str} {Q : QD} (q : Q (.bl (f true))) : rEqD f (.str x) (.str x) Q := by
  show Q (.bl (f (decide (x = x))))
  rw [decide_eq_true rfl]
  exact q
theorem ok_law {f fd CL CO CN CT CM} (D : DefAt K mg "law" s_law ["script"] f fd) (m_range : mg "range" = none) (m_tuple : mg "tuple" = none) (G_law_pool : PoolDef P w K mg base) (G_law_draw : DefD P w K mg base "_law_draw" 1 sdDraw) (G_law_error : DefD P w K mg base "_law_error" 8 (sdErrE CL CO CN CT CM)) :
    LG.FnG P w K mg base (L2.CX P w) 9 f fd ["script"] (spD K (sdLaw K)) :=
  fnDG D.F sc_law (fun as Q E h => sdLaw_len as Q E h) fun cdv A outer s H E c g hr b => ⟨_, (dss_cons (d_newPool (i := 1) G_law_pool (hr.mono (by decide)) (d_var (pv 0)) sc_law.nd rfl (.inl rfl))
      (dss_cons (d_asg (d_tup (da_cons (d_op od_addA d_int (d_cN G_law_draw (hr.mono (by decide)) (da_name (pv 1) (da_cons d_int da_nil)))) (da_cons (d_cN G_law_draw (hr.mono (by decide)) (da_name (pv 1) (da_cons d_int da_nil))) da_nil))) (dg_tup rfl (dgs_cons (dg_name (pg_name (i := 2) sc_law.nd rfl (.inr rfl))) (dgs_cons (dg_name (pg_name (i := 3) sc_law.nd rfl (.inl rfl))) dgs_nil))))
      (dss_cons (d_for (passes_of rfl) rfl (di_seq (d_lst (da_cons d_non (da_cons d_int (da_cons (d_un ud_neg d_int) (da_cons d_str (da_cons d_bl (da_cons (d_tup (da_cons d_int (da_cons d_int da_nil))) (da_cons (d_lst (da_cons d_int da_nil)) da_nil))))))))) (dg_name (pg_name (i := 4) sc_law.nd rfl (.inr rfl)))
      (dss_one (d_ifS (dt_cmp (od_ne hr.units) (d_ofO (do_lc (own := [("kind", 9)]) (p := .n 9) rfl sc_law.nd (di_rng1 m_range (da_cons d_int da_nil)) (blkOk_by (N := N_law) (sc := defScope s_law) (by decide +kernel)) (fun _ _ _ _ _ => (dg_name (pg_name (i := 9) sc_law.nd rfl (.inl rfl)))) (fun _ _ _ _ _ => dts_nil) (fun _ _ _ _ _ => (d_cN G_law_error (hr.mono (by decide)) (da_name (pv 9) (da_name (pv 4) (da_cons d_non (da_cons d_non (da_cons d_non (da_cons d_non da_nil)))))))))) (d_op od_mulA (d_lst (da_cons d_str da_nil)) d_int))
      (dss_one (d_ret d_bl))
      dss_nil)))
      (dss_cons (d_asg (d_op od_mulA (d_lst (da_cons (d_tup (da_cons d_int (da_cons d_int da_nil))) da_nil)) d_int) (dg_name (pg_name (i := 5) sc_law.nd rfl (.inr rfl))))
      (dss_cons (d_for (passes_of rfl) rfl (di_seq (d_lst (da_cons d_non (da_cons d_int (da_cons (d_tup (da_cons d_int da_nil)) (da_cons (d_lst (da_cons d_int (da_cons d_int da_nil))) (da_cons (d_tup (da_cons (d_un ud_neg d_int) (da_cons d_int da_nil))) (da_cons (d_tup (da_cons d_int (da_cons d_bl da_nil))) (da_cons (d_tup (da_cons d_str (da_cons d_int da_nil))) (da_cons (d_tup (da_cons d_int (da_cons (d_tup (da_cons d_int (da_cons d_int da_nil))) da_nil))) (da_cons (d_tup (da_cons d_int (da_cons d_int (da_cons d_int da_nil)))) (da_cons (d_tup (da_cons d_bl (da_cons d_int da_nil))) da_nil)))))))))))) (dg_name (pg_name (i := 4) sc_law.nd rfl (.inr rfl)))
      (dss_one (d_for (passes_of rfl) rfl (di_seq (d_lst (da_cons (d_op od_addA (d_slice (d_var (pv 5)) dp_none (dp_some (d_var (pv 3)))) (d_lst (da_name (pv 4) (da_cons d_non da_nil)))) (da_cons (d_op od_addA (d_callTy cd_tuple m_tuple (da_cons (d_slice (d_var (pv 5)) dp_none (dp_some (d_var (pv 3)))) da_nil)) (d_tup (da_name (pv 4) (da_name (pv 4) da_nil)))) da_nil)))) (dg_name (pg_name (i := 6) sc_law.nd rfl (.inr rfl)))
      (dss_one (d_ifS (dt_cmp (od_ne hr.units) (d_ofO (do_lc (own := [("kind", 9)]) (p := .n 9) rfl sc_law.nd (di_rng1 m_range (da_cons d_int da_nil)) (blkOk_by (N := N_law) (sc := defScope s_law) (by decide +kernel)) (fun _ _ _ _ _ => (dg_name (pg_name (i := 9) sc_law.nd rfl (.inl rfl)))) (fun _ _ _ _ _ => dts_nil) (fun _ _ _ _ _ => (d_cN G_law_error (hr.mono (by decide)) (da_name (pv 9) (da_name (pv 2) (da_name (pv 6) (da_cons d_non (da_cons d_non (da_cons d_non da_nil)))))))))) (d_op od_mulA (d_lst (da_cons (d_lst (da_cons d_str (da_name (pv 3) (da_cons d_bl da_nil)))) da_nil)) d_int))
      (dss_one (d_ret d_bl))
      dss_nil)))))
      (dss_cons (d_for (passes_of rfl) rfl (di_seq (d_lst (da_cons d_non (da_cons d_int (da_cons d_str (da_cons d_dsp0 (da_cons d_bl (da_cons (d_op od_mulA (d_lst (da_cons (d_tup (da_cons d_int (da_cons d_int da_nil))) da_nil)) d_int) da_nil)))))))) (dg_name (pg_name (i := 4) sc_law.nd rfl (.inr rfl)))
      (dss_one (d_ifS (dt_cmp (od_ne hr.units) (d_ofO (do_lc (own := [("kind", 9)]) (p := .n 9) rfl sc_law.nd (di_rng1 m_range (da_cons d_int da_nil)) (blkOk_by (N := N_law) (sc := defScope s_law) (by decide +kernel)) (fun _ _ _ _ _ => (dg_name (pg_name (i := 9) sc_law.nd rfl (.inl rfl)))) (fun _ _ _ _ _ => dts_nil) (fun _ _ _ _ _ => (d_cN G_law_error (hr.mono (by decide)) (da_name (pv 9) (da_name (pv 2) (da_name (pv 4) (da_cons d_non (da_cons d_non (da_cons d_non da_nil)))))))))) (d_op od_mulA (d_lst (da_cons (d_lst (da_cons d_str (da_cons d_non (da_cons d_bl da_nil)))) da_nil)) d_int))
      (dss_one (d_ret d_bl))
      dss_nil)))
      (dss_cons (d_for (passes_of rfl) rfl (di_seq (d_lst (da_cons d_non (da_cons d_str (da_cons d_bl (da_cons (d_tup (da_cons d_int (da_cons d_int da_nil))) (da_cons (d_lst (da_cons d_int da_nil)) da_nil))))))) (dg_name (pg_name (i := 4) sc_law.nd rfl (.inr rfl)))
      (dss_cons (d_ifS (dt_cmp (od_ne hr.units) (d_ofO (do_lc (own := [("kind", 9)]) (p := .n 9) rfl sc_law.nd (di_seq (d_lst (da_cons d_int (da_cons d_int (da_cons d_int da_nil))))) (blkOk_by (N := N_law) (sc := defScope s_law) (by decide +kernel)) (fun _ _ _ _ _ => (dg_name (pg_name (i := 9) sc_law.nd rfl (.inl rfl)))) (fun _ _ _ _ _ => dts_nil) (fun _ _ _ _ _ => (d_cN G_law_error (hr.mono (by decide)) (da_name (pv 9) (da_name (pv 2) (da_name (pv 5) (da_name (pv 4) (da_cons d_non (da_cons d_non da_nil)))))))))) (d_op od_mulA (d_lst (da_cons d_str da_nil)) d_int))
      (dss_one (d_ret d_bl))
      dss_nil)
      (dss_one (d_ifS (dt_cmp (od_ne hr.units) (d_ofO (do_lc (own := [("kind", 9)]) (p := .n 9) rfl sc_law.nd (di_seq (d_lst (da_cons d_int (da_cons d_int (da_cons d_int da_nil))))) (blkOk_by (N := N_law) (sc := defScope s_law) (by decide +kernel)) (fun _ _ _ _ _ => (dg_name (pg_name (i := 9) sc_law.nd rfl (.inl rfl)))) (fun _ _ _ _ _ => dts_nil) (fun _ _ _ _ _ => (d_cN G_law_error (hr.mono (by decide)) (da_name (pv 9) (da_name (pv 2) (da_name (pv 5) (da_cons d_int (da_name (pv 4) (da_cons d_non da_nil)))))))))) (d_op od_mulA (d_lst (da_cons d_str da_nil)) d_int))
      (dss_one (d_ret d_bl))
      dss_nil))))
      (dss_cons (d_for (passes_of rfl) rfl (di_seq (d_lst (da_cons d_non (da_cons (d_un ud_neg d_int) (da_cons d_str (da_cons d_bl (da_cons (d_tup (da_cons d_int (da_cons d_int da_nil))) da_nil))))))) (dg_name (pg_name (i := 4) sc_law.nd rfl (.inr rfl)))
      (dss_one (d_ifS (dt_cmp (od_ne hr.units) (d_cN G_law_error (hr.mono (by decide)) (da_cons d_int (da_name (pv 2) (da_name (pv 5) (da_cons d_int (da_cons d_int (da_name (pv 4) da_nil))))))) d_str)
      (dss_one (d_ret d_bl))
      dss_nil)))
      (dss_cons (d_asg (d_op od_sub (d_cN G_law_draw (hr.mono (by decide)) (da_name (pv 1) (da_cons (d_op od_pow d_int d_int) da_nil))) (d_op od_pow d_int d_int)) (dg_name (pg_name (i := 7) sc_law.nd rfl (.inr rfl))))
      (dss_cons (d_ifS (dt_cmp (od_ne hr.units) (d_ofO (do_lc (own := [("more", 8)]) (p := .n 8) rfl sc_law.nd (di_seq (d_lst (da_cons d_int (da_cons (d_op od_pow d_int d_int) da_nil)))) (blkOk_by (N := N_law) (sc := defScope s_law) (by decide +kernel)) (fun _ _ _ _ _ => (dg_name (pg_name (i := 8) sc_law.nd rfl (.inl rfl)))) (fun _ _ _ _ _ => dts_nil) (fun _ _ _ _ _ => (d_cN G_law_error (hr.mono (by decide)) (da_cons d_int (da_name (pv 2) (da_cons (d_lst da_nil) (da_name (pv 7) (da_cons (d_op od_addA (d_var (pv 7)) (d_var (pv 8))) (da_cons d_int da_nil)))))))))) (d_op od_mulA (d_lst (da_cons (d_lst (da_cons d_str (da_cons d_int da_nil))) da_nil)) d_int))
      (dss_one (d_ret d_bl))
      dss_nil)
      (dss_cons (d_ifS (dt_cmp od_isnot (d_cN G_law_error (hr.mono (by decide)) (da_cons d_int (da_name (pv 2) (da_cons (d_lst da_nil) (da_name (pv 7) (da_cons (d_op od_addA (d_var (pv 7)) d_int) (da_cons d_int da_nil))))))) d_non)
      (dss_one (d_ret d_bl))
      dss_nil)
      (dss_one (d_ret (d_cmp (od_eq hr.units) (d_ofO (do_lc (own := [("kind", 9)]) (p := .n 9) rfl sc_law.nd (di_rng1 m_range (da_cons d_int da_nil)) (blkOk_by (N := N_law) (sc := defScope s_law) (by decide +kernel)) (fun _ _ _ _ _ => (dg_name (pg_name (i := 9) sc_law.nd rfl (.inl rfl)))) (fun _ _ _ _ _ => dts_nil) (fun _ _ _ _ _ => (d_cN G_law_error (hr.mono (by decide)) (da_name (pv 9) (da_name (pv 2) (da_cons (d_op od_mulA (d_lst (da_cons (d_tup (da_cons d_int (da_cons d_int da_nil))) da_nil)) d_int) (da_cons d_int (da_cons d_int (da_cons d_int da_nil)))))))))) (d_op od_mulA (d_lst (da_cons d_non da_nil)) d_int))))))))))))))), fun as Qd Ed h => by
    unfold sdLaw at h
    split at h
    · rename_i R
      obtain ⟨rfl, q⟩ := h
      refine ⟨rfl, ?_⟩
      refine ⟨drw (b := 20) (by decide) (by decide), fun n n0 n1 => ?_⟩
      refine ⟨drw (b := 20) (by decide) (by decide), fun a a0 a1 => ?_⟩
      -- the lengths
      refine ⟨fun i ss => ∃ o4 o5 o6 o7 o8 o9 : Sl, ss = [.d (.is (isScr K)), .pool, .d (.int (1 + n)), .d (.int a), o4, o5, o6, o7, o8, o9], ⟨_, _, _, _, _, _, rfl⟩, ?_, ?_⟩
      · rintro i d _ hd ⟨o4, o5, o6, o7, o8, o9, rfl⟩
        have hd := List.mem_of_getElem? hd
        have bad : lenB d = false ∧ (kindD d).isSome = true := by
          simp only [List.mem_cons, List.not_mem_nil, or_false] at hd
          rcases hd with rfl | rfl | rfl | rfl | rfl | rfl | rfl <;> exact ⟨rfl, rfl⟩
        refine ⟨⟨by decide, by decide⟩, lc_by (onInt fun _ => [.str "length"]) (by rw [rngD_len]; decide) (fun y hy acc J hJ => ?_) ?_⟩
        · obtain ⟨k, hk, rfl⟩ := rng_mem hy
          exact errL bad.1 bad.2 (by omega) (by omega) hJ
        · refine ⟨by decide, by decide, by decide, ?_⟩
          refine ne_same (x := .str "length") (m := 5) (by decide +kernel) ?_
          exact ⟨_, _, _, _, _, _, rfl⟩
      rintro _ ⟨o4, o5, o6, o7, o8, o9, rfl⟩
      refine ⟨by decide, by decide, by decide, ?_⟩
      -- the observations
      refine ⟨fun i ss => ∃ o4 o6 o7 o8 o9 : Sl, ss = [.d (.is (isScr K)), .pool, .d (.int (1 + n)), .d (.int a), o4, .d (.lst (obsL zz5)), o6, o7, o8, o9], ⟨_, _, _, _, _, rfl⟩, ?_, ?_⟩
      · rintro i d _ hd ⟨o4, o6, o7, o8, o9, rfl⟩
        have hd := List.mem_of_getElem? hd
        have bad : obsB d = false ∧ ObsOk d := by
          simp only [List.mem_cons, List.not_mem_nil, or_false] at hd
          rcases hd with rfl | rfl | rfl | rfl | rfl | rfl | rfl | rfl | rfl | rfl <;> first | exact ⟨rfl, rfl⟩ | exact ⟨rfl, rfl, rfl⟩
        obtain ⟨ps, ep, hp, lp, l5⟩ := cut_good a0 a1
        have lz : ps.length + 2 ≤ sizeLine := Nat.le_trans (show ps.length + 2 ≤ 7 by omega) (by decide)
        refine ⟨by rw [ep]; exact lz, by rw [ep]; exact lz, ?_⟩
        refine ⟨fun i ss => ∃ o6 o7 o8 o9 : Sl, ss = [.d (.is (isScr K)), .pool, .d (.int (1 + n)), .d (.int a), .d d, .d (.lst (obsL zz5)), o6, o7, o8, o9], ⟨_, _, _, _, rfl⟩, ?_, ?_⟩
        · rintro i2 s _ hs ⟨o6, o7, o8, o9, rfl⟩
          have hs := List.mem_of_getElem? hs
          rw [ep] at hs
          have sb : SeenBad s (.int a) := by
            simp only [List.mem_cons, List.not_mem_nil, or_false] at hs
            rcases hs with rfl | rfl
            · exact (seen_pre (nx := .non) hp lp l5 bad.1 bad.2 rfl).1
            · exact (seen_pre hp lp l5 bad.1 bad.2 bad.2).2
          refine ⟨⟨by decide, by decide⟩, lc_by (onInt fun _ => [.lst [.str "seen", .int a, .bl true]]) (by rw [rngD_len]; decide) (fun y hy acc J hJ => ?_) ?_⟩
          · obtain ⟨k, hk, rfl⟩ := rng_mem hy
            exact errO n0 sb (by omega) (by omega) hJ
          · refine ⟨(by decide : 1 * 5 ≤ 100000), by decide, by decide, ?_⟩
            refine ne_same (x := .lst [.str "seen", .int a, .bl true]) (m := 5) (sh3 (by decide +kernel) rfl rfl) ?_
            exact ⟨_, _, _, _, rfl⟩
        · rintro _ ⟨o6, o7, o8, o9, rfl⟩
          exact ⟨_, _, _, _, _, rfl⟩
      rintro _ ⟨o4, o6, o7, o8, o9, rfl⟩
      refine ⟨by decide, by decide, by decide, ?_⟩
      -- no list of observations
      refine ⟨fun i ss => ∃ o4 o6 o7 o8 o9 : Sl, ss = [.d (.is (isScr K)), .pool, .d (.int (1 + n)), .d (.int a), o4, .d (.lst (obsL zz5)), o6, o7, o8, o9], ⟨_, _, _, _, _, rfl⟩, ?_, ?_⟩
      · rintro i d _ hd ⟨o4, o6, o7, o8, o9, rfl⟩
        have hd := List.mem_of_getElem? hd
        have sb : SeenBad d .non := by
          simp only [List.mem_cons, List.not_mem_nil, or_false] at hd
          rcases hd with rfl | rfl | rfl | rfl | rfl | rfl
          · exact ⟨rfl, rfl⟩
          · exact ⟨rfl, rfl⟩
          · exact ⟨rfl, rfl⟩
          · exact ⟨rfl, rfl⟩
          · exact ⟨rfl, rfl⟩
          · exact .inl ⟨by decide, rfl⟩
        refine ⟨⟨by decide, by decide⟩, lc_by (onInt fun _ => [.lst [.str "seen", .non, .bl true]]) (by rw [rngD_len]; decide) (fun y hy acc J hJ => ?_) ?_⟩
        · obtain ⟨k, hk, rfl⟩ := rng_mem hy
          exact errO n0 sb (by omega) (by omega) hJ
        · refine ⟨by decide, by decide, by decide, ?_⟩
          refine ne_same (x := .lst [.str "seen", .non, .bl true]) (m := 5) (sh3 (by decide +kernel) rfl rfl) ?_
          exact ⟨_, _, _, _, _, rfl⟩
      rintro _ ⟨o4, o6, o7, o8, o9, rfl⟩
      -- bounds
      refine ⟨fun i ss => ∃ o4 o6 o7 o8 o9 : Sl, ss = [.d (.is (isScr K)), .pool, .d (.int (1 + n)), .d (.int a), o4, .d (.lst (obsL zz5)), o6, o7, o8, o9], ⟨_, _, _, _, _, rfl⟩, ?_, ?_⟩
      · rintro i d _ hd ⟨o4, o6, o7, o8, o9, rfl⟩
        have hd := List.mem_of_getElem? hd
        have bad : isIntD d = false ∧ (kindD d).isSome = true := by
          simp only [List.mem_cons, List.not_mem_nil, or_false] at hd
          rcases hd with rfl | rfl | rfl | rfl | rfl <;> exact ⟨rfl, rfl⟩
        have k24 : ∀ y : DL.D, y ∈ [DL.D.int 2, .int 3, .int 4] → ∃ k : Int, y = .int k ∧ 2 ≤ k ∧ k ≤ 4 := fun y hy => by
          simp only [List.mem_cons, List.not_mem_nil, or_false] at hy
          rcases hy with rfl | rfl | rfl <;> exact ⟨_, rfl, by decide, by decide⟩
        refine lc_by (onInt fun _ => [.str "number"]) (by decide) (fun y hy acc J hJ => ?_) ?_
        · obtain ⟨k, rfl, k2, k4⟩ := k24 y hy
          exact errN (os := zz5) n0 zz5_h (by decide) bad.2 rfl (by rw [bad.1]; rfl) k2 k4 hJ
        refine ⟨by decide, by decide, by decide, ?_⟩
        refine ne_same (x := .str "number") (m := 3) (by decide +kernel) ?_
        refine lc_by (onInt fun _ => [.str "number"]) (by decide) (fun y hy acc J hJ => ?_) ?_
        · obtain ⟨k, rfl, k2, k4⟩ := k24 y hy
          exact errN (os := zz5) n0 zz5_h (by decide) rfl bad.2 (by rw [bad.1]; rfl) k2 k4 hJ
        refine ⟨by decide, by decide, by decide, ?_⟩
        refine ne_same (x := .str "number") (m := 3) (by decide +kernel) ?_
        exact ⟨_, _, _, _, _, rfl⟩
      rintro _ ⟨o4, o6, o7, o8, o9, rfl⟩
      -- times
      refine ⟨fun i ss => ∃ o4 o6 o7 o8 o9 : Sl, ss = [.d (.is (isScr K)), .pool, .d (.int (1 + n)), .d (.int a), o4, .d (.lst (obsL zz5)), o6, o7, o8, o9], ⟨_, _, _, _, _, rfl⟩, ?_, ?_⟩
      · rintro i d _ hd ⟨o4, o6, o7, o8, o9, rfl⟩
        have hd := List.mem_of_getElem? hd
        have bad : nnB d = false ∧ (kindD d).isSome = true := by
          simp only [List.mem_cons, List.not_mem_nil, or_false] at hd
          rcases hd with rfl | rfl | rfl | rfl | rfl <;> exact ⟨rfl, rfl⟩
        refine errT (os := zz5) n0 (by omega) zz5_h (by decide) (p1000 _ (by decide)) (p1000 _ (by decide)) bad.2 bad.1 ?_
        simp only [tdC]
        refine rEq_same (f := fun b => !b) ?_
        exact ⟨_, _, _, _, _, rfl⟩
      rintro _ ⟨o4, o6, o7, o8, o9, rfl⟩
      -- too many speeds
      refine ⟨⟨by decide, by decide, by decide⟩, drw (b := 80) (by decide) (by decide), fun v v0 v1 => ⟨⟨by decide, by decide, by decide⟩, ?_⟩⟩
      have e20 : (10 : Int) ^ (20 : Int).toNat = 100000000000000000000 := by decide
      have e19 : (10 : Int) ^ (19 : Int).toNat = 10000000000000000000 := by decide
      have e30 : (10 : Int) ^ (30 : Int).toNat = 1000000000000000000000000000000 := by decide
      have b100 : (2 : Nat) ^ 100 = 1267650600228229401496703205376 := by decide
      have zl : ∀ k : Int, 0 ≤ k → k ≤ 1000000000000000000000000000000 → (v - (10 : Int) ^ (19 : Int).toNat + k).natAbs < 2 ^ 1000 := fun k k0 k1 => by
        refine Nat.lt_of_lt_of_le (m := 2 ^ 100) ?_ (Nat.pow_le_pow_right (by decide) (by decide))
        rw [e19, b100]
        rw [e20] at v1
        omega
      have zl0 : (v - (10 : Int) ^ (19 : Int).toNat).natAbs < 2 ^ 1000 := by have := zl 0 (by omega) (by omega); rw [Int.add_zero] at this; exact this
      refine ⟨⟨by decide, by decide, by decide⟩, lc_by (onInt fun _ => [.lst [.str "limit", .int 2000]]) (by decide) (fun y hy acc J hJ => ?_) ?_⟩
      · have hm : ∃ k : Int, y = .int k ∧ 2000 ≤ k ∧ k ≤ 1000000000000000000000000000000 := by
          simp only [List.mem_cons, List.not_mem_nil, or_false] at hy
          rcases hy with rfl | rfl
          · exact ⟨_, rfl, by decide, by decide⟩
          · exact ⟨_, rfl, by rw [e30]; decide, by rw [e30]; decide⟩
        obtain ⟨k, rfl, k0, k1⟩ := hm
        exact errM (os := []) n0 (by omega) (fun _ h => nomatch h) (by decide) zl0 (zl k (by omega) k1) (fun _ => hJ) (fun h => absurd h (by omega))
      refine ⟨by decide, by decide, by decide, ?_⟩
      refine ne_same (x := .lst [.str "limit", .int 2000]) (m := 2) (sh2 (by decide +kernel) rfl) ?_
      refine errM (os := []) n0 (by omega) (fun _ h => nomatch h) (by decide) zl0 (zl 1999 (by omega) (by omega)) (fun h => absurd h (by omega)) (fun _ => ?_)
      -- all is well
      refine ⟨⟨by decide, by decide⟩, lc_by (onInt fun _ => [.non]) (by rw [rngD_len]; decide) (fun y hy acc J hJ => ?_) ?_⟩
      · obtain ⟨k, hk, rfl⟩ := rng_mem hy
        refine ⟨by decide, by decide, by decide, ?_⟩
        exact okA (os := zz50) n0 (by omega) zz50_h (by decide) (p1000 _ (by decide)) (p1000 _ (by decide)) (by decide) (by decide) (p1000 _ (by decide)) (by omega) (by omega) hJ
      refine ⟨by decide, by decide, by decide, ?_⟩
      exact eq_same (x := .non) (m := 5) rfl q
    · exact h.elim⟩
end
end LR
set_option Elab.async false
set_option linter.all false
set_option maxRecDepth 100000
set_option maxHeartbeats 8000000
namespace LR
open PySem PySem.Spec PyProof.Rows L2 DL
theorem sci_InvalidObservation : FnScope ["self", "index"] ["self", "index"] (defScope (inClass c_InvalidObservation 0)) := ⟨rfl, rfl, rfl, by decide +kernel, rfl, by decide +kernel, by decide +kernel⟩
theorem sci_LimitExceeded : FnScope ["self", "limit"] ["self", "limit"] (defScope (inClass c_LimitExceeded 0)) := ⟨rfl, rfl, rfl, by decide +kernel, rfl, by decide +kernel, by decide +kernel⟩
theorem all_mk {P : Program} {w : World} {K : PySem.W.Frag} {mg : Str → Option Value} {h : Heap} {fa : Addr} {f_is_integer : Addr} {oc_is_integer : Value} {od_is_integer an_is_integer : Option Addr} {sl_is_integer : Array (Option Value)} {kV_is_integer dc_is_integer pm_is_integer cd_is_integer ct_is_integer : Value}
    {f_inverse : Addr} {oc_inverse : Value} {od_inverse an_inverse : Option Addr} {sl_inverse : Array (Option Value)} {kV_inverse dc_inverse pm_inverse cd_inverse ct_inverse : Value}
    {f_solved : Addr} {oc_solved : Value} {od_solved an_solved : Option Addr} {sl_solved : Array (Option Value)} {kV_solved dc_solved pm_solved cd_solved ct_solved : Value}
    {f_common : Addr} {oc_common : Value} {od_common an_common : Option Addr} {sl_common : Array (Option Value)} {kV_common dc_common pm_common cd_common ct_common : Value}
    {f_sums_of : Addr} {oc_sums_of : Value} {od_sums_of an_sums_of : Option Addr} {sl_sums_of : Array (Option Value)} {kV_sums_of dc_sums_of pm_sums_of cd_sums_of ct_sums_of : Value}
    {f_is_observation : Addr} {oc_is_observation : Value} {od_is_observation an_is_observation : Option Addr} {sl_is_observation : Array (Option Value)} {kV_is_observation dc_is_observation pm_is_observation cd_is_observation ct_is_observation : Value}
    {f_check : Addr} {oc_check : Value} {od_check an_check : Option Addr} {sl_check : Array (Option Value)} {kV_check dc_check pm_check cd_check ct_check : Value}
    {f_fitting : Addr} {oc_fitting : Value} {od_fitting an_fitting : Option Addr} {sl_fitting : Array (Option Value)} {kV_fitting dc_fitting pm_fitting cd_fitting ct_fitting : Value}
    {f_fitting_speeds : Addr} {oc_fitting_speeds : Value} {od_fitting_speeds an_fitting_speeds : Option Addr} {sl_fitting_speeds : Array (Option Value)} {kV_fitting_speeds dc_fitting_speeds pm_fitting_speeds cd_fitting_speeds ct_fitting_speeds : Value}
    {f_is_no_speed : Addr} {oc_is_no_speed : Value} {od_is_no_speed an_is_no_speed : Option Addr} {sl_is_no_speed : Array (Option Value)} {kV_is_no_speed dc_is_no_speed pm_is_no_speed cd_is_no_speed ct_is_no_speed : Value}
    {f_speeds : Addr} {oc_speeds : Value} {od_speeds an_speeds : Option Addr} {sl_speeds : Array (Option Value)} {kV_speeds dc_speeds pm_speeds cd_speeds ct_speeds : Value}
    {f_count_speeds : Addr} {oc_count_speeds : Value} {od_count_speeds an_count_speeds : Option Addr} {sl_count_speeds : Array (Option Value)} {kV_count_speeds dc_count_speeds pm_count_speeds cd_count_speeds ct_count_speeds : Value}
    {f_speeds_between : Addr} {oc_speeds_between : Value} {od_speeds_between an_speeds_between : Option Addr} {sl_speeds_between : Array (Option Value)} {kV_speeds_between dc_speeds_between pm_speeds_between cd_speeds_between ct_speeds_between : Value}
    {f_next_look : Addr} {oc_next_look : Value} {od_next_look an_next_look : Option Addr} {sl_next_look : Array (Option Value)} {dc_next_look pm_next_look cd_next_look ct_next_look : Value}
    {KD_next_look : Addr} {kt_next_look0 : Tok}
    {f_law_pool : Addr} {oc_law_pool : Value} {od_law_pool an_law_pool : Option Addr} {sl_law_pool : Array (Option Value)} {kV_law_pool dc_law_pool pm_law_pool cd_law_pool ct_law_pool : Value}
    {f_law_draw : Addr} {oc_law_draw : Value} {od_law_draw an_law_draw : Option Addr} {sl_law_draw : Array (Option Value)} {kV_law_draw dc_law_draw pm_law_draw cd_law_draw ct_law_draw : Value}
    {f_law_call : Addr} {oc_law_call : Value} {od_law_call an_law_call : Option Addr} {sl_law_call : Array (Option Value)} {kV_law_call dc_law_call pm_law_call cd_law_call ct_law_call : Value}
    {f_law_error : Addr} {oc_law_error : Value} {od_law_error an_law_error : Option Addr} {sl_law_error : Array (Option Value)} {kV_law_error dc_law_error pm_law_error cd_law_error ct_law_error : Value}
    {f_law : Addr} {oc_law : Value} {od_law an_law : Option Addr} {sl_law : Array (Option Value)} {kV_law dc_law pm_law cd_law ct_law : Value}
    {ct_MOST_OBSERVATIONS : Tok}
    {ct_MOST_SPEEDS : Tok}
    {cD_InvalidLength : ClassData}
    {C_InvalidLength : Addr}
    {cD_InvalidNumber : ClassData}
    {C_InvalidNumber : Addr}
    {cD_InvalidTime : ClassData}
    {C_InvalidTime : Addr}
    {C_InvalidObservation fI_InvalidObservation N_InvalidObservation : Addr} {nm_InvalidObservation qn_InvalidObservation : Str} {bs_InvalidObservation sub_InvalidObservation : List Value} {sn_InvalidObservation : List Str} {ab_InvalidObservation : Bool} {col_InvalidObservation : Option Bool} {dd_InvalidObservation odI_InvalidObservation anI_InvalidObservation : Option Addr} {m0_InvalidObservation m1_InvalidObservation m2_InvalidObservation m3_InvalidObservation m5_InvalidObservation : Option Value} {slI_InvalidObservation : Array (Option Value)} {ocI_InvalidObservation kVI_InvalidObservation dcI_InvalidObservation pmI_InvalidObservation cdI_InvalidObservation ctI_InvalidObservation : Value}
    {C_LimitExceeded fI_LimitExceeded N_LimitExceeded : Addr} {nm_LimitExceeded qn_LimitExceeded : Str} {bs_LimitExceeded sub_LimitExceeded : List Value} {sn_LimitExceeded : List Str} {ab_LimitExceeded : Bool} {col_LimitExceeded : Option Bool} {dd_LimitExceeded odI_LimitExceeded anI_LimitExceeded : Option Addr} {m0_LimitExceeded m1_LimitExceeded m2_LimitExceeded m3_LimitExceeded m5_LimitExceeded : Option Value} {slI_LimitExceeded : Array (Option Value)} {ocI_LimitExceeded kVI_LimitExceeded dcI_LimitExceeded pmI_LimitExceeded cdI_LimitExceeded ctI_LimitExceeded : Value}
    (X : K.In h) (G : h.Ns mainGlobals mg) (hfa : mg "law" = some (.ref fa))
    (a_is_integer : PySem.W.nsIn K mainGlobals "is_integer" = some (some (.ref f_is_integer))) (l_is_integer : K.lookup f_is_integer = some ⟨oc_is_integer, od_is_integer, .func (PySem.W.fnOf "is_integer" "is_integer" (defArgs (topS 13)) (defBody (topS 13)) (defScope (topS 13)) .none kV_is_integer dc_is_integer pm_is_integer an_is_integer cd_is_integer ct_is_integer), sl_is_integer⟩) (c_is_integer : PySem.W.codeIn K cd_is_integer "is_integer" = true) (k_is_integer : PySem.W.keepIn K (.ref f_is_integer) = true)
    (a_inverse : PySem.W.nsIn K mainGlobals "_inverse" = some (some (.ref f_inverse))) (l_inverse : K.lookup f_inverse = some ⟨oc_inverse, od_inverse, .func (PySem.W.fnOf "_inverse" "_inverse" (defArgs (topS 4)) (defBody (topS 4)) (defScope (topS 4)) .none kV_inverse dc_inverse pm_inverse an_inverse cd_inverse ct_inverse), sl_inverse⟩) (c_inverse : PySem.W.codeIn K cd_inverse "_inverse" = true) (k_inverse : PySem.W.keepIn K (.ref f_inverse) = true)
    (a_solved : PySem.W.nsIn K mainGlobals "solved" = some (some (.ref f_solved))) (l_solved : K.lookup f_solved = some ⟨oc_solved, od_solved, .func (PySem.W.fnOf "solved" "solved" (defArgs (topS 2)) (defBody (topS 2)) (defScope (topS 2)) .none kV_solved dc_solved pm_solved an_solved cd_solved ct_solved), sl_solved⟩) (c_solved : PySem.W.codeIn K cd_solved "solved" = true) (k_solved : PySem.W.keepIn K (.ref f_solved) = true)
    (a_common : PySem.W.nsIn K mainGlobals "common" = some (some (.ref f_common))) (l_common : K.lookup f_common = some ⟨oc_common, od_common, .func (PySem.W.fnOf "common" "common" (defArgs (topS 3)) (defBody (topS 3)) (defScope (topS 3)) .none kV_common dc_common pm_common an_common cd_common ct_common), sl_common⟩) (c_common : PySem.W.codeIn K cd_common "common" = true) (k_common : PySem.W.keepIn K (.ref f_common) = true)
    (a_sums_of : PySem.W.nsIn K mainGlobals "sums_of" = some (some (.ref f_sums_of))) (l_sums_of : K.lookup f_sums_of = some ⟨oc_sums_of, od_sums_of, .func (PySem.W.fnOf "sums_of" "sums_of" (defArgs (topS 16)) (defBody (topS 16)) (defScope (topS 16)) .none kV_sums_of dc_sums_of pm_sums_of an_sums_of cd_sums_of ct_sums_of), sl_sums_of⟩) (c_sums_of : PySem.W.codeIn K cd_sums_of "sums_of" = true) (k_sums_of : PySem.W.keepIn K (.ref f_sums_of) = true)
    (a_is_observation : PySem.W.nsIn K mainGlobals "_is_observation" = some (some (.ref f_is_observation))) (l_is_observation : K.lookup f_is_observation = some ⟨oc_is_observation, od_is_observation, .func (PySem.W.fnOf "_is_observation" "_is_observation" (defArgs (topS 26)) (defBody (topS 26)) (defScope (topS 26)) .none kV_is_observation dc_is_observation pm_is_observation an_is_observation cd_is_observation ct_is_observation), sl_is_observation⟩) (c_is_observation : PySem.W.codeIn K cd_is_observation "_is_observation" = true) (k_is_observation : PySem.W.keepIn K (.ref f_is_observation) = true)
    (a_check : PySem.W.nsIn K mainGlobals "_check" = some (some (.ref f_check))) (l_check : K.lookup f_check = some ⟨oc_check, od_check, .func (PySem.W.fnOf "_check" "_check" (defArgs (topS 25)) (defBody (topS 25)) (defScope (topS 25)) .none kV_check dc_check pm_check an_check cd_check ct_check), sl_check⟩) (c_check : PySem.W.codeIn K cd_check "_check" = true) (k_check : PySem.W.keepIn K (.ref f_check) = true)
    (a_fitting : PySem.W.nsIn K mainGlobals "_fitting" = some (some (.ref f_fitting))) (l_fitting : K.lookup f_fitting = some ⟨oc_fitting, od_fitting, .func (PySem.W.fnOf "_fitting" "_fitting" (defArgs (topS 27)) (defBody (topS 27)) (defScope (topS 27)) .none kV_fitting dc_fitting pm_fitting an_fitting cd_fitting ct_fitting), sl_fitting⟩) (c_fitting : PySem.W.codeIn K cd_fitting "_fitting" = true) (k_fitting : PySem.W.keepIn K (.ref f_fitting) = true)
    (a_fitting_speeds : PySem.W.nsIn K mainGlobals "fitting_speeds" = some (some (.ref f_fitting_speeds))) (l_fitting_speeds : K.lookup f_fitting_speeds = some ⟨oc_fitting_speeds, od_fitting_speeds, .func (PySem.W.fnOf "fitting_speeds" "fitting_speeds" (defArgs (topS 20)) (defBody (topS 20)) (defScope (topS 20)) .none kV_fitting_speeds dc_fitting_speeds pm_fitting_speeds an_fitting_speeds cd_fitting_speeds ct_fitting_speeds), sl_fitting_speeds⟩) (c_fitting_speeds : PySem.W.codeIn K cd_fitting_speeds "fitting_speeds" = true) (k_fitting_speeds : PySem.W.keepIn K (.ref f_fitting_speeds) = true)
    (a_is_no_speed : PySem.W.nsIn K mainGlobals "is_no_speed" = some (some (.ref f_is_no_speed))) (l_is_no_speed : K.lookup f_is_no_speed = some ⟨oc_is_no_speed, od_is_no_speed, .func (PySem.W.fnOf "is_no_speed" "is_no_speed" (defArgs (topS 21)) (defBody (topS 21)) (defScope (topS 21)) .none kV_is_no_speed dc_is_no_speed pm_is_no_speed an_is_no_speed cd_is_no_speed ct_is_no_speed), sl_is_no_speed⟩) (c_is_no_speed : PySem.W.codeIn K cd_is_no_speed "is_no_speed" = true) (k_is_no_speed : PySem.W.keepIn K (.ref f_is_no_speed) = true)
    (a_speeds : PySem.W.nsIn K mainGlobals "_speeds" = some (some (.ref f_speeds))) (l_speeds : K.lookup f_speeds = some ⟨oc_speeds, od_speeds, .func (PySem.W.fnOf "_speeds" "_speeds" (defArgs (topS 30)) (defBody (topS 30)) (defScope (topS 30)) .none kV_speeds dc_speeds pm_speeds an_speeds cd_speeds ct_speeds), sl_speeds⟩) (c_speeds : PySem.W.codeIn K cd_speeds "_speeds" = true) (k_speeds : PySem.W.keepIn K (.ref f_speeds) = true)
    (a_count_speeds : PySem.W.nsIn K mainGlobals "count_speeds" = some (some (.ref f_count_speeds))) (l_count_speeds : K.lookup f_count_speeds = some ⟨oc_count_speeds, od_count_speeds, .func (PySem.W.fnOf "count_speeds" "count_speeds" (defArgs (topS 22)) (defBody (topS 22)) (defScope (topS 22)) .none kV_count_speeds dc_count_speeds pm_count_speeds an_count_speeds cd_count_speeds ct_count_speeds), sl_count_speeds⟩) (c_count_speeds : PySem.W.codeIn K cd_count_speeds "count_speeds" = true) (k_count_speeds : PySem.W.keepIn K (.ref f_count_speeds) = true)
    (a_speeds_between : PySem.W.nsIn K mainGlobals "speeds_between" = some (some (.ref f_speeds_between))) (l_speeds_between : K.lookup f_speeds_between = some ⟨oc_speeds_between, od_speeds_between, .func (PySem.W.fnOf "speeds_between" "speeds_between" (defArgs (topS 23)) (defBody (topS 23)) (defScope (topS 23)) .none kV_speeds_between dc_speeds_between pm_speeds_between an_speeds_between cd_speeds_between ct_speeds_between), sl_speeds_between⟩) (c_speeds_between : PySem.W.codeIn K cd_speeds_between "speeds_between" = true) (k_speeds_between : PySem.W.keepIn K (.ref f_speeds_between) = true)
    (a_next_look : PySem.W.nsIn K mainGlobals "next_look" = some (some (.ref f_next_look))) (l_next_look : K.lookup f_next_look = some ⟨oc_next_look, od_next_look, .func (PySem.W.fnOf "next_look" "next_look" (defArgs (topS 24)) (defBody (topS 24)) (defScope (topS 24)) .none (.ref KD_next_look) dc_next_look pm_next_look an_next_look cd_next_look ct_next_look), sl_next_look⟩) (c_next_look : PySem.W.codeIn K cd_next_look "next_look" = true) (k_next_look : PySem.W.keepIn K (.ref f_next_look) = true)
    (kd_next_look0 : PySem.W.nsIn K KD_next_look "after" = some (some (.int 0 kt_next_look0)))
    (a_law_pool : PySem.W.nsIn K mainGlobals "_law_pool" = some (some (.ref f_law_pool))) (l_law_pool : K.lookup f_law_pool = some ⟨oc_law_pool, od_law_pool, .func (PySem.W.fnOf "_law_pool" "_law_pool" (defArgs (topS 32)) (defBody (topS 32)) (defScope (topS 32)) .none kV_law_pool dc_law_pool pm_law_pool an_law_pool cd_law_pool ct_law_pool), sl_law_pool⟩) (c_law_pool : PySem.W.codeIn K cd_law_pool "_law_pool" = true) (k_law_pool : PySem.W.keepIn K (.ref f_law_pool) = true)
    (a_law_draw : PySem.W.nsIn K mainGlobals "_law_draw" = some (some (.ref f_law_draw))) (l_law_draw : K.lookup f_law_draw = some ⟨oc_law_draw, od_law_draw, .func (PySem.W.fnOf "_law_draw" "_law_draw" (defArgs (topS 33)) (defBody (topS 33)) (defScope (topS 33)) .none kV_law_draw dc_law_draw pm_law_draw an_law_draw cd_law_draw ct_law_draw), sl_law_draw⟩) (c_law_draw : PySem.W.codeIn K cd_law_draw "_law_draw" = true) (k_law_draw : PySem.W.keepIn K (.ref f_law_draw) = true)
    (a_law_call : PySem.W.nsIn K mainGlobals "_law_call" = some (some (.ref f_law_call))) (l_law_call : K.lookup f_law_call = some ⟨oc_law_call, od_law_call, .func (PySem.W.fnOf "_law_call" "_law_call" (defArgs (topS 34)) (defBody (topS 34)) (defScope (topS 34)) .none kV_law_call dc_law_call pm_law_call an_law_call cd_law_call ct_law_call), sl_law_call⟩) (c_law_call : PySem.W.codeIn K cd_law_call "_law_call" = true) (k_law_call : PySem.W.keepIn K (.ref f_law_call) = true)
    (a_law_error : PySem.W.nsIn K mainGlobals "_law_error" = some (some (.ref f_law_error))) (l_law_error : K.lookup f_law_error = some ⟨oc_law_error, od_law_error, .func (PySem.W.fnOf "_law_error" "_law_error" (defArgs (topS 35)) (defBody (topS 35)) (defScope (topS 35)) .none kV_law_error dc_law_error pm_law_error an_law_error cd_law_error ct_law_error), sl_law_error⟩) (c_law_error : PySem.W.codeIn K cd_law_error "_law_error" = true) (k_law_error : PySem.W.keepIn K (.ref f_law_error) = true)
    (a_law : PySem.W.nsIn K mainGlobals "law" = some (some (.ref f_law))) (l_law : K.lookup f_law = some ⟨oc_law, od_law, .func (PySem.W.fnOf "law" "law" (defArgs (topS 36)) (defBody (topS 36)) (defScope (topS 36)) .none kV_law dc_law pm_law an_law cd_law ct_law), sl_law⟩) (c_law : PySem.W.codeIn K cd_law "law" = true) (k_law : PySem.W.keepIn K (.ref f_law) = true)
    (co_MOST_OBSERVATIONS : PySem.W.nsIn K mainGlobals "MOST_OBSERVATIONS" = some (some (.int 50 ct_MOST_OBSERVATIONS)))
    (co_MOST_SPEEDS : PySem.W.nsIn K mainGlobals "MOST_SPEEDS" = some (some (.int 2000 ct_MOST_SPEEDS)))
    (bi_gcd : PySem.W.nsIn K mainGlobals "gcd" = some (some (.builtin "math.gcd")))
    (g_InvalidLength : PySem.W.nsIn K mainGlobals "InvalidLength" = some (some (.ref C_InvalidLength))) (k_InvalidLength : PySem.W.keepIn K (.ref C_InvalidLength) = true) (q_InvalidLength : PySem.W.excIn K C_InvalidLength BMv "ValueError.__new__" = true) (b_InvalidLength : PySem.W.subIn K (.ref C_InvalidLength) (.type "BaseException") = some true) (t_InvalidLength : PySem.W.typeIn K (.ref C_InvalidLength) = some (.type "type"))
    (cl_InvalidLength : PySem.W.clsIn K C_InvalidLength = some cD_InvalidLength)
    (ga_InvalidLength : PySem.W.findIn K (.ref C_InvalidLength) "__getattribute__" = some (some (.builtin "BaseException.__getattribute__")))
    (gg_InvalidLength : PySem.W.findIn K (.ref C_InvalidLength) "__getattr__" = some none)
    (cc_InvalidLength : PySem.W.findIn K (.ref C_InvalidLength) "__class__" = some (some (.builtin "object.__class__")))
    (is_cg : PySem.W.specialIn K (.builtin "object.__class__") "__get__" = some (some (.builtin "getset_descriptor.__get__")))
    (is_ct : PySem.W.takesIn K (.builtin "object.__class__") = some true)
    (mo_InvalidLength : PySem.W.mroIn K C_InvalidLength (.type "object") = some true)
    (ib_InvalidLength_ValueError : PySem.W.subIn K (.ref C_InvalidLength) (.type "ValueError") = some true)
    (g_InvalidNumber : PySem.W.nsIn K mainGlobals "InvalidNumber" = some (some (.ref C_InvalidNumber))) (k_InvalidNumber : PySem.W.keepIn K (.ref C_InvalidNumber) = true) (q_InvalidNumber : PySem.W.excIn K C_InvalidNumber BMv "ValueError.__new__" = true) (b_InvalidNumber : PySem.W.subIn K (.ref C_InvalidNumber) (.type "BaseException") = some true) (t_InvalidNumber : PySem.W.typeIn K (.ref C_InvalidNumber) = some (.type "type"))
    (cl_InvalidNumber : PySem.W.clsIn K C_InvalidNumber = some cD_InvalidNumber)
    (g_InvalidTime : PySem.W.nsIn K mainGlobals "InvalidTime" = some (some (.ref C_InvalidTime))) (k_InvalidTime : PySem.W.keepIn K (.ref C_InvalidTime) = true) (q_InvalidTime : PySem.W.excIn K C_InvalidTime BMv "ValueError.__new__" = true) (b_InvalidTime : PySem.W.subIn K (.ref C_InvalidTime) (.type "BaseException") = some true) (t_InvalidTime : PySem.W.typeIn K (.ref C_InvalidTime) = some (.type "type"))
    (cl_InvalidTime : PySem.W.clsIn K C_InvalidTime = some cD_InvalidTime)
    (g_InvalidObservation : PySem.W.nsIn K mainGlobals "InvalidObservation" = some (some (.ref C_InvalidObservation)))
    (xL_InvalidObservation : K.lookup C_InvalidObservation = some (excClassObj nm_InvalidObservation qn_InvalidObservation C_InvalidObservation N_InvalidObservation bs_InvalidObservation [.type "ValueError", .type "Exception", .type "BaseException", .type "object"] true sn_InvalidObservation sub_InvalidObservation ab_InvalidObservation col_InvalidObservation dd_InvalidObservation m0_InvalidObservation m1_InvalidObservation m2_InvalidObservation m3_InvalidObservation m5_InvalidObservation "ValueError.__new__"))
    (sa_InvalidObservation : PySem.W.findIn K (.ref C_InvalidObservation) "__setattr__" = some (some (.builtin "object.__setattr__")))
    (nb_InvalidObservation : PySem.W.findIn K (.ref C_InvalidObservation) "index" = some none)
    (kC_InvalidObservation : PySem.W.keepIn K (.ref C_InvalidObservation) = true)
    (eC_InvalidObservation : PySem.W.subIn K (.ref C_InvalidObservation) (.type "BaseException") = some true)
    (tC_InvalidObservation : PySem.W.typeIn K (.ref C_InvalidObservation) = some (.type "type"))
    (hC_InvalidObservation : PySem.W.hasDictIn K C_InvalidObservation = true)
    (iC_InvalidObservation : PySem.W.findIn K (.ref C_InvalidObservation) "__init__" = some (some (.ref fI_InvalidObservation)))
    (tI_InvalidObservation : PySem.W.typeIn K (.ref fI_InvalidObservation) = some (.type "function"))
    (lI_InvalidObservation : K.lookup fI_InvalidObservation = some ⟨ocI_InvalidObservation, odI_InvalidObservation, .func (PySem.W.fnOf "__init__" "InvalidObservation.__init__" (defArgs (inClass c_InvalidObservation 0)) (defBody (inClass c_InvalidObservation 0)) (defScope (inClass c_InvalidObservation 0)) .none kVI_InvalidObservation dcI_InvalidObservation pmI_InvalidObservation anI_InvalidObservation cdI_InvalidObservation ctI_InvalidObservation), slI_InvalidObservation⟩)
    (cI_InvalidObservation : PySem.W.codeIn K cdI_InvalidObservation "InvalidObservation.__init__" = true)
    (kI_InvalidObservation : PySem.W.keepIn K (.ref fI_InvalidObservation) = true)
    (ga_InvalidObservation : PySem.W.findIn K (.ref C_InvalidObservation) "__getattribute__" = some (some (.builtin "BaseException.__getattribute__")))
    (gg_InvalidObservation : PySem.W.findIn K (.ref C_InvalidObservation) "__getattr__" = some none)
    (cc_InvalidObservation : PySem.W.findIn K (.ref C_InvalidObservation) "__class__" = some (some (.builtin "object.__class__")))
    (mo_InvalidObservation : PySem.W.mroIn K C_InvalidObservation (.type "object") = some true)
    (ib_InvalidObservation_ValueError : PySem.W.subIn K (.ref C_InvalidObservation) (.type "ValueError") = some true)
    (g_LimitExceeded : PySem.W.nsIn K mainGlobals "LimitExceeded" = some (some (.ref C_LimitExceeded)))
    (xL_LimitExceeded : K.lookup C_LimitExceeded = some (excClassObj nm_LimitExceeded qn_LimitExceeded C_LimitExceeded N_LimitExceeded bs_LimitExceeded [.type "OverflowError", .type "ArithmeticError", .type "Exception", .type "BaseException", .type "object"] true sn_LimitExceeded sub_LimitExceeded ab_LimitExceeded col_LimitExceeded dd_LimitExceeded m0_LimitExceeded m1_LimitExceeded m2_LimitExceeded m3_LimitExceeded m5_LimitExceeded "OverflowError.__new__"))
    (sa_LimitExceeded : PySem.W.findIn K (.ref C_LimitExceeded) "__setattr__" = some (some (.builtin "object.__setattr__")))
    (nb_LimitExceeded : PySem.W.findIn K (.ref C_LimitExceeded) "limit" = some none)
    (kC_LimitExceeded : PySem.W.keepIn K (.ref C_LimitExceeded) = true)
    (eC_LimitExceeded : PySem.W.subIn K (.ref C_LimitExceeded) (.type "BaseException") = some true)
    (tC_LimitExceeded : PySem.W.typeIn K (.ref C_LimitExceeded) = some (.type "type"))
    (hC_LimitExceeded : PySem.W.hasDictIn K C_LimitExceeded = true)
    (iC_LimitExceeded : PySem.W.findIn K (.ref C_LimitExceeded) "__init__" = some (some (.ref fI_LimitExceeded)))
    (tI_LimitExceeded : PySem.W.typeIn K (.ref fI_LimitExceeded) = some (.type "function"))
    (lI_LimitExceeded : K.lookup fI_LimitExceeded = some ⟨ocI_LimitExceeded, odI_LimitExceeded, .func (PySem.W.fnOf "__init__" "LimitExceeded.__init__" (defArgs (inClass c_LimitExceeded 0)) (defBody (inClass c_LimitExceeded 0)) (defScope (inClass c_LimitExceeded 0)) .none kVI_LimitExceeded dcI_LimitExceeded pmI_LimitExceeded anI_LimitExceeded cdI_LimitExceeded ctI_LimitExceeded), slI_LimitExceeded⟩)
    (cI_LimitExceeded : PySem.W.codeIn K cdI_LimitExceeded "LimitExceeded.__init__" = true)
    (kI_LimitExceeded : PySem.W.keepIn K (.ref fI_LimitExceeded) = true)
    (ga_LimitExceeded : PySem.W.findIn K (.ref C_LimitExceeded) "__getattribute__" = some (some (.builtin "BaseException.__getattribute__")))
    (gg_LimitExceeded : PySem.W.findIn K (.ref C_LimitExceeded) "__getattr__" = some none)
    (su_InvalidLength_InvalidLength : PySem.W.subIn K (.ref C_InvalidLength) (.ref C_InvalidLength) = some true)
    (su_InvalidObservation_InvalidLength : PySem.W.subIn K (.ref C_InvalidObservation) (.ref C_InvalidLength) = some false)
    (su_InvalidObservation_InvalidObservation : PySem.W.subIn K (.ref C_InvalidObservation) (.ref C_InvalidObservation) = some true)
    (su_InvalidNumber_InvalidLength : PySem.W.subIn K (.ref C_InvalidNumber) (.ref C_InvalidLength) = some false)
    (su_InvalidNumber_InvalidObservation : PySem.W.subIn K (.ref C_InvalidNumber) (.ref C_InvalidObservation) = some false)
    (su_InvalidNumber_InvalidNumber : PySem.W.subIn K (.ref C_InvalidNumber) (.ref C_InvalidNumber) = some true)
    (su_InvalidTime_InvalidLength : PySem.W.subIn K (.ref C_InvalidTime) (.ref C_InvalidLength) = some false)
    (su_InvalidTime_InvalidObservation : PySem.W.subIn K (.ref C_InvalidTime) (.ref C_InvalidObservation) = some false)
    (su_InvalidTime_InvalidNumber : PySem.W.subIn K (.ref C_InvalidTime) (.ref C_InvalidNumber) = some false)
    (su_InvalidTime_InvalidTime : PySem.W.subIn K (.ref C_InvalidTime) (.ref C_InvalidTime) = some true)
    (su_LimitExceeded_InvalidLength : PySem.W.subIn K (.ref C_LimitExceeded) (.ref C_InvalidLength) = some false)
    (su_LimitExceeded_InvalidObservation : PySem.W.subIn K (.ref C_LimitExceeded) (.ref C_InvalidObservation) = some false)
    (su_LimitExceeded_InvalidNumber : PySem.W.subIn K (.ref C_LimitExceeded) (.ref C_InvalidNumber) = some false)
    (su_LimitExceeded_InvalidTime : PySem.W.subIn K (.ref C_LimitExceeded) (.ref C_InvalidTime) = some false)
    (su_LimitExceeded_LimitExceeded : PySem.W.subIn K (.ref C_LimitExceeded) (.ref C_LimitExceeded) = some true)
    (n_isinstance : PySem.W.nsIn K mainGlobals "isinstance" = some none)
    (n_int : PySem.W.nsIn K mainGlobals "int" = some none)
    (n_bool : PySem.W.nsIn K mainGlobals "bool" = some none)
    (n_tuple : PySem.W.nsIn K mainGlobals "tuple" = some none)
    (n_list : PySem.W.nsIn K mainGlobals "list" = some none)
    (n_len : PySem.W.nsIn K mainGlobals "len" = some none)
    (n_range : PySem.W.nsIn K mainGlobals "range" = some none)
    (n_enumerate : PySem.W.nsIn K mainGlobals "enumerate" = some none)
    (n_all : PySem.W.nsIn K mainGlobals "all" = some none)
    (n_sum : PySem.W.nsIn K mainGlobals "sum" = some none)
    (n_zip : PySem.W.nsIn K mainGlobals "zip" = some none)
    (n_max : PySem.W.nsIn K mainGlobals "max" = some none)
    (n_ValueError : PySem.W.nsIn K mainGlobals "ValueError" = some none) :
    ∃ fd : FuncData, (∀ (s : Shared) (u : Value), BindsTo s fd ⟨[u], []⟩ [("script", u)]) ∧ ∀ base : Heap, K.In base → base.Ns mainGlobals mg → LG.FnG P w K mg base (L2.CX P w) 9 fa fd ["script"] (spLaw K) := by
  have e := hfa.symm.trans (PySem.W.mg_of X G a_law)
  cases e
  have F_is_integer := fun_mk (st := topS 13) l_is_integer c_is_integer k_is_integer
  have D_is_integer : DefAt K mg "is_integer" (topS 13) ["value"] _ _ := ⟨F_is_integer, PySem.W.mg_of X G a_is_integer, F_is_integer.binds (ps := ["value"]) fun _ _ _ _ _ _ us hl => match us, hl with | [_], _ => rfl⟩
  have F_inverse := fun_mk (st := topS 4) l_inverse c_inverse k_inverse
  have D_inverse : DefAt K mg "_inverse" (topS 4) ["value", "modulus"] _ _ := ⟨F_inverse, PySem.W.mg_of X G a_inverse, F_inverse.binds (ps := ["value", "modulus"]) fun _ _ _ _ _ _ us hl => match us, hl with | [_, _], _ => rfl⟩
  have F_solved := fun_mk (st := topS 2) l_solved c_solved k_solved
  have D_solved : DefAt K mg "solved" (topS 2) ["rate", "wanted", "modulus"] _ _ := ⟨F_solved, PySem.W.mg_of X G a_solved, F_solved.binds (ps := ["rate", "wanted", "modulus"]) fun _ _ _ _ _ _ us hl => match us, hl with | [_, _, _], _ => rfl⟩
  have F_common := fun_mk (st := topS 3) l_common c_common k_common
  have D_common : DefAt K mg "common" (topS 3) ["first", "step", "other_first", "other_step"] _ _ := ⟨F_common, PySem.W.mg_of X G a_common, F_common.binds (ps := ["first", "step", "other_first", "other_step"]) fun _ _ _ _ _ _ us hl => match us, hl with | [_, _, _, _], _ => rfl⟩
  have F_sums_of := fun_mk (st := topS 16) l_sums_of c_sums_of k_sums_of
  have D_sums_of : DefAt K mg "sums_of" (topS 16) ["value", "growths", "lacks"] _ _ := ⟨F_sums_of, PySem.W.mg_of X G a_sums_of, F_sums_of.binds (ps := ["value", "growths", "lacks"]) fun _ _ _ _ _ _ us hl => match us, hl with | [_, _, _], _ => rfl⟩
  have F_is_observation := fun_mk (st := topS 26) l_is_observation c_is_observation k_is_observation
  have D_is_observation : DefAt K mg "_is_observation" (topS 26) ["value"] _ _ := ⟨F_is_observation, PySem.W.mg_of X G a_is_observation, F_is_observation.binds (ps := ["value"]) fun _ _ _ _ _ _ us hl => match us, hl with | [_], _ => rfl⟩
  have F_check := fun_mk (st := topS 25) l_check c_check k_check
  have D_check : DefAt K mg "_check" (topS 25) ["length", "observations"] _ _ := ⟨F_check, PySem.W.mg_of X G a_check, F_check.binds (ps := ["length", "observations"]) fun _ _ _ _ _ _ us hl => match us, hl with | [_, _], _ => rfl⟩
  have F_fitting := fun_mk (st := topS 27) l_fitting c_fitting k_fitting
  have D_fitting : DefAt K mg "_fitting" (topS 27) ["length", "observations"] _ _ := ⟨F_fitting, PySem.W.mg_of X G a_fitting, F_fitting.binds (ps := ["length", "observations"]) fun _ _ _ _ _ _ us hl => match us, hl with | [_, _], _ => rfl⟩
  have F_fitting_speeds := fun_mk (st := topS 20) l_fitting_speeds c_fitting_speeds k_fitting_speeds
  have D_fitting_speeds : DefAt K mg "fitting_speeds" (topS 20) ["length", "observations"] _ _ := ⟨F_fitting_speeds, PySem.W.mg_of X G a_fitting_speeds, F_fitting_speeds.binds (ps := ["length", "observations"]) fun _ _ _ _ _ _ us hl => match us, hl with | [_, _], _ => rfl⟩
  have F_is_no_speed := fun_mk (st := topS 21) l_is_no_speed c_is_no_speed k_is_no_speed
  have D_is_no_speed : DefAt K mg "is_no_speed" (topS 21) ["length", "observations", "value"] _ _ := ⟨F_is_no_speed, PySem.W.mg_of X G a_is_no_speed, F_is_no_speed.binds (ps := ["length", "observations", "value"]) fun _ _ _ _ _ _ us hl => match us, hl with | [_, _, _], _ => rfl⟩
  have F_speeds := fun_mk (st := topS 30) l_speeds c_speeds k_speeds
  have D_speeds : DefAt K mg "_speeds" (topS 30) ["length", "observations", "low", "high"] _ _ := ⟨F_speeds, PySem.W.mg_of X G a_speeds, F_speeds.binds (ps := ["length", "observations", "low", "high"]) fun _ _ _ _ _ _ us hl => match us, hl with | [_, _, _, _], _ => rfl⟩
  have F_count_speeds := fun_mk (st := topS 22) l_count_speeds c_count_speeds k_count_speeds
  have D_count_speeds : DefAt K mg "count_speeds" (topS 22) ["length", "observations", "low", "high"] _ _ := ⟨F_count_speeds, PySem.W.mg_of X G a_count_speeds, F_count_speeds.binds (ps := ["length", "observations", "low", "high"]) fun _ _ _ _ _ _ us hl => match us, hl with | [_, _, _, _], _ => rfl⟩
  have F_speeds_between := fun_mk (st := topS 23) l_speeds_between c_speeds_between k_speeds_between
  have D_speeds_between : DefAt K mg "speeds_between" (topS 23) ["length", "observations", "low", "high"] _ _ := ⟨F_speeds_between, PySem.W.mg_of X G a_speeds_between, F_speeds_between.binds (ps := ["length", "observations", "low", "high"]) fun _ _ _ _ _ _ us hl => match us, hl with | [_, _, _, _], _ => rfl⟩
  have F_next_look := fun_mk (st := topS 24) l_next_look c_next_look k_next_look
  have B_next_look : Binds K (PySem.W.fnOf "next_look" "next_look" (defArgs (topS 24)) (defBody (topS 24)) (defScope (topS 24)) .none (.ref KD_next_look) dc_next_look pm_next_look an_next_look cd_next_look ct_next_look) ["length", "observations", "low", "high", "after"] [(.int 0 kt_next_look0)] := fun s us X hl => BindsTo.of_looks fun M => KwChain.looks X (l := [("after", (.int 0 kt_next_look0))]) (by simp only [List.mem_cons, List.not_mem_nil, or_false, forall_eq_or_imp, forall_eq]; exact kd_next_look0) (match us, (show us.length = 4 by simpa using hl) with | [_, _, _, _], _ => ⟨_, _, _, _, _, _, rfl, rfl, rfl⟩)
  have K_next_look : KBn K (PySem.W.fnOf "next_look" "next_look" (defArgs (topS 24)) (defBody (topS 24)) (defScope (topS 24)) .none (.ref KD_next_look) dc_next_look pm_next_look an_next_look cd_next_look ct_next_look) ["length", "observations", "low", "high", "after"] 4 ["after"] (fun us ws => us ++ ws) (fun vs zs => vs ++ zs) := ⟨fun s us ws X h1 h2 => match us, ws, h1, h2 with | [_, _, _, _], [_], _, _ => .of_eq rfl, fun a b => a.append b⟩
  have F_law_pool := fun_mk (st := topS 32) l_law_pool c_law_pool k_law_pool
  have D_law_pool : DefAt K mg "_law_pool" (topS 32) ["script"] _ _ := ⟨F_law_pool, PySem.W.mg_of X G a_law_pool, F_law_pool.binds (ps := ["script"]) fun _ _ _ _ _ _ us hl => match us, hl with | [_], _ => rfl⟩
  have F_law_draw := fun_mk (st := topS 33) l_law_draw c_law_draw k_law_draw
  have D_law_draw : DefAt K mg "_law_draw" (topS 33) ["pool", "many"] _ _ := ⟨F_law_draw, PySem.W.mg_of X G a_law_draw, F_law_draw.binds (ps := ["pool", "many"]) fun _ _ _ _ _ _ us hl => match us, hl with | [_, _], _ => rfl⟩
  have F_law_call := fun_mk (st := topS 34) l_law_call c_law_call k_law_call
  have D_law_call : DefAt K mg "_law_call" (topS 34) ["kind", "size", "observations", "low", "high", "time"] _ _ := ⟨F_law_call, PySem.W.mg_of X G a_law_call, F_law_call.binds (ps := ["kind", "size", "observations", "low", "high", "time"]) fun _ _ _ _ _ _ us hl => match us, hl with | [_, _, _, _, _, _], _ => rfl⟩
  have F_law_error := fun_mk (st := topS 35) l_law_error c_law_error k_law_error
  have D_law_error : DefAt K mg "_law_error" (topS 35) ["kind", "size", "observations", "low", "high", "time"] _ _ := ⟨F_law_error, PySem.W.mg_of X G a_law_error, F_law_error.binds (ps := ["kind", "size", "observations", "low", "high", "time"]) fun _ _ _ _ _ _ us hl => match us, hl with | [_, _, _, _, _, _], _ => rfl⟩
  have F_law := fun_mk (st := topS 36) l_law c_law k_law
  have D_law : DefAt K mg "law" (topS 36) ["script"] _ _ := ⟨F_law, PySem.W.mg_of X G a_law, F_law.binds (ps := ["script"]) fun _ _ _ _ _ _ us hl => match us, hl with | [_], _ => rfl⟩
  have m_MOST_OBSERVATIONS := PySem.W.mg_of X G co_MOST_OBSERVATIONS
  have m_MOST_SPEEDS := PySem.W.mg_of X G co_MOST_SPEEDS
  have m_gcd := PySem.W.mg_of X G bi_gcd
  have XInvalidLength : ErrAt K mg "InvalidLength" BMv "ValueError.__new__" C_InvalidLength := ⟨PySem.W.mg_of X G g_InvalidLength, k_InvalidLength, q_InvalidLength, b_InvalidLength, t_InvalidLength⟩
  have IsInvalidLength : IsC K C_InvalidLength := ⟨(cls_some cl_InvalidLength), ga_InvalidLength, gg_InvalidLength, b_InvalidLength, cc_InvalidLength, is_cg, is_ct, mo_InvalidLength⟩
  have KiInvalidLength_ValueError := kit_cv (C := C_InvalidLength) (T := "ValueError") (by decide) ib_InvalidLength_ValueError
  have XInvalidNumber : ErrAt K mg "InvalidNumber" BMv "ValueError.__new__" C_InvalidNumber := ⟨PySem.W.mg_of X G g_InvalidNumber, k_InvalidNumber, q_InvalidNumber, b_InvalidNumber, t_InvalidNumber⟩
  have XInvalidTime : ErrAt K mg "InvalidTime" BMv "ValueError.__new__" C_InvalidTime := ⟨PySem.W.mg_of X G g_InvalidTime, k_InvalidTime, q_InvalidTime, b_InvalidTime, t_InvalidTime⟩
  have XC_InvalidObservation : XC K C_InvalidObservation "ValueError" "ValueError.__new__" "ValueError.__init__" [.type "ValueError", .type "Exception", .type "BaseException", .type "object"] ["index"] :=
    { q := xinit_of xL_InvalidObservation rfl, o := xover_of xL_InvalidObservation rfl, d := hC_InvalidObservation, sa := sa_InvalidObservation, exC := eC_InvalidObservation, tyC := tC_InvalidObservation, kC := kC_InvalidObservation, FB := PySem.F.excBase_ValueError, SF := PySem.F.store_ValueError, fr := fun g hg => by rw [List.mem_singleton.mp hg]; exact tk_none nb_InvalidObservation }
  have FI_InvalidObservation := fun_mk (st := inClass c_InvalidObservation 0) lI_InvalidObservation cI_InvalidObservation kI_InvalidObservation
  have bI_InvalidObservation := FI_InvalidObservation.binds (ps := ["self", "index"]) fun _ _ _ _ _ _ us hl => match us, hl with | [_, _], _ => rfl
  have XfInvalidObservation : XfC K C_InvalidObservation := ⟨ga_InvalidObservation, gg_InvalidObservation, eC_InvalidObservation, hC_InvalidObservation⟩
  have IsInvalidObservation : IsC K C_InvalidObservation := ⟨xcls_of xL_InvalidObservation, ga_InvalidObservation, gg_InvalidObservation, eC_InvalidObservation, cc_InvalidObservation, is_cg, is_ct, mo_InvalidObservation⟩
  have KiInvalidObservation_ValueError := kit_cv (C := C_InvalidObservation) (T := "ValueError") (by decide) ib_InvalidObservation_ValueError
  have XC_LimitExceeded : XC K C_LimitExceeded "OverflowError" "OverflowError.__new__" "OverflowError.__init__" [.type "OverflowError", .type "ArithmeticError", .type "Exception", .type "BaseException", .type "object"] ["limit"] :=
    { q := xinit_of xL_LimitExceeded rfl, o := xover_of xL_LimitExceeded rfl, d := hC_LimitExceeded, sa := sa_LimitExceeded, exC := eC_LimitExceeded, tyC := tC_LimitExceeded, kC := kC_LimitExceeded, FB := PySem.F.excBase_OverflowError, SF := PySem.F.store_OverflowError, fr := fun g hg => by rw [List.mem_singleton.mp hg]; exact tk_none nb_LimitExceeded }
  have FI_LimitExceeded := fun_mk (st := inClass c_LimitExceeded 0) lI_LimitExceeded cI_LimitExceeded kI_LimitExceeded
  have bI_LimitExceeded := FI_LimitExceeded.binds (ps := ["self", "limit"]) fun _ _ _ _ _ _ us hl => match us, hl with | [_, _], _ => rfl
  have XfLimitExceeded : XfC K C_LimitExceeded := ⟨ga_LimitExceeded, gg_LimitExceeded, eC_LimitExceeded, hC_LimitExceeded⟩
  have XmInvalidLength_InvalidLength := exm_selfD b_InvalidLength (cls_some cl_InvalidLength) t_InvalidLength su_InvalidLength_InvalidLength
  have XmInvalidObservation_InvalidLength := exm_otherD b_InvalidLength (cls_some cl_InvalidLength) t_InvalidLength su_InvalidObservation_InvalidLength
  have XmInvalidObservation_InvalidObservation := exm_selfD eC_InvalidObservation (xcls_of xL_InvalidObservation) tC_InvalidObservation su_InvalidObservation_InvalidObservation
  have XmInvalidNumber_InvalidLength := exm_otherD b_InvalidLength (cls_some cl_InvalidLength) t_InvalidLength su_InvalidNumber_InvalidLength
  have XmInvalidNumber_InvalidObservation := exm_otherD eC_InvalidObservation (xcls_of xL_InvalidObservation) tC_InvalidObservation su_InvalidNumber_InvalidObservation
  have XmInvalidNumber_InvalidNumber := exm_selfD b_InvalidNumber (cls_some cl_InvalidNumber) t_InvalidNumber su_InvalidNumber_InvalidNumber
  have XmInvalidTime_InvalidLength := exm_otherD b_InvalidLength (cls_some cl_InvalidLength) t_InvalidLength su_InvalidTime_InvalidLength
  have XmInvalidTime_InvalidObservation := exm_otherD eC_InvalidObservation (xcls_of xL_InvalidObservation) tC_InvalidObservation su_InvalidTime_InvalidObservation
  have XmInvalidTime_InvalidNumber := exm_otherD b_InvalidNumber (cls_some cl_InvalidNumber) t_InvalidNumber su_InvalidTime_InvalidNumber
  have XmInvalidTime_InvalidTime := exm_selfD b_InvalidTime (cls_some cl_InvalidTime) t_InvalidTime su_InvalidTime_InvalidTime
  have XmLimitExceeded_InvalidLength := exm_otherD b_InvalidLength (cls_some cl_InvalidLength) t_InvalidLength su_LimitExceeded_InvalidLength
  have XmLimitExceeded_InvalidObservation := exm_otherD eC_InvalidObservation (xcls_of xL_InvalidObservation) tC_InvalidObservation su_LimitExceeded_InvalidObservation
  have XmLimitExceeded_InvalidNumber := exm_otherD b_InvalidNumber (cls_some cl_InvalidNumber) t_InvalidNumber su_LimitExceeded_InvalidNumber
  have XmLimitExceeded_InvalidTime := exm_otherD b_InvalidTime (cls_some cl_InvalidTime) t_InvalidTime su_LimitExceeded_InvalidTime
  have XmLimitExceeded_LimitExceeded := exm_selfD eC_LimitExceeded (xcls_of xL_LimitExceeded) tC_LimitExceeded su_LimitExceeded_LimitExceeded
  have m_isinstance := PySem.W.mg_none_of X G n_isinstance
  have m_int := PySem.W.mg_none_of X G n_int
  have m_bool := PySem.W.mg_none_of X G n_bool
  have m_tuple := PySem.W.mg_none_of X G n_tuple
  have m_list := PySem.W.mg_none_of X G n_list
  have m_len := PySem.W.mg_none_of X G n_len
  have m_range := PySem.W.mg_none_of X G n_range
  have m_enumerate := PySem.W.mg_none_of X G n_enumerate
  have m_all := PySem.W.mg_none_of X G n_all
  have m_sum := PySem.W.mg_none_of X G n_sum
  have m_zip := PySem.W.mg_none_of X G n_zip
  have m_max := PySem.W.mg_none_of X G n_max
  have m_ValueError := PySem.W.mg_none_of X G n_ValueError
  refine ⟨PySem.W.fnOf "law" "law" (defArgs (topS 36)) (defBody (topS 36)) (defScope (topS 36)) .none kV_law dc_law pm_law an_law cd_law ct_law, fun s u => .of_eq rfl, fun base KB GB => ?_⟩
  have EInvalidObservation : ErrD1 P w K mg base "InvalidObservation" C_InvalidObservation "index" := ⟨PySem.W.mg_of X G g_InvalidObservation, ⟨_, _, _, _, _, _, _, XC_InvalidObservation, iC_InvalidObservation, tI_InvalidObservation, ok_init (P := P) (w := w) (mg := mg) (base := base) FI_InvalidObservation sci_InvalidObservation (fun cdv A outer s H E => pss_one (ps_put (pv 0) (pv 1))), bI_InvalidObservation⟩⟩
  have ELimitExceeded : ErrD1 P w K mg base "LimitExceeded" C_LimitExceeded "limit" := ⟨PySem.W.mg_of X G g_LimitExceeded, ⟨_, _, _, _, _, _, _, XC_LimitExceeded, iC_LimitExceeded, tI_LimitExceeded, ok_init (P := P) (w := w) (mg := mg) (base := base) FI_LimitExceeded sci_LimitExceeded (fun cdv A outer s H E => pss_one (ps_put (pv 0) (pv 1))), bI_LimitExceeded⟩⟩
  have Gint := ok_int (P := P) (w := w) (mg := mg) (base := base) D_is_integer m_isinstance m_int m_bool
  have Ginv := ok_inverse (P := P) (w := w) (mg := mg) (base := base) D_inverse
  have Gsol := ok_solved (P := P) (w := w) (mg := mg) (base := base) D_solved m_gcd Ginv
  have Gcom := ok_common (P := P) (w := w) (mg := mg) (base := base) D_common Gsol
  have Giso := ok_isobsG (P := P) (w := w) (mg := mg) (base := base) D_is_observation m_isinstance m_tuple m_len Gint
  have Gchk := ok_checkG (P := P) (w := w) (mg := mg) (base := base) D_check XInvalidLength EInvalidObservation m_isinstance m_tuple m_list m_len m_enumerate m_MOST_OBSERVATIONS Gint Giso
  have Gfit := ok_fitting (P := P) (w := w) (mg := mg) (base := base) D_fitting Gsol Gcom
  have Gsu := ok_sums (P := P) (w := w) (mg := mg) (base := base) D_sums_of m_isinstance m_tuple m_len m_all m_sum m_zip Gint
  have Gfs := ok_fitE (P := P) (w := w) (mg := mg) (base := base) D_fitting_speeds Gchk Gfit
  have Gns := ok_noE (P := P) (w := w) (mg := mg) (base := base) D_is_no_speed Gchk Gsu
  have Gspd := ok_spdE (P := P) (w := w) (mg := mg) (base := base) D_speeds m_max XInvalidNumber Gint Gchk Gfit
  have Gcnt := ok_cntE (P := P) (w := w) (mg := mg) (base := base) D_count_speeds Gspd
  have Gbtw := ok_btwE (P := P) (w := w) (mg := mg) (base := base) D_speeds_between m_range m_MOST_SPEEDS ELimitExceeded Gspd
  have Glook := ok_lookE (P := P) (w := w) (mg := mg) (base := base) F_next_look (PySem.W.mg_of X G a_next_look) B_next_look ⟨_, rfl⟩ K_next_look m_gcd XInvalidTime Gint Gspd
  have Gpool := ok_pool (P := P) (w := w) (mg := mg) (base := base) D_law_pool
  have Gdraw := ok_draw (P := P) (w := w) (mg := mg) (base := base) D_law_draw m_int m_len
  have Gcall := ok_call (P := P) (w := w) (mg := mg) (base := base) D_law_call Gfs Gns Gcnt Gbtw Glook
  have Gerr := ok_err (P := P) (w := w) (mg := mg) (base := base) D_law_error (PySem.W.mg_of X G g_InvalidLength) (PySem.W.mg_of X G g_InvalidObservation) (PySem.W.mg_of X G g_InvalidNumber) (PySem.W.mg_of X G g_InvalidTime) (PySem.W.mg_of X G g_LimitExceeded) m_isinstance m_ValueError
    XmInvalidLength_InvalidLength XmInvalidObservation_InvalidLength XmInvalidObservation_InvalidObservation XmInvalidNumber_InvalidLength XmInvalidNumber_InvalidObservation XmInvalidNumber_InvalidNumber XmInvalidTime_InvalidLength XmInvalidTime_InvalidObservation XmInvalidTime_InvalidNumber XmInvalidTime_InvalidTime XmLimitExceeded_InvalidLength XmLimitExceeded_InvalidObservation XmLimitExceeded_InvalidNumber XmLimitExceeded_InvalidTime XmLimitExceeded_LimitExceeded XfInvalidObservation nb_InvalidObservation XfLimitExceeded nb_LimitExceeded IsInvalidLength KiInvalidLength_ValueError IsInvalidObservation KiInvalidObservation_ValueError Gcall
  exact ((ok_law (P := P) (w := w) (mg := mg) (base := base) D_law m_range m_tuple Gpool Gdraw Gerr).imp law_of)
end LR
open PySem PySem.W PyProof.Rows
set_option Elab.async false
set_option linter.all false
set_option maxRecDepth 100000
set_option maxHeartbeats 0 in
theorem PySem.Challenge.cw_laprunners_k69_errors_of_observations_holds : PySem.Challenge.rw_laprunners_k69_errors_of_observations.Holds := by
  w_on; o_law; k_head; (case hw => w_witness2)
  k_fill
  refine LG.walk_G (l := PySem.Challenge.rw_laprunners_k69_errors_of_observations) (n := 63) (k := 9) (x := "script") (CX := fun w => L2.CX (PySem.Challenge.rw_laprunners_k69_errors_of_observations).prog w) (sp := fun w => LR.spLaw _) rfl (by decide) rfl ⟨rfl, by decide, by decide⟩ (fun w h Y => PySem.W.kIn_of Y) ?F
    (fun w H a ns hl _ hS => ⟨a, ns, rfl, hS, hl, fun H' => rfl⟩) (fun w H s e s' z => ?Z)
  case Z =>
    obtain ⟨_, _, _, _, _, _, _, _, _, _, _, _, z⟩ := z
    exact z
  case F =>
    intro w mg fa h KX G hmg
    refine' LR.all_mk KX G hmg ?a_is_integer ?l_is_integer ?c_is_integer ?k_is_integer ?a_inverse ?l_inverse ?c_inverse ?k_inverse ?a_solved ?l_solved ?c_solved ?k_solved ?a_common ?l_common ?c_common ?k_common ?a_sums_of ?l_sums_of ?c_sums_of ?k_sums_of ?a_is_observation ?l_is_observation ?c_is_observation ?k_is_observation ?a_check ?l_check ?c_check ?k_check ?a_fitting ?l_fitting ?c_fitting ?k_fitting ?a_fitting_speeds ?l_fitting_speeds ?c_fitting_speeds ?k_fitting_speeds ?a_is_no_speed ?l_is_no_speed ?c_is_no_speed ?k_is_no_speed ?a_speeds ?l_speeds ?c_speeds ?k_speeds ?a_count_speeds ?l_count_speeds ?c_count_speeds ?k_count_speeds ?a_speeds_between ?l_speeds_between ?c_speeds_between ?k_speeds_between ?a_next_look ?l_next_look ?c_next_look ?k_next_look ?kd_next_look0 ?a_law_pool ?l_law_pool ?c_law_pool ?k_law_pool ?a_law_draw ?l_law_draw ?c_law_draw ?k_law_draw ?a_law_call ?l_law_call ?c_law_call ?k_law_call ?a_law_error ?l_law_error ?c_law_error ?k_law_error ?a_law ?l_law ?c_law ?k_law ?co_MOST_OBSERVATIONS ?co_MOST_SPEEDS ?bi_gcd ?g_InvalidLength ?k_InvalidLength ?q_InvalidLength ?b_InvalidLength ?t_InvalidLength ?cl_InvalidLength ?ga_InvalidLength ?gg_InvalidLength ?cc_InvalidLength ?is_cg ?is_ct ?mo_InvalidLength ?ib_InvalidLength_ValueError ?g_InvalidNumber ?k_InvalidNumber ?q_InvalidNumber ?b_InvalidNumber ?t_InvalidNumber ?cl_InvalidNumber ?g_InvalidTime ?k_InvalidTime ?q_InvalidTime ?b_InvalidTime ?t_InvalidTime ?cl_InvalidTime ?g_InvalidObservation ?xL_InvalidObservation ?sa_InvalidObservation ?nb_InvalidObservation ?kC_InvalidObservation ?eC_InvalidObservation ?tC_InvalidObservation ?hC_InvalidObservation ?iC_InvalidObservation ?tI_InvalidObservation ?lI_InvalidObservation ?cI_InvalidObservation ?kI_InvalidObservation ?ga_InvalidObservation ?gg_InvalidObservation ?cc_InvalidObservation ?mo_InvalidObservation ?ib_InvalidObservation_ValueError ?g_LimitExceeded ?xL_LimitExceeded ?sa_LimitExceeded ?nb_LimitExceeded ?kC_LimitExceeded ?eC_LimitExceeded ?tC_LimitExceeded ?hC_LimitExceeded ?iC_LimitExceeded ?tI_LimitExceeded ?lI_LimitExceeded ?cI_LimitExceeded ?kI_LimitExceeded ?ga_LimitExceeded ?gg_LimitExceeded ?su_InvalidLength_InvalidLength ?su_InvalidObservation_InvalidLength ?su_InvalidObservation_InvalidObservation ?su_InvalidNumber_InvalidLength ?su_InvalidNumber_InvalidObservation ?su_InvalidNumber_InvalidNumber ?su_InvalidTime_InvalidLength ?su_InvalidTime_InvalidObservation ?su_InvalidTime_InvalidNumber ?su_InvalidTime_InvalidTime ?su_LimitExceeded_InvalidLength ?su_LimitExceeded_InvalidObservation ?su_LimitExceeded_InvalidNumber ?su_LimitExceeded_InvalidTime ?su_LimitExceeded_LimitExceeded ?n_isinstance ?n_int ?n_bool ?n_tuple ?n_list ?n_len ?n_range ?n_enumerate ?n_all ?n_sum ?n_zip ?n_max ?n_ValueError
    (case a_is_integer => k_is); (case l_is_integer => k_is); (case c_is_integer => k_is); (case k_is_integer => k_is); (case a_inverse => k_is); (case l_inverse => k_is)
    (case c_inverse => k_is); (case k_inverse => k_is); (case a_solved => k_is); (case l_solved => k_is); (case c_solved => k_is); (case k_solved => k_is)
    (case a_common => k_is); (case l_common => k_is); (case c_common => k_is); (case k_common => k_is); (case a_sums_of => k_is); (case l_sums_of => k_is)
    (case c_sums_of => k_is); (case k_sums_of => k_is); (case a_is_observation => k_is); (case l_is_observation => k_is); (case c_is_observation => k_is); (case k_is_observation => k_is)
    (case a_check => k_is); (case l_check => k_is); (case c_check => k_is); (case k_check => k_is); (case a_fitting => k_is); (case l_fitting => k_is)
    (case c_fitting => k_is); (case k_fitting => k_is); (case a_fitting_speeds => k_is); (case l_fitting_speeds => k_is); (case c_fitting_speeds => k_is); (case k_fitting_speeds => k_is)
    (case a_is_no_speed => k_is); (case l_is_no_speed => k_is); (case c_is_no_speed => k_is); (case k_is_no_speed => k_is); (case a_speeds => k_is); (case l_speeds => k_is)
    (case c_speeds => k_is); (case k_speeds => k_is); (case a_count_speeds => k_is); (case l_count_speeds => k_is); (case c_count_speeds => k_is); (case k_count_speeds => k_is)
    (case a_speeds_between => k_is); (case l_speeds_between => k_is); (case c_speeds_between => k_is); (case k_speeds_between => k_is); (case a_next_look => k_is); (case l_next_look => k_is)
    (case c_next_look => k_is); (case k_next_look => k_is); (case kd_next_look0 => k_is); (case a_law_pool => k_is); (case l_law_pool => k_is); (case c_law_pool => k_is)
    (case k_law_pool => k_is); (case a_law_draw => k_is); (case l_law_draw => k_is); (case c_law_draw => k_is); (case k_law_draw => k_is); (case a_law_call => k_is)
    (case l_law_call => k_is); (case c_law_call => k_is); (case k_law_call => k_is); (case a_law_error => k_is); (case l_law_error => k_is); (case c_law_error => k_is)
    (case k_law_error => k_is); (case a_law => k_is); (case l_law => k_is); (case c_law => k_is); (case k_law => k_is); (case co_MOST_OBSERVATIONS => k_is)
    (case co_MOST_SPEEDS => k_is); (case bi_gcd => k_is); (case g_InvalidLength => k_is); (case k_InvalidLength => k_is); (case q_InvalidLength => k_exc); (case b_InvalidLength => k_is)
    (case t_InvalidLength => k_is); (case cl_InvalidLength => k_is); (case ga_InvalidLength => k_is); (case gg_InvalidLength => k_is); (case cc_InvalidLength => k_is); (case is_cg => k_is)
    (case is_ct => k_is); (case mo_InvalidLength => k_is); (case ib_InvalidLength_ValueError => k_is); (case g_InvalidNumber => k_is); (case k_InvalidNumber => k_is); (case q_InvalidNumber => k_exc)
    (case b_InvalidNumber => k_is); (case t_InvalidNumber => k_is); (case cl_InvalidNumber => k_is); (case g_InvalidTime => k_is); (case k_InvalidTime => k_is); (case q_InvalidTime => k_exc)
    (case b_InvalidTime => k_is); (case t_InvalidTime => k_is); (case cl_InvalidTime => k_is); (case g_InvalidObservation => k_is); (case xL_InvalidObservation => k_is); (case sa_InvalidObservation => k_is)
    (case nb_InvalidObservation => k_is); (case kC_InvalidObservation => k_is); (case eC_InvalidObservation => k_is); (case tC_InvalidObservation => k_is); (case hC_InvalidObservation => k_is); (case iC_InvalidObservation => k_is)
    (case tI_InvalidObservation => k_is); (case lI_InvalidObservation => k_is); (case cI_InvalidObservation => k_is); (case kI_InvalidObservation => k_is); (case ga_InvalidObservation => k_is); (case gg_InvalidObservation => k_is)
    (case cc_InvalidObservation => k_is); (case mo_InvalidObservation => k_is); (case ib_InvalidObservation_ValueError => k_is); (case g_LimitExceeded => k_is); (case xL_LimitExceeded => k_is); (case sa_LimitExceeded => k_is)
    (case nb_LimitExceeded => k_is); (case kC_LimitExceeded => k_is); (case eC_LimitExceeded => k_is); (case tC_LimitExceeded => k_is); (case hC_LimitExceeded => k_is); (case iC_LimitExceeded => k_is)
    (case tI_LimitExceeded => k_is); (case lI_LimitExceeded => k_is); (case cI_LimitExceeded => k_is); (case kI_LimitExceeded => k_is); (case ga_LimitExceeded => k_is); (case gg_LimitExceeded => k_is)
    (case su_InvalidLength_InvalidLength => k_is); (case su_InvalidObservation_InvalidLength => k_is); (case su_InvalidObservation_InvalidObservation => k_is); (case su_InvalidNumber_InvalidLength => k_is); (case su_InvalidNumber_InvalidObservation => k_is); (case su_InvalidNumber_InvalidNumber => k_is)
    (case su_InvalidTime_InvalidLength => k_is); (case su_InvalidTime_InvalidObservation => k_is); (case su_InvalidTime_InvalidNumber => k_is); (case su_InvalidTime_InvalidTime => k_is); (case su_LimitExceeded_InvalidLength => k_is); (case su_LimitExceeded_InvalidObservation => k_is)
    (case su_LimitExceeded_InvalidNumber => k_is); (case su_LimitExceeded_InvalidTime => k_is); (case su_LimitExceeded_LimitExceeded => k_is); (case n_isinstance => k_is); (case n_int => k_is); (case n_bool => k_is)
    (case n_tuple => k_is); (case n_list => k_is); (case n_len => k_is); (case n_range => k_is); (case n_enumerate => k_is); (case n_all => k_is)
    (case n_sum => k_is); (case n_zip => k_is); (case n_max => k_is); (case n_ValueError => k_is)
