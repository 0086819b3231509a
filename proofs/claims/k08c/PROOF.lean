import PyProof.Rows.All
import Wide.All
import OpenK.AllK
import Wide.FinOn
import HandS.ForMost
import HandS.ForExc
import HandS.Wide
import HandS.More
import HandS.IsInst
import HandS.Gcd
import HandS.Deep
import HandS.TupLe
import HandS.Text
import HandS.WideBits
import PyProof.ReprRoads
import HandS.Ends
import HandS.Zip
import KE.GoesEnum
import HandS.TupMul
import HandS.TupAny
import HandS.ExcCtx
import HandS.RaiseFrom
import HandS.SuiteRaise
import HandS.Defaults
import HandS.SetFor
import HandS.Strs
import HandS.ExcInit
import KE.KExcInit
import HandS.Exc
import HandS.ExcIs
import HandS.TryMany
import HandS.ExcField
import KE.KExcIs
import HandS.Dict
import HandS.DictComp
import HandS.Small
import HandS.WordsDict
import HandS.Property
import HandS.Codes
import PyProof.InstEq
import HandS.Star
import HandS.StrMore
import HandS.DictEq
import HandS.NamedTupGet
import HandS.Style
import KE.KDictList
import HandS.SetKeys
import PySem.Challenge.RW_laprunners_k08_changed_races
/-! PK: which form the law's pool has: true: [cells, place, rest, count]; false: [cell, seed] -/
namespace DL
abbrev pk : Bool := false
end DL
set_option Elab.async false
set_option linter.all false
set_option maxRecDepth 100000
set_option maxHeartbeats 4000000
/-! DA: data D without a heap, what it is at a heap (Is), frames (Ext), slots (Sl), the state of a body (Abs) -/
namespace DL
open PySem PySem.Spec PyProof.Rows L2
/-- the built-in types of data -/
inductive Ty7 where
  | non | bl | int | str | lst | tup | dct
  deriving DecidableEq
def Ty7.name : Ty7 → String
  | .non => "NoneType" | .bl => "bool" | .int => "int" | .str => "str" | .lst => "list" | .tup => "tuple" | .dct => "dict"
/-- what a value is, told without the heap -/
inductive D where
  | non | bl (b : Bool) | int (i : Int) | str (x : Str)
  | lst (xs : List D) | tup (xs : List D)
  /-- a tuple that may be a constant of the text -/
  | tupK (xs : List D)
  /-- a dict with keys that are ints and texts; with keys that are tuples of these -/
  | dct (ks : List Key) (xs : List D)
  | dctT (ks : List (List Key)) (xs : List D)
  /-- an instance of the class at C -/
  | obj (C : Addr) (ns : List Str) (xs : List D)
  /-- a built-in type; an own class -/
  | ty (n : Ty7) | cls (C : Addr)
  /-- what is true of it, kept by growing heaps -/
  | is (P : Hp → V → Prop)
/-- values, with their data, item by item -/
abbrev zipV (ks : List Key) (vs : List V) : List (Key × V) := List.zip ks vs
abbrev zipT (ks : List (List Key)) (vs : List V) : List (List Key × V) := List.zip ks vs
abbrev zipF (ks : List Str) (vs : List V) : List (Str × V) := List.zip ks vs
section
variable (K : PySem.W.Frag)
mutual
def Is (H : Hp) : D → V → Prop
  | .non, v => v = .non
  | .bl b, v => v = .bl b
  | .int i, v => v = .int i
  | .str x, v => v = .str x
  | .lst ds, v => ∃ a xs, v = .ref a ∧ H a = some (.lst xs) ∧ IsA H ds xs
  | .tup ds, v => ∃ a xs, v = .ref a ∧ H a = some (.tup xs) ∧ IsA H ds xs
  | .tupK ds, v => ∃ a xs, v = .ref a ∧ SqT K H a xs ∧ IsA H ds xs
  | .dct ks ds, v => ∃ a od xs, v = .ref a ∧ H a = some (.frz od (.dK (zipV ks xs))) ∧ ks.length = ds.length ∧ IsA H ds xs
  | .dctT ks ds, v => ∃ a od xs, v = .ref a ∧ H a = some (.frz od (.dT (zipT ks xs))) ∧ ks.length = ds.length ∧ IsA H ds xs
  | .obj C ns ds, v => ∃ a dx xs, v = .ref a ∧ H a = some (.ins C dx (zipF ns xs)) ∧ ns.length = ds.length ∧ IsA H ds xs
  | .ty n, v => v = .ty n.name
  | .cls C, v => v = .ref C
  | .is P, v => ∀ H', Same H H' → P H' v
def IsA (H : Hp) : List D → List V → Prop
  | [], xs => xs = []
  | d :: ds, xs => ∃ x ys, xs = x :: ys ∧ Is H d x ∧ IsA H ds ys
end
end
section
variable {K : PySem.W.Frag} {H H' : Hp}
theorem same_sqtK {a : Addr} {xs : List V} (s : Same H H') (h : SqT K H a xs) : SqT K H' a xs := by
  rcases h with (h | ⟨o, h⟩) | h
  · exact .inl (.inl (s _ _ h))
  · exact .inl (.inr ⟨o, s _ _ h⟩)
  · exact .inr h
theorem same_sqt {a : Addr} {xs : List V} (s : Same H H') (h : H a = some (.tup xs)) : SqT K H' a xs := .inl (.inl (s _ _ h))
mutual
theorem Is.same (s : Same H H') : ∀ {d : D} {v : V}, Is K H d v → Is K H' d v
  | .non, _, h => h
  | .bl _, _, h => h
  | .int _, _, h => h
  | .str _, _, h => h
  | .lst _, _, ⟨a, xs, e, h1, h2⟩ => ⟨a, xs, e, s _ _ h1, IsA.same s h2⟩
  | .tup _, _, ⟨a, xs, e, h1, h2⟩ => ⟨a, xs, e, s _ _ h1, IsA.same s h2⟩
  | .tupK _, _, ⟨a, xs, e, h1, h2⟩ => ⟨a, xs, e, same_sqtK s h1, IsA.same s h2⟩
  | .dct _ _, _, ⟨a, od, xs, e, h1, h2, h3⟩ => ⟨a, od, xs, e, s _ _ h1, h2, IsA.same s h3⟩
  | .dctT _ _, _, ⟨a, od, xs, e, h1, h2, h3⟩ => ⟨a, od, xs, e, s _ _ h1, h2, IsA.same s h3⟩
  | .obj _ _ _, _, ⟨a, dx, xs, e, h1, h2, h3⟩ => ⟨a, dx, xs, e, s _ _ h1, h2, IsA.same s h3⟩
  | .ty _, _, h => h
  | .cls _, _, h => h
  | .is _, _, h => fun H'' s' => h H'' (s.trans s')
theorem IsA.same (s : Same H H') : ∀ {ds : List D} {xs : List V}, IsA K H ds xs → IsA K H' ds xs
  | [], _, h => h
  | _ :: _, _, ⟨x, ys, e, h1, h2⟩ => ⟨x, ys, e, Is.same s h1, IsA.same s h2⟩
end
theorem IsA.len : ∀ {ds : List D} {xs : List V}, IsA K H ds xs → xs.length = ds.length
  | [], _, h => by cases h; rfl
  | _ :: _, _, ⟨_, _, e, _, h⟩ => by subst e; exact congrArg Nat.succ h.len
theorem IsA.get : ∀ {ds : List D} {xs : List V} {i : Nat} {d : D}, IsA K H ds xs → ds[i]? = some d → ∃ x, xs[i]? = some x ∧ Is K H d x
  | [], _, _, _, _, e => by simp at e
  | _ :: _, _, 0, _, ⟨x, ys, e, h, _⟩, q => by simp at q; subst q; subst e; exact ⟨x, rfl, h⟩
  | _ :: _, _, i + 1, _, ⟨x, ys, e, _, h⟩, q => by
    obtain ⟨y, a, b⟩ := h.get (i := i) (by simpa using q)
    subst e
    exact ⟨y, by simpa using a, b⟩
theorem IsA.get2 : ∀ {ds : List D} {xs : List V} {i : Nat} {x : V}, IsA K H ds xs → xs[i]? = some x → ∃ d, ds[i]? = some d ∧ Is K H d x
  | [], _, _, _, h, q => by cases h; simp at q
  | d :: _, _, 0, _, ⟨x, ys, e, h, _⟩, q => by subst e; simp at q; subst q; exact ⟨d, rfl, h⟩
  | _ :: _, _, i + 1, _, ⟨x, ys, e, _, h⟩, q => by
    subst e
    obtain ⟨y, a, b⟩ := h.get2 (i := i) (by simpa using q)
    exact ⟨y, by simpa using a, b⟩
theorem IsA.app : ∀ {ds es : List D} {xs ys : List V}, IsA K H ds xs → IsA K H es ys → IsA K H (ds ++ es) (xs ++ ys)
  | [], _, _, _, h, g => by cases h; exact g
  | _ :: _, _, _, _, ⟨x, zs, e, h1, h2⟩, g => by subst e; exact ⟨x, _, rfl, h1, h2.app g⟩
theorem IsA.one {d : D} {x : V} (h : Is K H d x) : IsA K H [d] [x] := ⟨x, [], rfl, h, rfl⟩
theorem IsA.take (n : Nat) : ∀ {ds : List D} {xs : List V}, IsA K H ds xs → IsA K H (ds.take n) (xs.take n) := by
  induction n with
  | zero => intro ds xs h; rfl
  | succ n ih =>
    intro ds xs h
    cases ds with
    | nil => cases h; rfl
    | cons d ds =>
      obtain ⟨x, ys, e, h1, h2⟩ := h
      subst e
      exact ⟨x, _, rfl, h1, ih h2⟩
theorem IsA.drop (n : Nat) : ∀ {ds : List D} {xs : List V}, IsA K H ds xs → IsA K H (ds.drop n) (xs.drop n) := by
  induction n with
  | zero => intro ds xs h; exact h
  | succ n ih =>
    intro ds xs h
    cases ds with
    | nil => cases h; rfl
    | cons d ds =>
      obtain ⟨x, ys, e, h1, h2⟩ := h
      subst e
      exact ih h2
theorem IsA.set {d : D} {x : V} (h : Is K H d x) : ∀ {ds : List D} {xs : List V} (i : Nat), IsA K H ds xs → IsA K H (ds.set i d) (xs.set i x)
  | [], _, _, g => by cases g; rfl
  | _ :: _, _, 0, ⟨y, ys, e, _, g⟩ => by subst e; exact ⟨x, ys, rfl, h, g⟩
  | _ :: _, _, i + 1, ⟨y, ys, e, g1, g⟩ => by subst e; exact ⟨y, _, rfl, g1, g.set h i⟩
end

/-! ### a pool -/
/-- what a pool holds: its cells (frozen at l), a place in them, what is left of a great one, a count; or a cell and a seed -/
def PoolOk (Hs : Hp) : Option Addr → List V → Prop
  | some l, xs => ∃ (ns : List Int) (a b c : Int), xs = [.ref l, .int a, .int b, .int c] ∧ Hs l = some (.lst (ns.map V.int)) ∧ ns.length ≤ 63
  | none, xs => ∃ a b : Int, xs = [.int a, .int b] ∧ 0 ≤ b ∧ b < 2147483647
theorem PoolOk.same {Hs Hs' : Hp} (s : Same Hs Hs') : ∀ {l : Option Addr} {xs : List V}, PoolOk Hs l xs → PoolOk Hs' l xs
  | some _, _, ⟨ns, a, b, c, e, h, z⟩ => ⟨ns, a, b, c, e, s _ _ h, z⟩
  | none, _, h => h
def PoolL (Hs H : Hp) (p : Addr) (l : Option Addr) : Prop := ∃ xs, H p = some (.lst xs) ∧ PoolOk Hs l xs
def PoolAt (Hs H : Hp) (p : Addr) : Prop := ∃ l, l.isSome = pk ∧ PoolL Hs H p l
theorem same_up {H : Hp} {p : Addr} {o : HO} (n : H p = none) : Same H (upd H p o) := fun b u e => by rw [upd_ne (ne_of_none e n)]; exact e
theorem none_sub {Hs H : Hp} {p : Addr} (s : Same Hs H) (n : H p = none) : Hs p = none := by
  cases z : Hs p with
  | none => rfl
  | some u => rw [s _ _ z] at n; cases n
/-! ### how heaps grow -/
/-- a thing stands there, no tuple -/
def NT : Option HO → Prop
  | none => False
  | some (.tup _) => False
  | _ => True
theorem NT.ne {o : Option HO} (h : NT o) : o ≠ none := by rintro rfl; exact h
/-- Hs: what is frozen for good; Z: what may change (pools) -/
structure Ext (Z : Addr → Prop) (Hs H Hs' H' : Hp) : Prop where
  fz : Same Hs Hs'
  sub : Same Hs' H'
  keep : ∀ b o, ¬ Z b → H b = some o → H' b = some o
  live : ∀ b, H b ≠ none → H' b ≠ none
  new : ∀ b, Hs b = none → NT (H b) → Hs' b = none
  nt : ∀ b, NT (H b) → NT (H' b)
  pool : ∀ b l, Z b → PoolL Hs H b l → PoolL Hs' H' b l
theorem Ext.poolA {Z : Addr → Prop} {Hs H Hs' H' : Hp} (e : Ext Z Hs H Hs' H') {b : Addr} (z : Z b) (p : PoolAt Hs H b) : PoolAt Hs' H' b := let ⟨l, k, q⟩ := p; ⟨l, k, e.pool b l z q⟩
theorem Ext.refl {Z : Addr → Prop} {Hs H : Hp} (s : Same Hs H) : Ext Z Hs H Hs H := ⟨.refl _, s, fun _ _ _ e => e, fun _ e => e, fun _ e _ => e, fun _ e => e, fun _ _ _ p => p⟩
theorem Ext.trans {Z : Addr → Prop} {Hs H Hs1 H1 Hs2 H2 : Hp} (a : Ext Z Hs H Hs1 H1) (b : Ext Z Hs1 H1 Hs2 H2) : Ext Z Hs H Hs2 H2 :=
  ⟨a.fz.trans b.fz, b.sub, fun c o z e => b.keep c o z (a.keep c o z e), fun c e => b.live c (a.live c e), fun c e f => b.new c (a.new c e f) (a.nt c f), fun c e => b.nt c (a.nt c e), fun c l z p => b.pool c l z (a.pool c l z p)⟩
/-- a new frozen object -/
theorem Ext.laid {Z : Addr → Prop} {Hs H : Hp} {p : Addr} {o : HO} (s : Same Hs H) (n : H p = none) : Ext Z Hs H (upd Hs p o) (upd H p o) where
  fz := fun b u e => by
    have hb : b ≠ p := by rintro rfl; rw [s _ _ e] at n; cases n
    rw [upd_ne hb]; exact e
  sub := fun b u e => by
    by_cases hb : b = p
    · subst hb; rw [upd_same] at e ⊢; exact e
    · rw [upd_ne hb] at e ⊢; exact s _ _ e
  keep := fun b u _ e => by rw [upd_ne (ne_of_none e n)]; exact e
  live := fun b e => by
    by_cases hb : b = p
    · subst hb; exact absurd n e
    · rw [upd_ne hb]; exact e
  new := fun b e f => by
    have hb : b ≠ p := by rintro rfl; exact f.ne n
    rw [upd_ne hb]; exact e
  nt := fun b f => by
    have hb : b ≠ p := by rintro rfl; exact f.ne n
    rw [upd_ne hb]; exact f
  pool := fun b l _ ⟨xs, h1, h2⟩ => ⟨xs, by rw [upd_ne (ne_of_none h1 n)]; exact h1, h2.same (same_up (none_sub s n))⟩
/-- a new object that is not frozen -/
theorem Ext.grow {Z : Addr → Prop} {Hs H : Hp} {p : Addr} {o : HO} (s : Same Hs H) (n : H p = none) : Ext Z Hs H Hs (upd H p o) where
  fz := .refl _
  sub := fun b u e => by rw [upd_ne (ne_of_none (s _ _ e) n)]; exact s _ _ e
  keep := fun b u _ e => by rw [upd_ne (ne_of_none e n)]; exact e
  live := fun b e => by
    by_cases hb : b = p
    · subst hb; exact absurd n e
    · rw [upd_ne hb]; exact e
  new := fun b e _ => e
  nt := fun b f => by
    have hb : b ≠ p := by rintro rfl; exact f.ne n
    rw [upd_ne hb]; exact f
  pool := fun b l _ ⟨xs, h1, h2⟩ => ⟨xs, by rw [upd_ne (ne_of_none h1 n)]; exact h1, h2⟩

/-! ### slots -/
/-- what changes, and is a slot's own: a dict; an instance that is being made -/
inductive Mu where
  | dic (ks : List Key) (ds : List D) | dit (ks : List (List Key)) (ds : List D) | ins (C : Addr) (ns : List Str) (ds : List D)
def MuIs (K : PySem.W.Frag) (Hs : Hp) : Mu → HO → Prop
  | .dic ks ds, o => ∃ xs, o = .dK (zipV ks xs) ∧ ks.length = ds.length ∧ IsA K Hs ds xs
  | .dit ks ds, o => ∃ xs, o = .dT (zipT ks xs) ∧ ks.length = ds.length ∧ IsA K Hs ds xs
  | .ins C ns ds, o => ∃ dx xs, o = .ins C dx (zipF ns xs) ∧ ns.length = ds.length ∧ IsA K Hs ds xs
theorem MuIs.same {K : PySem.W.Frag} {Hs Hs' : Hp} (s : Same Hs Hs') : ∀ {m : Mu} {o : HO}, MuIs K Hs m o → MuIs K Hs' m o
  | .dic _ _, _, ⟨xs, e, l, h⟩ => ⟨xs, e, l, h.same s⟩
  | .dit _ _, _, ⟨xs, e, l, h⟩ => ⟨xs, e, l, h.same s⟩
  | .ins _ _ _, _, ⟨dx, xs, e, l, h⟩ => ⟨dx, xs, e, l, h.same s⟩
theorem MuIs.nt {K : PySem.W.Frag} {Hs : Hp} : ∀ {m : Mu} {o : HO}, MuIs K Hs m o → NT (some o)
  | .dic _ _, _, ⟨_, e, _⟩ => by subst e; trivial
  | .dit _ _, _, ⟨_, e, _⟩ => by subst e; trivial
  | .ins _ _ _, _, ⟨_, _, e, _⟩ => by subst e; trivial
inductive Sl where
  | un | d (x : D) | own (p : Addr) (xs : List D) | pool | mu (p : Addr) (m : Mu)
def nth : List Sl → Nat → Sl
  | [], _ => .un
  | s :: _, 0 => s
  | _ :: ss, i + 1 => nth ss i
def put : List Sl → Nat → Sl → List Sl
  | [], _, _ => []
  | _ :: ss, 0, x => x :: ss
  | s :: ss, i + 1, x => s :: put ss i x
theorem put_len : ∀ (ss : List Sl) (i : Nat) (x : Sl), (put ss i x).length = ss.length
  | [], _, _ => rfl
  | _ :: _, 0, _ => rfl
  | _ :: ss, i + 1, x => congrArg Nat.succ (put_len ss i x)
theorem nth_put_ne : ∀ {ss : List Sl} {i j : Nat} {x : Sl}, j ≠ i → nth (put ss i x) j = nth ss j
  | [], _, _, _, _ => rfl
  | _ :: _, 0, 0, _, h => absurd rfl h
  | _ :: _, 0, _ + 1, _, _ => rfl
  | _ :: _, _ + 1, 0, _, _ => rfl
  | _ :: ss, i + 1, j + 1, x, h => nth_put_ne (ss := ss) (fun e => h (congrArg _ e))
theorem nth_put : ∀ {ss : List Sl} {i : Nat} {x : Sl}, i < ss.length → nth (put ss i x) i = x
  | [], _, _, h => absurd h (Nat.not_lt_zero _)
  | _ :: _, 0, _, _ => rfl
  | _ :: ss, i + 1, x, h => nth_put (ss := ss) (Nat.lt_of_succ_lt_succ h)
theorem nth_out : ∀ {ss : List Sl} {i : Nat}, ss.length ≤ i → nth ss i = .un
  | [], _, _ => rfl
  | _ :: _, 0, h => absurd h (by simp)
  | _ :: ss, i + 1, h => nth_out (ss := ss) (Nat.le_of_succ_le_succ h)
theorem put_out : ∀ {ss : List Sl} {i : Nat} {x : Sl}, ss.length ≤ i → put ss i x = ss
  | [], _, _, _ => rfl
  | _ :: _, 0, _, h => absurd h (by simp)
  | _ :: ss, i + 1, x, h => congrArg _ (put_out (ss := ss) (Nat.le_of_succ_le_succ h))
/-- what a slot holds; O: who owns what may change (0: a pool; i + 1: slot i) -/
def SlIs (K : PySem.W.Frag) (O : Addr → Option Nat) (Hs H : Hp) (i : Nat) (o : Option (Option V)) : Sl → Prop
  | .un => True
  | .d x => ∃ v, o = some (some v) ∧ Is K Hs x v
  | .own p ds => ∃ xs, o = some (some (.ref p)) ∧ O p = some (i + 1) ∧ H p = some (.lst xs) ∧ IsA K Hs ds xs
  | .pool => ∃ p, o = some (some (.ref p)) ∧ O p = some 0 ∧ PoolAt Hs H p
  | .mu p m => ∃ u, o = some (some (.ref p)) ∧ O p = some (i + 1) ∧ H p = some u ∧ MuIs K Hs m u
/-- the entry of a body, and its wish of exceptions -/
structure Cn where
  Z : Addr → Prop
  Hs : Hp
  H : Hp
  E : XK
abbrev Z0 (O : Addr → Option Nat) : Addr → Prop := fun b => O b = some 0
structure Abs (K : PySem.W.Frag) (c : Cn) (O : Addr → Option Nat) (Hs H : Hp) (σ : L2.St) (ss : List Sl) : Prop where
  ext : Ext c.Z c.Hs c.H Hs H
  fz : ∀ a, O a ≠ none → Hs a = none
  live : ∀ a, O a ≠ none → NT (H a)
  own0 : ∀ a, O a ≠ none → c.Z a ∨ c.H a = none
  z : ∀ a, c.Z a → O a = some 0
  len : σ.length = ss.length
  sl : ∀ i, SlIs K O Hs H i σ[i]? (nth ss i)
theorem Abs.sub {K c O Hs H σ ss} (A : Abs K c O Hs H σ ss) : Same Hs H := A.ext.sub
/-- an expression's end, from the entry -/
theorem Abs.after {K c O Hs H σ ss} (A : Abs K c O Hs H σ ss) {Hs' H' : Hp} (e : Ext (Z0 O) Hs H Hs' H') : Ext c.Z c.Hs c.H Hs' H' where
  fz := A.ext.fz.trans e.fz
  sub := e.sub
  keep := fun b o z h => e.keep b o (fun q => by
    rcases A.own0 b (by rw [q]; exact fun z => nomatch z) with y | y
    · exact z y
    · rw [h] at y; cases y) (A.ext.keep b o z h)
  live := fun b h => e.live b (A.ext.live b h)
  new := fun b h1 h2 => e.new b (A.ext.new b h1 h2) (A.ext.nt b h2)
  nt := fun b h => e.nt b (A.ext.nt b h)
  pool := fun b l z p => e.pool b l (A.z b z) (A.ext.pool b l z p)
theorem SlIs.after {K O Hs H i o s} {Hs' H' : Hp} (e : Ext (Z0 O) Hs H Hs' H') (h : SlIs K O Hs H i o s) : SlIs K O Hs' H' i o s := by
  cases s with
  | un => trivial
  | d x => exact ⟨h.choose, h.choose_spec.1, h.choose_spec.2.same e.fz⟩
  | own p ds =>
    obtain ⟨xs, h1, h2, h3, h4⟩ := h
    exact ⟨xs, h1, h2, e.keep p _ (fun z => by have z : O p = some 0 := z; rw [h2] at z; cases z) h3, h4.same e.fz⟩
  | pool =>
    obtain ⟨p, h1, h2, h3⟩ := h
    exact ⟨p, h1, h2, e.poolA h2 h3⟩
  | mu p m =>
    obtain ⟨u, h1, h2, h3, h4⟩ := h
    exact ⟨u, h1, h2, e.keep p _ (fun z => by have z : O p = some 0 := z; rw [h2] at z; cases z) h3, h4.same e.fz⟩
theorem Abs.next {K c O Hs H σ ss} (A : Abs K c O Hs H σ ss) {Hs' H' : Hp} (e : Ext (Z0 O) Hs H Hs' H') : Abs K c O Hs' H' σ ss where
  ext := A.after e
  fz := fun a h => e.new a (A.fz a h) (A.live a h)
  live := fun a h => e.nt a (A.live a h)
  own0 := A.own0
  z := A.z
  len := A.len
  sl := fun i => (A.sl i).after e
/-- a slot is given data -/
theorem Abs.set {K c O Hs H σ ss} (A : Abs K c O Hs H σ ss) {i : Nat} {x : D} {v : V} (h : Is K Hs x v) : Abs K c O Hs H (σ.set i (some v)) (put ss i (.d x)) where
  ext := A.ext
  fz := A.fz
  live := A.live
  own0 := A.own0
  z := A.z
  len := by rw [put_len, List.length_set]; exact A.len
  sl := fun j => by
    by_cases e : j = i
    · subst e
      by_cases l : j < ss.length
      · rw [nth_put l, List.getElem?_set_self (by rw [A.len]; exact l)]
        exact ⟨v, rfl, h⟩
      · rw [put_out (Nat.le_of_not_lt l), nth_out (Nat.le_of_not_lt l)]
        trivial
    · rw [nth_put_ne e, List.getElem?_set_ne (fun z => e z.symm)]
      exact A.sl j
/-- a slot is forgotten, or its value is lost -/
theorem Abs.lose {K c O Hs H σ ss} (A : Abs K c O Hs H σ ss) {i : Nat} {o : Option V} : Abs K c O Hs H (σ.set i o) (put ss i .un) where
  ext := A.ext
  fz := A.fz
  live := A.live
  own0 := A.own0
  z := A.z
  len := by rw [put_len, List.length_set]; exact A.len
  sl := fun j => by
    by_cases e : j = i
    · subst e
      by_cases l : j < ss.length
      · rw [nth_put l]
        trivial
      · rw [put_out (Nat.le_of_not_lt l), nth_out (Nat.le_of_not_lt l)]
        trivial
    · rw [nth_put_ne e, List.getElem?_set_ne (fun z => e z.symm)]
      exact A.sl j
open Classical in
/-- a slot is given a new list, its own -/
theorem Abs.setOwn {K c O Hs H σ ss} (A : Abs K c O Hs H σ ss) {i : Nat} {p : Addr} {ds : List D} {xs : List V} (n : H p = none) (h : IsA K Hs ds xs) :
    Abs K c (fun b => if b = p then some (i + 1) else O b) Hs (upd H p (.lst xs)) (σ.set i (some (.ref p))) (put ss i (.own p ds)) := by
  have np : Hs p = none := by
    cases q : Hs p with
    | none => rfl
    | some o => rw [A.sub _ _ q] at n; cases n
  have hO : ∀ a, a ≠ p → (if a = p then some (i + 1) else O a) = O a := fun a h => if_neg h
  have Op : O p = none := by
    cases q : O p with
    | none => rfl
    | some k => exact absurd n (A.live p (by rw [q]; exact fun z => nomatch z)).ne
  have g : Ext (Z0 O) Hs H Hs (upd H p (.lst xs)) := Ext.grow A.sub n
  refine ⟨A.after g, fun a h => ?_, fun a h => ?_, fun a h => ?_, fun a h => ?_, by rw [put_len, List.length_set]; exact A.len, fun j => ?_⟩
  · by_cases e : a = p
    · subst e; exact np
    · rw [hO a e] at h; exact A.fz a h
  · by_cases e : a = p
    · subst e; rw [upd_same]; trivial
    · rw [hO a e] at h; rw [upd_ne e]; exact A.live a h
  · by_cases e : a = p
    · subst e
      right
      cases q : c.H a with
      | none => rfl
      | some o => exact absurd n (A.ext.live a (by rw [q]; exact fun z => nomatch z))
    · rw [hO a e] at h; exact A.own0 a h
  · by_cases e : a = p
    · subst e
      have := A.z a h
      rw [Op] at this; cases this
    · show (if a = p then some (i + 1) else O a) = some 0
      rw [hO a e]; exact A.z a h
  · by_cases e : j = i
    · subst e
      by_cases l : j < ss.length
      · rw [nth_put l, List.getElem?_set_self (by rw [A.len]; exact l)]
        exact ⟨xs, rfl, if_pos rfl, upd_same, h⟩
      · rw [put_out (Nat.le_of_not_lt l), nth_out (Nat.le_of_not_lt l)]
        trivial
    · rw [nth_put_ne e, List.getElem?_set_ne (fun z => e z.symm)]
      have q := (A.sl j).after g
      revert q
      cases nth ss j with
      | un => exact fun _ => trivial
      | d x => exact fun q => q
      | own p' es =>
        rintro ⟨xs', h1, h2, h3, h4⟩
        have ne : p' ≠ p := by rintro rfl; rw [Op] at h2; cases h2
        exact ⟨xs', h1, (hO p' ne).trans h2, h3, h4⟩
      | pool =>
        rintro ⟨p', h1, h2, h3⟩
        have ne : p' ≠ p := by rintro rfl; rw [Op] at h2; cases h2
        exact ⟨p', h1, (hO p' ne).trans h2, h3⟩
      | mu p' m =>
        rintro ⟨u, h1, h2, h3, h4⟩
        have ne : p' ≠ p := by rintro rfl; rw [Op] at h2; cases h2
        exact ⟨u, h1, (hO p' ne).trans h2, h3, h4⟩
/-- what is a slot's own is changed -/
theorem Abs.writeG {K c O Hs H σ ss} (A : Abs K c O Hs H σ ss) {i : Nat} {p : Addr} {o : HO} {s : Sl} (e0 : σ[i]? = some (some (.ref p))) (own : O p = some (i + 1)) (nt : NT (some o)) (h : SlIs K O Hs (upd H p o) i σ[i]? s) :
    Abs K c O Hs (upd H p o) σ (put ss i s) := by
  have np : Hs p = none := A.fz p (by rw [own]; exact fun z => nomatch z)
  have nz : ¬ c.Z p := fun z => by have := A.z p z; rw [own] at this; cases this
  have c0 : c.H p = none := (A.own0 p (by rw [own]; exact fun z => nomatch z)).resolve_left nz
  have sub : Same Hs (upd H p o) := fun b o e => by
    rw [upd_ne (ne_of_none e np)]; exact A.sub _ _ e
  refine ⟨⟨A.ext.fz, sub, fun b o z e => ?_, fun b e => ?_, A.ext.new, fun b e => ?_, fun b l' z q => ?_⟩, A.fz, fun a q => ?_, A.own0, A.z, by rw [put_len]; exact A.len, fun j => ?_⟩
  · rw [upd_ne (ne_of_none e c0)]; exact A.ext.keep b o z e
  · by_cases hb : b = p
    · subst hb; exact absurd c0 e
    · rw [upd_ne hb]; exact A.ext.live b e
  · by_cases hb : b = p
    · subst hb; exact absurd c0 e.ne
    · rw [upd_ne hb]; exact A.ext.nt b e
  · obtain ⟨xs', h1, h2⟩ := A.ext.pool b l' z q
    exact ⟨xs', by rw [upd_ne (show b ≠ p from fun hb => nz (by rw [← hb]; exact z))]; exact h1, h2⟩
  · by_cases hb : a = p
    · subst hb; rw [upd_same]; exact nt
    · rw [upd_ne hb]; exact A.live a q
  · by_cases e : j = i
    · subst e
      by_cases l : j < ss.length
      · rw [nth_put l]
        exact h
      · rw [put_out (Nat.le_of_not_lt l), nth_out (Nat.le_of_not_lt l)]
        trivial
    · rw [nth_put_ne e]
      have q := A.sl j
      revert q
      cases nth ss j with
      | un => exact fun _ => trivial
      | d x => exact fun q => q
      | own p' es =>
        rintro ⟨xs', h1, h2, h3, h4⟩
        have ne : p' ≠ p := by rintro rfl; rw [own] at h2; have := Nat.succ.inj (Option.some.inj h2); exact e this.symm
        exact ⟨xs', h1, h2, by rw [upd_ne ne]; exact h3, h4⟩
      | pool =>
        rintro ⟨p', h1, h2, l', hk, xs', h3, h4⟩
        have ne : p' ≠ p := by rintro rfl; rw [own] at h2; cases h2
        exact ⟨p', h1, h2, l', hk, xs', by rw [upd_ne ne]; exact h3, h4⟩
      | mu p' m =>
        rintro ⟨u, h1, h2, h3, h4⟩
        have ne : p' ≠ p := by rintro rfl; rw [own] at h2; have := Nat.succ.inj (Option.some.inj h2); exact e this.symm
        exact ⟨u, h1, h2, by rw [upd_ne ne]; exact h3, h4⟩
/-- an own list is changed -/
theorem Abs.write {K c O Hs H σ ss} (A : Abs K c O Hs H σ ss) {i : Nat} {p : Addr} {ds : List D} {xs : List V} (e0 : σ[i]? = some (some (.ref p))) (own : O p = some (i + 1)) (l : i < ss.length) (h : IsA K Hs ds xs) :
    Abs K c O Hs (upd H p (.lst xs)) σ (put ss i (.own p ds)) := A.writeG e0 own trivial ⟨xs, e0, own, upd_same, h⟩
theorem Abs.writeM {K c O Hs H σ ss} (A : Abs K c O Hs H σ ss) {i : Nat} {p : Addr} {m : Mu} {u : HO} (e0 : σ[i]? = some (some (.ref p))) (own : O p = some (i + 1)) (h : MuIs K Hs m u) :
    Abs K c O Hs (upd H p u) σ (put ss i (.mu p m)) := A.writeG e0 own h.nt ⟨u, e0, own, upd_same, h⟩
open Classical in
noncomputable def Odel (O : Addr → Option Nat) (p : Addr) : Addr → Option Nat := fun b => if b = p then none else O b
theorem Odel_ne {O : Addr → Option Nat} {p a : Addr} (h : a ≠ p) : Odel O p a = O a := if_neg h
theorem Odel_eq {O : Addr → Option Nat} {p : Addr} : Odel O p p = none := if_pos rfl
/-- what is a slot's own is frozen, as o -/
theorem Abs.pubG {K c O Hs H σ ss} (A : Abs K c O Hs H σ ss) {i : Nat} {p : Addr} {o u : HO} {x : D} (h1 : σ[i]? = some (some (.ref p))) (own : O p = some (i + 1)) (hp : H p = some u) (is : Is K (upd Hs p o) x (.ref p)) :
    Abs K c (Odel O p) (upd Hs p o) (upd H p o) σ (put ss i (.d x)) ∧ Same Hs (upd Hs p o) := by
  have np : Hs p = none := A.fz p (by rw [own]; exact fun z => nomatch z)
  have nz : ¬ c.Z p := fun z => by have := A.z p z; rw [own] at this; cases this
  have c0 : c.H p = none := (A.own0 p (by rw [own]; exact fun z => nomatch z)).resolve_left nz
  have s : Same Hs (upd Hs p o) := same_up np
  have sub : Same (upd Hs p o) (upd H p o) := fun b o' e => by
    by_cases hb : b = p
    · subst hb; rw [upd_same] at e ⊢; exact e
    · rw [upd_ne hb] at e ⊢; exact A.sub _ _ e
  have hO : ∀ a, a ≠ p → Odel O p a = O a := fun a h => Odel_ne h
  refine ⟨⟨⟨A.ext.fz.trans s, sub, fun b o z e => ?_, fun b e => ?_, fun b e f => ?_, fun b f => ?_, fun b l' z q' => ?_⟩, fun a h => ?_, fun a h => ?_, fun a h => ?_, fun a h => ?_, by rw [put_len]; exact A.len, fun j => ?_⟩, s⟩
  · rw [upd_ne (ne_of_none e c0)]; exact A.ext.keep b o z e
  · by_cases hb : b = p
    · subst hb; exact absurd c0 e
    · rw [upd_ne hb]; exact A.ext.live b e
  · have ne : b ≠ p := by rintro rfl; exact f.ne c0
    rw [upd_ne ne]; exact A.ext.new b e f
  · have ne : b ≠ p := by rintro rfl; exact f.ne c0
    rw [upd_ne ne]; exact A.ext.nt b f
  · obtain ⟨xs2, k1, k2⟩ := A.ext.pool b l' z q'
    have ne : b ≠ p := fun hb => nz (by rw [← hb]; exact z)
    exact ⟨xs2, by rw [upd_ne ne]; exact k1, k2.same s⟩
  · by_cases e : a = p
    · subst e; exact absurd Odel_eq h
    · rw [hO a e] at h; rw [upd_ne e]; exact A.fz a h
  · by_cases e : a = p
    · subst e; exact absurd Odel_eq h
    · rw [hO a e] at h; rw [upd_ne e]; exact A.live a h
  · by_cases e : a = p
    · subst e; exact absurd Odel_eq h
    · rw [hO a e] at h; exact A.own0 a h
  · have ne : a ≠ p := by rintro rfl; exact nz h
    show Odel O p a = some 0
    rw [hO a ne]; exact A.z a h
  · by_cases e : j = i
    · subst e
      by_cases l : j < ss.length
      · rw [nth_put l]
        exact ⟨_, h1, is⟩
      · rw [put_out (Nat.le_of_not_lt l), nth_out (Nat.le_of_not_lt l)]
        trivial
    · rw [nth_put_ne e]
      have q := A.sl j
      revert q
      cases nth ss j with
      | un => exact fun _ => trivial
      | d x => exact fun ⟨v, a, b⟩ => ⟨v, a, b.same s⟩
      | own p' es =>
        rintro ⟨xs', k1, k2, k3, k4⟩
        have ne : p' ≠ p := by rintro rfl; rw [own] at k2; have := Nat.succ.inj (Option.some.inj k2); exact e this.symm
        exact ⟨xs', k1, (hO p' ne).trans k2, by rw [upd_ne ne]; exact k3, k4.same s⟩
      | pool =>
        rintro ⟨p', k1, k2, l', hk, xs', k3, k4⟩
        have ne : p' ≠ p := by rintro rfl; rw [own] at k2; cases k2
        exact ⟨p', k1, (hO p' ne).trans k2, l', hk, xs', by rw [upd_ne ne]; exact k3, k4.same s⟩
      | mu p' m =>
        rintro ⟨u, k1, k2, k3, k4⟩
        have ne : p' ≠ p := by rintro rfl; rw [own] at k2; have := Nat.succ.inj (Option.some.inj k2); exact e this.symm
        exact ⟨u, k1, (hO p' ne).trans k2, by rw [upd_ne ne]; exact k3, k4.same s⟩
/-- an own list is frozen -/
theorem Abs.pub {K c O Hs H σ ss} (A : Abs K c O Hs H σ ss) {i : Nat} {p : Addr} {ds : List D} (hs : nth ss i = .own p ds) :
    ∃ xs, Hs p = none ∧ H p = some (.lst xs) ∧ O p = some (i + 1) ∧ Abs K c (Odel O p) (upd Hs p (.lst xs)) H σ (put ss i (.d (.lst ds))) ∧ Same Hs (upd Hs p (.lst xs)) ∧ ∃ v, σ[i]? = some (some v) ∧ Is K (upd Hs p (.lst xs)) (.lst ds) v := by
  have q := A.sl i
  rw [hs] at q
  obtain ⟨xs, h1, own, h3, h4⟩ := q
  have np : Hs p = none := A.fz p (by rw [own]; exact fun z => nomatch z)
  have is : Is K (upd Hs p (.lst xs)) (.lst ds) (.ref p) := ⟨p, xs, rfl, upd_same, h4.same (same_up np)⟩
  obtain ⟨A', s⟩ := A.pubG (x := .lst ds) h1 own h3 is
  have e : upd H p (.lst xs) = H := funext fun b => by
    by_cases hb : b = p
    · rw [hb, upd_same, h3]
    · rw [upd_ne hb]
  rw [e] at A'
  exact ⟨xs, np, h3, own, A', s, _, h1, is⟩
end DL
set_option Elab.async false
set_option linter.all false
set_option maxRecDepth 100000
set_option maxHeartbeats 4000000
/-! DB: readings over data, and their expressions, tests, calls, blocks -/
namespace DL
open PySem PySem.Spec PyProof.Rows L2
/-- an own exception: its class; with one field -/
inductive ErrD where
  | e0 (C : Addr) | e1 (C : Addr) (f : Str) (x : D)
def ErrPost (K : PySem.W.Frag) (E : XK) (er : ErrD) (Hs H : Hp) : Prop :=
  match er with
  | .e0 C => E (.ref C) none H
  | .e1 C f x => ∀ dd v, Hs dd = some (.xd [(f, v)]) → Is K Hs x v → E (.ref C) (some dd) H
def ErrC (K : PySem.W.Frag) (c : Cn) (Ed : ErrD → Prop) : Prop := ∀ er Hs H, Ext c.Z c.Hs c.H Hs H → Ed er → ErrPost K c.E er Hs H
abbrev QD := D → Prop
abbrev QE := ErrD → Prop
abbrev TD := List Sl → QD → QE → Prop
abbrev TTD := List Sl → (Bool → Prop) → QE → Prop
abbrev TAD := List Sl → (List Sl → Prop) → QE → Prop
structure EnD where
  nx : List Sl → Prop
  rt : QD
  ro : List D → Prop := fun ds => rt (.lst ds)
  rm : Mu → Prop := fun _ => False
  bk : List Sl → Prop := fun _ => False
  ct : List Sl → Prop := fun _ => False
abbrev TSD := EnD → List Sl → QE → Prop
section
variable (c : Cn) (K : PySem.W.Frag)
def lift (t : TD) : TE := fun σ H Q => ∃ O Hs ss Qd Ed, Abs K c O Hs H σ ss ∧ t ss Qd Ed ∧ ErrC K c Ed ∧ ∀ d v Hs' H', Ext (Z0 O) Hs H Hs' H' → Is K Hs' d v → Qd d → Q v H'
def liftT (t : TTD) : TT := fun σ H Q => ∃ O Hs ss Qd Ed, Abs K c O Hs H σ ss ∧ t ss Qd Ed ∧ ErrC K c Ed ∧ ∀ b Hs' H', Ext (Z0 O) Hs H Hs' H' → Qd b → Q b H'
/-- arguments -/
def ArgIs (Z : Addr → Prop) (Hs H : Hp) : List Sl → List V → Prop
  | [], vs => vs = []
  | .d x :: as, vs => ∃ v ws, vs = v :: ws ∧ Is K Hs x v ∧ ArgIs Z Hs H as ws
  | .pool :: as, vs => ∃ p ws, vs = .ref p :: ws ∧ Z p ∧ PoolAt Hs H p ∧ ArgIs Z Hs H as ws
  | _ :: _, _ => False
def liftA (t : TAD) : TA := fun σ H Q => ∃ O Hs ss Qa Ed, Abs K c O Hs H σ ss ∧ t ss Qa Ed ∧ ErrC K c Ed ∧ ∀ as vs Hs' H', Ext (Z0 O) Hs H Hs' H' → ArgIs K (Z0 O) Hs' H' as vs → Qa as → Q vs H'
structure Conn (Hs0 : Hp) (En : EnD) (Dn : Ends) : Prop where
  nx : ∀ σ O Hs H ss, Same Hs0 Hs → Abs K c O Hs H σ ss → En.nx ss → Dn.nx σ H
  bk : ∀ σ O Hs H ss, Same Hs0 Hs → Abs K c O Hs H σ ss → En.bk ss → Dn.bk σ H
  ct : ∀ σ O Hs H ss, Same Hs0 Hs → Abs K c O Hs H σ ss → En.ct ss → Dn.ct σ H
  rt : ∀ d v Hs H, Ext c.Z c.Hs c.H Hs H → Is K Hs d v → En.rt d → Dn.rt v H
  /-- a list of its own is handed back -/
  ro : ∀ ds p xs Hs H, Ext c.Z c.Hs c.H Hs H → c.H p = none → Hs p = none → H p = some (.lst xs) → IsA K Hs ds xs → En.ro ds → Dn.rt (.ref p) H
  /-- a dict of its own is handed back -/
  rm : ∀ m p u Hs H, Ext c.Z c.Hs c.H Hs H → c.H p = none → Hs p = none → H p = some u → MuIs K Hs m u → En.rm m → Dn.rt (.ref p) H
def liftS (t : TSD) : TS := fun Dn σ H => ∃ O Hs ss En Ed, Abs K c O Hs H σ ss ∧ t En ss Ed ∧ ErrC K c Ed ∧ Conn c K Hs En Dn
end
theorem Conn.up {c : Cn} {K : PySem.W.Frag} {Hs Hs1 : Hp} {En : EnD} {Dn : Ends} (g : Conn c K Hs En Dn) (s : Same Hs Hs1) : Conn c K Hs1 En Dn :=
  ⟨fun σ O Hs' H ss z => g.nx σ O Hs' H ss (s.trans z), fun σ O Hs' H ss z => g.bk σ O Hs' H ss (s.trans z), fun σ O Hs' H ss z => g.ct σ O Hs' H ss (s.trans z), g.rt, g.ro, g.rm⟩
theorem ArgIs.next {K Z Hs H Hs' H'} (e : Ext Z Hs H Hs' H') : ∀ {as : List Sl} {vs : List V}, ArgIs K Z Hs H as vs → ArgIs K Z Hs' H' as vs
  | [], _, h => h
  | .d _ :: _, _, ⟨v, ws, e1, h1, h2⟩ => ⟨v, ws, e1, h1.same e.fz, h2.next e⟩
  | .pool :: _, _, ⟨p, ws, e1, h1, h2, h3⟩ => ⟨p, ws, e1, h1, e.poolA h1 h2, h3.next e⟩
  | .un :: _, _, h => h.elim
  | .own _ _ :: _, _, h => h.elim
  | .mu _ _ :: _, _, h => h.elim
theorem ArgIs.len {K Z Hs H} : ∀ {as : List Sl} {vs : List V}, ArgIs K Z Hs H as vs → vs.length = as.length
  | [], _, h => by cases h; rfl
  | .d _ :: _, _, ⟨v, ws, e1, h1, h2⟩ => by subst e1; exact congrArg Nat.succ h2.len
  | .pool :: _, _, ⟨p, ws, e1, h1, h2, h3⟩ => by subst e1; exact congrArg Nat.succ h3.len
  | .un :: _, _, h => h.elim
  | .own _ _ :: _, _, h => h.elim
  | .mu _ _ :: _, _, h => h.elim
def dats : List D → List Sl := List.map .d
theorem ArgIs.dats {K Z Hs H} : ∀ {ds : List D} {vs : List V}, ArgIs K Z Hs H (dats ds) vs → IsA K Hs ds vs
  | [], _, h => h
  | _ :: _, _, ⟨v, ws, e1, h1, h2⟩ => ⟨v, ws, e1, h1, ArgIs.dats h2⟩
section
variable {X : Cx} {c : Cn}
abbrev DE (X : Cx) (c : Cn) (e : Expr) (t : TD) : Prop := PE X e (lift c X.K t)
abbrev DT (X : Cx) (c : Cn) (e : Expr) (t : TTD) : Prop := PT X e (liftT c X.K t)
abbrev DW (X : Cx) (c : Cn) (e : Expr) (t : TTD) : Prop := PW X e (liftT c X.K t)
abbrev DAs (X : Cx) (c : Cn) (es : List Expr) (t : TAD) : Prop := PA X es (liftA c X.K t)
abbrev DS (X : Cx) (c : Cn) (st : Stmt) (t : TSD) : Prop := PS X st (liftS c X.K t)
abbrev DSs (X : Cx) (c : Cn) (st : List Stmt) (t : TSD) : Prop := PSs X st (liftS c X.K t)
theorem pe_imp {e : Expr} {t t' : TE} (h : PE X e t) (f : ∀ σ H Q, t' σ H Q → t σ H Q) : PE X e t' := ⟨fun pins s σ H Q I q => h.run pins s σ H Q I (f _ _ _ q)⟩
theorem pt_imp {e : Expr} {t t' : TT} (h : PT X e t) (f : ∀ σ H Q, t' σ H Q → t σ H Q) : PT X e t' := ⟨fun pins s σ H Q I q => h.run pins s σ H Q I (f _ _ _ q)⟩
theorem pw_imp {e : Expr} {t t' : TT} (h : PW X e t) (f : ∀ σ H Q, t' σ H Q → t σ H Q) : PW X e t' := ⟨fun w pins s σ H Q I q => h.run w pins s σ H Q I (f _ _ _ q)⟩
theorem pa_imp {e : List Expr} {t t' : TA} (h : PA X e t) (f : ∀ σ H Q, t' σ H Q → t σ H Q) : PA X e t' := ⟨fun p pins s σ H Q I q => h.run p pins s σ H Q I (f _ _ _ q)⟩
theorem ps_imp {e : Stmt} {t t' : TS} (h : PS X e t) (f : ∀ D σ H, t' D σ H → t D σ H) : PS X e t' := ⟨fun pins s σ H D I q => h.run pins s σ H D I (f _ _ _ q)⟩
theorem pss_imp {e : List Stmt} {t t' : TS} (h : PSs X e t) (f : ∀ D σ H, t' D σ H → t D σ H) : PSs X e t' := ⟨fun pins s σ H D I q => h.run pins s σ H D I (f _ _ _ q)⟩
/-! ### names and constants -/
def tdVar (i : Nat) : TD := fun ss Q _ => match nth ss i with
  | .d x => Q x
  | _ => False
theorem d_var {e : Expr} {i : Nat} (h : PE X e (tVar i)) : DE X c e (tdVar i) := by
  refine pe_imp h fun σ H Q q => ?_
  obtain ⟨O, Hs, ss, Qd, Ed, A, h, _, g⟩ := q
  have hs := A.sl i
  unfold tdVar at h
  split at h
  · rename_i x hx
    rw [hx] at hs
    obtain ⟨v, e, is⟩ := hs
    exact ⟨v, e, g x v Hs H (.refl A.sub) is h⟩
  · exact h.elim
def tdC (x : D) : TD := fun _ Q _ => Q x
theorem d_const {e : Expr} {v : V} {x : D} (h : PE X e (tC v)) (is : ∀ H, Is X.K H x v) : DE X c e (tdC x) := by
  refine pe_imp h fun σ H Q q => ?_
  obtain ⟨O, Hs, ss, Qd, Ed, A, h, _, g⟩ := q
  exact g x v Hs H (.refl A.sub) (is Hs) h
theorem d_int {i j pos} : DE X c (.Constant (.int i) j pos) (tdC (.int i)) := d_const pe_int fun _ => rfl
theorem d_bl {i j pos} : DE X c (.Constant (.bool i) j pos) (tdC (.bl i)) := d_const pe_bl fun _ => rfl
theorem d_non {j pos} : DE X c (.Constant .none j pos) (tdC .non) := d_const pe_non fun _ => rfl
theorem d_str {x j pos} : DE X c (.Constant (.str x) j pos) (tdC (.str x)) := d_const pe_str fun _ => rfl
/-! ### operators -/
abbrev RD2 := D → D → QD → Prop
structure OpD (X : Cx) (f : Value → Value → Sem Value) (r : RD2) : Prop where
  ex : ∃ r0 : R2, OpR X f r0 ∧ ∀ (Z : Addr → Prop) (Hs H : Hp) (d e : D) (v u : V) (Qd : QD) (Q : VK), Same Hs H → Is X.K Hs d v → Is X.K Hs e u → r d e Qd →
    (∀ x w Hs' H', Ext Z Hs H Hs' H' → Is X.K Hs' x w → Qd x → Q w H') → r0 v u H Q
def tdOp (r : RD2) (ta tb : TD) : TD := fun ss Q Ed => ta ss (fun x => tb ss (fun y => r x y Q) Ed) Ed
theorem lift_bin {ta tb : TD} {r : RD2} {f : Value → Value → Sem Value} (o : OpD X f r) : ∃ r0 : R2, OpR X f r0 ∧ ∀ σ H Q, lift c X.K (tdOp r ta tb) σ H Q → tOp r0 (lift c X.K ta) (lift c X.K tb) σ H Q := by
  obtain ⟨r0, h0, cn⟩ := o.ex
  refine ⟨r0, h0, fun σ H Q q => ?_⟩
  obtain ⟨O, Hs, ss, Qd, Ed, A, h, er, g⟩ := q
  refine ⟨O, Hs, ss, _, Ed, A, h, er, fun d v Hs1 H1 e1 i1 q1 => ?_⟩
  refine ⟨O, Hs1, ss, _, Ed, A.next e1, q1, er, fun e u Hs2 H2 e2 i2 q2 => ?_⟩
  exact cn (Z0 O) Hs2 H2 d e v u Qd Q e2.sub (i1.same e2.fz) i2 q2 fun x w Hs3 H3 e3 i3 q3 => g x w Hs3 H3 ((e1.trans e2).trans e3) i3 q3
theorem d_op {op : Operator} {a b : Expr} {pos : Pos} {ta tb : TD} {r : RD2} (o : OpD X (binaryOp op) r) (ha : DE X c a ta) (hb : DE X c b tb) : DE X c (.BinOp a op b pos) (tdOp r ta tb) := by
  obtain ⟨r0, h0, f⟩ := lift_bin (c := c) (ta := ta) (tb := tb) o
  exact pe_imp (pe_op h0 ha hb) f
theorem d_cmp {op : CmpOp} {a b : Expr} {pos : Pos} {ta tb : TD} {r : RD2} (o : OpD X (compareOp op) r) (ha : DE X c a ta) (hb : DE X c b tb) (hm : behindInMarks op b = false := by first | exact nomark _ | rfl) : DE X c (.Compare a [op] [b] pos) (tdOp r ta tb) := by
  obtain ⟨r0, h0, f⟩ := lift_bin (c := c) (ta := ta) (tb := tb) o
  exact pe_imp (pe_cmpR h0 ha hb hm) f
structure UnD (X : Cx) (f : Value → Sem Value) (r : D → QD → Prop) : Prop where
  ex : ∃ r0 : V → Hp → VK → Prop, UnR X f r0 ∧ ∀ (Z : Addr → Prop) (Hs H : Hp) (d : D) (v : V) (Qd : QD) (Q : VK), Same Hs H → Is X.K Hs d v → r d Qd →
    (∀ x w Hs' H', Ext Z Hs H Hs' H' → Is X.K Hs' x w → Qd x → Q w H') → r0 v H Q
def tdUn (r : D → QD → Prop) (ta : TD) : TD := fun ss Q Ed => ta ss (fun x => r x Q) Ed
theorem d_un {op : UnaryOp} {a : Expr} {pos : Pos} {ta : TD} {r : D → QD → Prop} (o : UnD X (unaryOp op) r) (ha : DE X c a ta) : DE X c (.UnaryOp op a pos) (tdUn r ta) := by
  obtain ⟨r0, h0, cn⟩ := o.ex
  refine pe_imp (pe_un h0 ha) fun σ H Q q => ?_
  obtain ⟨O, Hs, ss, Qd, Ed, A, h, er, g⟩ := q
  exact ⟨O, Hs, ss, _, Ed, A, h, er, fun d v Hs1 H1 e1 i1 q1 => cn (Z0 O) Hs1 H1 d v Qd Q e1.sub i1 q1 fun x w Hs3 H3 e3 i3 q3 => g x w Hs3 H3 (e1.trans e3) i3 q3⟩
/-- a[b]: a list, a tuple -/
structure IxD (X : Cx) (r : RD2) : Prop where
  ex : ∃ r0 : R2, IxR X r0 ∧ ∀ (Z : Addr → Prop) (Hs H : Hp) (d e : D) (v u : V) (Qd : QD) (Q : VK), Same Hs H → Is X.K Hs d v → Is X.K Hs e u → r d e Qd →
    (∀ x w Hs' H', Ext Z Hs H Hs' H' → Is X.K Hs' x w → Qd x → Q w H') → r0 v u H Q
theorem d_ix {a b : Expr} {pos : Pos} {ta tb : TD} {r : RD2} (o : IxD X r) (ha : DE X c a ta) (hb : DE X c b tb) (hs : PlainIx b := by exact fun _ _ => rfl) : DE X c (.Subscript a b pos) (tdOp r ta tb) := by
  obtain ⟨r0, h0, cn⟩ := o.ex
  refine pe_imp (pe_ix h0 ha hb hs) fun σ H Q q => ?_
  obtain ⟨O, Hs, ss, Qd, Ed, A, h, er, g⟩ := q
  refine ⟨O, Hs, ss, _, Ed, A, h, er, fun d v Hs1 H1 e1 i1 q1 => ?_⟩
  refine ⟨O, Hs1, ss, _, Ed, A.next e1, q1, er, fun e u Hs2 H2 e2 i2 q2 => ?_⟩
  exact cn (Z0 O) Hs2 H2 d e v u Qd Q e2.sub (i1.same e2.fz) i2 q2 fun x w Hs3 H3 e3 i3 q3 => g x w Hs3 H3 ((e1.trans e2).trans e3) i3 q3
/-! ### tests -/
def tdB (t : TD) : TTD := fun ss Q Ed => t ss (fun x => match x with
  | .bl b => Q b
  | _ => False) Ed
theorem lift_b {ta : TD} : ∀ σ H Q, liftT c X.K (tdB ta) σ H Q → tB (lift c X.K ta) σ H Q := fun σ H Q q => by
  obtain ⟨O, Hs, ss, Qd, Ed, A, h, er, g⟩ := q
  refine ⟨O, Hs, ss, _, Ed, A, h, er, fun d v Hs1 H1 e1 i1 q1 => ?_⟩
  cases d <;> first | exact q1.elim | exact ⟨_, i1, g _ Hs1 H1 e1 q1⟩
theorem dt_val {e : Expr} {ta : TD} (h : DE X c e ta) (he : ∀ whole, isTrue e X.env whole = (do let v ← whole; standAt e.pos; holding [v] (truthy v)) := by intro _; rfl) : DT X c e (tdB ta) := pt_imp (pt_val h he) lift_b
theorem dt_cmp {op : CmpOp} {a b : Expr} {pos : Pos} {ta tb : TD} {r : RD2} (o : OpD X (compareOp op) r) (ha : DE X c a ta) (hb : DE X c b tb) (hm : behindInMarks op b = false := by first | exact nomark _ | rfl) : DT X c (.Compare a [op] [b] pos) (tdB (tdOp r ta tb)) := by
  obtain ⟨r0, h0, f⟩ := lift_bin (c := c) (ta := ta) (tb := tb) o
  refine pt_imp (pt_cmpR h0 ha hb hm) fun σ H Q q => ?_
  obtain ⟨O, Hs, ss, Qd, Ed, A, h, er, g⟩ := q
  refine f σ H _ ⟨O, Hs, ss, _, Ed, A, h, er, fun d v Hs1 H1 e1 i1 q1 => ?_⟩
  cases d <;> first | exact q1.elim | exact ⟨_, i1, g _ Hs1 H1 e1 q1⟩
def tdTru (x : D) (Q : Bool → Prop) : Prop := match x with
  | .non => Q false
  | .bl b => Q b
  | .int i => Q (i != 0)
  | .str y => y.length ≤ sizeLine ∧ Q ((y.length : Int) != 0)
  | .lst xs => Q (!xs.isEmpty)
  | .tup xs => Q (!xs.isEmpty)
  | _ => False
theorem isEmpty_isA {K H} : ∀ {ds : List D} {xs : List V}, IsA K H ds xs → (!ds.isEmpty) = !xs.isEmpty
  | [], _, h => by cases h; rfl
  | _ :: _, _, ⟨_, _, e, _, _⟩ => by subst e; rfl
theorem tru_is {K : PySem.W.Frag} {Hs H : Hp} {d : D} {v : V} {Qd : Bool → Prop} (s : Same Hs H) (i : Is K Hs d v) (h : tdTru d Qd) : ∃ k, TruV K v H k ∧ Qd k := by
  cases d with
  | non => cases i; exact ⟨_, rfl, h⟩
  | bl b => cases i; exact ⟨_, rfl, h⟩
  | int j => cases i; exact ⟨_, rfl, h⟩
  | str y => cases i; exact ⟨_, ⟨h.1, rfl⟩, h.2⟩
  | lst xs =>
    obtain ⟨a, ys, rfl, h1, h2⟩ := i
    exact ⟨_, .inl ⟨ys, .of (s _ _ h1), (isEmpty_isA h2)⟩, h⟩
  | tup xs =>
    obtain ⟨a, ys, rfl, h1, h2⟩ := i
    exact ⟨_, .inr (.inl ⟨ys, same_sqt s h1, (isEmpty_isA h2)⟩), h⟩
  | dct ks xs => exact h.elim
  | dctT ks xs => exact h.elim
  | tupK xs => exact h.elim
  | obj C ns xs => exact h.elim
  | ty n => exact h.elim
  | cls C => exact h.elim
  | is P => exact h.elim
def tdTr (t : TD) : TTD := fun ss Q Ed => t ss (fun x => tdTru x Q) Ed
theorem dt_truth {a : Expr} {ta : TD} (h : DE X c a ta) (he : ∀ whole, isTrue a X.env whole = (do let v ← whole; standAt a.pos; holding [v] (truthy v)) := by intro _; rfl) : DT X c a (tdTr ta) := by
  refine pt_imp (pt_truth h he) fun σ H Q q => ?_
  obtain ⟨O, Hs, ss, Qd, Ed, A, h, er, g⟩ := q
  refine ⟨O, Hs, ss, _, Ed, A, h, er, fun d v Hs1 H1 e1 i1 q1 => ?_⟩
  obtain ⟨k, h1, h2⟩ := tru_is e1.sub i1 q1
  exact ⟨k, h1, g _ Hs1 H1 e1 h2⟩
/-- a list of the slot's own, empty or not -/
def tdTrOwn (i : Nat) : TTD := fun ss Q _ => match nth ss i with
  | .own _ xs => Q (!xs.isEmpty)
  | _ => False
theorem dt_own {a : Expr} {i : Nat} (h : PE X a (tVar i)) (he : ∀ whole, isTrue a X.env whole = (do let v ← whole; standAt a.pos; holding [v] (truthy v)) := by intro _; rfl) : DT X c a (tdTrOwn i) := by
  refine pt_imp (pt_truth h he) fun σ H Q q => ?_
  obtain ⟨O, Hs, ss, Qd, Ed, A, h, er, g⟩ := q
  have hs := A.sl i
  unfold tdTrOwn at h
  split at h
  · rename_i p x hx
    rw [hx] at hs
    obtain ⟨xs, e, h1, h2, h3⟩ := hs
    exact ⟨_, e, _, .inl ⟨xs, .inl (.inl h2), (isEmpty_isA h3)⟩, g _ Hs H (.refl A.sub) h⟩
  · exact h.elim
def tdNot (t : TTD) : TTD := fun ss Q Ed => t ss (fun b => Q (!b)) Ed
theorem dt_not {a : Expr} {pos : Pos} {t : TTD} (h : DT X c a t) : DT X c (.UnaryOp .Not a pos) (tdNot t) := by
  refine pt_imp (pt_not h) fun σ H Q q => ?_
  obtain ⟨O, Hs, ss, Qd, Ed, A, h, er, g⟩ := q
  exact ⟨O, Hs, ss, _, Ed, A, h, er, fun b Hs1 H1 e1 q1 => g _ Hs1 H1 e1 q1⟩
def tdAnd (t u : TTD) : TTD := fun ss Q Ed => t ss (fun b => if b = true then u ss Q Ed else Q false) Ed
def tdOr (t u : TTD) : TTD := fun ss Q Ed => t ss (fun b => if b = true then Q true else u ss Q Ed) Ed
theorem dw_and1 {a : Expr} {pos : Pos} {t : TTD} (h : DT X c a t) : DW X c (.BoolOp .And [a] pos) t := pw_and1 h
theorem dw_or1 {a : Expr} {pos : Pos} {t : TTD} (h : DT X c a t) : DW X c (.BoolOp .Or [a] pos) t := pw_or1 h
theorem dw_and {a b : Expr} {rest : List Expr} {pos : Pos} {t u : TTD} (h : DT X c a t) (h2 : DW X c (.BoolOp .And (b :: rest) pos) u) : DW X c (.BoolOp .And (a :: b :: rest) pos) (tdAnd t u) := by
  refine pw_imp (pw_and h h2) fun σ H Q q => ?_
  obtain ⟨O, Hs, ss, Qd, Ed, A, h, er, g⟩ := q
  refine ⟨O, Hs, ss, _, Ed, A, h, er, fun b Hs1 H1 e1 q1 => ?_⟩
  cases b with
  | true => exact ⟨O, Hs1, ss, _, Ed, A.next e1, q1, er, fun b Hs2 H2 e2 q2 => g _ Hs2 H2 (e1.trans e2) q2⟩
  | false => exact g _ Hs1 H1 e1 q1
theorem dw_or {a b : Expr} {rest : List Expr} {pos : Pos} {t u : TTD} (h : DT X c a t) (h2 : DW X c (.BoolOp .Or (b :: rest) pos) u) : DW X c (.BoolOp .Or (a :: b :: rest) pos) (tdOr t u) := by
  refine pw_imp (pw_or h h2) fun σ H Q q => ?_
  obtain ⟨O, Hs, ss, Qd, Ed, A, h, er, g⟩ := q
  refine ⟨O, Hs, ss, _, Ed, A, h, er, fun b Hs1 H1 e1 q1 => ?_⟩
  cases b with
  | true => exact g _ Hs1 H1 e1 q1
  | false => exact ⟨O, Hs1, ss, _, Ed, A.next e1, q1, er, fun b Hs2 H2 e2 q2 => g _ Hs2 H2 (e1.trans e2) q2⟩
/-! ### and, or, not, if as values -/
def tdAndV (ta tb : TD) : TD := fun ss Q Ed => ta ss (fun x => match x with
  | .bl b => if b = true then tb ss Q Ed else Q (.bl false)
  | _ => False) Ed
def tdOrV (ta tb : TD) : TD := fun ss Q Ed => ta ss (fun x => match x with
  | .bl b => if b = true then Q (.bl true) else tb ss Q Ed
  | _ => False) Ed
def tdNotV (ta : TD) : TD := fun ss Q Ed => ta ss (fun x => match x with
  | .bl b => Q (.bl (!b))
  | _ => False) Ed
theorem d_one {op} {a : Expr} {pos : Pos} {t : TD} (h : DE X c a t) : DE X c (.BoolOp op [a] pos) t := pe_one h
theorem d_and {a b : Expr} {rest : List Expr} {pos : Pos} {ta tb : TD} (ha : DE X c a ta) (hb : DE X c (.BoolOp .And (b :: rest) pos) tb) : DE X c (.BoolOp .And (a :: b :: rest) pos) (tdAndV ta tb) := by
  refine pe_imp (pe_and ha hb) fun σ H Q q => ?_
  obtain ⟨O, Hs, ss, Qd, Ed, A, h, er, g⟩ := q
  refine ⟨O, Hs, ss, _, Ed, A, h, er, fun d v Hs1 H1 e1 i1 q1 => ?_⟩
  cases d <;> first | exact q1.elim | skip
  rename_i b
  refine ⟨b, i1, ?_⟩
  cases b with
  | true => exact ⟨O, Hs1, ss, _, Ed, A.next e1, q1, er, fun d v Hs2 H2 e2 i2 q2 => g _ _ Hs2 H2 (e1.trans e2) i2 q2⟩
  | false => exact g (.bl false) _ Hs1 H1 e1 rfl q1
theorem d_or {a b : Expr} {rest : List Expr} {pos : Pos} {ta tb : TD} (ha : DE X c a ta) (hb : DE X c (.BoolOp .Or (b :: rest) pos) tb) : DE X c (.BoolOp .Or (a :: b :: rest) pos) (tdOrV ta tb) := by
  refine pe_imp (pe_or ha hb) fun σ H Q q => ?_
  obtain ⟨O, Hs, ss, Qd, Ed, A, h, er, g⟩ := q
  refine ⟨O, Hs, ss, _, Ed, A, h, er, fun d v Hs1 H1 e1 i1 q1 => ?_⟩
  cases d <;> first | exact q1.elim | skip
  rename_i b
  refine ⟨b, i1, ?_⟩
  cases b with
  | true => exact g (.bl true) _ Hs1 H1 e1 rfl q1
  | false => exact ⟨O, Hs1, ss, _, Ed, A.next e1, q1, er, fun d v Hs2 H2 e2 i2 q2 => g _ _ Hs2 H2 (e1.trans e2) i2 q2⟩
theorem d_not {a : Expr} {pos : Pos} {ta : TD} (ha : DE X c a ta) : DE X c (.UnaryOp .Not a pos) (tdNotV ta) := by
  refine pe_imp (pe_not ha) fun σ H Q q => ?_
  obtain ⟨O, Hs, ss, Qd, Ed, A, h, er, g⟩ := q
  refine ⟨O, Hs, ss, _, Ed, A, h, er, fun d v Hs1 H1 e1 i1 q1 => ?_⟩
  cases d <;> first | exact q1.elim | exact ⟨_, i1, g (.bl _) _ Hs1 H1 e1 rfl q1⟩
def tdIf (t : TTD) (ta tb : TD) : TD := fun ss Q Ed => t ss (fun b => if b = true then ta ss Q Ed else tb ss Q Ed) Ed
theorem d_if {k a b : Expr} {pos : Pos} {t : TTD} {ta tb : TD} (hk : DT X c k t) (ha : DE X c a ta) (hb : DE X c b tb) : DE X c (.IfExp k a b pos) (tdIf t ta tb) := by
  refine pe_imp (pe_ifExp hk ha hb) fun σ H Q q => ?_
  obtain ⟨O, Hs, ss, Qd, Ed, A, h, er, g⟩ := q
  refine ⟨O, Hs, ss, _, Ed, A, h, er, fun b Hs1 H1 e1 q1 => ?_⟩
  cases b with
  | true => exact ⟨O, Hs1, ss, _, Ed, A.next e1, q1, er, fun d v Hs2 H2 e2 i2 q2 => g _ _ Hs2 H2 (e1.trans e2) i2 q2⟩
  | false => exact ⟨O, Hs1, ss, _, Ed, A.next e1, q1, er, fun d v Hs2 H2 e2 i2 q2 => g _ _ Hs2 H2 (e1.trans e2) i2 q2⟩
/-! ### arguments, displays, calls -/
def tdNil : TAD := fun _ Q _ => Q []
def tdCons (ta : TD) (tr : TAD) : TAD := fun ss Q Ed => ta ss (fun x => tr ss (fun xs => Q (.d x :: xs)) Ed) Ed
/-- a name among arguments: data, or the pool -/
def tdConsN (i : Nat) (tr : TAD) : TAD := fun ss Q Ed => match nth ss i with
  | .d x => tr ss (fun xs => Q (.d x :: xs)) Ed
  | .pool => tr ss (fun xs => Q (.pool :: xs)) Ed
  | _ => False
theorem da_nil : DAs X c [] tdNil := by
  refine pa_imp pa_nil fun σ H Q q => ?_
  obtain ⟨O, Hs, ss, Qd, Ed, A, h, er, g⟩ := q
  exact g [] [] Hs H (.refl A.sub) rfl h
theorem da_cons {e : Expr} {es : List Expr} {ta : TD} {tr : TAD} (ha : DE X c e ta) (hr : DAs X c es tr) (hs : starEach (e :: es) X.env = (false, eval e X.env) :: starEach es X.env := by rfl) : DAs X c (e :: es) (tdCons ta tr) := by
  refine pa_imp (pa_cons ha hr hs) fun σ H Q q => ?_
  obtain ⟨O, Hs, ss, Qd, Ed, A, h, er, g⟩ := q
  refine ⟨O, Hs, ss, _, Ed, A, h, er, fun d v Hs1 H1 e1 i1 q1 => ?_⟩
  exact ⟨O, Hs1, ss, _, Ed, A.next e1, q1, er, fun as vs Hs2 H2 e2 i2 q2 => g (.d d :: as) (v :: vs) Hs2 H2 (e1.trans e2) ⟨v, vs, rfl, i1.same e2.fz, i2⟩ q2⟩
theorem da_name {e : Expr} {es : List Expr} {i : Nat} {tr : TAD} (ha : PE X e (tVar i)) (hr : DAs X c es tr) (hs : starEach (e :: es) X.env = (false, eval e X.env) :: starEach es X.env := by rfl) : DAs X c (e :: es) (tdConsN i tr) := by
  refine pa_imp (pa_cons ha hr hs) fun σ H Q q => ?_
  obtain ⟨O, Hs, ss, Qd, Ed, A, h, er, g⟩ := q
  have hs := A.sl i
  unfold tdConsN at h
  split at h
  · rename_i x hx
    rw [hx] at hs
    obtain ⟨v, e1, i1⟩ := hs
    exact ⟨v, e1, O, Hs, ss, _, Ed, A, h, er, fun as vs Hs2 H2 e2 i2 q2 => g (.d x :: as) (v :: vs) Hs2 H2 e2 ⟨v, vs, rfl, i1.same e2.fz, i2⟩ q2⟩
  · rename_i hx
    rw [hx] at hs
    obtain ⟨p, e1, o1, p1⟩ := hs
    exact ⟨_, e1, O, Hs, ss, _, Ed, A, h, er, fun as vs Hs2 H2 e2 i2 q2 => g (.pool :: as) (.ref p :: vs) Hs2 H2 e2 ⟨p, vs, rfl, o1, e2.poolA o1 p1, i2⟩ q2⟩
  · exact h.elim
/-- all are data -/
def allD : List Sl → (List D → Prop) → Prop
  | [], Q => Q []
  | .d x :: ss, Q => allD ss fun xs => Q (x :: xs)
  | _ :: _, _ => False
theorem allD_is {K Z Hs H} : ∀ {as : List Sl} {vs : List V} {Q : List D → Prop}, ArgIs K Z Hs H as vs → allD as Q → ∃ ds, IsA K Hs ds vs ∧ Q ds
  | [], _, _, h, q => by cases h; exact ⟨[], rfl, q⟩
  | .d x :: as, _, Q, ⟨v, ws, e, h1, h2⟩, q => by
    obtain ⟨ds, h3, h4⟩ := allD_is (Q := fun xs => Q (x :: xs)) h2 q
    exact ⟨x :: ds, ⟨v, ws, e, h1, h3⟩, h4⟩
  | .pool :: _, _, _, _, q => q.elim
  | .un :: _, _, _, _, q => q.elim
  | .own _ _ :: _, _, _, _, q => q.elim
  | .mu _ _ :: _, _, _, _, q => q.elim
/-- at most so many -/
def short : Nat → List D → Bool
  | _, [] => true
  | n + 1, _ :: ds => short n ds
  | 0, _ :: _ => false
theorem short_len : ∀ {n : Nat} {ds : List D}, short n ds = true → ds.length ≤ n
  | _, [], _ => Nat.zero_le _
  | n + 1, _ :: ds, h => Nat.succ_le_succ (short_len (n := n) (ds := ds) h)
  | 0, _ :: _, h => by cases h
def few (ds : List D) (P : Prop) : Prop := match short 63 ds with
  | true => P
  | false => False
theorem few_inv {ds : List D} {P : Prop} (h : few ds P) : ds.length ≤ sizeLine ∧ P := by
  unfold few at h
  split at h
  · rename_i e
    exact ⟨Nat.le_trans (short_len e) (by decide), h⟩
  · exact h.elim
def tdTup (t : TAD) : TD := fun ss Q Ed => t ss (fun as => allD as fun ds => few ds (Q (.tup ds))) Ed
def tdLst (t : TAD) : TD := fun ss Q Ed => t ss (fun as => allD as fun ds => few ds (Q (.lst ds))) Ed
theorem d_tup {es : List Expr} {x1} {pos : Pos} {t : TAD} (h : DAs X c es t) : DE X c (.Tuple es x1 pos) (tdTup t) := by
  refine pe_imp (pe_tup h) fun σ H Q q => ?_
  obtain ⟨O, Hs, ss, Qd, Ed, A, h, er, g⟩ := q
  refine ⟨O, Hs, ss, _, Ed, A, h, er, fun as vs Hs1 H1 e1 i1 q1 => ?_⟩
  obtain ⟨ds, h3, h45⟩ := allD_is i1 q1
  obtain ⟨h4, h5⟩ := few_inv h45
  have x := Ext.laid (Z := Z0 O) (p := 0) (o := .tup vs) (s := e1.sub)
  refine ⟨by rw [h3.len]; exact h4, fun p np => g _ _ (upd Hs1 p (.tup vs)) _ (e1.trans (.laid e1.sub np)) ?_ h5⟩
  exact ⟨p, vs, rfl, upd_same, h3.same (Ext.laid (Z := Z0 O) e1.sub np).fz⟩
theorem d_lst {es : List Expr} {pos : Pos} {t : TAD} (h : DAs X c es t) : DE X c (.List es pos) (tdLst t) := by
  refine pe_imp (pe_lst h) fun σ H Q q => ?_
  obtain ⟨O, Hs, ss, Qd, Ed, A, h, er, g⟩ := q
  refine ⟨O, Hs, ss, _, Ed, A, h, er, fun as vs Hs1 H1 e1 i1 q1 => ?_⟩
  obtain ⟨ds, h3, h45⟩ := allD_is i1 q1
  obtain ⟨h4, h5⟩ := few_inv h45
  refine ⟨by rw [h3.len]; exact h4, fun p np => g _ _ (upd Hs1 p (.lst vs)) _ (e1.trans (.laid e1.sub np)) ?_ h5⟩
  exact ⟨p, vs, rfl, upd_same, h3.same (Ext.laid (Z := Z0 O) e1.sub np).fz⟩
/-- an expression that makes a list of its own -/
abbrev TOD := List Sl → (List D → Prop) → QE → Prop
def liftO (c : Cn) (K : PySem.W.Frag) (t : TOD) : TE := fun σ H Q => ∃ O Hs ss Qo Ed, Abs K c O Hs H σ ss ∧ t ss Qo Ed ∧ ErrC K c Ed ∧ ∀ ds p xs Hs' H', Ext (Z0 O) Hs H Hs' H' → H p = none → Hs' p = none → H' p = some (.lst xs) → IsA K Hs' ds xs → Qo ds → Q (.ref p) H'
abbrev DO (X : Cx) (c : Cn) (e : Expr) (t : TOD) : Prop := PE X e (liftO c X.K t)
theorem same_new0 {H : Hp} {p : Addr} {o : HO} (n : H p = none) : Same H (upd H p o) := fun b u h => by rw [upd_ne (ne_of_none h n)]; exact h
theorem Ext.freeze {Z : Addr → Prop} {Hs H Hs' H' : Hp} {p : Addr} {o : HO} (e : Ext Z Hs H Hs' H') (n : H p = none) (np : Hs' p = none) (hp : H' p = some o) : Ext Z Hs H (upd Hs' p o) H' where
  fz := e.fz.trans (same_new0 np)
  sub := fun b u h => by
    by_cases hb : b = p
    · subst hb; rw [upd_same] at h; cases h; exact hp
    · rw [upd_ne hb] at h; exact e.sub _ _ h
  keep := e.keep
  live := e.live
  new := fun b h1 h2 => by
    have hb : b ≠ p := by rintro rfl; exact h2.ne n
    rw [upd_ne hb]; exact e.new b h1 h2
  nt := e.nt
  pool := fun b l z q => by
    obtain ⟨xs', k1, k2⟩ := e.pool b l z q
    exact ⟨xs', k1, k2.same (same_new0 np)⟩
def tdO (t : TOD) : TD := fun ss Q Ed => t ss (fun ds => Q (.lst ds)) Ed
theorem d_ofO {e : Expr} {t : TOD} (h : DO X c e t) : DE X c e (tdO t) := by
  refine pe_imp h fun σ H Q q => ?_
  obtain ⟨O, Hs, ss, Qd, Ed, A, h, er, g⟩ := q
  exact ⟨O, Hs, ss, _, Ed, A, h, er, fun ds p xs Hs1 H1 x1 n1 n2 h1 h2 q1 => g (.lst ds) _ (upd Hs1 p (.lst xs)) H1 (x1.freeze n1 n2 h1) ⟨p, xs, rfl, upd_same, h2.same (same_new0 n2)⟩ q1⟩
def toLst (t : TAD) : TOD := fun ss Q Ed => t ss (fun as => allD as fun ds => few ds (Q ds)) Ed
theorem do_lst {es : List Expr} {pos : Pos} {t : TAD} (h : DAs X c es t) : DO X c (.List es pos) (toLst t) := by
  refine pe_imp (pe_lst h) fun σ H Q q => ?_
  obtain ⟨O, Hs, ss, Qd, Ed, A, h, er, g⟩ := q
  refine ⟨O, Hs, ss, _, Ed, A, h, er, fun as vs Hs1 H1 e1 i1 q1 => ?_⟩
  obtain ⟨ds, h3, h45⟩ := allD_is i1 q1
  obtain ⟨h4, h5⟩ := few_inv h45
  have nf : ∀ p, H1 p = none → Hs1 p = none := fun p np => by
    cases z : Hs1 p with
    | none => rfl
    | some u => rw [e1.sub _ _ z] at np; cases np
  have n0 : ∀ p, H1 p = none → H p = none := fun p np => by
    cases z : H p with
    | none => rfl
    | some u => exact absurd np (e1.live p (by rw [z]; exact fun z => nomatch z))
  exact ⟨by rw [h3.len]; exact h4, fun p np => g ds p vs Hs1 _ (e1.trans (.grow e1.sub np)) (n0 p np) (nf p np) upd_same h3 h5⟩
/-- a built-in, by its arguments' data -/
structure CallD (X : Cx) (f : Value) (r : List D → QD → Prop) : Prop where
  ex : ∃ r0 : List V → Hp → VK → Prop, CallR X f r0 ∧ ∀ (Z : Addr → Prop) (Hs H : Hp) (ds : List D) (vs : List V) (Qd : QD) (Q : VK), Same Hs H → IsA X.K Hs ds vs → r ds Qd →
    (∀ x w Hs' H', Ext Z Hs H Hs' H' → Is X.K Hs' x w → Qd x → Q w H') → r0 vs H Q
def tdCB (r : List D → QD → Prop) (t : TAD) : TD := fun ss Q Ed => t ss (fun as => allD as fun ds => r ds Q) Ed
theorem lift_cb {r : List D → QD → Prop} {f : Value} (o : CallD X f r) : ∃ r0 : List V → Hp → VK → Prop, CallR X f r0 ∧ ∀ t σ H Q, lift c X.K (tdCB r t) σ H Q → tCB r0 (liftA c X.K t) σ H Q := by
  obtain ⟨r0, h0, cn⟩ := o.ex
  refine ⟨r0, h0, fun t σ H Q q => ?_⟩
  obtain ⟨O, Hs, ss, Qd, Ed, A, h, er, g⟩ := q
  refine ⟨O, Hs, ss, _, Ed, A, h, er, fun as vs Hs1 H1 e1 i1 q1 => ?_⟩
  obtain ⟨ds, h3, h4⟩ := allD_is i1 q1
  exact cn (Z0 O) Hs1 H1 ds vs Qd Q e1.sub h3 h4 fun x w Hs3 H3 e3 i3 q3 => g x w Hs3 H3 (e1.trans e3) i3 q3
theorem d_callB {x : Str} {p pos : Pos} {e : Expr} {es : List Expr} {t : TAD} {id : String} {r : List D → QD → Prop} (o : CallD X (.builtin id) r) (hm : X.mg x = none) (ha : DAs X c (e :: es) t) (hg : Gl X x := by rfl) (hv : bootBuiltins x = some (.builtin id) := by decide +kernel) (hn : x ≠ "__name__" := by decide) (hdb : (x == ("__debug__" : Str)) = false := by decide)
    (he : starEach (e :: es) X.env = (false, eval e X.env) :: starEach es X.env := by rfl) (hpl : (backTo pos (starEach es X.env)).any (·.1) = false := by rfl) : DE X c (.Call (.Name x p) (e :: es) [] pos) (tdCB r t) := by
  obtain ⟨r0, h0, f⟩ := lift_cb (c := c) o
  exact pe_imp (pe_callB h0 hg hm hv ha hn hdb he hpl) (f t)
theorem d_callTy {x : Str} {p pos : Pos} {e : Expr} {es : List Expr} {t : TAD} {T : String} {r : List D → QD → Prop} (o : CallD X (.type T) r) (hm : X.mg x = none) (ha : DAs X c (e :: es) t) (hg : Gl X x := by rfl) (hv : bootBuiltins x = some (.type T) := by decide +kernel) (hn : x ≠ "__name__" := by decide) (hdb : (x == ("__debug__" : Str)) = false := by decide)
    (he : starEach (e :: es) X.env = (false, eval e X.env) :: starEach es X.env := by rfl) (hpl : (backTo pos (starEach es X.env)).any (·.1) = false := by rfl) : DE X c (.Call (.Name x p) (e :: es) [] pos) (tdCB r t) := by
  obtain ⟨r0, h0, f⟩ := lift_cb (c := c) o
  exact pe_imp (pe_callTy h0 hg hm hv ha hn hdb he hpl) (f t)
/-- a def's promise over data -/
abbrev SpD := List Sl → QD → QE → Prop
def spD (K : PySem.W.Frag) (f : SpD) : Sp := fun vs H Q E => ∃ (Z : Addr → Prop) (Hs : Hp) (as : List Sl) (Qd : QD) (Ed : QE), Same Hs H ∧ (∀ p, Z p → Hs p = none ∧ NT (H p)) ∧ ArgIs K Z Hs H as vs ∧ f as Qd Ed ∧
  (∀ d v Hs' H', Ext Z Hs H Hs' H' → Is K Hs' d v → Qd d → Q v H') ∧ (∀ er Hs' H', Ext Z Hs H Hs' H' → Ed er → ErrPost K E er Hs' H')
def tdCall (f : SpD) (ds : List D) (t : TAD) : TD := fun ss Q Ed => t ss (fun as => f (as ++ dats ds) Q Ed) Ed
/-- the state at a call, from the caller's -/
theorem ArgIs.app {K Z Hs H} {ds : List D} {ws : List V} (h2 : IsA K Hs ds ws) : ∀ {as : List Sl} {vs : List V}, ArgIs K Z Hs H as vs → ArgIs K Z Hs H (as ++ DL.dats ds) (vs ++ ws)
  | [], _, h => by
    cases h
    show ArgIs K Z Hs H (DL.dats ds) ws
    revert ws
    induction ds with
    | nil => intro ws h2; exact h2
    | cons d ds ih =>
      intro ws ⟨x, ys, e, h1, h3⟩
      exact ⟨x, ys, e, h1, ih h3⟩
  | .d _ :: _, _, ⟨v, ws', e1, h1, h3⟩ => by subst e1; exact ⟨v, _, rfl, h1, h3.app h2⟩
  | .pool :: _, _, ⟨p, ws', e1, h1, h3, h4⟩ => by subst e1; exact ⟨p, _, rfl, h1, h3, h4.app h2⟩
  | .un :: _, _, h => h.elim
  | .own _ _ :: _, _, h => h.elim
  | .mu _ _ :: _, _, h => h.elim
theorem sp_of {K : PySem.W.Frag} {f : SpD} {O Hs H σ ss} (A : Abs K c O Hs H σ ss) {as : List Sl} {vs : List V} {Qd : QD} {Ed : QE} {Q : VK} (er : ErrC K c Ed) (ai : ArgIs K (Z0 O) Hs H as vs) (h : f as Qd Ed)
    (g : ∀ d v Hs' H', Ext (Z0 O) Hs H Hs' H' → Is K Hs' d v → Qd d → Q v H') : spD K f vs H Q c.E :=
  ⟨Z0 O, Hs, as, Qd, Ed, A.sub, fun p hp => ⟨A.fz p (by rw [hp]; exact fun z => nomatch z), A.live p (by rw [hp]; exact fun z => nomatch z)⟩, ai, h, g, fun e Hs' H' x q => er e Hs' H' (A.after x) q⟩
theorem d_call {k : Nat} {f : Addr} {fd : FuncData} {ps : List Str} {sp : SpD} {x : Str} {p pos : Pos} {e : Expr} {es : List Expr} {t : TAD} {ds : List D} {dvs : List V} {dus : List Value} (F : FnOk X.prog X.w X.K X.mg X.base (L2.CX X.prog X.w) k f fd ps (spD X.K sp)) (hr : Room k X.A) (hm : X.mg x = some (.ref f)) (hk : PySem.W.keepIn X.K (.ref f) = true) (hb : Binds X.K fd ps dus) (hd : Vals dvs dus) (hds : ∀ H, IsA X.K H ds dvs) (hx : Passes (L2.CX X.prog X.w) X c.E)
    (ha : DAs X c (e :: es) t) (hg : Gl X x := by rfl) (hdb : (x == ("__debug__" : Str)) = false := by decide) (he : starEach (e :: es) X.env = (false, eval e X.env) :: starEach es X.env := by rfl) (hpl : (backTo pos (starEach es X.env)).any (·.1) = false := by rfl) :
    DE X c (.Call (.Name x p) (e :: es) [] pos) (tdCall sp ds t) := by
  refine pe_imp (pe_call F hr hg hm hk hb hd hx ha hdb he hpl) fun σ H Q q => ?_
  obtain ⟨O, Hs, ss, Qd, Ed, A, h, er, g⟩ := q
  refine ⟨O, Hs, ss, _, Ed, A, h, er, fun as vs Hs1 H1 e1 i1 q1 => ?_⟩
  exact sp_of (A.next e1) er (i1.app (hds Hs1)) q1 fun d v Hs2 H2 e2 i2 q2 => g d v Hs2 H2 (e1.trans e2) i2 q2
theorem d_call0 {k : Nat} {f : Addr} {fd : FuncData} {ps : List Str} {sp : SpD} {x : Str} {p pos : Pos} {ds : List D} {dvs : List V} {dus : List Value} (F : FnOk X.prog X.w X.K X.mg X.base (L2.CX X.prog X.w) k f fd ps (spD X.K sp)) (hr : Room k X.A) (hm : X.mg x = some (.ref f)) (hk : PySem.W.keepIn X.K (.ref f) = true) (hb : Binds X.K fd ps dus) (hd : Vals dvs dus) (hds : ∀ H, IsA X.K H ds dvs) (hx : Passes (L2.CX X.prog X.w) X c.E)
    (hg : Gl X x := by rfl) (hdb : (x == ("__debug__" : Str)) = false := by decide) : DE X c (.Call (.Name x p) [] [] pos) (tdCall sp ds tdNil) := by
  refine pe_imp (pe_call0 F hr hg hm hk hb hd hx hdb) fun σ H Q q => ?_
  obtain ⟨O, Hs, ss, Qd, Ed, A, h, er, g⟩ := q
  exact sp_of (σ := σ) (ss := ss) (vs := [] ++ dvs) A er (ArgIs.app (as := []) (vs := []) (hds Hs) rfl) h g
/-! ### blocks -/
def tdNext : TSD := fun En ss _ => En.nx ss
def tdSeq (t u : TSD) : TSD := fun En ss Ed => t { En with nx := fun ss' => u En ss' Ed } ss Ed
/-- what stands between, for both ways of an if -/
def tdCut (t u : TSD) : TSD := fun En ss Ed => ∃ J : List Sl → Prop, t { En with nx := J } ss Ed ∧ ∀ ss', J ss' → u En ss' Ed
theorem dss_nil : DSs X c [] tdNext := by
  refine pss_imp pss_nil fun Dn σ H q => ?_
  obtain ⟨O, Hs, ss, En, Ed, A, h, er, g⟩ := q
  exact g.nx σ O Hs H ss (.refl _) A h
theorem dss_cons {st : Stmt} {rest : List Stmt} {t u : TSD} (h1 : DS X c st t) (h2 : DSs X c rest u) : DSs X c (st :: rest) (tdSeq t u) := by
  refine pss_imp (pss_cons h1 h2) fun Dn σ H q => ?_
  obtain ⟨O, Hs, ss, En, Ed, A, h, er, g⟩ := q
  exact ⟨O, Hs, ss, _, Ed, A, h, er, ⟨fun σ' O' Hs' H' ss' s' A' q' => ⟨O', Hs', ss', En, Ed, A', q', er, g.up s'⟩, g.bk, g.ct, g.rt, g.ro, g.rm⟩⟩
theorem dss_cut {st : Stmt} {rest : List Stmt} {t u : TSD} (h1 : DS X c st t) (h2 : DSs X c rest u) : DSs X c (st :: rest) (tdCut t u) := by
  refine pss_imp (pss_cons h1 h2) fun Dn σ H q => ?_
  obtain ⟨O, Hs, ss, En, Ed, A, ⟨J, h, hJ⟩, er, g⟩ := q
  exact ⟨O, Hs, ss, _, Ed, A, h, er, ⟨fun σ' O' Hs' H' ss' s' A' q' => ⟨O', Hs', ss', En, Ed, A', hJ _ q', er, g.up s'⟩, g.bk, g.ct, g.rt, g.ro, g.rm⟩⟩
theorem dss_one {st : Stmt} {t : TSD} (h : DS X c st t) : DSs X c [st] t := pss_one h
/-- an own list is given up: data from here on -/
def tdPub (i : Nat) (t : TSD) : TSD := fun En ss Ed => match nth ss i with
  | .own _ ds => t En (put ss i (.d (.lst ds))) Ed
  | _ => False
theorem dss_pub (i : Nat) {st : List Stmt} {t : TSD} (h : DSs X c st t) : DSs X c st (tdPub i t) := by
  refine pss_imp h fun Dn σ H q => ?_
  obtain ⟨O, Hs, ss, En, Ed, A, h, er, g⟩ := q
  unfold tdPub at h
  split at h
  · rename_i p ds hs
    obtain ⟨xs, _, _, _, A', s', _⟩ := A.pub hs
    exact ⟨_, _, _, En, Ed, A', h, er, g.up s'⟩
  · exact h.elim
def tdDrop (te : TD) : TSD := fun En ss Ed => te ss (fun _ => En.nx ss) Ed
theorem d_expr {e : Expr} {pos : Pos} {te : TD} (he : DE X c e te) (hs : swapsWith e none pos.line X.env = pure false := by rfl) : DS X c (.Expr e pos) (tdDrop te) := by
  refine ps_imp (ps_expr he hs) fun Dn σ H q => ?_
  obtain ⟨O, Hs, ss, En, Ed, A, h, er, g⟩ := q
  exact ⟨O, Hs, ss, _, Ed, A, h, er, fun d v Hs1 H1 e1 i1 q1 => g.nx σ O Hs1 H1 ss e1.fz (A.next e1) q1⟩
def tdRet (te : TD) : TSD := fun En ss Ed => te ss En.rt Ed
theorem d_ret {e : Expr} {pos : Pos} {te : TD} (he : DE X c e te) : DS X c (.Return (some e) pos) (tdRet te) := by
  refine ps_imp (ps_ret he) fun Dn σ H q => ?_
  obtain ⟨O, Hs, ss, En, Ed, A, h, er, g⟩ := q
  exact ⟨O, Hs, ss, _, Ed, A, h, er, fun d v Hs1 H1 e1 i1 q1 => g.rt d v Hs1 H1 (A.after e1) i1 q1⟩
def tdRetN : TSD := fun En _ _ => En.rt .non
theorem d_retN {pos : Pos} : DS X c (.Return none pos) tdRetN := by
  refine ps_imp ps_retN fun Dn σ H q => ?_
  obtain ⟨O, Hs, ss, En, Ed, A, h, er, g⟩ := q
  exact g.rt .non .non Hs H A.ext rfl h
/-- return of an own list -/
def tdRetOwn (i : Nat) : TSD := fun En ss _ => match nth ss i with
  | .own _ ds => En.ro ds
  | _ => False
theorem own_facts {K c O Hs H σ ss} (A : Abs K c O Hs H σ ss) {i : Nat} {p : Addr} {ds : List D} (h : nth ss i = .own p ds) : ∃ xs, σ[i]? = some (some (.ref p)) ∧ O p = some (i + 1) ∧ H p = some (.lst xs) ∧ IsA K Hs ds xs ∧ Hs p = none ∧ c.H p = none := by
  have q := A.sl i
  rw [h] at q
  obtain ⟨xs, h1, own, h3, h4⟩ := q
  have nz : ¬ c.Z p := fun z => by have := A.z p z; rw [own] at this; cases this
  exact ⟨xs, h1, own, h3, h4, A.fz p (by rw [own]; exact fun z => nomatch z), (A.own0 p (by rw [own]; exact fun z => nomatch z)).resolve_left nz⟩
theorem d_retOwn {e : Expr} {pos : Pos} {i : Nat} (he : PE X e (tVar i)) : DS X c (.Return (some e) pos) (tdRetOwn i) := by
  refine ps_imp (ps_ret he) fun Dn σ H q => ?_
  obtain ⟨O, Hs, ss, En, Ed, A, h, er, g⟩ := q
  unfold tdRetOwn at h
  split at h
  · rename_i p ds hs
    obtain ⟨xs, h1, _, h3, h4, h5, h6⟩ := own_facts A hs
    exact ⟨_, h1, g.ro ds p xs Hs H A.ext h6 h5 h3 h4 h⟩
  · exact h.elim
def tdIfS (t : TTD) (a b : TSD) : TSD := fun En ss Ed => t ss (fun k => if k = true then a En ss Ed else b En ss Ed) Ed
theorem d_ifS {k : Expr} {a b : List Stmt} {pos : Pos} {t : TTD} {ta tb : TSD} (hk : DT X c k t) (ha : DSs X c a ta) (hb : DSs X c b tb) : DS X c (.If k a b pos) (tdIfS t ta tb) := by
  refine ps_imp (ps_if hk ha hb) fun Dn σ H q => ?_
  obtain ⟨O, Hs, ss, En, Ed, A, h, er, g⟩ := q
  refine ⟨O, Hs, ss, _, Ed, A, h, er, fun b Hs1 H1 e1 q1 => ?_⟩
  cases b with
  | true => exact ⟨O, Hs1, ss, En, Ed, A.next e1, q1, er, g.up e1.fz⟩
  | false => exact ⟨O, Hs1, ss, En, Ed, A.next e1, q1, er, g.up e1.fz⟩
theorem d_pass {pos : Pos} : DS X c (.Pass pos) tdNext := by
  refine ps_imp ps_pass fun Dn σ H q => ?_
  obtain ⟨O, Hs, ss, En, Ed, A, h, er, g⟩ := q
  exact g.nx σ O Hs H ss (.refl _) A h
def tdBrk : TSD := fun En ss _ => En.bk ss
def tdCnt : TSD := fun En ss _ => En.ct ss
theorem d_break {pos : Pos} : DS X c (.Break pos) tdBrk := by
  refine ps_imp ps_break fun Dn σ H q => ?_
  obtain ⟨O, Hs, ss, En, Ed, A, h, er, g⟩ := q
  exact g.bk σ O Hs H ss (.refl _) A h
theorem d_continue {pos : Pos} : DS X c (.Continue pos) tdCnt := by
  refine ps_imp ps_continue fun Dn σ H q => ?_
  obtain ⟨O, Hs, ss, En, Ed, A, h, er, g⟩ := q
  exact g.ct σ O Hs H ss (.refl _) A h
/-! ### targets -/
abbrev GD := D → List Sl → (List Sl → Prop) → Prop
abbrev GsD := List D → List Sl → (List Sl → Prop) → Prop
def fits : Nat → List D → Bool
  | 0, [] => true
  | n + 1, _ :: ds => fits n ds
  | _, _ => false
theorem fits_len : ∀ {n : Nat} {ds : List D}, fits n ds = true → ds.length = n
  | 0, [], _ => rfl
  | n + 1, _ :: ds, h => congrArg Nat.succ (fits_len (n := n) (ds := ds) h)
  | 0, _ :: _, h => by cases h
  | _ + 1, [], h => by cases h
theorem fits_of : ∀ {ds : List D} {n : Nat}, ds.length = n → fits n ds = true
  | [], _, h => by subst h; rfl
  | _ :: ds, _, h => by subst h; exact fits_of (ds := ds) rfl
/-- a name's slot, or a tuple of targets -/
inductive Pat where
  | n (i : Nat) | t (ps : List Pat)
mutual
def Pat.tg (K : PySem.W.Frag) : Pat → TG
  | .n i => gName i
  | .t ps => gTup K ps.length (Pat.tgs K ps)
def Pat.tgs (K : PySem.W.Frag) : List Pat → TGs
  | [] => gNil
  | p :: ps => gCons (Pat.tg K p) (Pat.tgs K ps)
end
mutual
def Pat.gd : Pat → GD
  | .n i => fun d ss Q => Q (put ss i (.d d))
  | .t ps => fun d ss Q => match d with
    | .tup ds => match fits ps.length ds with
      | true => Pat.gds ps ds ss Q
      | false => False
    | .tupK ds => match fits ps.length ds with
      | true => Pat.gds ps ds ss Q
      | false => False
    | _ => False
def Pat.gds : List Pat → GsD
  | [] => fun ds ss Q => match ds with
    | [] => Q ss
    | _ => False
  | p :: ps => fun ds ss Q => match ds with
    | d :: ds => Pat.gd p d ss fun ss' => Pat.gds ps ds ss' Q
    | _ => False
end
mutual
def Pat.vs : Pat → List Nat
  | .n i => [i]
  | .t ps => Pat.vss ps
def Pat.vss : List Pat → List Nat
  | [] => []
  | p :: ps => Pat.vs p ++ Pat.vss ps
end
/-- all slots but these are as they were -/
def Kept (vs : List Nat) (σ σ' : L2.St) : Prop := σ'.length = σ.length ∧ ∀ j, j ∉ vs → σ'[j]? = σ[j]?
mutual
theorem Pat.conn {K : PySem.W.Frag} {c : Cn} {O Hs H} : ∀ (p : Pat) {σ ss d v} {Qd : List Sl → Prop} {Q : L2.St → Hp → Prop}, Abs K c O Hs H σ ss → Is K Hs d v → Pat.gd p d ss Qd →
    (∀ σ' ss', Abs K c O Hs H σ' ss' → Kept p.vs σ σ' → Qd ss' → Q σ' H) → p.tg K v σ H Q
  | .n i, σ, ss, d, v, Qd, Q, A, is, q, f => by
    simp only [Pat.gd] at q
    simp only [Pat.tg]
    exact f _ _ (A.set is) ⟨List.length_set, fun j hj => List.getElem?_set_ne (fun e => hj (by simp [Pat.vs, e]))⟩ q
  | .t ps, σ, ss, d, v, Qd, Q, A, is, q, f => by
    simp only [Pat.gd] at q
    split at q
    · rename_i ds
      split at q
      · rename_i hf
        obtain ⟨a, xs, e, h1, h2⟩ := is
        simp only [Pat.tg]
        exact ⟨a, xs, e, same_sqt A.sub h1, by rw [h2.len]; exact fits_len hf, Pat.conns ps A h2 q fun σ' ss' A' k q' => f σ' ss' A' (by simpa [Pat.vs] using k) q'⟩
      · exact q.elim
    · rename_i ds
      split at q
      · rename_i hf
        obtain ⟨a, xs, e, h1, h2⟩ := is
        simp only [Pat.tg]
        exact ⟨a, xs, e, same_sqtK A.sub h1, by rw [h2.len]; exact fits_len hf, Pat.conns ps A h2 q fun σ' ss' A' k q' => f σ' ss' A' (by simpa [Pat.vs] using k) q'⟩
      · exact q.elim
    · exact q.elim
theorem Pat.conns {K : PySem.W.Frag} {c : Cn} {O Hs H} : ∀ (ps : List Pat) {σ ss ds us} {Qd : List Sl → Prop} {Q : L2.St → Hp → Prop}, Abs K c O Hs H σ ss → IsA K Hs ds us → Pat.gds ps ds ss Qd →
    (∀ σ' ss', Abs K c O Hs H σ' ss' → Kept (Pat.vss ps) σ σ' → Qd ss' → Q σ' H) → Pat.tgs K ps us σ H Q
  | [], σ, ss, ds, us, Qd, Q, A, is, q, f => by
    cases ds with
    | nil =>
      cases is
      simp only [Pat.gds] at q
      simp only [Pat.tgs]
      exact ⟨rfl, f _ _ A ⟨rfl, fun _ _ => rfl⟩ q⟩
    | cons d ds => simp only [Pat.gds] at q
  | p :: ps, σ, ss, ds, us, Qd, Q, A, is, q, f => by
    cases ds with
    | nil => simp only [Pat.gds] at q
    | cons d ds =>
      obtain ⟨x, ys, e, h3, h4⟩ := is
      simp only [Pat.gds] at q
      simp only [Pat.tgs]
      refine ⟨x, ys, e, Pat.conn p A h3 q fun σ' ss' A' k1 q' => ?_⟩
      refine Pat.conns ps A' h4 q' fun σ2 ss2 A2 k2 q2 => f σ2 ss2 A2 ⟨k2.1.trans k1.1, fun j hj => ?_⟩ q2
      simp only [Pat.vss, List.mem_append, not_or] at hj
      exact (k2.2 j hj.2).trans (k1.2 j hj.1)
end
abbrev DG (X : Cx) (tg : Expr) (p : Pat) : Prop := PG X tg (p.tg X.K)
abbrev DGs (X : Cx) (tgs : List Expr) (ps : List Pat) : Prop := PGs X tgs (Pat.tgs X.K ps)
theorem dg_name {i : Nat} {x : Str} {pos : Pos} (h : PG X (.Name x pos) (gName i)) : DG X (.Name x pos) (.n i) := h
theorem dgs_nil : DGs X [] [] := pgs_nil
theorem dgs_cons {e : Expr} {es : List Expr} {p : Pat} {ps : List Pat} (h1 : DG X e p) (h2 : DGs X es ps) (hst : (assignEach (e :: es) X.env).map (·.2) = assign e X.env :: (assignEach es X.env).map (·.2) := by rfl) : DGs X (e :: es) (p :: ps) := pgs_cons h1 h2 hst
theorem dg_tup {es : List Expr} {k : Nat} {pos : Pos} {ps : List Pat} (hc : X.calm = true) (h : DGs X es ps) (hn : (assignEach es X.env).length = ps.length := by rfl) (hst : (assignEach es X.env).findIdx? (·.1) = none := by rfl) : DG X (.Tuple es k pos) (.t ps) := pg_tup hc h hn hst
/-! ### assignment -/
def tdAsg (te : TD) (p : Pat) : TSD := fun En ss Ed => te ss (fun d => p.gd d ss En.nx) Ed
theorem d_asg {tg e : Expr} {pos : Pos} {te : TD} {p : Pat} (he : DE X c e te) (hg : DG X tg p) (hs : swapsWithSole [tg] e pos.line X.env = pure false := by rfl) (hw : swappedStores [tg] e X.env = pure none := by rfl) (h1 : (assignEach [tg] X.env).map (·.2) = [assign tg X.env] := by rfl) : DS X c (.Assign [tg] e pos) (tdAsg te p) := by
  refine ps_imp (ps_asg he hg hs hw h1) fun Dn σ H q => ?_
  obtain ⟨O, Hs, ss, En, Ed, A, h, er, gc⟩ := q
  exact ⟨O, Hs, ss, _, Ed, A, h, er, fun d v Hs1 H1 e1 i1 q1 => p.conn (A.next e1) i1 q1 fun σ' ss' A' _ q' => gc.nx σ' O Hs1 H1 ss' e1.fz A' q'⟩
/-- x = e, the new list the slot's own -/
def tdSetOwn (i : Nat) (t : TOD) : TSD := fun En ss Ed => t ss (fun ds => ∀ p, En.nx (put ss i (.own p ds))) Ed
theorem Abs.own {K c O Hs H σ ss} (A : Abs K c O Hs H σ ss) {i : Nat} {p : Addr} {ds : List D} {xs : List V} {H0 : Hp} (lv : ∀ a, O a ≠ none → NT (H0 a)) (c0 : c.H p = none) (n0 : H0 p = none) (n : Hs p = none) (hp : H p = some (.lst xs)) (h : IsA K Hs ds xs) :
    ∃ O', Abs K c O' Hs H (σ.set i (some (.ref p))) (put ss i (.own p ds)) := by
  classical
  have Op : O p = none := by
    cases q : O p with
    | none => rfl
    | some k => exact absurd n0 (lv p (by rw [q]; exact fun z => nomatch z)).ne
  have hO : ∀ a, a ≠ p → (if a = p then some (i + 1) else O a) = O a := fun a h => if_neg h
  refine ⟨fun b => if b = p then some (i + 1) else O b, A.ext, fun a h => ?_, fun a h => ?_, fun a h => ?_, fun a h => ?_, by rw [put_len, List.length_set]; exact A.len, fun j => ?_⟩
  · by_cases e : a = p
    · subst e; exact n
    · rw [hO a e] at h; exact A.fz a h
  · by_cases e : a = p
    · subst e; rw [hp]; trivial
    · rw [hO a e] at h; exact A.live a h
  · by_cases e : a = p
    · subst e; exact .inr c0
    · rw [hO a e] at h; exact A.own0 a h
  · by_cases e : a = p
    · subst e
      have := A.z a h
      rw [Op] at this; cases this
    · show (if a = p then some (i + 1) else O a) = some 0
      rw [hO a e]; exact A.z a h
  · by_cases e : j = i
    · subst e
      by_cases l : j < ss.length
      · rw [nth_put l, List.getElem?_set_self (by rw [A.len]; exact l)]
        exact ⟨xs, rfl, if_pos rfl, hp, h⟩
      · rw [put_out (Nat.le_of_not_lt l), nth_out (Nat.le_of_not_lt l)]
        trivial
    · rw [nth_put_ne e, List.getElem?_set_ne (fun z => e z.symm)]
      have q := A.sl j
      revert q
      cases nth ss j with
      | un => exact fun _ => trivial
      | d x => exact fun q => q
      | own p' es =>
        rintro ⟨xs', h1, h2, h3, h4⟩
        have ne : p' ≠ p := by rintro rfl; rw [Op] at h2; cases h2
        exact ⟨xs', h1, (hO p' ne).trans h2, h3, h4⟩
      | pool =>
        rintro ⟨p', h1, h2, h3⟩
        have ne : p' ≠ p := by rintro rfl; rw [Op] at h2; cases h2
        exact ⟨p', h1, (hO p' ne).trans h2, h3⟩
      | mu p' m =>
        rintro ⟨u, h1, h2, h3, h4⟩
        have ne : p' ≠ p := by rintro rfl; rw [Op] at h2; cases h2
        exact ⟨u, h1, (hO p' ne).trans h2, h3, h4⟩
theorem Abs.fresh {K c O Hs H σ ss} (A : Abs K c O Hs H σ ss) {p : Addr} (n : H p = none) : c.H p = none := by
  cases z : c.H p with
  | none => rfl
  | some u => exact absurd n (A.ext.live p (by rw [z]; exact fun z => nomatch z))
theorem d_setO {i : Nat} {x : Str} {e : Expr} {pos pos' : Pos} {t : TOD} (hN : X.N.Nodup) (hi : X.N[i]? = some x) (hx : Loc X.env.scope x) (h : DO X c e t) (hs : swapsWith e (some (.Name x pos')) pos.line X.env = pure false := by rfl)
    (hf : X.fn x = true ∨ X.env.scope.names.lookup x = some .local := by first | exact .inl rfl | exact .inr rfl | assumption) : DS X c (.Assign [.Name x pos'] e pos) (tdSetOwn i t) := by
  refine ps_imp (ps_set hN hi hx h hs hf) fun Dn σ H q => ?_
  obtain ⟨O, Hs, ss, En, Ed, A, h, er, gc⟩ := q
  refine ⟨O, Hs, ss, _, Ed, A, h, er, fun ds p xs Hs1 H1 x1 n1 n2 h1 h2 q1 => ?_⟩
  obtain ⟨O', A'⟩ := (A.next x1).own (i := i) A.live (A.fresh n1) n1 n2 h1 h2
  exact gc.nx _ O' Hs1 _ _ x1.fz A' (q1 p)
/-- return e, e a new list -/
def tdRetO (t : TOD) : TSD := fun En ss Ed => t ss En.ro Ed
theorem d_retO {e : Expr} {pos : Pos} {t : TOD} (he : DO X c e t) : DS X c (.Return (some e) pos) (tdRetO t) := by
  refine ps_imp (ps_ret he) fun Dn σ H q => ?_
  obtain ⟨O, Hs, ss, En, Ed, A, h, er, g⟩ := q
  exact ⟨O, Hs, ss, _, Ed, A, h, er, fun ds p xs Hs1 H1 x1 n1 n2 h1 h2 q1 => g.ro ds p xs Hs1 H1 (A.after x1) (A.fresh n1) n2 h1 h2 q1⟩
/-- a, b = e1, e2 -/
def tdPar (i j : Nat) (ta tb : TD) : TSD := fun En ss Ed => ta ss (fun x => tb ss (fun y => En.nx (put (put ss i (.d x)) j (.d y))) Ed) Ed
theorem d_par {i j : Nat} {x y : Str} {a b : Expr} {ta tb : TD} {px py pt pos : Pos} {kt k2 pt2} (hc : X.calm = true) (hN : X.N.Nodup) (hi : X.N[i]? = some x) (hj : X.N[j]? = some y) (hij : i ≠ j) (hx : X.env.scope.names.lookup x = some .local) (hy : X.env.scope.names.lookup y = some .local)
    (ha : DE X c a ta) (hb : DE X c b tb) (h1 : PS X (.Assign [.Tuple [.Name x px, .Name y py] kt pt] (.Tuple [a, b] k2 pt2) pos) (tPar i j (tCons (lift c X.K ta) (tCons (lift c X.K tb) tNil)))) : DS X c (.Assign [.Tuple [.Name x px, .Name y py] kt pt] (.Tuple [a, b] k2 pt2) pos) (tdPar i j ta tb) := by
  refine ps_imp h1 fun Dn σ H q => ?_
  obtain ⟨O, Hs, ss, En, Ed, A, h, er, gc⟩ := q
  refine ⟨O, Hs, ss, _, Ed, A, h, er, fun d v Hs1 H1 e1 i1 q1 => ?_⟩
  refine ⟨O, Hs1, ss, _, Ed, A.next e1, q1, er, fun d2 v2 Hs2 H2 e2 i2 q2 => ?_⟩
  exact ⟨v, v2, rfl, gc.nx _ O Hs2 H2 _ (e1.fz.trans e2.fz) ((((A.next e1).next e2).set (i1.same e2.fz)).set i2) q2⟩
/-- xs.append(e) of an own list -/
def tdApp (i : Nat) (te : TD) : TSD := fun En ss Ed => match nth ss i with
  | .own p ds => te ss (fun d => ds.length < sizeLine ∧ En.nx (put ss i (.own p (ds ++ [d])))) Ed
  | _ => False
theorem d_app {x e : Expr} {apos pos pos' : Pos} {i : Nat} {te : TD} (hx : PE X x (tVar i)) (he : DE X c e te) (h1 : PE X (.Call (.Attribute x "append" apos) [e] [] pos) (tBM X.K "list" rAppend (tVar i) (tCons (lift c X.K te) tNil))) (hs : swapsWith (.Call (.Attribute x "append" apos) [e] [] pos) none pos'.line X.env = pure false := by rfl) :
    DS X c (.Expr (.Call (.Attribute x "append" apos) [e] [] pos) pos') (tdApp i te) := by
  refine ps_imp (ps_expr h1 hs) fun Dn σ H q => ?_
  obtain ⟨O, Hs, ss, En, Ed, A, h, er, gc⟩ := q
  have hsl := A.sl i
  unfold tdApp at h
  split at h
  · rename_i p ds hds
    rw [hds] at hsl
    have il : i < ss.length := by
      by_cases l : i < ss.length
      · exact l
      · rw [nth_out (Nat.le_of_not_lt l)] at hds; cases hds
    obtain ⟨xs, e1, o1, h1, h2⟩ := hsl
    refine ⟨_, e1, .inl ⟨rfl, _, .inl (.inl h1)⟩, O, Hs, ss, _, Ed, A, h, er, fun d v Hs1 H1 x1 i1 q1 => ?_⟩
    have h3 : H1 p = some (.lst xs) := x1.keep p _ (fun z => by have z : O p = some 0 := z; rw [o1] at z; cases z) h1
    refine ⟨p, xs, v, rfl, rfl, h3, by rw [h2.len]; exact q1.1, ?_⟩
    exact gc.nx σ O Hs1 _ _ x1.fz ((A.next x1).write e1 o1 il ((h2.same x1.fz).app (.one i1))) q1.2
  · exact h.elim
/-! ### loops -/
/-- an iterator that gives these items, from Hs on -/
structure ItIs (K : PySem.W.Frag) (J : It) (items : List D) (Hs : Hp) : Prop where
  go : ∀ i Hs' H, Same Hs Hs' → Same Hs' H → i < items.length → J.go i H
  stop : ∀ i Hs' H, Same Hs Hs' → Same Hs' H → items.length = i → J.stop i H
  yld : ∀ i Hs' H v H' d, Same Hs Hs' → Same Hs' H → J.yld i H v H' → items[i]? = some d → ∃ Hs2, (∀ Z, Ext Z Hs' H Hs2 H') ∧ Is K Hs2 d v
abbrev TID := List Sl → (List D → Prop) → QE → Prop
def liftI (c : Cn) (K : PySem.W.Frag) (t : TID) : TI := fun σ H R => ∃ O Hs ss Qi Ed, Abs K c O Hs H σ ss ∧ t ss Qi Ed ∧ ErrC K c Ed ∧ ∀ items J Hs' H', Ext (Z0 O) Hs H Hs' H' → ItIs K J items Hs' → Qi items → R J H'
abbrev DI (X : Cx) (c : Cn) (tg iter : Expr) (t : TID) : Prop := PI X tg iter (liftI c X.K t)
theorem pi_imp {tg iter : Expr} {t t' : TI} (h : PI X tg iter t) (f : ∀ σ H Q, t' σ H Q → t σ H Q) : PI X tg iter t' := ⟨fun pins s σ H Q I q => h.run pins s σ H Q I (f _ _ _ q)⟩
/-- I: what holds ahead of each turn -/
def tdFor (ti : TID) (p : Pat) (tb : TSD) : TSD := fun En ss Ed => ti ss (fun items => ∃ I : Nat → List Sl → Prop, I 0 ss ∧
  (∀ i d ss', items[i]? = some d → I i ss' → p.gd d ss' fun ss2 => tb { nx := I (i + 1), rt := En.rt, ro := En.ro, rm := En.rm, bk := En.nx, ct := I (i + 1) } ss2 Ed) ∧ ∀ ss', I items.length ss' → En.nx ss') Ed
theorem d_for {tg iter : Expr} {body : List Stmt} {pos : Pos} {ti : TID} {p : Pat} {tb : TSD} (hp : PassesOwn (model X.prog X.w) X.A X.env X.xe) (hc : X.calm = true) (hi : DI X c tg iter ti) (hg : DG X tg p) (hb : DSs X c body tb)
    (hs : ∀ x, foldedSetIterable iter X.env x = pure x := by intro _; rfl) : DS X c (.For tg iter body [] pos) (tdFor ti p tb) := by
  refine ps_imp (ps_for hp hc hi hg hb hs) fun Dn σ H q => ?_
  obtain ⟨O, Hs, ss, En, Ed, A, h, er, gc⟩ := q
  refine ⟨O, Hs, ss, _, Ed, A, h, er, fun items J Hs1 H1 x1 hJ q1 => ?_⟩
  obtain ⟨I, i0, turn, fin⟩ := q1
  refine ⟨fun i m σ' H' => m = items.length - i ∧ i ≤ items.length ∧ ∃ O' Hs' ss', Abs X.K c O' Hs' H' σ' ss' ∧ Same Hs1 Hs' ∧ I i ss', ⟨_, rfl, Nat.zero_le _, O, Hs1, ss, A.next x1, .refl _, i0⟩, ?_⟩
  rintro i m σ' H' ⟨rfl, hi, O', Hs', ss', A', s', q'⟩
  by_cases hlt : i < items.length
  · refine .inr ⟨hJ.go i Hs' H' s' A'.sub hlt, fun σ2 H2 => ∃ O2 Hs2 ss2, Abs X.K c O2 Hs2 H2 σ2 ss2 ∧ Same Hs1 Hs2 ∧ I (i + 1) ss2, fun σ2 H2 z => ⟨items.length - (i + 1), by omega, rfl, hlt, z⟩, fun v H2 hy => ?_⟩
    have hd : items[i]? = some items[i] := List.getElem?_eq_getElem hlt
    obtain ⟨Hs2, x2, is2⟩ := hJ.yld i Hs' H' v H2 _ s' A'.sub hy hd
    have A2 := A'.next (x2 (Z0 O'))
    refine p.conn A2 is2 (turn i _ ss' hd q') fun σ3 ss3 A3 _ q3 => ?_
    have s3 : Same Hs1 Hs2 := s'.trans (x2 (Z0 O')).fz
    refine ⟨O', Hs2, ss3, _, Ed, A3, q3, er, ?_⟩
    exact ⟨fun σ4 O4 Hs4 H4 ss4 z A4 q4 => ⟨O4, Hs4, ss4, A4, s3.trans z, q4⟩, fun σ4 O4 Hs4 H4 ss4 z A4 q4 => gc.nx σ4 O4 Hs4 H4 ss4 (x1.fz.trans (s3.trans z)) A4 q4, fun σ4 O4 Hs4 H4 ss4 z A4 q4 => ⟨O4, Hs4, ss4, A4, s3.trans z, q4⟩, gc.rt, gc.ro, gc.rm⟩
  · have e : i = items.length := by omega
    subst e
    exact .inl ⟨hJ.stop _ Hs' H' s' A'.sub rfl, gc.nx σ' O' Hs' H' ss' (x1.fz.trans s') A' (fin ss' q')⟩
/-- I: what holds ahead of each turn, by a number that falls -/
def tdWhile (tt : TTD) (tb : TSD) : TSD := fun En ss Ed => ∃ I : Nat → List Sl → Prop, (∃ m, I m ss) ∧ ∀ m ss', I m ss' → tt ss' (fun b => if b = true then
  tb { nx := fun ss2 => ∃ m', m' < m ∧ I m' ss2, rt := En.rt, ro := En.ro, rm := En.rm, bk := En.nx, ct := fun ss2 => ∃ m', m' < m ∧ I m' ss2 } ss' Ed else En.nx ss') Ed
theorem d_while {k : Expr} {body : List Stmt} {pos : Pos} {tt : TTD} {tb : TSD} (hp : PassesOwn (model X.prog X.w) X.A X.env X.xe) (hk : DT X c k tt) (hb : DSs X c body tb) : DS X c (.While k body [] pos) (tdWhile tt tb) := by
  refine ps_imp (ps_while hp hk hb) fun Dn σ H q => ?_
  obtain ⟨O, Hs, ss, En, Ed, A, ⟨I, ⟨m0, i0⟩, turn⟩, er, gc⟩ := q
  refine ⟨fun m σ' H' => ∃ O' Hs' ss', Abs X.K c O' Hs' H' σ' ss' ∧ Same Hs Hs' ∧ I m ss', ⟨m0, O, Hs, ss, A, .refl _, i0⟩, ?_⟩
  rintro m σ' H' ⟨O', Hs', ss', A', s', q'⟩
  refine ⟨O', Hs', ss', _, Ed, A', turn m ss' q', er, fun b Hs2 H2 x2 q2 => ?_⟩
  cases b with
  | true =>
    rw [if_pos rfl]
    refine ⟨fun σ3 H3 => ∃ m', m' < m ∧ ∃ O3 Hs3 ss3, Abs X.K c O3 Hs3 H3 σ3 ss3 ∧ Same Hs Hs3 ∧ I m' ss3, fun σ3 H3 z => z, ?_⟩
    refine ⟨O', Hs2, ss', _, Ed, A'.next x2, q2, er, ?_⟩
    exact ⟨fun σ4 O4 Hs4 H4 ss4 z A4 ⟨m', hm, q4⟩ => ⟨m', hm, O4, Hs4, ss4, A4, (s'.trans x2.fz).trans z, q4⟩, fun σ4 O4 Hs4 H4 ss4 z A4 q4 => gc.nx σ4 O4 Hs4 H4 ss4 ((s'.trans x2.fz).trans z) A4 q4,
      fun σ4 O4 Hs4 H4 ss4 z A4 ⟨m', hm, q4⟩ => ⟨m', hm, O4, Hs4, ss4, A4, (s'.trans x2.fz).trans z, q4⟩, gc.rt, gc.ro, gc.rm⟩
  | false =>
    rw [if_neg Bool.false_ne_true]
    exact gc.nx σ' O' Hs2 H2 ss' (s'.trans x2.fz) (A'.next x2) q2
/-! ### an own list is read as data, for a while -/
def flatD : D → Bool
  | .non | .bl _ | .int _ | .str _ | .ty _ | .cls _ => true
  | _ => false
theorem flat_is {K H H'} : ∀ {d : D} {v : V}, flatD d = true → Is K H d v → Is K H' d v
  | .non, _, _, h => h
  | .bl _, _, _, h => h
  | .int _, _, _, h => h
  | .str _, _, _, h => h
  | .ty _, _, _, h => h
  | .cls _, _, _, h => h
  | .lst _, _, h, _ => by cases h
  | .tup _, _, h, _ => by cases h
  | .dct _ _, _, h, _ => by cases h
  | .dctT _ _, _, h, _ => by cases h
  | .tupK _, _, h, _ => by cases h
  | .obj _ _ _, _, h, _ => by cases h
  | .is _, _, h, _ => by cases h
def thaw (Hs : Hp) (p : Addr) : Hp := fun b => open Classical in if b = p then none else Hs b
theorem thaw_ne {Hs : Hp} {p b : Addr} (h : b ≠ p) : thaw Hs p b = Hs b := if_neg h
theorem thaw_eq {Hs : Hp} {p : Addr} : thaw Hs p p = none := if_pos rfl
theorem Ext.thaw {O : Addr → Option Nat} {Hs H Hs' H' : Hp} {p : Addr} {o : HO} {k : Nat} (s0 : Same Hs H) (np : Hs p = none) (op : O p = some (k + 1)) (e : Ext (Z0 (Odel O p)) (upd Hs p o) H Hs' H') : Ext (Z0 O) Hs H (DL.thaw Hs' p) H' where
  fz := fun b u h => by
    have hb : b ≠ p := ne_of_none h np
    rw [thaw_ne hb]
    exact e.fz b u (by rw [upd_ne hb]; exact h)
  sub := fun b u h => by
    by_cases hb : b = p
    · subst hb; rw [thaw_eq] at h; cases h
    · rw [thaw_ne hb] at h; exact e.sub b u h
  keep := fun b u z h => e.keep b u (fun z' => by
    by_cases hb : b = p
    · subst hb
      have z' : Odel O b b = some 0 := z'
      rw [Odel_eq] at z'; cases z'
    · have z' : Odel O p b = some 0 := z'
      rw [Odel_ne hb] at z'
      exact z z') h
  live := e.live
  new := fun b h1 h2 => by
    by_cases hb : b = p
    · subst hb; exact thaw_eq
    · rw [thaw_ne hb]; exact e.new b (by rw [upd_ne hb]; exact h1) h2
  nt := e.nt
  pool := fun b l z q => by
    have hb : b ≠ p := by rintro rfl; have z : O b = some 0 := z; rw [op] at z; cases z
    obtain ⟨xs0, h1, h2⟩ := q
    obtain ⟨xs', k1, k2⟩ := e.pool b l (show Odel O p b = some 0 by rw [Odel_ne hb]; exact z) ⟨xs0, h1, h2.same (same_new0 np)⟩
    refine ⟨xs', k1, ?_⟩
    cases l with
    | none => exact k2
    | some l =>
      obtain ⟨_, _, _, _, _, h3, _⟩ := h2
      have hl : l ≠ p := ne_of_none h3 np
      obtain ⟨ns, x, y, w, e1, k3, k4⟩ := k2
      exact ⟨ns, x, y, w, e1, by rw [thaw_ne hl]; exact k3, k4⟩
def pubS (ss : List Sl) (i : Nat) : List Sl := match nth ss i with
  | .own _ ds => put ss i (.d (.lst ds))
  | _ => ss
def tdPeek (i : Nat) (t : TD) : TD := fun ss Q Ed => t (pubS ss i) (fun d => flatD d = true ∧ Q d) Ed
theorem d_peek (i : Nat) {e : Expr} {t : TD} (h : DE X c e t) : DE X c e (tdPeek i t) := by
  refine pe_imp h fun σ H Q q => ?_
  obtain ⟨O, Hs, ss, Qd, Ed, A, h, er, g⟩ := q
  unfold tdPeek pubS at h
  split at h
  · rename_i p ds hs
    obtain ⟨xs, np, hp, op, A', s', _⟩ := A.pub hs
    exact ⟨_, _, _, _, Ed, A', h, er, fun d v Hs1 H1 x1 i1 q1 => g d v _ H1 (x1.thaw A.sub np op) (flat_is q1.1 i1) q1.2⟩
  · exact ⟨O, Hs, ss, _, Ed, A, h, er, fun d v Hs1 H1 x1 i1 q1 => g d v Hs1 H1 x1 i1 q1.2⟩
def tdPeekT (i : Nat) (t : TTD) : TTD := fun ss Q Ed => t (pubS ss i) Q Ed
theorem dt_peek (i : Nat) {e : Expr} {t : TTD} (h : DT X c e t) : DT X c e (tdPeekT i t) := by
  refine pt_imp h fun σ H Q q => ?_
  obtain ⟨O, Hs, ss, Qd, Ed, A, h, er, g⟩ := q
  unfold tdPeekT pubS at h
  split at h
  · rename_i p ds hs
    obtain ⟨xs, np, hp, op, A', s', _⟩ := A.pub hs
    exact ⟨_, _, _, _, Ed, A', h, er, fun d Hs1 H1 x1 q1 => g d _ H1 (x1.thaw A.sub np op) q1⟩
  · exact ⟨O, Hs, ss, _, Ed, A, h, er, fun d Hs1 H1 x1 q1 => g d Hs1 H1 x1 q1⟩
end
end DL
set_option Elab.async false
set_option linter.all false
set_option maxRecDepth 100000
set_option maxHeartbeats 4000000
/-! DC: operators, built-ins, iterators, comprehensions over data -/
namespace DL
open PySem PySem.Spec PyProof.Rows L2
section
variable {X : Cx} {c : Cn}
/-! ### arithmetic -/
def CDivA (_ j : Int) : Prop := j ≠ 0 ∧ j.natAbs.log2 < 9000
theorem op_fdivA : OpR X (binaryOp .FloorDiv) (rI CDivA fun i j => .int (i.fdiv j)) := opI fun i j _ _ _ _ _ hc q =>
  floordiv_int hc.1 q (.inl (PyProof.noPylong_of_log2 hc.2))
theorem dv {j : Int} {b : Nat} (h : j ≠ 0) (hb : j.natAbs < 2 ^ b) (h0 : 0 < b := by decide) (h9 : b ≤ 9000 := by decide) : j ≠ 0 ∧ j.natAbs.log2 < 9000 := ⟨h, Nat.lt_of_lt_of_le (PySem.Flt.log2_lt_of h0 hb) h9⟩
/-- two ints -/
def r2i (C : Int → Int → Prop) (g : Int → Int → D) : RD2 := fun x y Q => match x, y with
  | .int i, .int j => C i j ∧ Q (g i j)
  | _, _ => False
def r2i0 (g : Int → Int → D) : RD2 := fun x y Q => match x, y with
  | .int i, .int j => Q (g i j)
  | _, _ => False
theorem r2i_inv {C g x y Q} (h : r2i C g x y Q) : ∃ i j, x = .int i ∧ y = .int j ∧ C i j ∧ Q (g i j) := by
  unfold r2i at h
  split at h
  · exact ⟨_, _, rfl, rfl, h⟩
  · exact h.elim
theorem r2i0_inv {g x y Q} (h : r2i0 g x y Q) : ∃ i j, x = .int i ∧ y = .int j ∧ Q (g i j) := by
  unfold r2i0 at h
  split at h
  · exact ⟨_, _, rfl, rfl, h⟩
  · exact h.elim
theorem opD_i {f : Value → Value → Sem Value} {C : Int → Int → Prop} {g : Int → Int → Int} (h : OpR X f (rI C fun i j => .int (g i j))) : OpD X f (r2i C fun i j => .int (g i j)) := ⟨_, h, fun Z Hs H d e v u Qd Q s i1 i2 q cn => by
  obtain ⟨i, j, rfl, rfl, hc, q⟩ := r2i_inv q
  exact ⟨i, j, i1, i2, hc, cn (.int (g i j)) (.int (g i j)) Hs H (.refl s) rfl q⟩⟩
theorem opD_i0 {f : Value → Value → Sem Value} {g : Int → Int → Int} (h : OpR X f (rI0 fun i j => .int (g i j))) : OpD X f (r2i0 fun i j => .int (g i j)) := ⟨_, h, fun Z Hs H d e v u Qd Q s i1 i2 q cn => by
  obtain ⟨i, j, rfl, rfl, q⟩ := r2i0_inv q
  exact ⟨i, j, i1, i2, cn (.int (g i j)) (.int (g i j)) Hs H (.refl s) rfl q⟩⟩
theorem opD_b0 {f : Value → Value → Sem Value} {g : Int → Int → Bool} (h : OpR X f (rI0 fun i j => .bl (g i j))) : OpD X f (r2i0 fun i j => .bl (g i j)) := ⟨_, h, fun Z Hs H d e v u Qd Q s i1 i2 q cn => by
  obtain ⟨i, j, rfl, rfl, q⟩ := r2i0_inv q
  exact ⟨i, j, i1, i2, cn (.bl (g i j)) (.bl (g i j)) Hs H (.refl s) rfl q⟩⟩
theorem op_or {f : Value → Value → Sem Value} {r1 r2 : R2} (h1 : OpR X f r1) (h2 : OpR X f r2) : OpR X f (fun x y H Q => r1 x y H Q ∨ r2 x y H Q) := fun pins s σ H x y v u Q I rx ry h => by
  rcases h with h | h
  · exact h1 pins s σ H x y v u Q I rx ry h
  · exact h2 pins s σ H x y v u Q I rx ry h
theorem mu {i j : Int} {a b : Nat} (ha : i.natAbs < 2 ^ a) (hb : j.natAbs < 2 ^ b) (h0 : 0 < a := by decide) (h1 : 0 < b := by decide) (h : a + b ≤ 1000000 := by decide) : CMulW i j := wide_mul ha hb h0 h1 h
abbrev rSubD : RD2 := r2i0 fun i j => .int (i - j)
abbrev rMulD : RD2 := r2i CMulW fun i j => .int (i * j)
abbrev rDivD : RD2 := r2i (fun _ j => j ≠ 0 ∧ j.natAbs.log2 < 9000) fun i j => .int (i.fdiv j)
abbrev rModD : RD2 := r2i (fun _ j => j ≠ 0) fun i j => .int (i.fmod j)
abbrev rPowD : RD2 := r2i CPow fun i j => .int (i ^ j.toNat)
theorem od_sub : OpD X (binaryOp .Sub) rSubD := opD_i0 op_sub
theorem od_div : OpD X (binaryOp .FloorDiv) rDivD := opD_i (C := CDivA) op_fdivA
theorem od_mod : OpD X (binaryOp .Mod) rModD := opD_i op_modN
theorem od_pow : OpD X (binaryOp .Pow) rPowD := opD_i op_pow
/-- + of ints, texts, lists, tuples -/
def rAddD : RD2 := fun x y Q => match x, y with
  | .int i, .int j => Q (.int (i + j))
  | .str a, .str b => a.length + b.length ≤ sizeLine ∧ Q (.str (a ++ b))
  | .lst xs, .lst ys => xs.length + ys.length ≤ sizeLine ∧ Q (.lst (xs ++ ys))
  | .tup xs, .tup ys => xs ≠ [] ∧ ys ≠ [] ∧ xs.length + ys.length ≤ sizeLine ∧ Q (.tup (xs ++ ys))
  | _, _ => False
theorem od_add : OpD X (binaryOp .Add) rAddD := ⟨_, op_or op_add (op_or op_add_str (op_or op_cat op_catT)), fun Z Hs H d e v u Qd Q s i1 i2 q cn => by
  unfold rAddD at q
  split at q
  · exact .inl ⟨_, _, i1, i2, cn (.int _) _ Hs H (.refl s) rfl q⟩
  · exact .inr (.inl ⟨_, _, i1, i2, q.1, cn (.str _) _ Hs H (.refl s) rfl q.2⟩)
  · obtain ⟨a, xs, e1, h1, h2⟩ := i1
    obtain ⟨b, ys, e2, h3, h4⟩ := i2
    refine .inr (.inr (.inl ⟨a, b, xs, ys, e1, e2, s _ _ h1, s _ _ h3, by rw [h2.len, h4.len]; exact q.1, fun p np => ?_⟩))
    exact cn (.lst _) _ (upd Hs p (.lst (xs ++ ys))) _ (.laid s np) ⟨p, _, rfl, upd_same, (h2.app h4).same (Ext.laid (Z := Z) s np).fz⟩ q.2
  · obtain ⟨a, xs, e1, h1, h2⟩ := i1
    obtain ⟨b, ys, e2, h3, h4⟩ := i2
    have nx : xs ≠ [] := fun z => q.1 (by rw [z] at h2; have := h2.len; cases hh : (_ : List D) with | nil => exact hh | cons _ _ => rw [hh] at this; cases this)
    have ny : ys ≠ [] := fun z => q.2.1 (by rw [z] at h4; have := h4.len; cases hh : (_ : List D) with | nil => exact hh | cons _ _ => rw [hh] at this; cases this)
    refine .inr (.inr (.inr ⟨a, b, xs, ys, e1, e2, same_sqt s h1, same_sqt s h3, nx, by rw [h2.len, h4.len]; exact q.2.2.1, fun z => absurd z ny, fun _ p np => ?_⟩))
    exact cn (.tup _) _ (upd Hs p (.tup (xs ++ ys))) _ (.laid s np) ⟨p, _, rfl, upd_same, (h2.app h4).same (Ext.laid (Z := Z) s np).fz⟩ q.2.2.2
  · exact q.elim⟩
/-- * of ints; a list times an int -/
def rMulD2 : RD2 := fun x y Q => match x, y with
  | .int i, .int j => CMulW i j ∧ Q (.int (i * j))
  | .lst xs, .int k => xs.length * k.toNat ≤ 100000 ∧ 0 ≤ k ∧ k ≤ 100000 ∧ Q (.lst (List.replicate k.toNat xs).flatten)
  | _, _ => False
theorem isA_rep {K H} {ds : List D} {xs : List V} (h : IsA K H ds xs) : ∀ n : Nat, IsA K H (List.replicate n ds).flatten (List.replicate n xs).flatten
  | 0 => rfl
  | n + 1 => h.app (isA_rep h n)
theorem od_mul : OpD X (binaryOp .Mult) rMulD2 := ⟨_, op_or op_mulW op_rep, fun Z Hs H d e v u Qd Q s i1 i2 q cn => by
  unfold rMulD2 at q
  split at q
  · exact .inl ⟨_, _, i1, i2, q.1, cn (.int _) _ Hs H (.refl s) rfl q.2⟩
  · obtain ⟨a, xs, e1, h1, h2⟩ := i1
    obtain ⟨q1, q2, q3, q4⟩ := q
    refine .inr ⟨a, _, xs, e1, i2, s _ _ h1, by omega, by omega, ?_, fun p np => ?_⟩
    · rw [h2.len]
      exact Nat.le_trans q1 (by decide)
    · exact cn (.lst _) _ (upd Hs p (.lst _)) _ (.laid s np) ⟨p, _, rfl, upd_same, (isA_rep h2 _).same (Ext.laid (Z := Z) s np).fz⟩ q4
  · exact q.elim⟩
/-- -x -/
def rNegD : D → QD → Prop := fun x Q => match x with
  | .int i => Q (.int (-i))
  | _ => False
theorem ud_neg : UnD X (unaryOp .USub) rNegD := ⟨_, un_neg, fun Z Hs H d v Qd Q s i q cn => by
  unfold rNegD at q
  split at q
  · exact ⟨_, i, cn (.int _) _ Hs H (.refl s) rfl q⟩
  · exact q.elim⟩
/-! ### comparisons -/
/-- by order: ints, texts -/
def rOrdD (f : Int → Int → Bool) (g : Str → Str → Bool) : RD2 := fun x y Q => match x, y with
  | .int i, .int j => Q (.bl (f i j))
  | .str a, .str b => Q (.bl (g a b))
  | _, _ => False
theorem od_ord {fn : Value → Value → Sem Value} {f : Int → Int → Bool} {g : Str → Str → Bool} (h1 : OpR X fn (rI0 fun i j => .bl (f i j))) (h2 : OpR X fn (fun x y H Q => ∃ i j, x = .str i ∧ y = .str j ∧ Q (.bl (g i j)) H)) : OpD X fn (rOrdD f g) := ⟨_, op_or h1 h2, fun Z Hs H d e v u Qd Q s i1 i2 q cn => by
  unfold rOrdD at q
  split at q
  · exact .inl ⟨_, _, i1, i2, cn (.bl _) (.bl _) Hs H (.refl s) rfl q⟩
  · exact .inr ⟨_, _, i1, i2, cn (.bl _) (.bl _) Hs H (.refl s) rfl q⟩
  · exact q.elim⟩
abbrev rLtD : RD2 := rOrdD (fun i j => decide (i < j)) fun a b => decide (a.cps.toList < b.cps.toList)
abbrev rLeD : RD2 := rOrdD (fun i j => decide (i ≤ j)) fun a b => !decide (b.cps.toList < a.cps.toList)
abbrev rGtD : RD2 := rOrdD (fun i j => decide (j < i)) fun a b => decide (b.cps.toList < a.cps.toList)
abbrev rGeD : RD2 := rOrdD (fun i j => decide (j ≤ i)) fun a b => !decide (a.cps.toList < b.cps.toList)
theorem od_lt : OpD X (compareOp .Lt) rLtD := od_ord op_lt op_lt_str
theorem od_le : OpD X (compareOp .LtE) rLeD := od_ord op_le op_le_str
theorem od_gt : OpD X (compareOp .Gt) rGtD := od_ord op_gt op_gt_str
theorem od_ge : OpD X (compareOp .GtE) rGeD := od_ord op_ge op_ge_str
/-- x is None -/
def isNonD : D → Option Bool
  | .non => some true
  | .is _ => none
  | _ => some false
def rIsD (neg : Bool) : RD2 := fun x y Q => match y with
  | .non => (match isNonD x with
    | some b => Q (.bl (b != neg))
    | none => False)
  | .bl b => (match x with
    | .bl a => Q (.bl ((a == b) != neg))
    | _ => False)
  | _ => False
theorem isNonD_is {K H x v b} (i : Is K H x v) (h : isNonD x = some b) : decide (v = V.non) = b := by
  cases x <;> simp only [isNonD, Option.some.injEq, reduceCtorEq] at h <;> subst h
  · cases i; rfl
  · cases i; rfl
  · cases i; rfl
  · cases i; rfl
  · obtain ⟨_, _, e, _⟩ := i; subst e; rfl
  · obtain ⟨_, _, e, _⟩ := i; subst e; rfl
  · obtain ⟨_, _, e, _⟩ := i; subst e; rfl
  · obtain ⟨_, _, _, e, _⟩ := i; subst e; rfl
  · obtain ⟨_, _, _, e, _⟩ := i; subst e; rfl
  · obtain ⟨_, _, _, e, _⟩ := i; subst e; rfl
  · cases i; rfl
  · cases i; rfl
theorem od_is : OpD X (compareOp .Is) (rIsD false) := ⟨_, op_or op_isN op_is_bl, fun Z Hs H d e v u Qd Q s i1 i2 q cn => by
  unfold rIsD at q
  split at q
  · split at q
    · rename_i b hb
      refine .inl ⟨i2, ?_⟩
      rw [isNonD_is i1 hb]
      have e : (b != false) = b := by cases b <;> rfl
      rw [e] at q
      exact cn (.bl b) (.bl b) Hs H (.refl s) rfl q
    · exact q.elim
  · rename_i b
    split at q
    · rename_i a
      refine .inr ⟨_, _, i1, i2, ?_⟩
      refine cn (.bl _) _ Hs H (.refl s) rfl ?_
      have e : ((a == b) != false) = decide (a = b) := by cases a <;> cases b <;> rfl
      rw [e] at q
      exact q
    · exact q.elim
  · exact q.elim⟩
theorem od_isnot : OpD X (compareOp .IsNot) (rIsD true) := ⟨_, op_or op_notN op_isnot_bl, fun Z Hs H d e v u Qd Q s i1 i2 q cn => by
  unfold rIsD at q
  split at q
  · split at q
    · rename_i b hb
      refine .inl ⟨i2, ?_⟩
      rw [isNonD_is i1 hb]
      have e : (b != true) = !b := by cases b <;> rfl
      rw [e] at q
      exact cn (.bl _) (.bl _) Hs H (.refl s) rfl q
    · exact q.elim
  · rename_i b
    split at q
    · rename_i a
      refine .inr ⟨_, _, i1, i2, ?_⟩
      refine cn (.bl _) _ Hs H (.refl s) rfl ?_
      have e : ((a == b) != true) = !decide (a = b) := by cases a <;> cases b <;> rfl
      rw [e] at q
      exact q
    · exact q.elim
  · exact q.elim⟩
/-! ### data as the library's, for == -/
mutual
def py : D → Option PyData
  | .non => some .none
  | .bl b => some (.bool b)
  | .int i => some (.int i)
  | .str x => some (.str x)
  | .lst ds => (pyA ds).map .list
  | .tup ds => (pyA ds).map .tuple
  | _ => none
def pyA : List D → Option (List PyData)
  | [] => some []
  | d :: ds => match py d, pyA ds with
    | some x, some xs => some (x :: xs)
    | _, _ => none
end
mutual
theorem py_dp {K H} : ∀ {d : D} {v : V} {e : PyData}, Is K H d v → py d = some e → Dp K H v e
  | .non, _, _, i, h => by cases i; simp only [py, Option.some.injEq] at h; subst h; exact .non
  | .bl _, _, _, i, h => by cases i; simp only [py, Option.some.injEq] at h; subst h; exact .bl _
  | .int _, _, _, i, h => by cases i; simp only [py, Option.some.injEq] at h; subst h; exact .int _
  | .str _, _, _, i, h => by cases i; simp only [py, Option.some.injEq] at h; subst h; exact .str _
  | .lst ds, _, _, ⟨a, xs, e, h1, h2⟩, h => by
    subst e
    simp only [py] at h
    cases q : pyA ds with
    | none => rw [q] at h; cases h
    | some es => rw [q] at h; cases h; exact .lst (.of h1) (pyA_dp h2 q)
  | .tup ds, _, _, ⟨a, xs, e, h1, h2⟩, h => by
    subst e
    simp only [py] at h
    cases q : pyA ds with
    | none => rw [q] at h; cases h
    | some es => rw [q] at h; cases h; exact .tup (.inl (.inl h1)) (pyA_dp h2 q)
  | .dct _ _, _, _, _, h => by simp [py] at h
  | .dctT _ _, _, _, _, h => by simp [py] at h
  | .tupK _, _, _, _, h => by simp [py] at h
  | .obj _ _ _, _, _, _, h => by simp [py] at h
  | .ty _, _, _, _, h => by simp [py] at h
  | .cls _, _, _, _, h => by simp [py] at h
  | .is _, _, _, _, h => by simp [py] at h
theorem pyA_dp {K H} : ∀ {ds : List D} {xs : List V} {es : List PyData}, IsA K H ds xs → pyA ds = some es → DpAll K H xs es
  | [], _, _, i, h => by cases i; simp only [pyA, Option.some.injEq] at h; subst h; exact .nil
  | d :: ds, _, _, ⟨x, ys, e, h1, h2⟩, h => by
    subst e
    simp only [pyA] at h
    split at h
    · rename_i q1 q2
      cases h
      exact .cons (py_dp h1 q1) (pyA_dp h2 q2)
    · cases h
end
/-- x == y: ints, bools, texts at once; else as data -/
def rEqD (f : Bool → Bool) : RD2 := fun x y Q => match x, y with
  | .int i, .int j => Q (.bl (f (decide (i = j))))
  | .bl i, .bl j => Q (.bl (f (decide (i = j))))
  | .str i, .str j => Q (.bl (f (decide (i = j))))
  | x, y => ∃ d e, py x = some d ∧ py y = some e ∧ SeqAt.shaped d = true ∧ SeqAt.shaped e = true ∧ Q (.bl (f (PyData.eqv d e)))
theorem dec_inj {α : Type} [DecidableEq α] {g : α → V} (h : ∀ a b, g a = g b → a = b) (a b : α) : decide (g a = g b) = decide (a = b) := by
  rw [decide_eq_decide]
  exact ⟨h a b, fun e => by rw [e]⟩
theorem od_eqq {fn : Value → Value → Sem Value} {f : Bool → Bool} {r1 r2 : R2} (h1 : OpR X fn r1) (h2 : OpR X fn r2) (k1 : ∀ x y H Q, scal x y = true → Q (.bl (f (decide (x = y)))) H → r1 x y H Q) (k2 : ∀ x y H Q d e, Dp X.K H x d → Dp X.K H y e → SeqAt.shaped d = true → SeqAt.shaped e = true → Q (.bl (f (PyData.eqv d e))) H → r2 x y H Q) : OpD X fn (rEqD f) := ⟨_, op_or h1 h2, fun Z Hs H x y v u Qd Q s i1 i2 q cn => by
  unfold rEqD at q
  split at q
  · refine .inl (k1 _ _ _ _ (by cases i1; cases i2; rfl) ?_)
    cases i1; cases i2
    rw [dec_inj (g := V.int) (fun a b h => V.int.inj h)]
    exact cn (.bl _) (.bl _) Hs H (.refl s) rfl q
  · refine .inl (k1 _ _ _ _ (by cases i1; cases i2; rfl) ?_)
    cases i1; cases i2
    rw [dec_inj (g := V.bl) (fun a b h => V.bl.inj h)]
    exact cn (.bl _) (.bl _) Hs H (.refl s) rfl q
  · refine .inl (k1 _ _ _ _ (by cases i1; cases i2; rfl) ?_)
    cases i1; cases i2
    rw [dec_inj (g := V.str) (fun a b h => V.str.inj h)]
    exact cn (.bl _) (.bl _) Hs H (.refl s) rfl q
  · obtain ⟨d, e, h1, h2, h3, h4, q⟩ := q
    exact .inr (k2 _ _ _ _ d e (py_dp (i1.same s) h1) (py_dp (i2.same s) h2) h3 h4 (cn (.bl _) (.bl _) Hs H (.refl s) rfl q))⟩
abbrev rEqQ : RD2 := rEqD fun b => b
abbrev rNeQ : RD2 := rEqD fun b => !b
theorem od_eq (hu : X.A.units + 64 < cLine) : OpD X (compareOp .Eq) rEqQ := od_eqq op_eq (op_eqD hu) (fun x y H Q h q => ⟨h, q⟩) fun x y H Q d e h1 h2 h3 h4 q => ⟨d, e, h1, h2, h3, h4, q⟩
theorem od_ne (hu : X.A.units + 64 < cLine) : OpD X (compareOp .NotEq) rNeQ := od_eqq op_ne (op_neD hu) (fun x y H Q h q => ⟨h, q⟩) fun x y H Q d e h1 h2 h3 h4 q => ⟨d, e, h1, h2, h3, h4, q⟩
/-- x in y, y a list -/
def rInDD (neg : Bool) : RD2 := fun x y Q => ∃ d ds, py x = some d ∧ py y = some (.list ds) ∧ SeqAt.shaped d = true ∧ SeqAt.shaped (.list ds) = true ∧ Q (.bl ((ds.any fun z => PyData.eqv z d) != neg))
theorem od_in (hu : X.A.units + 65 < cLine) : OpD X (compareOp .In) (rInDD false) := ⟨_, op_inD hu, fun Z Hs H x y v u Qd Q s i1 i2 q cn => by
  obtain ⟨d, ds, h1, h2, h3, h4, q⟩ := q
  have z : ∀ b : Bool, (b != false) = b := fun b => by cases b <;> rfl
  rw [z] at q
  exact ⟨d, ds, py_dp (i1.same s) h1, py_dp (i2.same s) h2, h3, h4, cn (.bl _) (.bl _) Hs H (.refl s) rfl q⟩⟩
/-! ### items -/
def rIxDD : RD2 := fun x y Q => match x, y with
  | .lst ds, .int i => (match atI ds i with
    | some d => Q d
    | none => False)
  | .tup ds, .int i => (match atI ds i with
    | some d => Q d
    | none => False)
  | _, _ => False
theorem atI_is {K H} {ds : List D} {xs : List V} {i : Int} {d : D} (h : IsA K H ds xs) (e : atI ds i = some d) : ∃ x, atI xs i = some x ∧ Is K H d x := by
  unfold atI at e ⊢
  rw [h.len]
  cases q : ixN ds.length i with
  | none => rw [q] at e; cases e
  | some j => rw [q] at e; exact h.get e
theorem ixd : IxD X rIxDD := ⟨_, ix_seq, fun Z Hs H x y v u Qd Q s i1 i2 q cn => by
  unfold rIxDD at q
  split at q
  · obtain ⟨a, xs, e1, h1, h2⟩ := i1
    split at q
    · rename_i hd
      obtain ⟨w, hw, iw⟩ := atI_is h2 hd
      exact .inl ⟨a, xs, _, w, e1, i2, .of (s _ _ h1), hw, cn _ _ Hs H (.refl s) iw q⟩
    · exact q.elim
  · obtain ⟨a, xs, e1, h1, h2⟩ := i1
    split at q
    · rename_i hd
      obtain ⟨w, hw, iw⟩ := atI_is h2 hd
      exact .inr (.inl ⟨a, xs, _, w, e1, i2, same_sqt s h1, hw, cn _ _ Hs H (.refl s) iw q⟩)
    · exact q.elim
  · exact q.elim⟩
end
end DL
set_option Elab.async false
set_option linter.all false
set_option maxRecDepth 100000
set_option maxHeartbeats 4000000
/-! DD: built-ins, iterators, comprehensions, raising, and a def's promise -/
namespace DL
open PySem PySem.Spec PyProof.Rows L2
section
variable {X : Cx} {c : Cn}
/-! ### built-ins -/
theorem call_or {f : Value} {r1 r2 : List V → Hp → VK → Prop} (h1 : CallR X f r1) (h2 : CallR X f r2) : CallR X f (fun vs H Q => r1 vs H Q ∨ r2 vs H Q) := fun pins s σ H vs us Q I r h => by
  rcases h with h | h
  · exact h1 pins s σ H vs us Q I r h
  · exact h2 pins s σ H vs us Q I r h
def rLenD : List D → QD → Prop := fun ds Q => match ds with
  | [.lst xs] => Q (.int (xs.length : Nat))
  | [.tup xs] => Q (.int (xs.length : Nat))
  | [.str y] => y.length ≤ sizeLine ∧ Q (.int (y.length : Nat))
  | _ => False
theorem cd_len : CallD X (.builtin "len") rLenD := ⟨_, call_len, fun Z Hs H ds vs Qd Q s i q cn => by
  unfold rLenD at q
  split at q
  · obtain ⟨x, ys, e, ⟨a, xs, e2, h1, h2⟩, h3⟩ := i
    cases h3; subst e; subst e2
    exact ⟨_, _, rfl, .inl ⟨xs, .of (s _ _ h1), rfl⟩, cn (.int _) _ Hs H (.refl s) rfl (by rw [h2.len]; exact q)⟩
  · obtain ⟨x, ys, e, ⟨a, xs, e2, h1, h2⟩, h3⟩ := i
    cases h3; subst e; subst e2
    exact ⟨_, _, rfl, .inr ⟨xs, same_sqt s h1, rfl⟩, cn (.int _) _ Hs H (.refl s) rfl (by rw [h2.len]; exact q)⟩
  · obtain ⟨x, ys, e, h1, h3⟩ := i
    cases h3; subst e; cases h1
    exact ⟨_, _, rfl, ⟨q.1, rfl⟩, cn (.int _) _ Hs H (.refl s) rfl q.2⟩
  · exact q.elim⟩
def rIntD : List D → QD → Prop := fun ds Q => match ds with
  | [.int i] => Q (.int i)
  | [.bl b] => Q (.int (if b then 1 else 0))
  | _ => False
theorem cd_int : CallD X (.type "int") rIntD := ⟨_, call_int1, fun Z Hs H ds vs Qd Q s i q cn => by
  unfold rIntD at q
  split at q
  · obtain ⟨x, ys, e, h1, h3⟩ := i
    cases h3; subst e; cases h1
    exact .inl ⟨_, rfl, cn (.int _) _ Hs H (.refl s) rfl q⟩
  · obtain ⟨x, ys, e, h1, h3⟩ := i
    cases h3; subst e; cases h1
    exact .inr ⟨_, rfl, cn (.int _) _ Hs H (.refl s) rfl q⟩
  · exact q.elim⟩
def r1iD (g : Int → Int) : List D → QD → Prop := fun ds Q => match ds with
  | [.int i] => Q (.int (g i))
  | _ => False
def r2iD (g : Int → Int → Int) : List D → QD → Prop := fun ds Q => match ds with
  | [.int i, .int j] => Q (.int (g i j))
  | _ => False
theorem cd_abs : CallD X (.builtin "abs") (r1iD fun i => if i < 0 then -i else i) := ⟨_, call_abs, fun Z Hs H ds vs Qd Q s i q cn => by
  unfold r1iD at q
  split at q
  · obtain ⟨x, ys, e, h1, h3⟩ := i
    cases h3; subst e; cases h1
    exact ⟨_, rfl, cn (.int _) _ Hs H (.refl s) rfl q⟩
  · exact q.elim⟩
theorem isA2 {K H} {d e : D} {vs : List V} (h : IsA K H [d, e] vs) : ∃ x y, vs = [x, y] ∧ Is K H d x ∧ Is K H e y := by
  obtain ⟨x, ys, e1, h1, y, zs, e2, h2, h3⟩ := h
  cases h3; subst e2; subst e1
  exact ⟨x, y, rfl, h1, h2⟩
theorem isA1 {K H} {d : D} {vs : List V} (h : IsA K H [d] vs) : ∃ x, vs = [x] ∧ Is K H d x := by
  obtain ⟨x, ys, e1, h1, h3⟩ := h
  cases h3; subst e1
  exact ⟨x, rfl, h1⟩
theorem cd_max2 (hc : X.calm = true) : CallD X (.builtin "max") (r2iD fun i j => if j > i then j else i) := ⟨_, call_max2 hc, fun Z Hs H ds vs Qd Q s i q cn => by
  unfold r2iD at q
  split at q
  · obtain ⟨x, y, e, h1, h2⟩ := isA2 i
    cases h1; cases h2; subst e
    exact ⟨_, _, rfl, cn (.int _) _ Hs H (.refl s) rfl q⟩
  · exact q.elim⟩
theorem cd_min2 (hc : X.calm = true) : CallD X (.builtin "min") (r2iD fun i j => if j < i then j else i) := ⟨_, call_min2 hc, fun Z Hs H ds vs Qd Q s i q cn => by
  unfold r2iD at q
  split at q
  · obtain ⟨x, y, e, h1, h2⟩ := isA2 i
    cases h1; cases h2; subst e
    exact ⟨_, _, rfl, cn (.int _) _ Hs H (.refl s) rfl q⟩
  · exact q.elim⟩
def rGcdD : List D → QD → Prop := fun ds Q => match ds with
  | [.int i, .int j] => Q (.int ((Nat.gcd i.natAbs j.natAbs : Nat) : Int))
  | _ => False
theorem cd_gcd : CallD X (.builtin "math.gcd") rGcdD := ⟨_, cr_gcd, fun Z Hs H ds vs Qd Q s i q cn => by
  unfold rGcdD at q
  split at q
  · obtain ⟨x, y, e, h1, h2⟩ := isA2 i
    cases h1; cases h2; subst e
    exact ⟨_, _, rfl, cn (.int _) _ Hs H (.refl s) rfl q⟩
  · exact q.elim⟩
theorem d_callBfun {x : Str} {p pos : Pos} {e : Expr} {es : List Expr} {t : TAD} {id : String} {r : List D → QD → Prop} (o : CallD X (.builtin id) r) (hm : X.mg x = some (.builtin id)) (ha : DAs X c (e :: es) t) (hg : Gl X x := by rfl) (hdb : (x == ("__debug__" : Str)) = false := by decide)
    (he : starEach (e :: es) X.env = (false, eval e X.env) :: starEach es X.env := by rfl) (hpl : (backTo pos (starEach es X.env)).any (·.1) = false := by rfl) : DE X c (.Call (.Name x p) (e :: es) [] pos) (tdCB r t) := by
  obtain ⟨r0, h0, f⟩ := lift_cb (c := c) o
  exact pe_imp (pe_callBfun h0 hg hm ha hdb he hpl) (f t)
/-- all are intL -/
def intL : List D → Option (List Int)
  | [] => some []
  | .int i :: ds => (intL ds).map (i :: ·)
  | _ :: _ => none
theorem intL_is {K H} : ∀ {ds : List D} {xs : List V} {ns : List Int}, IsA K H ds xs → intL ds = some ns → xs = ns.map V.int
  | [], _, _, h, e => by cases h; cases e; rfl
  | .int i :: ds, _, _, ⟨x, ys, e, h1, h2⟩, q => by
    cases z : intL ds with
    | none => rw [intL, z] at q; cases q
    | some ms => rw [intL, z] at q; cases q; subst e; cases h1; rw [intL_is h2 z]; rfl
  | .non :: _, _, _, _, q => by cases q
  | .bl _ :: _, _, _, _, q => by cases q
  | .str _ :: _, _, _, _, q => by cases q
  | .lst _ :: _, _, _, _, q => by cases q
  | .tup _ :: _, _, _, _, q => by cases q
  | .dct _ _ :: _, _, _, _, q => by cases q
  | .dctT _ _ :: _, _, _, _, q => by cases q
  | .tupK _ :: _, _, _, _, q => by cases q
  | .obj _ _ _ :: _, _, _, _, q => by cases q
  | .ty _ :: _, _, _, _, q => by cases q
  | .cls _ :: _, _, _, _, q => by cases q
  | .is _ :: _, _, _, _, q => by cases q
theorem intL_map (ns : List Int) : intL (ns.map D.int) = some ns := by
  induction ns with
  | nil => rfl
  | cons n ns ih => rw [List.map_cons, intL, ih]; rfl
def rSumD : List D → QD → Prop := fun ds Q => match ds with
  | [.lst xs] => ∃ ns, intL xs = some ns ∧ Q (.int ns.sum)
  | _ => False
theorem cd_sum (hc : X.calm = true) : CallD X (.builtin "sum") rSumD := ⟨_, cr_sum hc, fun Z Hs H ds vs Qd Q s i q cn => by
  unfold rSumD at q
  split at q
  · obtain ⟨x, e, a, xs, e2, h1, h2⟩ := isA1 i
    obtain ⟨ns, hn, q⟩ := q
    have := intL_is h2 hn
    subst this; subst e2; subst e
    exact ⟨a, ns, rfl, .of (s _ _ h1), cn (.int _) _ Hs H (.refl s) rfl q⟩
  · exact q.elim⟩
/-- all are boolL -/
def boolL : List D → Option (List Bool)
  | [] => some []
  | .bl i :: ds => (boolL ds).map (i :: ·)
  | _ :: _ => none
theorem boolL_is {K H} : ∀ {ds : List D} {xs : List V} {ns : List Bool}, IsA K H ds xs → boolL ds = some ns → xs = ns.map V.bl
  | [], _, _, h, e => by cases h; cases e; rfl
  | .bl i :: ds, _, _, ⟨x, ys, e, h1, h2⟩, q => by
    cases z : boolL ds with
    | none => rw [boolL, z] at q; cases q
    | some ms => rw [boolL, z] at q; cases q; subst e; cases h1; rw [boolL_is h2 z]; rfl
  | .non :: _, _, _, _, q => by cases q
  | .int _ :: _, _, _, _, q => by cases q
  | .str _ :: _, _, _, _, q => by cases q
  | .lst _ :: _, _, _, _, q => by cases q
  | .tup _ :: _, _, _, _, q => by cases q
  | .dct _ _ :: _, _, _, _, q => by cases q
  | .dctT _ _ :: _, _, _, _, q => by cases q
  | .tupK _ :: _, _, _, _, q => by cases q
  | .obj _ _ _ :: _, _, _, _, q => by cases q
  | .ty _ :: _, _, _, _, q => by cases q
  | .cls _ :: _, _, _, _, q => by cases q
  | .is _ :: _, _, _, _, q => by cases q
theorem boolL_map (ns : List Bool) : boolL (ns.map D.bl) = some ns := by
  induction ns with
  | nil => rfl
  | cons n ns ih => rw [List.map_cons, boolL, ih]; rfl
def rAllD (f : List Bool → Bool) : List D → QD → Prop := fun ds Q => match ds with
  | [.lst xs] => ∃ ns, boolL xs = some ns ∧ Q (.bl (f ns))
  | _ => False
theorem cd_all (hc : X.calm = true) : CallD X (.builtin "all") (rAllD fun ns => ns.all id) := ⟨_, cr_all hc, fun Z Hs H ds vs Qd Q s i q cn => by
  unfold rAllD at q
  split at q
  · obtain ⟨x, e, a, xs, e2, h1, h2⟩ := isA1 i
    obtain ⟨ns, hn, q⟩ := q
    have := boolL_is h2 hn
    subst this; subst e2; subst e
    exact ⟨a, ns, rfl, .of (s _ _ h1), cn (.bl _) _ Hs H (.refl s) rfl q⟩
  · exact q.elim⟩
theorem cd_any (hc : X.calm = true) : CallD X (.builtin "any") (rAllD fun ns => ns.any id) := ⟨_, cr_any hc, fun Z Hs H ds vs Qd Q s i q cn => by
  unfold rAllD at q
  split at q
  · obtain ⟨x, e, a, xs, e2, h1, h2⟩ := isA1 i
    obtain ⟨ns, hn, q⟩ := q
    have := boolL_is h2 hn
    subst this; subst e2; subst e
    exact ⟨a, ns, rfl, .of (s _ _ h1), cn (.bl _) _ Hs H (.refl s) rfl q⟩
  · exact q.elim⟩
/-- tuple(x), list(x) of a list or a tuple -/
def rTupD : List D → QD → Prop := fun ds Q => match ds with
  | [.lst xs] => Q (.tup xs)
  | [.tup xs] => Q (.tup xs)
  | _ => False
theorem cd_tuple : CallD X (.type "tuple") rTupD := ⟨_, call_tuple_of, fun Z Hs H ds vs Qd Q s i q cn => by
  unfold rTupD at q
  split at q
  · obtain ⟨x, e, a, xs, e2, h1, h2⟩ := isA1 i
    subst e2; subst e
    exact ⟨a, xs, rfl, .inl ⟨.of (s _ _ h1), fun p np => cn (.tup _) _ (upd Hs p (.tup xs)) _ (.laid s np) ⟨p, xs, rfl, upd_same, h2.same (Ext.laid (Z := Z) s np).fz⟩ q⟩⟩
  · obtain ⟨x, e, a, xs, e2, h1, h2⟩ := isA1 i
    subst e2; subst e
    exact ⟨a, xs, rfl, .inr ⟨same_sqt s h1, cn (.tup _) _ Hs H (.refl s) ⟨a, xs, rfl, h1, h2⟩ q⟩⟩
  · exact q.elim⟩
def rLstD : List D → QD → Prop := fun ds Q => match ds with
  | [.lst xs] => Q (.lst xs)
  | [.tup xs] => Q (.lst xs)
  | _ => False
theorem cd_list : CallD X (.type "list") rLstD := ⟨_, call_list_of, fun Z Hs H ds vs Qd Q s i q cn => by
  unfold rLstD at q
  split at q
  · obtain ⟨x, e, a, xs, e2, h1, h2⟩ := isA1 i
    subst e2; subst e
    exact ⟨a, xs, rfl, .inl (.of (s _ _ h1)), fun p np => cn (.lst _) _ (upd Hs p (.lst xs)) _ (.laid s np) ⟨p, xs, rfl, upd_same, h2.same (Ext.laid (Z := Z) s np).fz⟩ q⟩
  · obtain ⟨x, e, a, xs, e2, h1, h2⟩ := isA1 i
    subst e2; subst e
    exact ⟨a, xs, rfl, .inr (same_sqt s h1), fun p np => cn (.lst _) _ (upd Hs p (.lst xs)) _ (.laid s np) ⟨p, xs, rfl, upd_same, h2.same (Ext.laid (Z := Z) s np).fz⟩ q⟩
  · exact q.elim⟩
/-! ### isinstance -/
def kindD : D → Option Ty7
  | .non => some .non
  | .bl _ => some .bl
  | .int _ => some .int
  | .str _ => some .str
  | .lst _ => some .lst
  | .tup _ => some .tup
  | .dct _ _ => some .dct
  | _ => none
theorem kindD_ty {K H d v n} (i : Is K H d v) (h : kindD d = some n) : TyX K H v (.type n.name) := by
  cases d <;> simp only [kindD, Option.some.injEq, reduceCtorEq] at h <;> subst h
  · cases i; exact .base .non
  · cases i; exact .base (.bl _)
  · cases i; exact .base (.int _)
  · cases i; exact .base (.str _)
  · obtain ⟨a, xs, e, h1, _⟩ := i
    subst e
    exact .base (.lst h1)
  · obtain ⟨a, xs, e, h1, _⟩ := i
    subst e
    exact .base (.tup h1)
  · obtain ⟨a, od, xs, e, h1, _⟩ := i
    subst e
    exact .fDict h1
/-- k's type is n, or under it -/
def tyLe : Ty7 → Ty7 → Bool
  | .non, .non => true
  | .bl, .bl => true
  | .bl, .int => true
  | .int, .int => true
  | .str, .str => true
  | .lst, .lst => true
  | .tup, .tup => true
  | .dct, .dct => true
  | _, _ => false
theorem kitB7 (k n : Ty7) : kitB k.name n.name = some (tyLe k n) := by
  cases k <;> cases n <;> decide +kernel
def rIsiD : List D → QD → Prop := fun ds Q => match ds with
  | [x, .ty n] => (match kindD x with
    | some k => Q (.bl (tyLe k n))
    | none => False)
  | _ => False
theorem cd_isi : CallD X (.builtin "isinstance") rIsiD := ⟨_, call_isi, fun Z Hs H ds vs Qd Q s i q cn => by
  unfold rIsiD at q
  split at q
  · rename_i x n
    split at q
    · rename_i k hk
      obtain ⟨v, w, e, h1, h2⟩ := isA2 i
      cases h2; subst e
      exact ⟨v, _, _, _, _, rfl, .ty n.name, kindD_ty (h1.same s) hk, kit_ty (kitB7 k n), cn (.bl _) _ Hs H (.refl s) rfl q⟩
    · exact q.elim
  · exact q.elim⟩
theorem d_ty {x : Str} {pos : Pos} (n : Ty7) (hm : X.mg x = none) (hg : Gl X x := by rfl) (hv : bootBuiltins x = some (.type n.name) := by decide +kernel) (hn : x ≠ "__name__" := by decide) (hd : (x == ("__debug__" : Str)) = false := by decide) : DE X c (.Name x pos) (tdC (.ty n)) :=
  d_const (v := .ty n.name) (pe_bltn hg hm hv rfl hn hd) fun _ => rfl
/-- isinstance(x, (T, U)) -/
def tdIsiT (te : TD) (ns : List Ty7) : TD := fun ss Q Ed => te ss (fun x => match kindD x with
  | some k => Q (.bl (ns.any (tyLe k)))
  | none => False) Ed
/-- the types of a written tuple -/
inductive Tys (X : Cx) : List Expr → List Ty7 → Prop where
  | nil : Tys X [] []
  | cons {x : Str} {pos : Pos} {n : Ty7} {es ns} (h : PE X (.Name x pos) (tC (.ty n.name))) (t : Tys X es ns) (hs : starEach (.Name x pos :: es) X.env = (false, eval (.Name x pos) X.env) :: starEach es X.env) : Tys X (.Name x pos :: es) (n :: ns)
def tTys : List Ty7 → TA
  | [] => tNil
  | n :: ns => tCons (tC (.ty n.name)) (tTys ns)
theorem Tys.pa : ∀ {es ns}, Tys X es ns → PA X es (tTys ns)
  | _, _, .nil => pa_nil
  | _, _, .cons h t hs => pa_cons h t.pa hs
theorem tTys_run : ∀ {ns : List Ty7} {σ : L2.St} {H : Hp} {Q : List V → Hp → Prop}, Q (ns.map fun n => V.ty n.name) H → tTys ns σ H Q
  | [], _, _, _, q => q
  | n :: ns, σ, H, Q, q => tTys_run (ns := ns) (Q := fun xs H2 => Q (.ty n.name :: xs) H2) q
theorem kitAny7 {K : PySem.W.Frag} {k : Ty7} : ∀ {ns : List Ty7}, PySem.W.kitAny K (.type k.name) (ns.map fun n => Value.type n.name) = some (ns.any (tyLe k))
  | [] => rfl
  | n :: ns => by
    refine kitAny_cons (kit_ty (K := K) (kitB7 k n)) (fun e => ?_) (fun e => ?_)
    · rw [List.any_cons, e, Bool.false_or]
      exact kitAny7
    · rw [List.any_cons, e, Bool.true_or]
theorem clsv_tys : ∀ ns : List Ty7, Paired ClsV (ns.map fun n => V.ty n.name) (ns.map fun n => Value.type n.name)
  | [] => .nil
  | n :: ns => .cons (.ty n.name) (clsv_tys ns)
theorem d_isiT {p tpos pos : Pos} {e : Expr} {es : List Expr} {kk} {te : TD} {ns : List Ty7} (hm : X.mg "isinstance" = none) (he : DE X c e te) (ht : Tys X es ns) (hl : ns.length ≤ 8 := by decide) (hg : Gl X "isinstance" := by rfl)
    (hs1 : starEach (e :: [.Tuple es kk tpos]) X.env = (false, eval e X.env) :: starEach [.Tuple es kk tpos] X.env := by rfl) (hs2 : starEach [.Tuple es kk tpos] X.env = (false, eval (.Tuple es kk tpos) X.env) :: starEach [] X.env := by rfl) (hpl : (backTo pos (starEach [.Tuple es kk tpos] X.env)).any (·.1) = false := by rfl) :
    DE X c (.Call (.Name "isinstance" p) [e, .Tuple es kk tpos] [] pos) (tdIsiT te ns) := by
  refine pe_imp (pe_callB call_isiT hg hm (by decide +kernel) (pa_cons he (pa_cons (pe_tup (ht.pa)) pa_nil hs2) hs1) (by decide) (by decide) hs1 hpl) fun σ H Q q => ?_
  obtain ⟨O, Hs, ss, Qd, Ed, A, h, er, g⟩ := q
  refine ⟨O, Hs, ss, _, Ed, A, h, er, fun d v Hs1 H1 e1 i1 q1 => ?_⟩
  refine tTys_run ⟨by rw [List.length_map]; exact Nat.le_trans hl (by decide), fun p np => ?_⟩
  split at q1
  · rename_i k hk
    have x1 : Ext (Z0 O) Hs1 H1 Hs1 (upd H1 p (.tup (ns.map fun n => V.ty n.name))) := Ext.grow e1.sub np
    exact ⟨v, p, _, _, _, _, rfl, upd_same, clsv_tys ns, kindD_ty (i1.same x1.sub) hk, kitAny7, g (.bl _) _ Hs1 _ (e1.trans x1) rfl q1⟩
  · exact q1.elim
/-! ### a list of a slot's own: its length, its items -/
def tdLenOwn (i : Nat) : TD := fun ss Q _ => match nth ss i with
  | .own _ ds => Q (.int (ds.length : Nat))
  | _ => False
theorem d_lenOwn {p pos : Pos} {e : Expr} {i : Nat} (hm : X.mg "len" = none) (he : PE X e (tVar i)) (hg : Gl X "len" := by rfl) (hs1 : starEach [e] X.env = (false, eval e X.env) :: starEach [] X.env := by rfl) : DE X c (.Call (.Name "len" p) [e] [] pos) (tdLenOwn i) := by
  refine pe_imp (pe_callB call_len hg hm (by decide +kernel) (pa_cons he pa_nil hs1) (by decide) (by decide) hs1 rfl) fun σ H Q q => ?_
  obtain ⟨O, Hs, ss, Qd, Ed, A, h, er, g⟩ := q
  have hs := A.sl i
  unfold tdLenOwn at h
  split at h
  · rename_i p ds hx
    rw [hx] at hs
    obtain ⟨xs, e1, h1, h2, h3⟩ := hs
    exact ⟨_, e1, _, _, rfl, .inl ⟨xs, .inl (.inl h2), rfl⟩, g (.int _) _ Hs H (.refl A.sub) rfl (by rw [h3.len]; exact h)⟩
  · exact h.elim
def tdIxOwn (i : Nat) (tb : TD) : TD := fun ss Q Ed => match nth ss i with
  | .own _ ds => tb ss (fun y => match y with
    | .int k => (match atI ds k with
      | some d => Q d
      | none => False)
    | _ => False) Ed
  | _ => False
theorem d_ixOwn {a b : Expr} {pos : Pos} {i : Nat} {tb : TD} (ha : PE X a (tVar i)) (hb : DE X c b tb) (hs : PlainIx b := by exact fun _ _ => rfl) : DE X c (.Subscript a b pos) (tdIxOwn i tb) := by
  refine pe_imp (pe_ix ix_list ha hb hs) fun σ H Q q => ?_
  obtain ⟨O, Hs, ss, Qd, Ed, A, h, er, g⟩ := q
  have hsl := A.sl i
  unfold tdIxOwn at h
  split at h
  · rename_i p ds hx
    rw [hx] at hsl
    obtain ⟨xs, e1, h1, h2, h3⟩ := hsl
    refine ⟨_, e1, O, Hs, ss, _, Ed, A, h, er, fun d v Hs1 H1 x1 i1 q1 => ?_⟩
    cases d <;> first | exact q1.elim | skip
    rename_i k
    simp only at q1
    split at q1
    · rename_i d hd
      obtain ⟨w, hw, iw⟩ := atI_is (h3.same x1.fz) hd
      have h4 : H1 p = some (.lst xs) := x1.keep p _ (fun z => by have z : O p = some 0 := z; rw [h1] at z; cases z) h2
      exact ⟨p, xs, k, w, rfl, i1, .inl (.inl h4), hw, g _ _ Hs1 H1 x1 iw q1⟩
    · exact q1.elim
  · exact h.elim
end
end DL
set_option Elab.async false
set_option linter.all false
set_option maxRecDepth 100000
set_option maxHeartbeats 4000000
/-! Promises of defs that are called while nothing is being shown (no repr runs around them), and repr of data -/
namespace LG
open PySem PySem.Spec PyProof.Rows L2
/-- as a promise, of calls where no repr runs -/
structure FnG (P : Program) (w : World) (K : PySem.W.Frag) (mg : Str → Option Value) (base : Heap) (CX : CXT) (k : Nat) (f : Addr) (fd : FuncData) (ps : List Str) (sp : Sp) : Prop where
  len : ∀ vs H Q E, sp vs H Q E → vs.length = ps.length
  run : ∀ (A : Around) (outer : List Env) (s : Shared) (H : Hp) (args : Args) (us : List Value) (vs : List V) (Q : VK) (E : XK), A.guards = some [] → Room k A → Env0 P w K mg base A outer s H → BindsTo s fd args (ps.zip us) → Vals vs us → sp vs H Q E →
    codeAny (model P w) A (.call (.ref f) args) (CR CX outer P w H s Q E) s
section
variable {P : Program} {w : World} {K : PySem.W.Frag} {mg : Str → Option Value} {base : Heap} {CX : CXT} {k : Nat} {f : Addr} {fd : FuncData} {ps : List Str} {sp : Sp}
theorem _root_.L2.FnOk.toG (F : FnOk P w K mg base CX k f fd ps sp) : FnG P w K mg base CX k f fd ps sp := ⟨F.len, fun A outer s H args us vs Q E _ => F.run A outer s H args us vs Q E⟩
theorem FnG.imp {sp' : Sp} (F : FnG P w K mg base CX k f fd ps sp) (h : ∀ vs H Q E, sp' vs H Q E → sp vs H Q E) : FnG P w K mg base CX k f fd ps sp' :=
  ⟨fun vs H Q E q => F.len vs H Q E (h _ _ _ _ q), fun A outer s H args us vs Q E g hr he hb hv hs => F.run A outer s H args us vs Q E g hr he hb hv (h _ _ _ _ hs)⟩
/-- THE RULE for such a def -/
theorem fun_okG {x qual : Str} {st : Stmt} {N : List Str} (F : Fun K x qual st f fd) (S : FnScope N ps (defScope st)) (len : ∀ vs H Q E, sp vs H Q E → vs.length = ps.length)
    (body : ∀ (cdv : Value) (A : Around) (outer : List Env) (s : Shared) (H : Hp) (vs : List V) (Q : VK) (E : XK), A.guards = some [] → Room k (A.deeper (envOfC qual (defScope st) s.heap.objs.size f cdv)) → sp vs H Q E →
      ∃ t, PSs (cxOf CX P w K mg base N qual (defScope st) f cdv A outer s H E) (defBody st) t ∧ t { nx := fun _ H' => Q .non H', rt := Q } (start N vs) H) : FnG P w K mg base CX (k + 1) f fd ps sp := by
  obtain ⟨oc, od, kV, doc, pm, an, cdv, ct, osl, rfl, lk, hcd⟩ := F.ex
  refine ⟨len, fun A outer s H args us vs Q E g hr e0 hb r hsp => ?_⟩
  have kin : K.In s.heap := e0.mod.kin.keeps fun b o e => (e0.bs b o e).1
  have lim : s.heap.NoLimit := e0.mod.nolimit.keeps fun b o e => (e0.bs b o e).1
  refine codeAny_call_function hr.depth (kin _ _ lk) rfl S.co S.gen rfl (PySem.W.codeRec_of kin hcd) (hb _ _ _ _ ?_)
  refine wpAny_newFunctionEnv_cells S.kind (fun y hy => ?_) fun env he s1 x => ?_
  · rcases S.par y.1 (List.of_mem_zip (a := y.1) (b := y.2) hy).1 with q | q
    · exact .inl q
    · exact .inr ⟨q, PySem.W.cellsFrom_some _ _ _ (.inl q)⟩
  subst he
  refine ⟨lim.keeps x.toInCall.keep, codeAny_func ?_⟩
  obtain ⟨t, ht, hq⟩ := body cdv A outer s H vs Q E g (hr.deeper _) hsp
  have I := inv_start (CX := CX) (N := N) (E := E) S hr.hd e0 (len _ _ _ _ hsp) r x
  refine wpAny_mono (ht.run [] s1 (start N vs) H _ I hq) (fun fl s' hs => ?_) fun e s' hs => hs
  cases fl with
  | ret u => exact let ⟨v, _, H', J, rv, q⟩ := hs; ⟨v, H', J.os, J.bare, J.base, J.hok, rv, q⟩
  | next => exact let ⟨_, H', J, q⟩ := hs; ⟨V.non, H', J.os, J.bare, J.base, J.hok, rfl, q⟩
  | brk => exact let ⟨_, _, _, q⟩ := hs; False.elim q
  | cont => exact let ⟨_, _, _, q⟩ := hs; False.elim q
end
section
variable {X : Cx} {CX : CXT} {k : Nat} {f : Addr} {fd : FuncData} {ps : List Str} {sp : Sp} {dvs : List V} {ds : List Value} {E : XK} {x : Str} {p pos : Pos} {e : Expr} {es : List Expr} {t : TA}
/-- f(e, ..) of such a def -/
theorem pe_callG (F : FnG X.prog X.w X.K X.mg X.base CX k f fd ps sp) (g : X.A.guards = some []) (hr : Room k X.A) (hg : Gl X x) (hm : X.mg x = some (.ref f)) (hk : PySem.W.keepIn X.K (.ref f) = true) (hb : Binds X.K fd ps ds) (hd : Vals dvs ds) (hx : Passes CX X E)
    (ha : PA X (e :: es) t) (hdb : (x == ("__debug__" : Str)) = false := by decide) (he : starEach (e :: es) X.env = (false, eval e X.env) :: starEach es X.env := by rfl) (hpl : (backTo pos (starEach es X.env)).any (·.1) = false := by rfl) :
    PE X (.Call (.Name x p) (e :: es) [] pos) (tCall sp dvs E t) := by
  refine ⟨fun pins s σ H Q I h => wpAny_Call_Name_kw (ld_glob I hg hm ?_ hdb)⟩
  refine PySem.W.callWith_K (h₀ := X.base) I.ok.mod.kin hk (thn (ha.run pos pins s σ H _ I h) fun us s1 ⟨vs, H1, J, r, q⟩ => ⟨J.kIn, ?_⟩) he hpl
  have r2 : Vals (vs ++ dvs) (us ++ ds) := r.append hd
  refine wpAny_call (codeAny_mono (F.run X.A X.stack s1 H1 ⟨us, []⟩ _ _ Q E g hr J.env0 (hb s1 us J.kIn (r2.length.symm.trans (F.len _ _ _ _ q))) r2 q) fun r s' hq => ?_)
  cases r with
  | error e => exact hx pins σ H1 s1 e s' J hq
  | ok fl =>
    cases fl with
    | ret u => exact J.after hq
    | next => exact False.elim hq
    | brk => exact False.elim hq
    | cont => exact False.elim hq
end

/-! ### repr of data -/
/-- what may be shown: no dict, no great int, no long text -/
def Fine (d : PyData) : Prop := d.showable = true ∧ d.hasDict = false ∧ d.depth ≤ 8 ∧ d.shown.length ≤ sizeLine
def rRepr (K : PySem.W.Frag) : List V → Hp → VK → Prop := fun vs H Q => ∃ (a : Addr) (d : PyData), vs = [.ref a] ∧ Dp K H (.ref a) d ∧ Fine d ∧ Q (.str d.shown) H
theorem cr_repr {X : Cx} (g : X.A.guards = some []) (hu : X.A.units + 64 < cLine) : CallR X (.builtin "repr") (rRepr X.K) := by
  intro pins s σ H vs us Q I r h
  obtain ⟨a, d, rfl, hd, ⟨f1, f2, f3, f4⟩, q⟩ := h
  rw [Vals.ref1 r]
  obtain ⟨as, rd⟩ := Dp.reads I d _ _ hd rfl
  exact repr_of_reads' rd f1 (fun h' => absurd (f2.symm.trans h') (by decide)) g (by omega) (fun _ _ e => e) (fun h' u tk k => ⟨.str d.shown, H, I.kept k, ⟨_, rfl⟩, q⟩) f4

/-! ### the law's call -/
/-- the script's heap: nothing else is tracked -/
theorem law_callG {P : Program} {w : World} {K : PySem.W.Frag} {mg mb : Str → Option Value} {CX : CXT} {k : Nat} {fa a : Addr} {fd : FuncData} {x : Str} {sp : Sp} {s1 : Shared} {vs : List Value} {ns : List Int}
    (kin : K.In s1.heap) (hns : s1.heap.Ns mainGlobals mg) (hb : s1.heap.Ns builtinsNs mb) (hbb : ∀ x : Str, x ≠ "__name__" → mb x = bootBuiltins x) (lim : s1.heap.NoLimit) (hg : s1.gens = #[])
    (ha : s1.heap.get? a = some { cls := .type "list", data := .seq vs.toArray }) (hi : IntsAre vs ns) (hl : ns.length ≤ sizeLine) (hr : Room k callerA)
    (F : ∀ base : Heap, K.In base → base.Ns mainGlobals mg → FnG P w K mg base CX k fa fd [x] sp) (bind : ∀ (s : Shared) (u : Value), BindsTo s fd ⟨[u], []⟩ [(x, u)])
    (hsp : ∀ H : Hp, Only H → SqL K H a (ns.map V.int) → sp [.ref a] H (fun v _ => v = .bl true) fun _ _ _ => False) (hCX : ∀ H e s', CX [] H s1 (fun _ _ _ => False) e s' → False) :
    codeAny (model P w) callerA (.call (.ref fa) ⟨[.ref a], []⟩) (fun r s' => r = .ok (.ret (.bool true)) ∧ OldK s1.heap s'.heap ∧ s'.os = s1.os ∧ AllBare s'.gens) s1 := by
  have rv := vals_ints hi
  -- over a heap that tracks the script or nothing
  have go : ∀ H : Hp, Only H → SqL K H a (ns.map V.int) → HOk P w H s1.heap → (∀ b u, H b = some u → b = a ∧ K.lookup a = none) →
      codeAny (model P w) callerA (.call (.ref fa) ⟨[.ref a], []⟩) (fun r s' => r = .ok (.ret (.bool true)) ∧ OldK s1.heap s'.heap ∧ s'.os = s1.os ∧ AllBare s'.gens) s1 := by
    intro H only hS hok one
    have free : ∀ {b : Addr} {o : Obj} {es : Array DictEntry} {ep : Nat}, s1.heap.get? b = some o → o.data = .dict es ep → H b = none := fun {b o es ep} e d => by
      cases q : H b with
      | none => rfl
      | some u =>
        obtain ⟨rfl, _⟩ := one b u q
        have e2 := Option.some.inj (e.symm.trans ha)
        subst e2
        cases d
    have ns1 : ∀ {b : Addr} {m : Str → Option Value}, s1.heap.Ns b m → (hidT s1.heap H).Ns b m := fun {b m} ⟨o, es, ep, e, d, r⟩ => ⟨o, es, ep, hidT_get e (free e d), d, r⟩
    have kin1 : K.In (hidT s1.heap H) := fun b o e => hidT_get (kin b o e) (by
      cases q : H b with
      | none => rfl
      | some u =>
        obtain ⟨rfl, z⟩ := one b u q
        rw [z] at e
        cases e)
    have M : Mod K mg (hidT s1.heap H) := ⟨kin1, ns1 hns, ⟨mb, ns1 hb, hbb⟩, let ⟨mc, h1, h2⟩ := lim; ⟨mc, ns1 h1, h2⟩⟩
    have e0 : Env0 P w K mg (hidT s1.heap H) callerA [] s1 H := ⟨rfl, M, fun b o e => of_hidT e, Nat.le_of_eq (hidT_size _ _), trivial, fun b z => absurd (show b ∈ ([] : List Addr) from z) (by simp), hok, .of_eq hg⟩
    refine codeAny_mono ((F _ kin1 (ns1 hns)).run callerA [] s1 H ⟨[.ref a], []⟩ [.ref a] [.ref a] _ _ rfl hr e0 (bind s1 (.ref a)) (.cons rfl .nil) (hsp H only hS)) fun r s' h => ?_
    match r, h with
    | .error e, h => exact (hCX H e s' h).elim
    | .ok .next, h => exact False.elim h
    | .ok .brk, h => exact False.elim h
    | .ok .cont, h => exact False.elim h
    | .ok (.ret u), h =>
      obtain ⟨v, H', os, bare, un, hok', r', q⟩ := h
      have q' : v = .bl true := q
      subst q'
      have r2 : u = Value.bool true := r'
      subst r2
      refine ⟨rfl, OldK.of_keep fun b o e => ?_, os, bare⟩
      cases z : H b with
      | none => exact un.keep b o e z (fun y => absurd (show b ∈ ([] : List Addr) from y) (by simp)) (by simp)
      | some u =>
        rcases only b with y | ⟨ob, xs, y⟩
        · rw [z] at y
          cases y
        · have e1 := (hok b _ y).1
          rw [e] at e1
          cases e1
          exact (hok' b _ (un.frzs b _ _ y)).1
  cases hk : K.lookup a with
  | some o =>
    have e := kin a o hk
    rw [ha] at e
    cases e
    exact go (fun _ => none) (fun _ => .inl rfl) (.inr ⟨_, vs.toArray, _, hk, rfl, rfl, rfl, by rw [List.size_toArray, hi.length]; exact hl, by simpa using rv⟩) (fun b u z => nomatch z) fun b u z => nomatch z
  | none =>
    have at1 : ∀ b, b ≠ a → (fun b => if b = a then some (HO.frz { cls := .type "list", data := .seq vs.toArray } (.lst (ns.map V.int))) else none : Hp) b = none := fun b h => if_neg h
    have at2 : (fun b => if b = a then some (HO.frz { cls := .type "list", data := .seq vs.toArray } (.lst (ns.map V.int))) else none : Hp) a = some (HO.frz { cls := .type "list", data := .seq vs.toArray } (.lst (ns.map V.int))) := if_pos rfl
    generalize (fun b => if b = a then some (HO.frz { cls := .type "list", data := .seq vs.toArray } (.lst (ns.map V.int))) else none : Hp) = H at at1 at2
    refine go H (fun b => ?_) (.inl (.inr ⟨_, at2⟩)) (fun b u z => ?_) fun b u z => ?_
    · by_cases h : b = a
      · subst h
        exact .inr ⟨_, _, at2⟩
      · exact .inl (at1 b h)
    · by_cases h : b = a
      · subst h
        have := Option.some.inj (z.symm.trans at2)
        subst this
        exact ⟨ha, by rw [List.length_map]; exact hl, vs, _, rv, ha⟩
      · rw [at1 b h] at z
        cases z
    · by_cases h : b = a
      · exact ⟨h, hk⟩
      · rw [at1 b h] at z
        cases z
theorem walk_G {l : PySem.W.OpenLaw} {n k : Nat} {q : Program} {loose : List Str} {XP : (Str → Option Value) → Heap → Prop} {YP : World → Heap → Prop} {d : DefRec} {K : Params → PySem.W.Frag} {CX : World → CXT} {sp : World → Sp} {x : Str}
    (hn : l.most = some n) (hn2 : n ≤ sizeLine) (hdf : d.params.defaults = []) (hr : Room k callerA) (hY : ∀ (w : World) (h : Heap), YP w h → (K w.params).In h)
    (F : ∀ (w : World) (mg : Str → Option Value) (fa : Addr) (h : Heap), (K w.params).In h → h.Ns mainGlobals mg → mg d.name = some (.ref fa) →
      ∃ fd : FuncData, (∀ (s : Shared) (u : Value), BindsTo s fd ⟨[u], []⟩ [(x, u)]) ∧ ∀ base : Heap, (K w.params).In base → base.Ns mainGlobals mg → FnG l.prog w (K w.params) mg base (CX w) k fa fd [x] (sp w))
    (hsp : ∀ (w : World) (H : Hp) (a : Addr) (ns : List Int), ns.length ≤ n → Only H → SqL (K w.params) H a (ns.map V.int) → sp w [.ref a] H (fun v _ => v = .bl true) fun _ _ _ => False)
    (hCX : ∀ (w : World) (H : Hp) (s : Shared) (e : Value) (s' : Shared), CX w [] H s (fun _ _ _ => False) e s' → False) :
    PySem.W.WalkO q loose XP YP l.row.toRowW d [] (fun f vs => PySem.call f vs) := by
  refine Att.attach_call hn hdf fun w s₀ s₁ mg mb fa o pm cd doc a vs ns G Y ho hd hcd hmg hobj hints hlen hg => ?_
  obtain ⟨fd, hb, hF⟩ := F w mg fa _ (hY w _ Y) G.T.g hmg
  exact law_callG (hY w _ Y) G.T.g G.T.b G.T.builtins G.T.nolimit hg hobj hints (Nat.le_trans hlen hn2) hr hF hb (fun H hO hS => hsp w H a ns hlen hO hS) fun H e s' => hCX w H s₁ e s'
end LG
set_option Elab.async false
set_option linter.all false
set_option maxRecDepth 100000
set_option maxHeartbeats 4000000
/-! DF: iterators, comprehensions, what is never reached, a def's promise -/
namespace DL
open PySem PySem.Spec PyProof.Rows L2
section
variable {X : Cx} {c : Cn} {tg : Expr}
/-! ### what is walked -/
/-- a list or a tuple -/
def iSeq (K : PySem.W.Frag) (tl : TE) : TI := fun σ H R => tl σ H fun x H1 => ∃ a, x = .ref a ∧ (((∃ xs, SqL K H1 a xs) ∧ R (Itl K a) H1) ∨ ((∃ xs, SqT K H1 a xs) ∧ R (Itt K a) H1))
theorem fp_new {pins : List (Addr × Obj)} {σ : L2.St} {H : Hp} {s : Shared} (I : Inv X pins σ H s) : ∀ b ∈ [s.heap.objs.size], FpOk X pins H b := fun b hb => by
  cases List.mem_singleton.mp hb
  exact I.fpOk (Nat.le_refl _) (I.hok.fresh (Nat.le_refl _))
theorem pi_seq {l : Expr} {tl : TE} (hl : PE X l tl) : PI X tg l (iSeq X.K tl) := by
  refine ⟨fun pins s σ H R I h => thn (hl.run pins s σ H _ I h) fun v s1 ⟨x, H1, J, r1, a, ex, q⟩ => ?_⟩
  subst ex
  cases r1
  have up : ∀ o : Obj, Inv X pins σ H1 { s1 with heap := s1.heap.push o } := fun o => J.kept (t' := s1.toks) fun b o' z => Heap.get?_push_of_some _ z
  rcases q with ⟨⟨xs, hq⟩, q⟩ | ⟨⟨xs, hq⟩, q⟩
  · obtain ⟨its, _, pl, _⟩ := J.list hq
    exact wpAny_pyIter_list pl.isList ⟨s1.heap.objs.size, _, _, _, H1, rfl, up _, turn_list a _, ⟨_, Heap.get?_push_size _ rfl, rfl, rfl⟩, fp_new J, q⟩
  · obtain ⟨its, _, pl, _⟩ := J.tuple hq
    exact wpAny_pyIter_tuple (show s1.heap.IsTuple a its.toArray from pl) ⟨s1.heap.objs.size, _, _, _, H1, rfl, up _, turn_tuple a _, ⟨_, Heap.get?_push_size _ rfl, rfl, rfl⟩, fp_new J, q⟩
/-- the list at a is read where Hs holds it -/
theorem itl_items {K : PySem.W.Frag} {Hs : Hp} {a : Addr} {xs : List V} {ds : List D} (h1 : Hs a = some (.lst xs)) (h2 : IsA K Hs ds xs) : ItIs K (Itl K a) ds Hs where
  go := fun i Hs' H s1 s2 hi => ⟨xs, xs[i]'(by rw [h2.len]; exact hi), .of ((s1.trans s2) _ _ h1), List.getElem?_eq_getElem _⟩
  stop := fun i Hs' H s1 s2 hi0 => have hi := Nat.le_of_eq hi0; ⟨xs, .of ((s1.trans s2) _ _ h1), by rw [h2.len]; exact hi⟩
  yld := fun i Hs' H v H' d s1 s2 y hd => by
    obtain ⟨e, y⟩ := y
    subst e
    have hx := y xs (.of ((s1.trans s2) _ _ h1))
    obtain ⟨x, hx2, ix⟩ := h2.get hd
    rw [hx] at hx2
    cases hx2
    exact ⟨Hs', fun Z => .refl s2, ix.same s1⟩
theorem itt_items {K : PySem.W.Frag} {Hs : Hp} {a : Addr} {xs : List V} {ds : List D} (h1 : Hs a = some (.tup xs)) (h2 : IsA K Hs ds xs) : ItIs K (Itt K a) ds Hs where
  go := fun i Hs' H s1 s2 hi => ⟨xs, xs[i]'(by rw [h2.len]; exact hi), same_sqt (s1.trans s2) h1, List.getElem?_eq_getElem _⟩
  stop := fun i Hs' H s1 s2 hi0 => have hi := Nat.le_of_eq hi0; ⟨xs, same_sqt (s1.trans s2) h1, by rw [h2.len]; exact hi⟩
  yld := fun i Hs' H v H' d s1 s2 y hd => by
    obtain ⟨e, y⟩ := y
    subst e
    have hx := y xs (same_sqt (s1.trans s2) h1)
    obtain ⟨x, hx2, ix⟩ := h2.get hd
    rw [hx] at hx2
    cases hx2
    exact ⟨Hs', fun Z => .refl s2, ix.same s1⟩
def itemsD (x : D) (Q : List D → Prop) : Prop := match x with
  | .lst ds => Q ds
  | .tup ds => Q ds
  | _ => False
def tiSeq (te : TD) : TID := fun ss Q Ed => te ss (fun x => itemsD x Q) Ed
theorem di_seq {l : Expr} {te : TD} (h : DE X c l te) : DI X c tg l (tiSeq te) := by
  refine pi_imp (pi_seq h) fun σ H R q => ?_
  obtain ⟨O, Hs, ss, Qi, Ed, A, h, er, g⟩ := q
  refine ⟨O, Hs, ss, _, Ed, A, h, er, fun d v Hs1 H1 x1 i1 q1 => ?_⟩
  unfold itemsD at q1
  split at q1
  · obtain ⟨a, xs, e, h1, h2⟩ := i1
    exact ⟨a, e, .inl ⟨⟨xs, .of (x1.sub _ _ h1)⟩, g _ _ Hs1 H1 x1 (itl_items h1 h2) q1⟩⟩
  · obtain ⟨a, xs, e, h1, h2⟩ := i1
    exact ⟨a, e, .inr ⟨⟨xs, same_sqt x1.sub h1⟩, g _ _ Hs1 H1 x1 (itt_items h1 h2) q1⟩⟩
  · exact q1.elim
def rngD (lo : Int) (n : Nat) : List D := (List.range n).map fun k : Nat => .int (lo + (k : Int))
theorem rngD_len (lo : Int) (n : Nat) : (rngD lo n).length = n := by unfold rngD; rw [List.length_map, List.length_range]
theorem rngD_get {lo : Int} {n i : Nat} {d : D} (h : (rngD lo n)[i]? = some d) : i < n ∧ d = .int (lo + i) := by
  unfold rngD at h
  rw [List.getElem?_map] at h
  cases q : (List.range n)[i]? with
  | none => rw [q] at h; cases h
  | some k =>
    rw [q] at h
    have hi := (List.getElem?_eq_some_iff.mp q).1
    rw [List.length_range] at hi
    rw [List.getElem?_range hi] at q
    cases q
    exact ⟨hi, (Option.some.inj h).symm⟩
theorem itr_items {K : PySem.W.Frag} {Hs : Hp} (lo : Int) (n : Nat) : ItIs K (Itr lo n) (rngD lo n) Hs where
  go := fun i Hs' H s1 s2 hi => by rw [rngD_len] at hi; exact hi
  stop := fun i Hs' H s1 s2 hi0 => have hi := Nat.le_of_eq hi0; by rw [rngD_len] at hi; exact hi
  yld := fun i Hs' H v H' d s1 s2 y hd => by
    obtain ⟨e, y⟩ := y
    subst e
    obtain ⟨_, e2⟩ := rngD_get hd
    subst e2
    exact ⟨Hs', fun Z => .refl s2, y⟩
def tiRng1 (t : TAD) : TID := fun ss Q Ed => t ss (fun as => allD as fun ds => match ds with
  | [.int j] => (-(2 ^ 62) ≤ j ∧ j < 2 ^ 62) ∧ Q (rngD 0 j.toNat)
  | _ => False) Ed
theorem di_rng1 {a : Expr} {t : TAD} {p pos : Pos} (hm : X.mg "range" = none) (ha : DAs X c [a] t) (hg : Gl X "range" := by rfl) (hs : starEach [a] X.env = [(false, eval a X.env)] := by rfl) : DI X c tg (.Call (.Name "range" p) [a] [] pos) (tiRng1 t) := by
  refine pi_imp (pi_range1 hg hm ha hs) fun σ H R q => ?_
  obtain ⟨O, Hs, ss, Qi, Ed, A, h, er, g⟩ := q
  refine ⟨O, Hs, ss, _, Ed, A, h, er, fun as vs Hs1 H1 x1 i1 q1 => ?_⟩
  obtain ⟨ds, h3, h4⟩ := allD_is i1 q1
  split at h4
  · obtain ⟨x, e, ix⟩ := isA1 h3
    cases ix
    subst e
    exact ⟨_, rfl, h4.1.1, h4.1.2, g _ _ Hs1 H1 x1 (itr_items 0 _) h4.2⟩
  · exact h4.elim
def tiRng2 (t : TAD) : TID := fun ss Q Ed => t ss (fun as => allD as fun ds => match ds with
  | [.int i, .int j] => (-(2 ^ 62) ≤ i ∧ i < 2 ^ 62 ∧ -(2 ^ 62) ≤ j ∧ j < 2 ^ 62) ∧ Q (rngD i (j - i).toNat)
  | _ => False) Ed
theorem di_rng2 {a b : Expr} {t : TAD} {p pos : Pos} (hm : X.mg "range" = none) (ha : DAs X c [a, b] t) (hg : Gl X "range" := by rfl) (hs : starEach [a, b] X.env = [(false, eval a X.env), (false, eval b X.env)] := by rfl) (hs2 : starEach [b] X.env = [(false, eval b X.env)] := by rfl) : DI X c tg (.Call (.Name "range" p) [a, b] [] pos) (tiRng2 t) := by
  refine pi_imp (pi_range2 hg hm ha hs hs2) fun σ H R q => ?_
  obtain ⟨O, Hs, ss, Qi, Ed, A, h, er, g⟩ := q
  refine ⟨O, Hs, ss, _, Ed, A, h, er, fun as vs Hs1 H1 x1 i1 q1 => ?_⟩
  obtain ⟨ds, h3, h4⟩ := allD_is i1 q1
  split at h4
  · obtain ⟨x, y, e, ix, iy⟩ := isA2 h3
    cases ix
    cases iy
    subst e
    exact ⟨_, _, rfl, h4.1, g _ _ Hs1 H1 x1 (itr_items _ _) h4.2⟩
  · exact h4.elim
/-- enumerate of a list -/
def enumD : Nat → List D → List D
  | _, [] => []
  | n, d :: ds => .tup [.int (n : Nat), d] :: enumD (n + 1) ds
theorem enumD_len : ∀ (ds : List D) (n : Nat), (enumD n ds).length = ds.length
  | [], _ => rfl
  | _ :: ds, n => congrArg Nat.succ (enumD_len ds (n + 1))
theorem enumD_get : ∀ {ds : List D} {n i : Nat} {d : D}, (enumD n ds)[i]? = some d → ∃ x, ds[i]? = some x ∧ d = .tup [.int ((n + i : Nat) : Int), x]
  | [], _, _, _, h => by simp [enumD] at h
  | x :: ds, n, 0, d, h => by simp [enumD] at h; exact ⟨x, rfl, h.symm⟩
  | x :: ds, n, i + 1, d, h => by
    obtain ⟨y, h1, h2⟩ := enumD_get (ds := ds) (n := n + 1) (i := i) (d := d) (by simpa [enumD] using h)
    exact ⟨y, by simpa using h1, by rw [h2, show n + 1 + i = n + (i + 1) by omega]⟩
theorem ite_items {K : PySem.W.Frag} {Hs : Hp} {a : Addr} {xs : List V} {ds : List D} (h1 : Hs a = some (.lst xs)) (h2 : IsA K Hs ds xs) : ItIs K (Ite K a) (enumD 0 ds) Hs where
  go := fun i Hs' H s1 s2 hi => ⟨xs, xs[i]'(by rw [h2.len]; rw [enumD_len] at hi; exact hi), .of ((s1.trans s2) _ _ h1), List.getElem?_eq_getElem _⟩
  stop := fun i Hs' H s1 s2 hi0 => have hi := Nat.le_of_eq hi0; ⟨xs, .of ((s1.trans s2) _ _ h1), by rw [h2.len]; rw [enumD_len] at hi; exact hi⟩
  yld := fun i Hs' H v H' d s1 s2 y hd => by
    obtain ⟨T, x, e, nT, e2, y⟩ := y
    subst e; subst e2
    have hx := y xs (.of ((s1.trans s2) _ _ h1))
    obtain ⟨z, hz, ed⟩ := enumD_get hd
    obtain ⟨w, hw, iw⟩ := h2.get hz
    rw [hx] at hw
    cases hw
    subst ed
    have L := fun Z => Ext.laid (Z := Z) (o := .tup [.int (i : Nat), x]) s2 nT
    refine ⟨_, L, T, _, rfl, upd_same, .int i, _, rfl, ?_, x, _, rfl, (iw.same s1).same (L fun _ => False).fz, rfl⟩
    show V.int (i : Int) = V.int ((0 + i : Nat) : Int)
    rw [Nat.zero_add]
def tiEnum (te : TD) : TID := fun ss Q Ed => te ss (fun x => match x with
  | .lst ds => Q (enumD 0 ds)
  | _ => False) Ed
theorem di_enum {e : Expr} {te : TD} {p pos tpos : Pos} {elts : List Expr} {kk : Nat} (hm : X.mg "enumerate" = none) (h : DE X c e te) (hg : Gl X "enumerate" := by rfl) (hs : starEach [e] X.env = [(false, eval e X.env)] := by rfl) (hs1 : starEach [e] X.env = (false, eval e X.env) :: starEach [] X.env := by rfl) : DI X c (.Tuple elts kk tpos) (.Call (.Name "enumerate" p) [e] [] pos) (tiEnum te) := by
  refine pi_imp (pi_enum hg hm (pa_cons h pa_nil hs1) hs) fun σ H R q => ?_
  obtain ⟨O, Hs, ss, Qi, Ed, A, h, er, g⟩ := q
  refine ⟨O, Hs, ss, _, Ed, A, h, er, fun d v Hs1 H1 x1 i1 q1 => ?_⟩
  split at q1
  · obtain ⟨a, xs, e, h1, h2⟩ := i1
    subst e
    exact ⟨a, xs, rfl, .of (x1.sub _ _ h1), g _ _ Hs1 H1 x1 (ite_items h1 h2) q1⟩
  · exact q1.elim
/-- zip of two lists -/
def zipD : List D → List D → List D
  | x :: xs, y :: ys => .tup [x, y] :: zipD xs ys
  | _, _ => []
theorem zipD_len : ∀ (xs ys : List D), (zipD xs ys).length = min xs.length ys.length
  | [], ys => by simp [zipD]
  | _ :: _, [] => by simp [zipD]
  | _ :: xs, _ :: ys => by simp [zipD, zipD_len xs ys]
theorem zipD_get : ∀ {xs ys : List D} {i : Nat} {d : D}, (zipD xs ys)[i]? = some d → ∃ x y, xs[i]? = some x ∧ ys[i]? = some y ∧ d = .tup [x, y]
  | [], _, _, _, h => by simp [zipD] at h
  | _ :: _, [], _, _, h => by simp [zipD] at h
  | x :: xs, y :: ys, 0, d, h => by simp [zipD] at h; exact ⟨x, y, rfl, rfl, h.symm⟩
  | x :: xs, y :: ys, i + 1, d, h => by
    obtain ⟨a, b, h1, h2, h3⟩ := zipD_get (xs := xs) (ys := ys) (i := i) (d := d) (by simpa [zipD] using h)
    exact ⟨a, b, by simpa using h1, by simpa using h2, h3⟩
theorem itz_items {K : PySem.W.Frag} {Hs : Hp} {a b : Addr} {xs ys : List V} {ds es : List D} (h1 : Hs a = some (.lst xs)) (h2 : IsA K Hs ds xs) (h3 : Hs b = some (.lst ys)) (h4 : IsA K Hs es ys) : ItIs K (Itz K a b) (zipD ds es) Hs where
  go := fun i Hs' H s1 s2 hi => by
    rw [zipD_len] at hi
    exact ⟨xs, ys, xs[i]'(by rw [h2.len]; omega), ys[i]'(by rw [h4.len]; omega), .of ((s1.trans s2) _ _ h1), .of ((s1.trans s2) _ _ h3), List.getElem?_eq_getElem _, List.getElem?_eq_getElem _⟩
  stop := fun i Hs' H s1 s2 hi0 => by
    have hi := Nat.le_of_eq hi0
    rw [zipD_len] at hi
    exact ⟨xs, ys, .of ((s1.trans s2) _ _ h1), .of ((s1.trans s2) _ _ h3), by rw [h2.len, h4.len]; omega⟩
  yld := fun i Hs' H v H' d s1 s2 y hd => by
    obtain ⟨T, x, y', e, nT, e2, y1, y2⟩ := y
    subst e; subst e2
    have hx := y1 xs (.of ((s1.trans s2) _ _ h1))
    have hy := y2 ys (.of ((s1.trans s2) _ _ h3))
    obtain ⟨z, z', hz, hz', ed⟩ := zipD_get hd
    obtain ⟨w, hw, iw⟩ := h2.get hz
    obtain ⟨w', hw', iw'⟩ := h4.get hz'
    rw [hx] at hw
    rw [hy] at hw'
    cases hw
    cases hw'
    subst ed
    have L := fun Z => Ext.laid (Z := Z) (o := .tup [x, y']) s2 nT
    exact ⟨_, L, T, _, rfl, upd_same, x, _, rfl, (iw.same s1).same (L fun _ => False).fz, y', _, rfl, (iw'.same s1).same (L fun _ => False).fz, rfl⟩
/-- zip of two tuples -/
theorem itzT_items {K : PySem.W.Frag} {Hs : Hp} {a b : Addr} {xs ys : List V} {ds es : List D} (h1 : Hs a = some (.tup xs)) (h2 : IsA K Hs ds xs) (h3 : Hs b = some (.tup ys)) (h4 : IsA K Hs es ys) : ItIs K (RZ.ItzT K a b) (zipD ds es) Hs where
  go := fun i Hs' H s1 s2 hi => by
    rw [zipD_len] at hi
    exact ⟨xs, ys, xs[i]'(by rw [h2.len]; omega), ys[i]'(by rw [h4.len]; omega), same_sqt (s1.trans s2) h1, same_sqt (s1.trans s2) h3, List.getElem?_eq_getElem _, List.getElem?_eq_getElem _⟩
  stop := fun i Hs' H s1 s2 hi0 => by
    have hi := Nat.le_of_eq hi0
    rw [zipD_len] at hi
    exact ⟨xs, ys, same_sqt (s1.trans s2) h1, same_sqt (s1.trans s2) h3, by rw [h2.len, h4.len]; omega⟩
  yld := fun i Hs' H v H' d s1 s2 y hd => by
    obtain ⟨T, x, y', e, nT, e2, y1, y2⟩ := y
    subst e; subst e2
    have hx := y1 xs (same_sqt (s1.trans s2) h1)
    have hy := y2 ys (same_sqt (s1.trans s2) h3)
    obtain ⟨z, z', hz, hz', ed⟩ := zipD_get hd
    obtain ⟨w, hw, iw⟩ := h2.get hz
    obtain ⟨w', hw', iw'⟩ := h4.get hz'
    rw [hx] at hw
    rw [hy] at hw'
    cases hw
    cases hw'
    subst ed
    have L := fun Z => Ext.laid (Z := Z) (o := .tup [x, y']) s2 nT
    exact ⟨_, L, T, _, rfl, upd_same, x, _, rfl, (iw.same s1).same (L fun _ => False).fz, y', _, rfl, (iw'.same s1).same (L fun _ => False).fz, rfl⟩
def tiZip (t : TAD) : TID := fun ss Q Ed => t ss (fun as => allD as fun ds => match ds with
  | [.lst xs, .lst ys] => Q (zipD xs ys)
  | _ => False) Ed
theorem di_zip {e e2 : Expr} {t : TAD} {p pos tpos : Pos} {elts : List Expr} {kk : Nat} (hm : X.mg "zip" = none) (ha : DAs X c [e, e2] t) (hg : Gl X "zip" := by rfl)
    (hs : starEach [e, e2] X.env = (false, eval e X.env) :: starEach [e2] X.env := by rfl) (hpl : (backTo pos (starEach [e2] X.env)).any (·.1) = false := by rfl) : DI X c (.Tuple elts kk tpos) (.Call (.Name "zip" p) [e, e2] [] pos) (tiZip t) := by
  refine pi_imp (pi_zip hg hm ha hs hpl) fun σ H R q => ?_
  obtain ⟨O, Hs, ss, Qi, Ed, A, h, er, g⟩ := q
  refine ⟨O, Hs, ss, _, Ed, A, h, er, fun as vs Hs1 H1 x1 i1 q1 => ?_⟩
  obtain ⟨ds, h3, h4⟩ := allD_is i1 q1
  split at h4
  · obtain ⟨x, y, e, ⟨a, xs, ea, ha1, ha2⟩, ⟨b, ys, eb, hb1, hb2⟩⟩ := isA2 h3
    subst ea; subst eb; subst e
    exact ⟨a, b, xs, ys, rfl, .of (x1.sub _ _ ha1), .of (x1.sub _ _ hb1), g _ _ Hs1 H1 x1 (itz_items ha1 ha2 hb1 hb2) h4⟩
  · exact h4.elim
/-- over a list of the slot's own, which the body leaves as it is -/
def tdForOwn (i : Nat) (en : Bool) (pt : Pat) (tb : TSD) : TSD := fun En ss Ed => match nth ss i with
  | .own p ds => ∃ I : Nat → List Sl → Prop, I 0 ss ∧ (∀ k ss', I k ss' → nth ss' i = .own p ds) ∧
    (∀ k d ss', (if en then enumD 0 ds else ds)[k]? = some d → I k ss' → pt.gd d ss' fun ss2 => tb { nx := I (k + 1), rt := En.rt, ro := En.ro, rm := En.rm, bk := En.nx, ct := I (k + 1) } ss2 Ed) ∧ ∀ ss', I ds.length ss' → En.nx ss'
  | _ => False
theorem own_at {K : PySem.W.Frag} {c : Cn} {O Hs H σ ss} (A : Abs K c O Hs H σ ss) {i : Nat} {p : Addr} {ds : List D} (h : nth ss i = .own p ds) : ∃ xs, H p = some (.lst xs) ∧ IsA K Hs ds xs ∧ O p = some (i + 1) := by
  have q := A.sl i
  rw [h] at q
  obtain ⟨xs, _, h1, h2, h3⟩ := q
  exact ⟨xs, h2, h3, h1⟩
theorem own_items {K : PySem.W.Frag} {p : Addr} {ds : List D} {i : Nat} {c : Cn} {O Hs H σ ss} (A : Abs K c O Hs H σ ss) (h : nth ss i = .own p ds) : (∀ k d, ds[k]? = some d → (Itl K p).go k H) ∧ (∀ k, ds.length ≤ k → (Itl K p).stop k H) ∧ ∀ k v H' d, (Itl K p).yld k H v H' → ds[k]? = some d → H' = H ∧ Is K Hs d v := by
  obtain ⟨xs, h1, h2, _⟩ := own_at A h
  refine ⟨fun k d hd => ?_, fun k hk => ⟨xs, .inl (.inl h1), by rw [h2.len]; exact hk⟩, fun k v H' d y hd => ?_⟩
  · obtain ⟨x, hx, _⟩ := h2.get hd
    exact ⟨xs, x, .inl (.inl h1), hx⟩
  · obtain ⟨e, y⟩ := y
    have hx := y xs (.inl (.inl (e ▸ h1)))
    obtain ⟨x, hx2, ix⟩ := h2.get hd
    rw [hx] at hx2
    cases hx2
    exact ⟨e, ix⟩
theorem d_forOwn {iter : Expr} {body : List Stmt} {pos : Pos} {i : Nat} {pt : Pat} {tb : TSD} (hp : PassesOwn (model X.prog X.w) X.A X.env X.xe) (hc : X.calm = true) (hi : PE X iter (tVar i)) (hg : DG X tg pt) (hb : DSs X c body tb)
    (hs : ∀ x, foldedSetIterable iter X.env x = pure x := by intro _; rfl) : DS X c (.For tg iter body [] pos) (tdForOwn i false pt tb) := by
  refine ps_imp (ps_for hp hc (pi_list hi) hg hb hs) fun Dn σ H q => ?_
  obtain ⟨O, Hs, ss, En, Ed, A, h, er, gc⟩ := q
  unfold tdForOwn at h
  split at h
  · rename_i p ds hds
    obtain ⟨I, i0, keep, turn, fin⟩ := h
    simp only [Bool.false_eq_true, if_false] at turn
    have hsl := A.sl i
    rw [hds] at hsl
    obtain ⟨xs, e1, _, h2, _⟩ := hsl
    refine ⟨_, e1, p, rfl, ⟨xs, .inl (.inl h2)⟩, fun k m σ' H' => m = ds.length - k ∧ k ≤ ds.length ∧ ∃ O' Hs' ss', Abs X.K c O' Hs' H' σ' ss' ∧ Same Hs Hs' ∧ I k ss', ⟨_, rfl, Nat.zero_le _, O, Hs, ss, A, .refl _, i0⟩, ?_⟩
    rintro k m σ' H' ⟨rfl, hk, O', Hs', ss', A', s', q'⟩
    obtain ⟨go, stop, yld⟩ := own_items A' (keep k ss' q')
    by_cases hlt : k < ds.length
    · have hd : ds[k]? = some ds[k] := List.getElem?_eq_getElem hlt
      refine .inr ⟨go k _ hd, fun σ2 H2 => ∃ O2 Hs2 ss2, Abs X.K c O2 Hs2 H2 σ2 ss2 ∧ Same Hs Hs2 ∧ I (k + 1) ss2, fun σ2 H2 z => ⟨ds.length - (k + 1), by omega, rfl, hlt, z⟩, fun v H2 hy => ?_⟩
      obtain ⟨e, is2⟩ := yld k v H2 _ hy hd
      subst e
      refine pt.conn A' is2 (turn k _ ss' hd q') fun σ3 ss3 A3 _ q3 => ?_
      refine ⟨O', Hs', ss3, _, Ed, A3, q3, er, ?_⟩
      exact ⟨fun σ4 O4 Hs4 H4 ss4 z A4 q4 => ⟨O4, Hs4, ss4, A4, s'.trans z, q4⟩, fun σ4 O4 Hs4 H4 ss4 z A4 q4 => gc.nx σ4 O4 Hs4 H4 ss4 (s'.trans z) A4 q4, fun σ4 O4 Hs4 H4 ss4 z A4 q4 => ⟨O4, Hs4, ss4, A4, s'.trans z, q4⟩, gc.rt, gc.ro, gc.rm⟩
    · have e : k = ds.length := by omega
      subst e
      exact .inl ⟨stop _ (Nat.le_refl _), gc.nx σ' O' Hs' H' ss' s' A' (fin ss' q')⟩
  · exact h.elim
theorem d_forOwnE {e : Expr} {body : List Stmt} {p0 pos pos' tpos : Pos} {elts : List Expr} {kk : Nat} {i : Nat} {pt : Pat} {tb : TSD} (hp : PassesOwn (model X.prog X.w) X.A X.env X.xe) (hc : X.calm = true) (hm : X.mg "enumerate" = none) (hi : PE X e (tVar i)) (hg : DG X (.Tuple elts kk tpos) pt) (hb : DSs X c body tb)
    (hgl : Gl X "enumerate" := by rfl) (hs0 : starEach [e] X.env = [(false, eval e X.env)] := by rfl) (hs1 : starEach [e] X.env = (false, eval e X.env) :: starEach [] X.env := by rfl)
    (hs : ∀ x, foldedSetIterable (.Call (.Name "enumerate" p0) [e] [] pos') X.env x = pure x := by intro _; rfl) : DS X c (.For (.Tuple elts kk tpos) (.Call (.Name "enumerate" p0) [e] [] pos') body [] pos) (tdForOwn i true pt tb) := by
  refine ps_imp (ps_for hp hc (pi_enum hgl hm (pa_cons hi pa_nil hs1) hs0) hg hb hs) fun Dn σ H q => ?_
  obtain ⟨O, Hs, ss, En, Ed, A, h, er, gc⟩ := q
  unfold tdForOwn at h
  split at h
  · rename_i p ds hds
    obtain ⟨I, i0, keep, turn, fin⟩ := h
    simp only [if_true] at turn
    have hsl := A.sl i
    rw [hds] at hsl
    obtain ⟨xs, e1, _, h2, _⟩ := hsl
    refine ⟨_, e1, p, xs, rfl, .inl (.inl h2), fun k m σ' H' => m = ds.length - k ∧ k ≤ ds.length ∧ ∃ O' Hs' ss', Abs X.K c O' Hs' H' σ' ss' ∧ Same Hs Hs' ∧ I k ss', ⟨_, rfl, Nat.zero_le _, O, Hs, ss, A, .refl _, i0⟩, ?_⟩
    rintro k m σ' H' ⟨rfl, hk, O', Hs', ss', A', s', q'⟩
    obtain ⟨ys, k1, k2, _⟩ := own_at A' (keep k ss' q')
    by_cases hlt : k < ds.length
    · have hd : ds[k]? = some ds[k] := List.getElem?_eq_getElem hlt
      obtain ⟨x, hx, ix⟩ := k2.get hd
      refine .inr ⟨⟨ys, x, .inl (.inl k1), hx⟩, fun σ2 H2 => ∃ O2 Hs2 ss2, Abs X.K c O2 Hs2 H2 σ2 ss2 ∧ Same Hs Hs2 ∧ I (k + 1) ss2, fun σ2 H2 z => ⟨ds.length - (k + 1), by omega, rfl, hlt, z⟩, fun v H2 hy => ?_⟩
      obtain ⟨T, x', e, nT, e2, y⟩ := hy
      subst e; subst e2
      have hx' := y ys (.inl (.inl k1))
      rw [hx] at hx'
      cases hx'
      have L := Ext.laid (Z := Z0 O') (o := .tup [.int (k : Nat), x]) A'.sub nT
      have is2 : Is X.K (upd Hs' T (.tup [.int (k : Nat), x])) (.tup [.int (k : Nat), ds[k]]) (.ref T) := ⟨T, _, rfl, upd_same, .int (k : Nat), _, rfl, rfl, x, _, rfl, ix.same L.fz, rfl⟩
      have hen : (enumD 0 ds)[k]? = some (.tup [.int (k : Nat), ds[k]]) := by
        have hl : k < (enumD 0 ds).length := by rw [enumD_len]; exact hlt
        have h0 : (enumD 0 ds)[k]? = some (enumD 0 ds)[k] := List.getElem?_eq_getElem hl
        obtain ⟨z, hz, ez⟩ := enumD_get h0
        rw [hd] at hz
        cases hz
        rw [h0, ez, Nat.zero_add]
      refine pt.conn (A'.next L) is2 (turn k _ ss' hen q') fun σ3 ss3 A3 _ q3 => ?_
      refine ⟨O', _, ss3, _, Ed, A3, q3, er, ?_⟩
      exact ⟨fun σ4 O4 Hs4 H4 ss4 z A4 q4 => ⟨O4, Hs4, ss4, A4, (s'.trans L.fz).trans z, q4⟩, fun σ4 O4 Hs4 H4 ss4 z A4 q4 => gc.nx σ4 O4 Hs4 H4 ss4 ((s'.trans L.fz).trans z) A4 q4, fun σ4 O4 Hs4 H4 ss4 z A4 q4 => ⟨O4, Hs4, ss4, A4, (s'.trans L.fz).trans z, q4⟩, gc.rt, gc.ro, gc.rm⟩
    · have e : k = ds.length := by omega
      subst e
      exact .inl ⟨⟨ys, .inl (.inl k1), by rw [k2.len]; exact Nat.le_refl _⟩, gc.nx σ' O' Hs' H' ss' s' A' (fin ss' q')⟩
  · exact h.elim
end
end DL
set_option Elab.async false
set_option linter.all false
set_option maxRecDepth 100000
set_option maxHeartbeats 4000000
/-! EN: enumerate of a tuple, of a list or a tuple -/
namespace DL
open PySem PySem.Spec PyProof.Rows L2
theorem enum_one {v : Value} {o : Obj} {G : Heap → Prop} (B : Begins v o G) :
    Meets (Builtin.«enumerate.__new__» ⟨[.type "enumerate", v], []⟩) (fun _ R s => G s.heap ∧
      R (.ok (.ret (.ref (s.heap.push o).objs.size))) { s with heap := (s.heap.push o).push { cls := .type "enumerate", data := .fields #[.none, .bool false, .ref s.heap.objs.size, rawInt 0, .none, .none] } }) := by
  refine .of_wp fun pr w0 Ar R s hh => ?_
  obtain ⟨hp, gl, dd, tk, os⟩ := s
  obtain ⟨h1, hq⟩ := hh
  have sb := sub_enumerate
  have it1 : ∀ {A1 : Around} {E1 Q1 : Value → Shared → Prop}, Q1 (.ref hp.objs.size) ⟨hp.push o, gl, dd, tk, os⟩ → wpAny (model pr w0) A1 (pyIter v) Q1 E1 ⟨hp, gl, dd, tk, os⟩ := fun q => B.iter pr w0 _ _ ⟨hp, gl, dd, tk, os⟩ _ h1 q
  wp_walk using it1
  refine wpAny_stack_any fun st => wpAny_pure ?_
  split
  · rename_i k _ _ _ _ _
    cases (k == Value.type "enumerate") <;> (wp_walk using it1; exact ⟨_, rfl, hq⟩)
  · wp_walk using it1
    exact ⟨_, rfl, hq⟩
section
variable {pr : Program} {w0 : World} {Ar : Around} {E : Value → Shared → Prop} {s : Shared}
theorem call_enum1 {v : Value} {o : Obj} {G : Heap → Prop} {Q : Value → Shared → Prop} (B : Begins v o G) (h1 : G s.heap)
    (hq : ∀ h2, IsEnum h2 (s.heap.objs.size + 1) s.heap.objs.size 0 .none → h2.get? s.heap.objs.size = some o → (∀ b x, s.heap.get? b = some x → h2.get? b = some x) → Q (.ref (s.heap.objs.size + 1)) { s with heap := h2 }) :
    wpAny (model pr w0) Ar (call (.type "enumerate") [v]) Q E s := by
  refine callType_new F.called_enumerate (by decide) (F.typeCall_enumerate_1 _) (F.newCall_enumerate_1 _) (fun ob => F.args_object_init_2 ob _) F.entry_enumerate_new (enum_one B) ⟨h1, ?_⟩
  have sz : (s.heap.push o).objs.size = s.heap.objs.size + 1 := Heap.size_push ..
  have top := Heap.get?_push_size (s.heap.push o) (o := { cls := .type "enumerate", data := .fields #[.none, .bool false, .ref s.heap.objs.size, rawInt 0, .none, .none] }) rfl
  rw [sz] at top
  show _ ∧ _
  rw [sz]
  exact ⟨⟨_, top, rfl⟩, hq _ top (Heap.get?_push_of_some _ (Heap.get?_push_size _ B.free)) fun b x e => Heap.get?_push_of_some _ (Heap.get?_push_of_some _ e)⟩
end
section
variable {pr : Program} {w0 : World} {Ar : Around} {E : Value → Shared → Prop} {s : Shared}
theorem wpAny_pyNext_enum_endI {e it a : Addr} {i : Nat} {items : Array Value} {c : Int} {old : Value} {Q : Option Value → Shared → Prop} (hh : Ar.handled = none) (he : IsEnum s.heap e it c old) (hi : s.heap.IsTupleIter it a i) (tup : s.heap.IsTuple a items) (ge : items.size ≤ i)
    (hQ : ∀ h', Heap.ExtBut it s.heap h' → Q none { s with heap := h' }) : wpAny (model pr w0) Ar (pyNext (.ref e)) Q E s := by
  have ty : s.TypeIs (.ref e) "enumerate" := ⟨_, he, rfl⟩
  unfold pyNext
  refine wpAny_bind (wpAny_attempt ?_)
  refine wpAny_callSpecial?_slot (name := Str.ofString "__next__") ty F.slot_enumerate_next ?_
  refine wpAny_call_entry F.slot_enumerate_next ty F.entry_enumerate_next ?_ (F.args_enumerate_next_1 _)
  show wpAny _ _ (field (.ref e) 2 >>= _) _ _ _
  refine wpAny_bind (wpAny_field he rfl (x := .ref it) rfl (wpAny_bind ?_))
  refine wpAny_nextOf_tuple_end (A := Ar.in1) hh hi tup (Array.getElem?_eq_none ge) fun h1 x k ⟨o, ho, hc⟩ => ?_
  exact wpAny_bind (wpAny_isInstance (T := "StopIteration") (b := true) ⟨o, ho, hc⟩ isSubtype_stop (wpAny_pure (hQ _ k)))
end
/-- the tuple at a, each item in a new pair -/
def IteT (K : PySem.W.Frag) (a : Addr) : It where
  go := fun i H => ∃ (xs : List V) (x : V), SqT K H a xs ∧ xs[i]? = some x
  yld := fun i H v H' => ∃ p x, v = .ref p ∧ H p = none ∧ H' = upd H p (.tup [.int (i : Nat), x]) ∧ ∀ xs, SqT K H a xs → xs[i]? = some x
  stop := fun i H => ∃ xs : List V, SqT K H a xs ∧ xs.length ≤ i
theorem turn_enumT {P : Program} {w : World} {K : PySem.W.Frag} {elts : List Expr} {kk : Nat} {tpos : Pos} {a e it : Addr} (n1 : e ≠ it) (n2 : a ≠ it) (n3 : a ≠ e) :
    Turn P w K (.Tuple elts kk tpos) (IteT K a) [e, it] e (fun i h => (∃ old, IsEnum h e it ((i : Nat) : Int) old) ∧ h.IsTupleIter it a i) where
  mem := by simp
  obj := fun i h st b hb => by
    obtain ⟨⟨old, he⟩, ⟨o, ho, _, dd⟩⟩ := st
    rcases List.mem_cons.mp hb with z | z
    · subst z; exact ⟨_, he, fun v q => nomatch q⟩
    · rw [List.mem_singleton.mp z]; exact ⟨o, ho, fun v q => by rw [dd] at q; cases q⟩
  keep := fun i h h' st k => by
    obtain ⟨⟨old, he⟩, hi⟩ := st
    exact ⟨⟨old, k e (by simp) _ he⟩, hi.at fun o q => k it (by simp) o q⟩
  item := by
    intro X hP hw hK hc i pins s σ H E I hf st hg
    subst hP hw hK
    obtain ⟨⟨old, he⟩, hi⟩ := st
    obtain ⟨xs, x, hq, hx⟩ := hg
    obtain ⟨its, rv, tp, _⟩ := I.tuple hq
    obtain ⟨u, hu, ru⟩ := rv.get hx
    have tup : s.heap.IsTuple a its.toArray := tp
    have le : e < s.heap.objs.size := Heap.lt_size he
    have li : it < s.heap.objs.size := by obtain ⟨_, q, _⟩ := hi; exact Heap.lt_size q
    have lt : i < its.toArray.size := by
      have := List.getElem?_eq_some_iff.mp hu
      simpa using this.1
    refine wpAny_pyNext_enum_itemD (Draws.tuple (A := X.A.in1) (I.ok.hd hc) it a n2 its.toArray) he (And.intro hi tup) lt n1 (by simp [n1, Ne.symm n3]) fun y h1 tk hy out st1 hT sz hk => ?_
    have ey : y = u := by
      have hy : its.toArray[i]? = some y := hy
      have hu : its.toArray[i]? = some u := by simpa using hu
      exact Option.some.inj (hy.symm.trans hu)
    subst ey
    refine ⟨_, rfl, wpAny_letOwnedTupleGo_enum (s := { s with heap := h1, toks := tk + 1 }) out fun h2 he2 sb => ?_⟩
    have hT2 : h2.get? s.heap.objs.size = some { cls := .type "tuple", data := .seq #[.int i tk, y] } := (sb.2 _ (Nat.ne_of_gt le)).trans hT
    have new : ObjOk X.prog X.w (upd H s.heap.objs.size (.tup [.int (i : Nat), x])) h2 s.heap.objs.size (.tup [.int (i : Nat), x]) := by
      refine ⟨?_, [.int i tk, y], .cons ⟨_, rfl⟩ (.cons ru .nil), ⟨_, hT2, rfl, _, rfl⟩⟩
      show 2 ≤ sizeLine
      decide
    have I1 : Inv X pins σ (upd H s.heap.objs.size (.tup [.int (i : Nat), x])) { s with heap := h2, toks := tk + 1 } := by
      refine I.turnedNew (ch := [e, it]) (fun b o hb q => ?_) hf (Nat.le_refl _) new
      have nb : b ≠ e ∧ b ≠ it := by simpa using hb
      exact (sb.2 b nb.1).trans (hk b o nb.1 nb.2 q)
    refine ⟨.ref s.heap.objs.size, _, I1, rfl, ⟨_, x, rfl, I.hok.fresh (Nat.le_refl _), rfl, fun ys hy2 => by rw [I.tuple_inj hy2 hq]; exact hx⟩, ⟨⟨y, ?_⟩, st1.1.at fun o q => (sb.2 it (Ne.symm n1)).trans q⟩, fun b hb => ?_⟩
    · rw [show ((i + 1 : Nat) : Int) = (i : Int) + 1 by omega]; exact he2
    · have lb : b < s.heap.objs.size := by
        rcases List.mem_cons.mp hb with z | z
        · rw [z]; exact le
        · rw [List.mem_singleton.mp z]; exact li
      rw [upd_ne (Nat.ne_of_lt lb)]
      exact (hf b hb).1
  done := by
    intro X hP hw hK hc i pins s σ H E I hf st hg
    subst hP hw hK
    obtain ⟨⟨old, he⟩, hi⟩ := st
    obtain ⟨xs, hq, hx⟩ := hg
    obtain ⟨its, rv, tp, _⟩ := I.tuple hq
    have tup : s.heap.IsTuple a its.toArray := tp
    obtain ⟨f0, f1, f2, f3, f4, f5⟩ := hf it (by simp)
    have hl := rv.length
    have ge : its.toArray.size ≤ i := by simp; omega
    refine wpAny_pyNext_enum_endI (I.ok.hd hc) he hi tup ge fun h1 eb => ⟨rfl, I.turned (t' := s.toks) (fun b o hb q => eb b o hb q) f0 f1 f3 f4 f5⟩
  self := fun A i s Q E st hq => by
    obtain ⟨⟨_, he⟩, _⟩ := st
    exact wpAny_pyIter_enum he hq
/-- of a list or of a tuple -/
def iEnumA (K : PySem.W.Frag) (ta : TA) : TI := fun σ H R => ta σ H fun vs H1 => ∃ a xs, vs = [.ref a] ∧ ((SqL K H1 a xs ∧ R (Ite K a) H1) ∨ (SqT K H1 a xs ∧ R (IteT K a) H1))
theorem fp2 {X : Cx} {pins : List (Addr × Obj)} {σ : L2.St} {H : Hp} {s : Shared} (I : Inv X pins σ H s) : ∀ b ∈ [s.heap.objs.size + 1, s.heap.objs.size], FpOk X pins H b := fun b hb => by
  have le : s.heap.objs.size ≤ b := by
    rcases List.mem_cons.mp hb with z | z
    · rw [z]; exact Nat.le_succ _
    · rw [List.mem_singleton.mp z]; exact Nat.le_refl _
  exact I.fpOk le (I.hok.fresh le)
theorem pi_enumA {X : Cx} {e : Expr} {ta : TA} {p pos tpos : Pos} {elts : List Expr} {kk : Nat} (hg : Gl X "enumerate") (hm : X.mg "enumerate" = none) (ha : PA X [e] ta) (hs : starEach [e] X.env = [(false, eval e X.env)] := by rfl) :
    PI X (.Tuple elts kk tpos) (.Call (.Name "enumerate" p) [e] [] pos) (iEnumA X.K ta) := ⟨fun pins s σ H R I h => by
  refine Call_ (ld_blt I hg hm boot_enumerate (PyProof.Rows.callWith_type1 ?_ hs rfl))
  refine thn (ha.run pos pins s σ H _ I h) fun us s1 ⟨vs, H1, I1, r1, a, xs, ex, q⟩ => ?_
  subst ex
  rcases r1 with _ | ⟨r, rr⟩
  cases rr
  cases r
  rcases q with ⟨hq, q⟩ | ⟨hq, q⟩
  · obtain ⟨its, rv, lp, _⟩ := I1.list hq
    refine call_enumerate_list lp.isList fun h1 he hi hz hk => wpAny_pyIter_enum he ?_
    exact ⟨s1.heap.objs.size + 1, [s1.heap.objs.size + 1, s1.heap.objs.size], _, _, H1, rfl, I1.kept (t' := s1.toks) hk, turn_enum a (s1.heap.objs.size + 1) s1.heap.objs.size, ⟨⟨.none, he⟩, hi, Nat.succ_ne_self _⟩, fp2 I1, q⟩
  · obtain ⟨its, rv, tp, _⟩ := I1.tuple hq
    have tup : s1.heap.IsTuple a its.toArray := tp
    have la : a < s1.heap.objs.size := by obtain ⟨_, z, _⟩ := tup; exact Heap.lt_size z
    refine call_enum1 (begins_tuple a its.toArray) tup fun h1 he hi hk => wpAny_pyIter_enum he ?_
    refine ⟨s1.heap.objs.size + 1, [s1.heap.objs.size + 1, s1.heap.objs.size], _, _, H1, rfl, I1.kept (t' := s1.toks) hk, turn_enumT (a := a) (it := s1.heap.objs.size) (Nat.succ_ne_self _) (Nat.ne_of_lt la) (Nat.ne_of_lt (Nat.lt_succ_of_lt la)), ⟨⟨.none, he⟩, ⟨_, hi, rfl, rfl⟩⟩, fp2 I1, q⟩⟩
section
variable {X : Cx} {c : Cn} {tg : Expr}
theorem iteT_items {K : PySem.W.Frag} {Hs : Hp} {a : Addr} {xs : List V} {ds : List D} (h1 : Hs a = some (.tup xs)) (h2 : IsA K Hs ds xs) : ItIs K (IteT K a) (enumD 0 ds) Hs where
  go := fun i Hs' H s1 s2 hi => ⟨xs, xs[i]'(by rw [h2.len]; rw [enumD_len] at hi; exact hi), same_sqt (s1.trans s2) h1, List.getElem?_eq_getElem _⟩
  stop := fun i Hs' H s1 s2 hi0 => have hi := Nat.le_of_eq hi0; ⟨xs, same_sqt (s1.trans s2) h1, by rw [h2.len]; rw [enumD_len] at hi; exact hi⟩
  yld := fun i Hs' H v H' d s1 s2 y hd => by
    obtain ⟨T, x, e, nT, e2, y⟩ := y
    subst e; subst e2
    have hx := y xs (same_sqt (s1.trans s2) h1)
    obtain ⟨z, hz, ed⟩ := enumD_get hd
    obtain ⟨w, hw, iw⟩ := h2.get hz
    rw [hx] at hw
    cases hw
    subst ed
    have L := fun Z => Ext.laid (Z := Z) (o := .tup [.int (i : Nat), x]) s2 nT
    refine ⟨_, L, T, _, rfl, upd_same, .int i, _, rfl, ?_, x, _, rfl, (iw.same s1).same (L fun _ => False).fz, rfl⟩
    show V.int (i : Int) = V.int ((0 + i : Nat) : Int)
    rw [Nat.zero_add]
def tiEnumA (te : TD) : TID := fun ss Q Ed => te ss (fun x => itemsD x fun ds => Q (enumD 0 ds)) Ed
theorem di_enumA {e : Expr} {te : TD} {p pos tpos : Pos} {elts : List Expr} {kk : Nat} (hm : X.mg "enumerate" = none) (h : DE X c e te) (hg : Gl X "enumerate" := by rfl) (hs : starEach [e] X.env = [(false, eval e X.env)] := by rfl) (hs1 : starEach [e] X.env = (false, eval e X.env) :: starEach [] X.env := by rfl) : DI X c (.Tuple elts kk tpos) (.Call (.Name "enumerate" p) [e] [] pos) (tiEnumA te) := by
  refine pi_imp (pi_enumA hg hm (pa_cons h pa_nil hs1) hs) fun σ H R q => ?_
  obtain ⟨O, Hs, ss, Qi, Ed, A, h, er, g⟩ := q
  refine ⟨O, Hs, ss, _, Ed, A, h, er, fun d v Hs1 H1 x1 i1 q1 => ?_⟩
  unfold itemsD at q1
  split at q1
  · obtain ⟨a, xs, e, h1, h2⟩ := i1
    subst e
    exact ⟨a, xs, rfl, .inl ⟨.of (x1.sub _ _ h1), g _ _ Hs1 H1 x1 (ite_items h1 h2) q1⟩⟩
  · obtain ⟨a, xs, e, h1, h2⟩ := i1
    subst e
    exact ⟨a, xs, rfl, .inr ⟨same_sqt x1.sub h1, g _ _ Hs1 H1 x1 (iteT_items h1 h2) q1⟩⟩
  · exact q1.elim
end
end DL
set_option Elab.async false
set_option linter.all false
set_option maxRecDepth 100000
set_option maxHeartbeats 4000000
/-! DZ: zip of lists and tuples, in any mix -/
namespace DL
open PySem PySem.Spec PyProof.Rows L2
/-- t: a tuple; else a list -/
def ItOf (t : Bool) (h : Heap) (it a : Addr) (i : Nat) : Prop := match t with
  | true => h.IsTupleIter it a i
  | false => h.IsListIter it a i
def SqOf (t : Bool) (K : PySem.W.Frag) (H : Hp) (a : Addr) (xs : List V) : Prop := match t with
  | true => SqT K H a xs
  | false => SqL K H a xs
def OfAt (t : Bool) (h : Heap) (a : Addr) (vs : Array Value) : Prop := match t with
  | true => h.IsTuple a vs
  | false => h.IsList a vs
def iterO (t : Bool) (a : Addr) : Obj := match t with
  | true => { cls := .type "tuple_iterator", data := .fields #[.ref a, .int 0 0] }
  | false => { cls := .type "list_iterator", data := .fields #[.ref a, .int 0 0] }
theorem begins_of (t : Bool) (a : Addr) (vs : Array Value) : Begins (.ref a) (iterO t a) fun h => OfAt t h a vs := by
  cases t
  · exact begins_list a vs
  · exact begins_tuple a vs
theorem draws_of {pr : Program} {w0 : World} {Ar : Around} (t : Bool) (hh : Ar.handled = none) (it a : Addr) (ne : a ≠ it) (vs : Array Value) : Draws pr w0 Ar it [it, a] vs.size (fun i v => vs[i]? = some v) (fun i h => ItOf t h it a i ∧ OfAt t h a vs) := by
  cases t
  · exact Draws.list hh it a ne vs
  · exact Draws.tuple hh it a ne vs
theorem ItOf.ob {t : Bool} {h : Heap} {it a : Addr} {i : Nat} (x : ItOf t h it a i) : ∃ o vs, h.get? it = some o ∧ o.data = .fields vs := by
  cases t
  · obtain ⟨o, h1, _, h2⟩ := x; exact ⟨o, _, h1, h2⟩
  · obtain ⟨o, h1, _, h2⟩ := x; exact ⟨o, _, h1, h2⟩
theorem ItOf.at {t : Bool} {h h' : Heap} {it a : Addr} {i : Nat} (x : ItOf t h it a i) (k : ∀ o, h.get? it = some o → h'.get? it = some o) : ItOf t h' it a i := by
  cases t
  · exact Heap.IsListIter.at x k
  · exact Heap.IsTupleIter.at x k
section
variable {X : Cx} {pins : List (Addr × Obj)} {σ : L2.St} {H : Hp} {s : Shared} {a : Addr} {xs ys : List V}
theorem sq_of (I : Inv X pins σ H s) {t : Bool} (h : SqOf t X.K H a xs) : ∃ its : List Value, Vals xs its ∧ OfAt t s.heap a its.toArray ∧ a < s.heap.objs.size := by
  cases t
  · obtain ⟨its, r, p, _⟩ := I.list h
    exact ⟨its, r, p.isList, p.lt⟩
  · obtain ⟨its, r, p, _⟩ := I.tuple h
    have tup : s.heap.IsTuple a its.toArray := p
    refine ⟨its, r, tup, ?_⟩
    obtain ⟨_, z, _⟩ := tup
    exact Heap.lt_size z
theorem sq_inj (I : Inv X pins σ H s) {t : Bool} (h : SqOf t X.K H a xs) (h' : SqOf t X.K H a ys) : xs = ys := by
  cases t
  · exact I.list_inj h h'
  · exact I.tuple_inj h h'
end
/-- the sequences at a and b, the items in new pairs -/
def ItzM (K : PySem.W.Frag) (t u : Bool) (a b : Addr) : It where
  go := fun i H => ∃ (xs ys : List V) (x y : V), SqOf t K H a xs ∧ SqOf u K H b ys ∧ xs[i]? = some x ∧ ys[i]? = some y
  yld := fun i H v H' => ∃ p x y, v = .ref p ∧ H p = none ∧ H' = upd H p (.tup [x, y]) ∧ (∀ xs, SqOf t K H a xs → xs[i]? = some x) ∧ ∀ ys, SqOf u K H b ys → ys[i]? = some y
  stop := fun i H => ∃ xs ys : List V, SqOf t K H a xs ∧ SqOf u K H b ys ∧ i = min xs.length ys.length
theorem turn_zipM {P : Program} {w : World} {K : PySem.W.Frag} {elts : List Expr} {kk : Nat} {tpos : Pos} {t u : Bool} {a b z TI TO i1 i2 : Addr} (S : ZipSep2 z TI TO i1 i2 [i1, a] [i2, b]) (na : a ≠ i1) (nb : b ≠ i2) :
    Turn P w K (.Tuple elts kk tpos) (ItzM K t u a b) [z, TI, TO, i1, i2] z (fun i h => IsZip h z TI TO .none ∧ IsTupOf2 h TI (.ref i1) (.ref i2) ∧ (∃ x y, IsTupOf2 h TO x y) ∧ ItOf t h i1 a i ∧ ItOf u h i2 b i) where
  mem := by simp
  obj := fun i h st c hc => by
    obtain ⟨hz, hTI, ⟨x, y, hTO⟩, h1, h2⟩ := st
    obtain ⟨o1, v1, e1, d1⟩ := h1.ob
    obtain ⟨o2, v2, e2, d2⟩ := h2.ob
    simp only [List.mem_cons, List.not_mem_nil, or_false] at hc
    rcases hc with q | q | q | q | q <;> subst q
    · exact ⟨_, hz, fun v q => nomatch q⟩
    · exact ⟨_, hTI, fun v q => nomatch q⟩
    · exact ⟨_, hTO, fun v q => nomatch q⟩
    · exact ⟨o1, e1, fun v q => by rw [d1] at q; cases q⟩
    · exact ⟨o2, e2, fun v q => by rw [d2] at q; cases q⟩
  keep := fun i h h' st k => by
    obtain ⟨hz, hTI, ⟨x, y, hTO⟩, h1, h2⟩ := st
    exact ⟨k z (by simp) _ hz, k TI (by simp) _ hTI, ⟨x, y, k TO (by simp) _ hTO⟩, h1.at (k i1 (by simp)), h2.at (k i2 (by simp))⟩
  item := by
    intro X hP hw hK hc i pins s σ H E I hf st hg
    subst hP hw hK
    obtain ⟨hz, hTI, ⟨x0, y0, hTO⟩, h1, h2⟩ := st
    obtain ⟨xs, ys, x, y, hqx, hqy, hx, hy⟩ := hg
    obtain ⟨its, rv, o1, _⟩ := sq_of I hqx
    obtain ⟨its2, rv2, o2, _⟩ := sq_of I hqy
    obtain ⟨v, hv, ru⟩ := rv.get hx
    obtain ⟨v2, hv2, ru2⟩ := rv2.get hy
    have lz := Heap.lt_size hz
    have l1 : i < its.toArray.size := by simpa using (List.getElem?_eq_some_iff.mp hv).1
    have l2 : i < its2.toArray.size := by simpa using (List.getElem?_eq_some_iff.mp hv2).1
    refine wpAny_pyNext_zipD2_item S (draws_of (Ar := X.A.in1) t (I.ok.hd hc) i1 a na its.toArray) (draws_of (Ar := X.A.in1) u (I.ok.hd hc) i2 b nb its2.toArray) hz hTI hTO (And.intro h1 o1) (And.intro h2 o2) l1 l2 fun y1 y2 g1 tk q1 q2 z1 to1 d1 d2 pr sz kp => ?_
    have e1 : y1 = v := by
      have q1 : its.toArray[i]? = some y1 := q1
      have : its.toArray[i]? = some v := by simpa using hv
      exact Option.some.inj (q1.symm.trans this)
    have e2 : y2 = v2 := by
      have q2 : its2.toArray[i]? = some y2 := q2
      have : its2.toArray[i]? = some v2 := by simpa using hv2
      exact Option.some.inj (q2.symm.trans this)
    subst e1
    subst e2
    refine ⟨_, rfl, wpAny_letOwnedTupleGo_zip (s := { s with heap := g1, toks := tk }) z1 fun g2 z2 sb => ?_⟩
    have pr2 : IsTupOf2 g2 s.heap.objs.size y1 y2 := (sb.2 _ (Nat.ne_of_gt lz)).trans pr
    have new : ObjOk X.prog X.w (upd H s.heap.objs.size (.tup [x, y])) g2 s.heap.objs.size (.tup [x, y]) := by
      refine ⟨?_, [y1, y2], .cons ru (.cons ru2 .nil), ⟨_, pr2, rfl, _, rfl⟩⟩
      show 2 ≤ sizeLine
      decide
    have I1 : Inv X pins σ (upd H s.heap.objs.size (.tup [x, y])) { s with heap := g2, toks := tk } := by
      refine I.turnedNew (ch := [z, TI, TO, i1, i2]) (fun c o hb q => ?_) hf (Nat.le_refl _) new
      simp only [List.mem_cons, List.not_mem_nil, or_false, not_or] at hb
      exact (sb.2 c hb.1).trans (kp c o hb.1 hb.2.2.1 hb.2.2.2.1 hb.2.2.2.2 q)
    refine ⟨.ref s.heap.objs.size, _, I1, rfl, ⟨_, x, y, rfl, I.hok.fresh (Nat.le_refl _), rfl, fun l hl => by rw [sq_inj I hl hqx]; exact hx, fun l hl => by rw [sq_inj I hl hqy]; exact hy⟩, ⟨z2, ?_, ⟨y1, y2, ?_⟩, ?_, ?_⟩, fun c hcm => ?_⟩
    · exact (sb.2 _ S.TIz).trans (kp _ _ S.TIz S.TITO S.TIi1 S.TIi2 hTI)
    · exact (sb.2 _ S.TOz).trans to1
    · exact d1.1.at fun o q => (sb.2 _ (Ne.symm S.zi1)).trans q
    · exact d2.1.at fun o q => (sb.2 _ (Ne.symm S.zi2)).trans q
    · have lc : c < s.heap.objs.size := by
        obtain ⟨_, _, k1, _⟩ := h1.ob
        obtain ⟨_, _, k2, _⟩ := h2.ob
        simp only [List.mem_cons, List.not_mem_nil, or_false] at hcm
        rcases hcm with q | q | q | q | q <;> subst q <;> first | exact lz | exact Heap.lt_size hTI | exact Heap.lt_size hTO | exact Heap.lt_size k1 | exact Heap.lt_size k2
      rw [upd_ne (Nat.ne_of_lt lc)]
      exact (hf c hcm).1
  done := by
    intro X hP hw hK hc i pins s σ H E I hf st hg
    subst hP hw hK
    obtain ⟨hz, hTI, ⟨x0, y0, hTO⟩, h1, h2⟩ := st
    obtain ⟨xs, ys, hqx, hqy, he⟩ := hg
    obtain ⟨its, rv, o1, _⟩ := sq_of I hqx
    obtain ⟨its2, rv2, o2, _⟩ := sq_of I hqy
    have l1 : its.toArray.size = xs.length := by rw [List.size_toArray]; exact rv.length.symm
    have l2 : its2.toArray.size = ys.length := by rw [List.size_toArray]; exact rv2.length.symm
    refine wpAny_pyNext_zipD2_end S (draws_of (Ar := X.A.in1) t (I.ok.hd hc) i1 a na its.toArray) (draws_of (Ar := X.A.in1) u (I.ok.hd hc) i2 b nb its2.toArray) hz hTI hTO (And.intro h1 o1) (And.intro h2 o2) (by omega) (by omega) (by omega) fun g1 tk kp => ⟨rfl, ?_⟩
    refine I.turnedL (ch := [z, TI, TO, i1, i2]) (fun c o hb q => ?_) hf
    simp only [List.mem_cons, List.not_mem_nil, or_false, not_or] at hb
    exact kp c o hb.1 hb.2.2.1 hb.2.2.2.1 hb.2.2.2.2 q
  self := fun A i s Q E st h => wpAny_pyIter_zip st.1 h
def iZipM (K : PySem.W.Frag) (ta : TA) : TI := fun σ H R => ta σ H fun vs H1 => ∃ (t u : Bool) (a b : Addr) (xs ys : List V), vs = [.ref a, .ref b] ∧ SqOf t K H1 a xs ∧ SqOf u K H1 b ys ∧ R (ItzM K t u a b) H1
theorem pi_zipM {X : Cx} {e e2 : Expr} {ta : TA} {p pos tpos : Pos} {elts : List Expr} {kk : Nat} (hg : Gl X "zip") (hm : X.mg "zip" = none) (ha : PA X [e, e2] ta)
    (hs : starEach [e, e2] X.env = (false, eval e X.env) :: starEach [e2] X.env := by rfl) (hpl : (backTo pos (starEach [e2] X.env)).any (·.1) = false := by rfl) : PI X (.Tuple elts kk tpos) (.Call (.Name "zip" p) [e, e2] [] pos) (iZipM X.K ta) := ⟨fun pins s σ H R I h => by
  refine Call_ (ld_blt I hg hm PyProof.Rows.boot_zip (PyProof.Rows.callWith_type1 ?_ hs hpl))
  refine thn (ha.run pos pins s σ H _ I h) fun us s1 ⟨vs, H1, I1, r1, t, u, a, b, xs, ys, ex, hqx, hqy, q⟩ => ?_
  subst ex
  rcases r1 with _ | ⟨r, rr⟩
  rcases rr with _ | ⟨r', rr⟩
  cases rr
  cases r
  cases r'
  obtain ⟨its, _, o1, la⟩ := sq_of I1 hqx
  obtain ⟨its2, _, o2, lb⟩ := sq_of I1 hqy
  refine zip_begins2 (begins_of t a its.toArray) (begins_of u b its2.toArray) o1 o2 fun g hz hTI hTO i1 i2 sz kp => wpAny_pyIter_zip hz ?_
  have I2 : Inv X pins σ H1 { s1 with heap := g } := I1.kept (t' := s1.toks) kp
  have S : ZipSep2 (s1.heap.objs.size + 4) (s1.heap.objs.size + 2) (s1.heap.objs.size + 3) s1.heap.objs.size (s1.heap.objs.size + 1) [s1.heap.objs.size, a] [s1.heap.objs.size + 1, b] := zip_sep2 (fp1 := [a]) (fp2 := [b]) (fun c hc => by rw [List.mem_singleton.mp hc]; exact la) (fun c hc => by rw [List.mem_singleton.mp hc]; exact lb)
  have s1i : ItOf t g s1.heap.objs.size a 0 := by
    cases t
    · exact ⟨_, i1, rfl, rfl⟩
    · exact ⟨_, i1, rfl, rfl⟩
  have s2i : ItOf u g (s1.heap.objs.size + 1) b 0 := by
    cases u
    · exact ⟨_, i2, rfl, rfl⟩
    · exact ⟨_, i2, rfl, rfl⟩
  refine ⟨s1.heap.objs.size + 4, [s1.heap.objs.size + 4, s1.heap.objs.size + 2, s1.heap.objs.size + 3, s1.heap.objs.size, s1.heap.objs.size + 1], _, _, H1, rfl, I2, turn_zipM (t := t) (u := u) S (Nat.ne_of_lt la) (Nat.ne_of_lt (Nat.lt_succ_of_lt lb)), ⟨hz, hTI, ⟨_, _, hTO⟩, s1i, s2i⟩, fun c hc => ?_, q⟩
  have le : s1.heap.objs.size ≤ c := by
    simp only [List.mem_cons, List.not_mem_nil, or_false] at hc
    rcases hc with z | z | z | z | z <;> subst z <;> first | exact Nat.le_refl _ | exact Nat.le_add_right _ _
  exact I1.fpOk le (I1.hok.fresh le)⟩
section
variable {X : Cx} {c : Cn} {tg : Expr}
theorem sqof_same {t : Bool} {K : PySem.W.Frag} {H H' : Hp} {a : Addr} {xs : List V} (s : Same H H') (h : SqOf t K H a xs) : SqOf t K H' a xs := by
  cases t
  · rcases h with (h | ⟨o, h⟩) | h
    · exact .inl (.inl (s _ _ h))
    · exact .inl (.inr ⟨o, s _ _ h⟩)
    · exact .inr h
  · exact same_sqtK s h
theorem itzM_items {K : PySem.W.Frag} {Hs : Hp} {t u : Bool} {a b : Addr} {xs ys : List V} {ds es : List D} (h1 : SqOf t K Hs a xs) (h2 : IsA K Hs ds xs) (h3 : SqOf u K Hs b ys) (h4 : IsA K Hs es ys) : ItIs K (ItzM K t u a b) (zipD ds es) Hs where
  go := fun i Hs' H s1 s2 hi => by
    rw [zipD_len] at hi
    exact ⟨xs, ys, xs[i]'(by rw [h2.len]; omega), ys[i]'(by rw [h4.len]; omega), sqof_same (s1.trans s2) h1, sqof_same (s1.trans s2) h3, List.getElem?_eq_getElem _, List.getElem?_eq_getElem _⟩
  stop := fun i Hs' H s1 s2 hi => by
    rw [zipD_len] at hi
    exact ⟨xs, ys, sqof_same (s1.trans s2) h1, sqof_same (s1.trans s2) h3, by rw [h2.len, h4.len]; exact hi.symm⟩
  yld := fun i Hs' H v H' d s1 s2 y hd => by
    obtain ⟨T, x, y', e, nT, e2, y1, y2⟩ := y
    subst e; subst e2
    have hx := y1 xs (sqof_same (s1.trans s2) h1)
    have hy := y2 ys (sqof_same (s1.trans s2) h3)
    obtain ⟨z, z', hz, hz', ed⟩ := zipD_get hd
    obtain ⟨w, hw, iw⟩ := h2.get hz
    obtain ⟨w', hw', iw'⟩ := h4.get hz'
    rw [hx] at hw
    rw [hy] at hw'
    cases hw
    cases hw'
    subst ed
    have L := fun Z => Ext.laid (Z := Z) (o := .tup [x, y']) s2 nT
    exact ⟨_, L, T, _, rfl, upd_same, x, _, rfl, (iw.same s1).same (L fun _ => False).fz, y', _, rfl, (iw'.same s1).same (L fun _ => False).fz, rfl⟩
/-- a list's or a tuple's items -/
def seqD : D → Option (List D)
  | .lst ds => some ds
  | .tup ds => some ds
  | _ => none
theorem seqD_is {K : PySem.W.Frag} {Hs : Hp} {d : D} {v : V} {ds : List D} (i : Is K Hs d v) (h : seqD d = some ds) : ∃ (t : Bool) (a : Addr) (xs : List V), v = .ref a ∧ SqOf t K Hs a xs ∧ IsA K Hs ds xs := by
  cases d <;> simp only [seqD, Option.some.injEq, reduceCtorEq] at h <;> subst h
  · obtain ⟨a, xs, e, h1, h2⟩ := i
    exact ⟨false, a, xs, e, .of h1, h2⟩
  · obtain ⟨a, xs, e, h1, h2⟩ := i
    exact ⟨true, a, xs, e, .inl (.inl h1), h2⟩
def tiZipM (t : TAD) : TID := fun ss Q Ed => t ss (fun as => allD as fun ds => match ds with
  | [x, y] => (match seqD x, seqD y with
    | some xs, some ys => Q (zipD xs ys)
    | _, _ => False)
  | _ => False) Ed
theorem di_zipM {e e2 : Expr} {t : TAD} {p pos tpos : Pos} {elts : List Expr} {kk : Nat} (hm : X.mg "zip" = none) (ha : DAs X c [e, e2] t) (hg : Gl X "zip" := by rfl)
    (hs : starEach [e, e2] X.env = (false, eval e X.env) :: starEach [e2] X.env := by rfl) (hpl : (backTo pos (starEach [e2] X.env)).any (·.1) = false := by rfl) : DI X c (.Tuple elts kk tpos) (.Call (.Name "zip" p) [e, e2] [] pos) (tiZipM t) := by
  refine pi_imp (pi_zipM hg hm ha hs hpl) fun σ H R q => ?_
  obtain ⟨O, Hs, ss, Qi, Ed, A, h, er, g⟩ := q
  refine ⟨O, Hs, ss, _, Ed, A, h, er, fun as vs Hs1 H1 x1 i1 q1 => ?_⟩
  obtain ⟨ds, h3, h4⟩ := allD_is i1 q1
  split at h4
  · obtain ⟨x, y, e, ix, iy⟩ := isA2 h3
    subst e
    split at h4
    · rename_i k1 k2
      obtain ⟨t, a, xs, rfl, ha1, ha2⟩ := seqD_is ix k1
      obtain ⟨u, b, ys, rfl, hb1, hb2⟩ := seqD_is iy k2
      exact ⟨t, u, a, b, xs, ys, rfl, sqof_same x1.sub ha1, sqof_same x1.sub hb1, g _ _ Hs1 H1 x1 (itzM_items ha1 ha2 hb1 hb2) h4⟩
    · exact h4.elim
  · exact h4.elim
end
end DL
set_option Elab.async false
set_option linter.all false
set_option maxRecDepth 100000
set_option maxHeartbeats 4000000
/-! DM: tuples: +, *, slices, whatever their lengths -/
namespace DL
open PySem PySem.Spec PyProof.Rows L2
theorem tuple_mulS (l : Addr) (items : Array Value) (n : Nat) (dd : Option Addr) (sl : Array (Option Value)) (x : Int) (u : Tok) (c0 : (decide (x < -(2 ^ 63)) || decide (x ≥ 2 ^ 63)) = false) (c1 : (items.isEmpty || x == 1) = true) :
    Meets (Builtin.«tuple.__mul__» ⟨[.ref l, .int x u], []⟩) (fun _ R s => s.heap.get? l = some { cls := .type "tuple", dict := dd, data := .seq items n, slots := sl } ∧
      R (.ok (.ret (Value.ref l))) s) :=
  .of_wp fun prog w A R s h => by
    obtain ⟨hp, g, d, tk, os⟩ := s
    obtain ⟨hl, h⟩ := h
    have f1 := AutoSeq1.idx_int
    wp_walk using wpAny_loadPart' hl
    repeat (first
      | (refine wpAny_ite_false (decide_eq_false (by rw [c0]; exact Bool.false_ne_true)) ?_; wp_walk using wpAny_loadPart' hl)
      | (refine wpAny_ite_true (decide_eq_true c1) ?_; wp_walk using wpAny_loadPart' hl))
    exact ⟨_, rfl, h⟩
theorem tuple_mulZ (l : Addr) (items : Array Value) (n : Nat) (dd : Option Addr) (sl : Array (Option Value)) (x : Int) (u : Tok) (c0 : (decide (x < -(2 ^ 63)) || decide (x ≥ 2 ^ 63)) = false) (c1 : (items.isEmpty || x == 1) = false) (c2 : (decide (x ≤ 0) || items.isEmpty) = true) :
    Meets (Builtin.«tuple.__mul__» ⟨[.ref l, .int x u], []⟩) (fun _ R s => s.heap.get? l = some { cls := .type "tuple", dict := dd, data := .seq items n, slots := sl } ∧
      R (.ok (.ret (Value.ref s.heap.objs.size))) { s with heap := s.heap.push { cls := Value.type "tuple", data := Data.seq #[] }, toks := s.toks }) :=
  .of_wp fun prog w A R s h => by
    obtain ⟨hp, g, d, tk, os⟩ := s
    obtain ⟨hl, h⟩ := h
    have f1 := AutoSeq1.idx_int
    wp_walk using wpAny_loadPart' hl
    repeat (first
      | (refine wpAny_ite_false (decide_eq_false (by rw [c0]; exact Bool.false_ne_true)) ?_; wp_walk using wpAny_loadPart' hl)
      | (refine wpAny_ite_false (decide_eq_false (by rw [c1]; exact Bool.false_ne_true)) ?_; wp_walk using wpAny_loadPart' hl)
      | (refine wpAny_ite_true (decide_eq_true c2) ?_; wp_walk using wpAny_loadPart' hl))
    exact ⟨_, rfl, h⟩
section
variable {X : Cx}
/-- a tuple times an int -/
def rRepA (K : PySem.W.Frag) : R2 := fun x y H Q => ∃ l k xs, x = .ref l ∧ y = .int k ∧ SqT K H l xs ∧ 0 ≤ k ∧ k ≤ 1000 ∧ xs.length ≤ 1000 ∧ (xs = [] ∨ k = 1 → Q (.ref l) H) ∧ (xs ≠ [] → k ≠ 1 → ∀ p, H p = none → Q (.ref p) (upd H p (.tup (List.replicate k.toNat xs).flatten)))
theorem op_repA : OpR X (binaryOp .Mult) (rRepA X.K) := by
  intro pins s σ H x y v u Q I rx ry h
  obtain ⟨l, k, xs, rfl, rfl, hT, h1, h2, hz, q1, q2⟩ := h
  by_cases hs : xs = [] ∨ k = 1
  · have q := q1 hs
    cases rx
    obtain ⟨t, rfl⟩ := ry
    obtain ⟨its, r, ⟨⟨cls, dd, data, sl⟩, ho, hc, n, hd⟩, hs'⟩ := I.tuple hT
    simp only at hc hd
    subst hc hd
    have c0 : (decide (k < -(2 ^ 63)) || decide (k ≥ 2 ^ 63)) = false := by
      rw [decide_eq_false (by omega), decide_eq_false (by omega)] <;> rfl
    have c1 : (its.toArray.isEmpty || k == 1) = true := by
      rcases hs with hs | hs
      · subst hs
        cases r
        rfl
      · rw [hs]
        exact Bool.or_true _
    exact wpAny_binaryOp_repeat_ref (T := "tuple") (U := "int") (by decide) ⟨_, ho, rfl⟩ (fun s' => typeIs_int s' k t) noFill_tuple_mul F.fills_int_mul F.slot_int_rmul repeat_tuple F.slot_int_index.lookup
      (call_meets F.slot_int_rmul (typeIs_int s k t) F.entry_int_rmul (F.args_int_rmul_2 _ _) (int_rmul_tuple k t l its.toArray n dd sl)
        ⟨ho, rfl, ⟨_, ho, rfl⟩, call_meets F.slot_tuple_mul ⟨_, ho, rfl⟩ F.entry_tuple_mul (F.args_tuple_mul_2 _ _) (tuple_mulS l its.toArray n dd sl k t c0 c1) ⟨ho, .ref l, H, I, rfl, q⟩⟩)
  · have hne : xs ≠ [] := fun z => hs (.inl z)
    have k1 : k ≠ 1 := fun z => hs (.inr z)
    by_cases k0 : 2 ≤ k
    · exact op_repT pins s σ H _ _ v u Q I rx ry ⟨l, k, xs, rfl, rfl, hT, hne, k0, h2, hz, q2 hne k1⟩
    · obtain rfl : k = 0 := by omega
      have q := q2 hne k1
      cases rx
      obtain ⟨t, rfl⟩ := ry
      obtain ⟨its, r, ⟨⟨cls, dd, data, sl⟩, ho, hc, n, hd⟩, hs'⟩ := I.tuple hT
      simp only at hc hd
      subst hc hd
      have hi : its.toArray.isEmpty = false := by
        cases its with
        | nil => cases r; exact absurd rfl hne
        | cons a b => rfl
      refine wpAny_binaryOp_repeat_ref (T := "tuple") (U := "int") (by decide) ⟨_, ho, rfl⟩ (fun s' => typeIs_int s' 0 t) noFill_tuple_mul F.fills_int_mul F.slot_int_rmul repeat_tuple F.slot_int_index.lookup
        (call_meets F.slot_int_rmul (typeIs_int s 0 t) F.entry_int_rmul (F.args_int_rmul_2 _ _) (int_rmul_tuple 0 t l its.toArray n dd sl)
          ⟨ho, rfl, ⟨_, ho, rfl⟩, call_meets F.slot_tuple_mul ⟨_, ho, rfl⟩ F.entry_tuple_mul (F.args_tuple_mul_2 _ _) (tuple_mulZ l its.toArray n dd sl 0 t (by decide) (by rw [hi]; rfl) (by rfl)) ⟨ho, ?_⟩⟩)
      refine ⟨.ref s.heap.objs.size, _, I.laid (t' := s.toks) (o := .tup []) (fun b ob q => Heap.get?_push_of_some _ q) (Nat.le_refl _) ?_, rfl, q _ (I.hok.fresh (Nat.le_refl _))⟩
      exact ⟨Nat.zero_le _, [], .nil, IsTup.new _ _⟩
/-- + of ints, texts, lists, tuples of any length -/
def rAddA : RD2 := fun x y Q => match x, y with
  | .tup xs, .tup ys => xs.length + ys.length ≤ sizeLine ∧ Q (.tup (xs ++ ys))
  | _, _ => rAddD x y Q
theorem isA_nil {K : PySem.W.Frag} {H : Hp} {ds : List D} (h : IsA K H ds []) : ds = [] := by
  have := h.len
  cases ds with
  | nil => rfl
  | cons _ _ => cases this
theorem isA_nil2 {K : PySem.W.Frag} {H : Hp} {xs : List V} (h : IsA K H [] xs) : xs = [] := h
theorem od_addA : OpD X (binaryOp .Add) rAddA := by
  obtain ⟨r0, o0, c0⟩ := (od_add (X := X))
  refine ⟨_, op_or o0 op_catA, fun Z Hs H d e v u Qd Q s i1 i2 q cn => ?_⟩
  unfold rAddA at q
  split at q
  · obtain ⟨a, xs, e1, h1, h2⟩ := i1
    obtain ⟨b, ys, e2, h3, h4⟩ := i2
    refine .inr ⟨a, b, xs, ys, e1, e2, same_sqt s h1, same_sqt s h3, by rw [h2.len, h4.len]; exact q.1, fun z => ?_, fun _ z => ?_, fun _ _ p np => ?_⟩
    · subst z
      have := isA_nil h2
      subst this
      exact cn (.tup _) _ Hs H (.refl s) ⟨b, ys, rfl, h3, h4⟩ q.2
    · subst z
      have := isA_nil h4
      subst this
      have q2 := q.2
      rw [List.append_nil] at q2
      exact cn (.tup _) _ Hs H (.refl s) ⟨a, xs, rfl, h1, h2⟩ q2
    · exact cn (.tup _) _ (upd Hs p (.tup (xs ++ ys))) _ (.laid s np) ⟨p, _, rfl, upd_same, (h2.app h4).same (Ext.laid (Z := Z) s np).fz⟩ q.2
  · exact .inl (c0 Z Hs H _ _ _ _ Qd Q s i1 i2 q cn)
/-- * of ints, of a list or a tuple and an int -/
def rMulA : RD2 := fun x y Q => match x, y with
  | .tup xs, .int k => xs.length ≤ 1000 ∧ 0 ≤ k ∧ k ≤ 1000 ∧ Q (.tup (List.replicate k.toNat xs).flatten)
  | _, _ => rMulD2 x y Q
theorem od_mulA : OpD X (binaryOp .Mult) rMulA := by
  obtain ⟨r0, o0, c0⟩ := (od_mul (X := X))
  refine ⟨_, op_or o0 op_repA, fun Z Hs H d e v u Qd Q s i1 i2 q cn => ?_⟩
  unfold rMulA at q
  split at q
  · obtain ⟨a, xs, e1, h1, h2⟩ := i1
    obtain ⟨q1, q2, q3, q4⟩ := q
    refine .inr ⟨a, _, xs, e1, i2, same_sqt s h1, q2, q3, by rw [h2.len]; exact q1, fun z => ?_, fun _ _ p np => ?_⟩
    · rcases z with z | z
      · subst z
        have := isA_nil h2
        subst this
        have e : ∀ n : Nat, (List.replicate n ([] : List D)).flatten = [] := fun n => by simp
        rw [e] at q4
        exact cn (.tup _) _ Hs H (.refl s) ⟨a, [], rfl, h1, h2⟩ q4
      · subst z
        have e : ∀ ds : List D, (List.replicate (1 : Int).toNat ds).flatten = ds := fun ds => by simp
        rw [e] at q4
        exact cn (.tup _) _ Hs H (.refl s) ⟨a, xs, rfl, h1, h2⟩ q4
    · exact cn (.tup _) _ (upd Hs p (.tup _)) _ (.laid s np) ⟨p, _, rfl, upd_same, (isA_rep h2 _).same (Ext.laid (Z := Z) s np).fz⟩ q4
  · exact .inl (c0 Z Hs H _ _ _ _ Qd Q s i1 i2 q cn)
/-! ### slices -/
abbrev TPD := List Sl → (Option Int → Prop) → QE → Prop
def liftP (c : Cn) (K : PySem.W.Frag) (t : TPD) : TO := fun σ H Q => ∃ O Hs ss Qd Ed, Abs K c O Hs H σ ss ∧ t ss Qd Ed ∧ ErrC K c Ed ∧ ∀ o Hs' H', Ext (Z0 O) Hs H Hs' H' → Qd o → Q o H'
abbrev DPt (X : Cx) (c : Cn) (e : Option Expr) (t : TPD) : Prop := PO X e (liftP c X.K t)
theorem po_imp {e : Option Expr} {t t' : TO} (h : PO X e t) (f : ∀ σ H Q, t' σ H Q → t σ H Q) : PO X e t' := ⟨fun pins s σ H Q I q => h.run pins s σ H Q I (f _ _ _ q)⟩
def tdNoPt : TPD := fun _ Q _ => Q none
def tdPt (t : TD) : TPD := fun ss Q Ed => t ss (fun x => match x with
  | .int i => Q (some i)
  | _ => False) Ed
theorem dp_none {c : Cn} : DPt X c none tdNoPt := po_imp po_none fun σ H Q q => by
  obtain ⟨O, Hs, ss, Qd, Ed, A, h, er, g⟩ := q
  exact g none Hs H (.refl A.sub) h
theorem dp_some {c : Cn} {e : Expr} {t : TD} (h : DE X c e t) : DPt X c (some e) (tdPt t) := po_imp (po_some h) fun σ H Q q => by
  obtain ⟨O, Hs, ss, Qd, Ed, A, h, er, g⟩ := q
  refine ⟨O, Hs, ss, _, Ed, A, h, er, fun d v Hs1 H1 e1 i1 q1 => ?_⟩
  split at q1
  · exact ⟨_, i1, g _ Hs1 H1 e1 q1⟩
  · exact q1.elim
def cutD (xs : List D) (lo hi : Option Int) : List D := (xs.drop (HT.sIx xs.length 0 lo)).take (HT.sIx xs.length xs.length hi - HT.sIx xs.length 0 lo)
theorem cut_is {K : PySem.W.Frag} {H : Hp} {ds : List D} {xs : List V} (h : IsA K H ds xs) (lo hi : Option Int) : IsA K H (cutD ds lo hi) (cutV xs lo hi) := by
  unfold cutD cutV
  rw [h.len]
  exact (h.drop _).take _
def rSlD (x : D) (lo hi : Option Int) (Q : QD) : Prop := match x with
  | .lst ds => Q (.lst (cutD ds lo hi))
  | .tup ds => Q (.tup (cutD ds lo hi))
  | _ => False
def tdSlice (te : TD) (tl th : TPD) : TD := fun ss Q Ed => te ss (fun x => tl ss (fun l => th ss (fun h => rSlD x l h Q) Ed) Ed) Ed
theorem cut_whole {xs : List D} {lo hi : Option Int} (h : HT.sIx xs.length 0 lo = 0 ∧ HT.sIx xs.length xs.length hi = xs.length) : cutD xs lo hi = xs := by
  unfold cutD
  rw [h.1, h.2, List.drop_zero, Nat.sub_zero, List.take_length]
theorem d_slice {c : Cn} {e : Expr} {lo hi : Option Expr} {te : TD} {tl th : TPD} {pos p2 : Pos} (he : DE X c e te) (hl : DPt X c lo tl) (hh : DPt X c hi th) : DE X c (.Subscript e (.Slice lo hi none p2) pos) (tdSlice te tl th) := by
  refine pe_imp (pe_slice (SlR.or (sl_list (X := X)) sl_tupA) he hl hh) fun σ H Q q => ?_
  obtain ⟨O, Hs, ss, Qd, Ed, A, h, er, g⟩ := q
  refine ⟨O, Hs, ss, _, Ed, A, h, er, fun d v Hs1 H1 e1 i1 q1 => ?_⟩
  refine ⟨O, Hs1, ss, _, Ed, A.next e1, q1, er, fun o Hs2 H2 e2 q2 => ?_⟩
  refine ⟨O, Hs2, ss, _, Ed, A.next (e1.trans e2), q2, er, fun o2 Hs3 H3 e3 q3 => ?_⟩
  have e13 := (e1.trans e2).trans e3
  have i3 := i1.same ((e2.trans e3).fz)
  unfold rSlD at q3
  split at q3
  · obtain ⟨a, xs, ev, h1, h2⟩ := i3
    refine .inl ⟨a, xs, ev, SqL.of (e3.sub _ _ h1), fun p np => ?_⟩
    exact g (.lst _) _ _ _ (e13.trans (.laid e3.sub np)) ⟨p, _, rfl, upd_same, (cut_is h2 o o2).same (Ext.laid (Z := Z0 O) e3.sub np).fz⟩ q3
  · obtain ⟨a, xs, ev, h1, h2⟩ := i3
    refine .inr ⟨a, xs, ev, same_sqt e3.sub h1, fun z => ?_, fun _ p np => ?_⟩
    · rw [h2.len] at z
      rw [cut_whole z] at q3
      exact g (.tup _) _ _ _ e13 ⟨a, xs, rfl, h1, h2⟩ q3
    · exact g (.tup _) _ _ _ (e13.trans (.laid e3.sub np)) ⟨p, _, rfl, upd_same, (cut_is h2 o o2).same (Ext.laid (Z := Z0 O) e3.sub np).fz⟩ q3
  · exact q3.elim
end
end DL
set_option Elab.async false
set_option linter.all false
set_option maxRecDepth 100000
set_option maxHeartbeats 4000000
/-! DH: list comprehensions over data; a def's promise; what is never reached -/
namespace DL
open PySem PySem.Spec PyProof.Rows L2
section
variable {X : Cx} {c : Cn} {tg : Expr}
/-! ### a list that is being made, in no slot -/
theorem Ext.put {Z : Addr → Prop} {Hs H Hs' H' : Hp} {p : Addr} {o : HO} (e : Ext Z Hs H Hs' H') (n : H p = none) (np : Hs' p = none) : Ext Z Hs H Hs' (upd H' p o) where
  fz := e.fz
  sub := fun b u h => by rw [upd_ne (ne_of_none h np)]; exact e.sub _ _ h
  keep := fun b u z h => by rw [upd_ne (ne_of_none h n)]; exact e.keep b u z h
  live := fun b h => by
    by_cases hb : b = p
    · subst hb; exact absurd n h
    · rw [upd_ne hb]; exact e.live b h
  new := e.new
  nt := fun b h => by
    by_cases hb : b = p
    · subst hb; exact absurd n h.ne
    · rw [upd_ne hb]; exact e.nt b h
  pool := fun b l z q => by
    obtain ⟨xs', k1, k2⟩ := e.pool b l z q
    obtain ⟨_, h1, _⟩ := q
    exact ⟨xs', by rw [upd_ne (ne_of_none h1 n)]; exact k1, k2⟩
/-! ### the block's own names -/
def wipeD (ss : List Sl) : List Nat → List Sl
  | [] => ss
  | v :: vs => put (wipeD ss vs) v .un
theorem Abs.wipe {K c O Hs H σ ss} (A : Abs K c O Hs H σ ss) : ∀ vs : List Nat, Abs K c O Hs H (L2.wipe σ vs) (wipeD ss vs)
  | [] => A
  | v :: vs => (A.wipe vs).lose
theorem wipe_eq {σ τ : L2.St} {vs : List Nat} (hl : σ.length = τ.length) (h : ∀ j, j ∉ vs → σ[j]? = τ[j]?) : L2.wipe σ vs = L2.wipe τ vs := by
  have key : ∀ (ρ : L2.St) (j : Nat), j ∈ vs → j < ρ.length → (L2.wipe ρ vs)[j]? = some none := by
    intro ρ j
    clear hl h
    induction vs with
    | nil => intro m; cases m
    | cons v vs ih =>
      intro m l
      unfold L2.wipe
      by_cases e : v = j
      · subst e
        rw [List.getElem?_set_self (by rw [wipe_length]; exact l)]
      · rw [List.getElem?_set_ne e]
        exact ih ((List.mem_cons.mp m).resolve_left fun z => e z.symm) l
  refine List.ext_getElem? fun j => ?_
  by_cases m : j ∈ vs
  · by_cases l : j < σ.length
    · rw [key σ j m l, key τ j m (by omega)]
    · rw [List.getElem?_eq_none (by rw [wipe_length]; omega), List.getElem?_eq_none (by rw [wipe_length]; omega)]
  · rw [wipe_out m, wipe_out m]
    exact h j m
/-- I: what holds of the new list ahead of each turn -/
def toLc (ti : TID) (p : Pat) (tt : TTD) (te : TD) (vs : List Nat) : TOD := fun ss Q Ed => ti ss (fun items => items.length < sizeLine ∧ ∃ I : Nat → List D → Prop, I 0 [] ∧
  (∀ i d acc, items[i]? = some d → I i acc → p.gd d (wipeD ss vs) fun ss2 => tt ss2 (fun b => if b = true then te ss2 (fun y => I (i + 1) (acc ++ [y])) Ed else I (i + 1) acc) Ed) ∧ ∀ acc, I items.length acc → Q acc) Ed
/-- tests of a clause -/
abbrev DTs (X : Cx) (c : Cn) (ifs : List Expr) (t : TTD) : Prop := PTs X ifs (liftT c X.K t)
def tdYes : TTD := fun _ Q _ => Q true
theorem dts_nil : DTs X c [] tdYes := ⟨fun pins s σ H Q I q => by
  obtain ⟨O, Hs, ss, Qd, Ed, A, h, er, g⟩ := q
  exact pts_nil.run pins s σ H Q I (g true Hs H (.refl A.sub) h)⟩
theorem dts_one {e : Expr} {t : TTD} (h : DT X c e t) : DTs X c [e] t := pts_one h
section
variable {elt iter : Expr} {ifs : List Expr} {scope : Scope} {own : List (Str × Nat)} {pos : Pos} {ti : TID} {p : Pat} {tt : TTD} {te : TD}
theorem lc_run (hsub : ∀ j ∈ p.vs, j ∈ own.map (·.2)) : ∀ σ H Q, liftO c X.K (toLc ti p tt te (own.map (·.2))) σ H Q → tLc (liftI c X.K ti) (p.tg X.K) (liftT c X.K tt) (lift c X.K te) (own.map (·.2)) σ H Q := by
  intro σ H Q q
  obtain ⟨O, Hs, ss, Qd, Ed, A, h, er, gc⟩ := q
  refine ⟨O, Hs, ss, _, Ed, A, h, er, fun items J Hs1 H1 x1 hJ q1 => ?_⟩
  obtain ⟨hlen, I, i0, turn, fin⟩ := q1
  intro D nD
  have A1 := A.next x1
  have nD1 : Hs1 D = none := by
    cases z : Hs1 D with
    | none => rfl
    | some u => rw [A1.sub _ _ z] at nD; cases nD
  have oD : O D = none := by
    cases z : O D with
    | none => rfl
    | some k => exact absurd nD (A1.live D (by rw [z]; exact fun z => nomatch z)).ne
  refine ⟨fun i m H2 => m = items.length - i ∧ i ≤ items.length ∧ ∃ Hs2 xs acc, Ext (Z0 O) Hs1 H1 Hs2 H2 ∧ Hs2 D = none ∧ H2 D = some (.lst xs) ∧ IsA X.K Hs2 acc xs ∧ acc.length ≤ i ∧ I i acc, ⟨_, rfl, Nat.zero_le _, Hs1, [], [], Ext.grow x1.sub nD, nD1, upd_same, rfl, Nat.le_refl _, i0⟩, ?_⟩
  rintro i m H2 ⟨rfl, hi, Hs2, xs, acc, x2, n2, h2, h3, h4, q2⟩
  by_cases hlt : i < items.length
  · have hd : items[i]? = some items[i] := List.getElem?_eq_getElem hlt
    refine .inr ⟨hJ.go i Hs2 H2 x2.fz x2.sub hlt, fun H5 => ∃ Hs5 xs5 acc5, Ext (Z0 O) Hs1 H1 Hs5 H5 ∧ Hs5 D = none ∧ H5 D = some (.lst xs5) ∧ IsA X.K Hs5 acc5 xs5 ∧ acc5.length ≤ i + 1 ∧ I (i + 1) acc5, fun H5 z => ⟨items.length - (i + 1), by omega, rfl, hlt, z⟩, fun v H3 hy => ?_⟩
    obtain ⟨Hs3, x3, is3⟩ := hJ.yld i Hs2 H2 v H3 _ x2.fz x2.sub hy hd
    have x13 := x2.trans (x3 (Z0 O))
    have A3 := (A1.next x13).wipe (own.map (·.2))
    have D3 : H3 D = some (.lst xs) := (x3 (Z0 O)).keep D _ (fun z => by have z : O D = some 0 := z; rw [oD] at z; cases z) h2
    have n3 : Hs3 D = none := (x3 (Z0 O)).new D n2 (by rw [h2]; trivial)
    refine p.conn A3 is3 (turn i _ acc hd q2) fun σ4 ss4 A4 k4 q4 => ⟨?_, ?_⟩
    · have l0 : (L2.wipe σ (own.map (·.2))).length = σ.length := wipe_length _ _
      have e1 : L2.wipe σ4 (own.map (·.2)) = L2.wipe (L2.wipe σ (own.map (·.2))) (own.map (·.2)) := wipe_eq k4.1 fun j hj => k4.2 j fun m => hj (hsub j m)
      have e2 : L2.wipe (L2.wipe σ (own.map (·.2))) (own.map (·.2)) = L2.wipe σ (own.map (·.2)) := wipe_eq l0 fun j hj => wipe_out hj
      exact e1.trans e2
    · refine ⟨O, Hs3, ss4, _, Ed, A4, q4, er, fun b Hs5 H5 x5 q5 => ?_⟩
      have x15 := x13.trans x5
      have D5 : H5 D = some (.lst xs) := x5.keep D _ (fun z => by have z : O D = some 0 := z; rw [oD] at z; cases z) D3
      have n5 : Hs5 D = none := x5.new D n3 (by rw [D3]; trivial)
      cases b with
      | true =>
        simp only [if_true] at q5
        refine iteT ⟨O, Hs5, ss4, _, Ed, A4.next x5, q5, er, fun y w Hs6 H6 x6 i6 q6 => ?_⟩
        have D6 : H6 D = some (.lst xs) := x6.keep D _ (fun z => by have z : O D = some 0 := z; rw [oD] at z; cases z) D5
        have n6 : Hs6 D = none := x6.new D n5 (by rw [D5]; trivial)
        have h6 := h3.same ((((x3 (Z0 O)).trans x5).trans x6).fz)
        exact ⟨xs, D6, by rw [h3.len]; omega, Hs6, _, _, (x15.trans x6).put nD n6, n6, upd_same, h6.app (.one i6), by rw [List.length_append]; show acc.length + 1 ≤ i + 1; omega, q6⟩
      | false =>
        simp only [Bool.false_eq_true, if_false] at q5
        exact iteF ⟨Hs5, xs, acc, x15, n5, D5, h3.same (((x3 (Z0 O)).trans x5).fz), by omega, q5⟩
  · have e : i = items.length := by omega
    subst e
    have n0 : H D = none := by
      cases z : H D with
      | none => rfl
      | some u => exact absurd nD (x1.live D (by rw [z]; exact fun z => nomatch z))
    exact .inl ⟨hJ.stop _ Hs2 H2 x2.fz x2.sub rfl, gc acc D xs Hs2 H2 (x1.trans x2) n0 n2 h2 h3 (fin acc q2)⟩
theorem do_lc (hc : X.calm = true) (hN : X.N.Nodup) (hi : DI X c tg iter ti) (ok : BlkOk X.N X.env.scope scope own)
    (hg : ∀ (s : Shared) (H : Hp) (C : Addr) (cl : List (Str × Addr)) (fp : List Addr), DG (X.blk s H scope (compEnvC scope cl C X.env) fp) tg p) (ht : ∀ (s : Shared) (H : Hp) (C : Addr) (cl : List (Str × Addr)) (fp : List Addr), DTs (X.blk s H scope (compEnvC scope cl C X.env) fp) c ifs tt)
    (he : ∀ (s : Shared) (H : Hp) (C : Addr) (cl : List (Str × Addr)) (fp : List Addr), DE (X.blk s H scope (compEnvC scope cl C X.env) fp) c elt te) (hsub : ∀ j ∈ p.vs, j ∈ own.map (·.2) := by decide) (hs : ∀ x, foldedSetIterable iter X.env x = pure x := by intro _; rfl) :
    DO X c (.ListComp elt [⟨tg, iter, ifs, 0⟩] scope pos) (toLc ti p tt te (own.map (·.2))) := pe_imp (pe_lc hc hN hi ok hg ht he hs) (lc_run hsub)
end
end
end DL
/-! LRat: exact numbers, plain mathematics over Rat (core Lean alone). -/
namespace LR

/-- numerator and denominator below 2 ^ b -/
def Sz (b : Nat) (q : Rat) : Prop := q.num.natAbs < 2 ^ b ∧ q.den < 2 ^ b

theorem Sz.mono {a b : Nat} {q : Rat} (h : Sz a q) (e : a ≤ b) : Sz b q :=
  ⟨Nat.lt_of_lt_of_le h.1 (Nat.pow_le_pow_right (by decide) e), Nat.lt_of_lt_of_le h.2 (Nat.pow_le_pow_right (by decide) e)⟩

theorem den_pos (q : Rat) : 0 < q.den := Nat.pos_of_ne_zero q.den_nz

/-- the sign of a denominator times the common divisor: what `ratio` divides by -/
def sdiv (n d : Int) : Int := if d < 0 then -((Nat.gcd n.natAbs d.natAbs : Nat) : Int) else ((Nat.gcd n.natAbs d.natAbs : Nat) : Int)

theorem gcd_pos {n d : Int} (hd : d ≠ 0) : 0 < Nat.gcd n.natAbs d.natAbs := Nat.gcd_pos_of_pos_right _ (Int.natAbs_pos.mpr hd)

theorem sdiv_ne {n d : Int} (hd : d ≠ 0) : sdiv n d ≠ 0 := by
  have h := gcd_pos (n := n) hd
  unfold sdiv
  split <;> omega

theorem sdiv_abs (n d : Int) : (sdiv n d).natAbs = Nat.gcd n.natAbs d.natAbs := by
  unfold sdiv
  split <;> omega

theorem fdiv_neg_of_dvd {a g : Int} (h : g ∣ a) : a.fdiv (-g) = -(a / g) := by
  rw [Int.fdiv_eq_ediv_of_dvd (Int.neg_dvd.mpr h), Int.ediv_neg]

theorem sdiv_num {n d : Int} (hd : d ≠ 0) : n.fdiv (sdiv n d) = (Rat.divInt n d).num := by
  have g1 : ((Nat.gcd n.natAbs d.natAbs : Nat) : Int) ∣ n := Int.ofNat_dvd_left.mpr (Nat.gcd_dvd_left _ _)
  have e : (d.gcd n : Int) = ((Nat.gcd n.natAbs d.natAbs : Nat) : Int) := by
    show ((Nat.gcd d.natAbs n.natAbs : Nat) : Int) = _
    rw [Nat.gcd_comm]
  rw [Rat.num_divInt, e]
  unfold sdiv
  split
  · rename_i h
    rw [fdiv_neg_of_dvd g1, Int.sign_eq_neg_one_of_neg h, Int.neg_one_mul, Int.neg_ediv_of_dvd g1]
  · rename_i h
    rw [Int.fdiv_eq_ediv_of_nonneg _ (Int.natCast_nonneg _), Int.sign_eq_one_of_pos (by omega), Int.one_mul]

theorem sdiv_den {n d : Int} (hd : d ≠ 0) : d.fdiv (sdiv n d) = ((Rat.divInt n d).den : Int) := by
  have g1 : ((Nat.gcd n.natAbs d.natAbs : Nat) : Int) ∣ d := Int.ofNat_dvd_left.mpr (Nat.gcd_dvd_right _ _)
  have e : d.gcd n = Nat.gcd n.natAbs d.natAbs := by
    show Nat.gcd d.natAbs n.natAbs = _
    rw [Nat.gcd_comm]
  rw [Rat.den_divInt, if_neg hd, e, Int.natCast_ediv]
  unfold sdiv
  split
  · rename_i h
    rw [fdiv_neg_of_dvd g1, ← Int.neg_ediv_of_dvd g1]
    congr 1
    omega
  · rename_i h
    rw [Int.fdiv_eq_ediv_of_nonneg _ (Int.natCast_nonneg _)]
    congr 1
    omega

theorem num_le (n d : Int) : (Rat.divInt n d).num.natAbs ≤ n.natAbs := by
  by_cases hd : d = 0
  · subst hd
    rw [Rat.divInt_zero]
    exact Nat.zero_le _
  · rw [Rat.num_divInt, Int.natAbs_ediv_of_dvd]
    · rw [Int.natAbs_mul, Int.natAbs_sign_of_ne_zero hd, Nat.one_mul]
      exact Nat.div_le_self _ _
    · refine Int.dvd_mul_of_dvd_right ?_
      exact Int.gcd_dvd_right _ _
theorem den_le {n d : Int} (hd : d ≠ 0) : (Rat.divInt n d).den ≤ d.natAbs := by
  rw [Rat.den_divInt, if_neg hd]
  exact Nat.div_le_self _ _

theorem sz_divInt {n d : Int} {b : Nat} (hd : d ≠ 0) (h1 : n.natAbs < 2 ^ b) (h2 : d.natAbs < 2 ^ b) : Sz b (Rat.divInt n d) :=
  ⟨Nat.lt_of_le_of_lt (num_le n d) h1, Nat.lt_of_le_of_lt (den_le hd) h2⟩

/-! ### the operations, as `ratio` is asked for them -/
theorem add_as (p q : Rat) : p + q = Rat.divInt (p.num * q.den + q.num * p.den) (p.den * q.den) := by
  rw [Rat.add_def', ← Int.natCast_mul, Rat.divInt_ofNat]
theorem sub_as (p q : Rat) : p - q = Rat.divInt (p.num * q.den - q.num * p.den) (p.den * q.den) := by
  rw [Rat.sub_def', ← Int.natCast_mul, Rat.divInt_ofNat]
theorem mul_as (p q : Rat) : p * q = Rat.divInt (p.num * q.num) (p.den * q.den) := by
  rw [Rat.mul_def', ← Int.natCast_mul, Rat.divInt_ofNat]
theorem div_as (p q : Rat) : p / q = Rat.divInt (p.num * q.den) (p.den * q.num) := by
  rw [Rat.div_def, Rat.inv_def]
  conv => lhs; lhs; rw [← Rat.num_divInt_den p]
  rw [Rat.divInt_mul_divInt]

theorem mul_lt {x y : Nat} {a b : Nat} (hx : x < 2 ^ a) (hy : y < 2 ^ b) : x * y < 2 ^ (a + b) := by
  rw [Nat.pow_add]
  exact Nat.mul_lt_mul'' hx hy
theorem add_lt {x y c : Nat} (hx : x < 2 ^ c) (hy : y < 2 ^ c) : x + y < 2 ^ (c + 1) := by
  rw [Nat.pow_succ]
  omega
theorem den_ne (p q : Rat) : ((p.den : Int) * q.den) ≠ 0 := by
  have h1 := den_pos p
  have h2 := den_pos q
  rw [← Int.natCast_mul]
  have h3 := Nat.mul_pos h1 h2
  omega
theorem Sz.add {a b : Nat} {p q : Rat} (hp : Sz a p) (hq : Sz b q) : Sz (a + b + 1) (p + q) := by
  rw [add_as]
  refine sz_divInt (den_ne p q) ?_ ?_
  · refine Nat.lt_of_le_of_lt (Int.natAbs_add_le _ _) (add_lt ?_ ?_)
    · rw [Int.natAbs_mul, Int.natAbs_natCast]
      exact mul_lt hp.1 hq.2
    · rw [Int.natAbs_mul, Int.natAbs_natCast, Nat.add_comm a b]
      exact mul_lt hq.1 hp.2
  · rw [Int.natAbs_mul, Int.natAbs_natCast, Int.natAbs_natCast]
    exact Nat.lt_of_lt_of_le (mul_lt hp.2 hq.2) (Nat.pow_le_pow_right (by decide) (by omega))
theorem Sz.sub {a b : Nat} {p q : Rat} (hp : Sz a p) (hq : Sz b q) : Sz (a + b + 1) (p - q) := by
  rw [sub_as]
  refine sz_divInt (den_ne p q) ?_ ?_
  · refine Nat.lt_of_le_of_lt (by rw [Int.sub_eq_add_neg]; exact Int.natAbs_add_le _ _) (add_lt ?_ ?_)
    · rw [Int.natAbs_mul, Int.natAbs_natCast]
      exact mul_lt hp.1 hq.2
    · rw [Int.natAbs_neg, Int.natAbs_mul, Int.natAbs_natCast, Nat.add_comm a b]
      exact mul_lt hq.1 hp.2
  · rw [Int.natAbs_mul, Int.natAbs_natCast, Int.natAbs_natCast]
    exact Nat.lt_of_lt_of_le (mul_lt hp.2 hq.2) (Nat.pow_le_pow_right (by decide) (by omega))
theorem Sz.mul {a b : Nat} {p q : Rat} (hp : Sz a p) (hq : Sz b q) : Sz (a + b) (p * q) := by
  rw [mul_as]
  refine sz_divInt (den_ne p q) ?_ ?_
  · rw [Int.natAbs_mul]
    exact mul_lt hp.1 hq.1
  · rw [Int.natAbs_mul, Int.natAbs_natCast, Int.natAbs_natCast]
    exact mul_lt hp.2 hq.2
theorem num_ne {q : Rat} (h : q ≠ 0) : q.num ≠ 0 := fun e => h (Rat.num_eq_zero.mp e)
theorem div_den_ne {p q : Rat} (h : q ≠ 0) : ((p.den : Int) * q.num) ≠ 0 := Int.mul_ne_zero (by have := den_pos p; omega) (num_ne h)
theorem Sz.div {a b : Nat} {p q : Rat} (hp : Sz a p) (hq : Sz b q) (h : q ≠ 0) : Sz (a + b) (p / q) := by
  rw [div_as]
  refine sz_divInt (div_den_ne h) ?_ ?_
  · rw [Int.natAbs_mul, Int.natAbs_natCast]
    exact mul_lt hp.1 hq.2
  · rw [Int.natAbs_mul, Int.natAbs_natCast]
    exact mul_lt hp.2 hq.1
theorem Sz.neg {a : Nat} {p : Rat} (hp : Sz a p) : Sz a (-p) := by
  refine ⟨?_, ?_⟩
  · rw [Rat.neg_num, Int.natAbs_neg]; exact hp.1
  · rw [Rat.neg_den]; exact hp.2
theorem Sz.int {b : Nat} {n : Int} (h0 : 0 < b) (h : n.natAbs < 2 ^ b) : Sz b (n : Rat) := ⟨h, Nat.lt_of_lt_of_le (show 1 < 2 ^ 1 by decide) (Nat.pow_le_pow_right (by decide) h0)⟩

/-! ### floors, remainders -/
theorem floor_divInt {a b : Int} (hb : 0 < b) : (Rat.divInt a b).floor = a / b := by
  have h1 := Rat.floor_le (Rat.divInt a b)
  have h2 := Rat.lt_floor_add_one (Rat.divInt a b)
  have hq : (0 : Rat) < (b : Rat) := Rat.intCast_pos.mpr hb
  rw [Rat.divInt_eq_div] at h1 h2 ⊢
  generalize ((a : Rat) / (b : Rat)).floor = k at h1 h2
  have e1 : (k : Rat) * b ≤ a := by
    have := Rat.mul_le_mul_of_nonneg_right h1 (Rat.le_of_lt hq)
    rwa [Rat.div_mul_cancel (Rat.ne_of_gt hq)] at this
  have e2 : (a : Rat) < ((k + 1 : Int) : Rat) * b := (Rat.div_lt_iff hq).mp h2
  rw [← Rat.intCast_mul, Rat.intCast_le_intCast] at e1
  rw [← Rat.intCast_mul, Rat.intCast_lt_intCast] at e2
  have e3 : a / b = k := by
    refine Int.le_antisymm ?_ ?_
    · exact Int.le_of_lt_add_one (Int.ediv_lt_of_lt_mul hb e2)
    · exact (Int.le_ediv_iff_mul_le hb).mpr e1
  exact e3.symm
/-- the number in [0, m) that differs from p by a multiple of m -/
def rem (p m : Rat) : Rat := p - m * ((p / m).floor : Rat)
theorem rem_as {p m : Rat} (hm : 0 < m) : rem p m = Rat.divInt ((p.num * m.den) % (m.num * p.den)) (p.den * m.den) := by
  have hn : 0 < m.num := by
    have h := Rat.num_nonneg.mpr (Rat.le_of_lt hm)
    have h2 := num_ne (Rat.ne_of_gt hm)
    omega
  have d1 : (0 : Int) < p.den := by have := den_pos p; omega
  have d2 : (0 : Int) < m.den := by have := den_pos m; omega
  have hb : (0 : Int) < p.den * m.num := Int.mul_pos d1 hn
  unfold rem
  rw [div_as, floor_divInt hb, Int.emod_def, Int.mul_comm m.num (p.den : Int)]
  generalize (p.num * ↑m.den) / (↑p.den * m.num) = k
  have q1 : (p.den : Rat) ≠ 0 := by
    have := Rat.natCast_pos.mpr (den_pos p)
    exact Rat.ne_of_gt this
  have q2 : (m.den : Rat) ≠ 0 := by
    have := Rat.natCast_pos.mpr (den_pos m)
    exact Rat.ne_of_gt this
  have ep : p = (p.num : Rat) / (p.den : Rat) := by
    conv => lhs; rw [← Rat.num_divInt_den p, Rat.divInt_eq_div]
    rfl
  have em : m = (m.num : Rat) / (m.den : Rat) := by
    conv => lhs; rw [← Rat.num_divInt_den m, Rat.divInt_eq_div]
    rfl
  rw [Rat.divInt_eq_div]
  conv => lhs; rw [ep]
  conv => lhs; rhs; rw [em]
  simp only [Rat.intCast_sub, Rat.intCast_mul, Rat.intCast_natCast]
  grind
theorem rem_nonneg {p m : Rat} (hm : 0 < m) : 0 ≤ rem p m := by
  have h := Rat.floor_le (p / m)
  have h2 := Rat.mul_le_mul_of_nonneg_left h (Rat.le_of_lt hm)
  have e : m * (p / m) = p := by rw [Rat.mul_comm, Rat.div_mul_cancel (Rat.ne_of_gt hm)]
  rw [e] at h2
  unfold rem
  grind
theorem rem_lt {p m : Rat} (hm : 0 < m) : rem p m < m := by
  have h := Rat.lt_floor_add_one (p / m)
  have h2 := Rat.mul_lt_mul_of_pos_left h hm
  have e : m * (p / m) = p := by rw [Rat.mul_comm, Rat.div_mul_cancel (Rat.ne_of_gt hm)]
  rw [e, Rat.intCast_add] at h2
  unfold rem
  grind
theorem pos_num {m : Rat} (hm : 0 < m) : 0 < m.num := by
  have h := Rat.num_nonneg.mpr (Rat.le_of_lt hm)
  have h2 := num_ne (Rat.ne_of_gt hm)
  omega
theorem num_pos_iff {m : Rat} : 0 < m.num ↔ 0 < m := by
  refine ⟨fun h => ?_, pos_num⟩
  refine Rat.lt_of_le_of_ne (Rat.num_nonneg.mp (Int.le_of_lt h)) ?_
  intro e
  rw [← e] at h
  exact absurd h (by decide)
theorem num_neg_iff {m : Rat} : m.num < 0 ↔ m < 0 := by
  rw [← Rat.not_le, ← Rat.num_nonneg]
  omega
theorem Sz.rem {a b : Nat} {p m : Rat} (hp : Sz a p) (hq : Sz b m) (h : 0 < m) : Sz (a + b) (rem p m) := by
  have hn := pos_num h
  have d1 : (0 : Int) < p.den := by have := den_pos p; omega
  have hb : (0 : Int) < m.num * p.den := Int.mul_pos hn d1
  rw [rem_as h]
  refine sz_divInt (den_ne p m) ?_ ?_
  · have h1 := Int.emod_nonneg (p.num * m.den) (Int.ne_of_gt hb)
    have h2 := Int.emod_lt_of_pos (p.num * m.den) hb
    have h3 : (m.num * p.den).natAbs < 2 ^ (a + b) := by
      rw [Int.natAbs_mul, Int.natAbs_natCast, Nat.add_comm]
      exact mul_lt hq.1 hp.2
    omega
  · rw [Int.natAbs_mul, Int.natAbs_natCast, Int.natAbs_natCast]
    exact mul_lt hp.2 hq.2
end LR
set_option Elab.async false
set_option linter.all false
set_option maxRecDepth 100000
set_option maxHeartbeats 4000000
namespace LR
open PySem PySem.Spec PyProof.Rows L2

/-! ### kinds of values, and numbers among them -/
theorem sqt_ty {K : PySem.W.Frag} {H : Hp} {a : Addr} {xs : List V} (h : SqT K H a xs) : TyX K H (.ref a) (.type "tuple") := by
  rcases h with (h | ⟨o, h⟩) | ⟨o, its, m, hk, hc, _⟩
  · exact .base (.tup h)
  · exact .fTuple h
  · exact .kTuple hk hc
theorem sql_ty {K : PySem.W.Frag} {H : Hp} {a : Addr} {xs : List V} (h : SqL K H a xs) : TyX K H (.ref a) (.type "list") := by
  rcases h with (h | ⟨o, h⟩) | ⟨o, its, m, hk, hc, _⟩
  · exact .base (.lst h)
  · exact .base (.frz h)
  · exact .kList hk hc
theorem same_sqt {K : PySem.W.Frag} {H H' : Hp} {a : Addr} {xs : List V} (s : Same H H') (h : SqT K H a xs) : SqT K H' a xs := by
  rcases h with (h | ⟨o, h⟩) | h
  · exact .inl (.inl (s _ _ h))
  · exact .inl (.inr ⟨o, s _ _ h⟩)
  · exact .inr h
inductive Kd (K : PySem.W.Frag) (H : Hp) : V → String → Prop
  | non : Kd K H .non "NoneType"
  | bl (b : Bool) : Kd K H (.bl b) "bool"
  | int (i : Int) : Kd K H (.int i) "int"
  | str (x : Str) : Kd K H (.str x) "str"
  | lst {a : Addr} {xs : List V} (h : SqL K H a xs) : Kd K H (.ref a) "list"
  | tup {a : Addr} {xs : List V} (h : SqT K H a xs) : Kd K H (.ref a) "tuple"
  | dict {a : Addr} {kvs : List (Key × V)} (h : H a = some (.dK kvs)) : Kd K H (.ref a) "dict"
section
variable {K : PySem.W.Frag} {H H' : Hp} {x : V} {n : String}
theorem Kd.ty (h : Kd K H x n) : TyX K H x (.type n) := by
  cases h with
  | non => exact .base .non
  | bl b => exact .base (.bl b)
  | int i => exact .base (.int i)
  | str z => exact .base (.str z)
  | lst h => exact sql_ty h
  | tup h => exact sqt_ty h
  | dict h => exact .base (.dK h)
theorem Kd.tyB (h : Kd K H x n) : TyB K H x n := by
  cases h with
  | non => exact .non
  | bl b => exact .bl b
  | int i => exact .int i
  | str z => exact .str z
  | lst h => exact .lst h
  | tup h => exact .tup h
  | dict h => exact .dK h
def isI : V → Bool | .int _ => true | _ => false
theorem kd_int (h : Kd K H x n) : PySem.W.kitOne K (.type n) (.type "int") = some (n == "int" || n == "bool") := by
  cases h <;> exact kit_ty (by decide +kernel)
theorem kd_bool (h : Kd K H x n) : PySem.W.kitOne K (.type n) (.type "bool") = some (n == "bool") := by
  cases h <;> exact kit_ty (by decide +kernel)
theorem kd_tuple (h : Kd K H x n) : PySem.W.kitOne K (.type n) (.type "tuple") = some (n == "tuple") := by
  cases h <;> exact kit_ty (by decide +kernel)
theorem kd_list (h : Kd K H x n) : PySem.W.kitOne K (.type n) (.type "list") = some (n == "list") := by
  cases h <;> exact kit_ty (by decide +kernel)
theorem kd_dict (h : Kd K H x n) : PySem.W.kitOne K (.type n) (.type "dict") = some (n == "dict") := by
  cases h <;> exact kit_ty (by decide +kernel)
theorem kd_str (h : Kd K H x n) : PySem.W.kitOne K (.type n) (.type "str") = some (n == "str") := by
  cases h <;> exact kit_ty (by decide +kernel)
theorem kd_isI (h : Kd K H x n) : ((n == "int" || n == "bool") && !(n == "bool")) = isI x := by
  cases h <;> rfl
theorem Kd.same (s : Same H H') (h : Kd K H x n) : Kd K H' x n := by
  cases h with
  | non => exact .non
  | bl b => exact .bl b
  | int i => exact .int i
  | str z => exact .str z
  | lst h => exact .lst (s.seq h)
  | tup h => exact .tup (same_sqt s h)
  | dict h => exact .dict (s _ _ h)
theorem same_new {p : Addr} {o : HO} (h : H p = none) : Same H (upd H p o) := fun b y e => by
  rw [upd_ne (ne_of_none e h)]
  exact e

/-- the two places of a number's tuple -/
abbrev rt (q : Rat) : List V := [.int q.num, .int (q.den : Int)]
def ratOf : List V → Option Rat
  | [.int a, .int d] => if 1 ≤ d ∧ Nat.gcd a.natAbs d.natAbs = 1 then some (Rat.divInt a d) else none
  | _ => none
theorem ratOf_rt (q : Rat) : ratOf (rt q) = some q := by
  have h1 : (1 : Int) ≤ (q.den : Int) := by have := den_pos q; omega
  have h2 : Nat.gcd q.num.natAbs ((q.den : Int)).natAbs = 1 := q.reduced
  show (if 1 ≤ (q.den : Int) ∧ Nat.gcd q.num.natAbs ((q.den : Int)).natAbs = 1 then some (Rat.divInt q.num q.den) else none) = some q
  rw [if_pos ⟨h1, h2⟩, Rat.num_divInt_den]
theorem ratOf_some {xs : List V} {q : Rat} (h : ratOf xs = some q) : xs = rt q := by
  unfold ratOf at h
  split at h
  · rename_i a d
    split at h
    · rename_i c
      obtain ⟨c1, c2⟩ := c
      have e := Option.some.inj h
      subst e
      have g : d.gcd a = 1 := by
        show Nat.gcd d.natAbs a.natAbs = 1
        rw [Nat.gcd_comm]
        exact c2
      have e1 : (Rat.divInt a d).num = a := by
        rw [Rat.num_divInt, g, Int.sign_eq_one_of_pos (by omega)]
        simp
      have e2 : ((Rat.divInt a d).den : Int) = d := by
        rw [Rat.den_divInt, if_neg (by omega), g]
        simp
        omega
      show [V.int a, V.int d] = [V.int (Rat.divInt a d).num, V.int ((Rat.divInt a d).den : Int)]
      rw [e1, e2]
    · cases h
  · cases h
/-- an argument in the place of a number: some q where it is one -/
inductive Arg (K : PySem.W.Frag) (H : Hp) : V → Option Rat → Prop
  | int (i : Int) : Arg K H (.int i) (some (i : Rat))
  | tup {a : Addr} {xs : List V} {o : Option Rat} (h : SqT K H a xs) (k : xs.length = 2 → ∀ x ∈ xs, ∃ n, Kd K H x n) (e : ratOf xs = o) : Arg K H (.ref a) o
  | oth {x : V} {n : String} (h : Kd K H x n) (h1 : (n == "int") = false) (h2 : (n == "tuple") = false) : Arg K H x none
abbrev Num (K : PySem.W.Frag) (H : Hp) (x : V) (q : Rat) : Prop := Arg K H x (some q)
/-- a result: a tuple of the number's two places -/
def Rn (K : PySem.W.Frag) (H : Hp) (x : V) (q : Rat) : Prop := ∃ a, x = .ref a ∧ SqT K H a (rt q)
theorem Rn.num {q : Rat} (h : Rn K H x q) : Num K H x q := by
  obtain ⟨a, rfl, h⟩ := h
  refine .tup h (fun _ y hy => ?_) (ratOf_rt q)
  rcases List.mem_cons.mp hy with e | hy
  · exact ⟨"int", by rw [e]; exact .int _⟩
  · rcases List.mem_cons.mp hy with e | hy
    · exact ⟨"int", by rw [e]; exact .int _⟩
    · cases hy
theorem Arg.same {o : Option Rat} (s : Same H H') (h : Arg K H x o) : Arg K H' x o := by
  cases h with
  | int i => exact .int i
  | tup h k e => exact .tup (same_sqt s h) (fun l y hy => let ⟨m, z⟩ := k l y hy; ⟨m, z.same s⟩) e
  | oth h h1 h2 => exact .oth (h.same s) h1 h2
theorem Rn.same {q : Rat} (s : Same H H') (h : Rn K H x q) : Rn K H' x q := let ⟨a, e, z⟩ := h; ⟨a, e, same_sqt s z⟩
theorem Num.kinds {q : Rat} (h : Num K H x q) : (x = .int q.num ∧ q.den = 1) ∨ Rn K H x q := by
  cases h with
  | int i => exact .inl ⟨rfl, rfl⟩
  | tup h k e => exact .inr ⟨_, rfl, ratOf_some e ▸ h⟩
theorem Rn.mk {q : Rat} {p : Addr} : Rn K (upd H p (.tup (rt q))) (.ref p) q := ⟨p, rfl, .inl (.inl upd_same)⟩
theorem num_int (i : Int) : Num K H (.int i) (i : Rat) := .int i
end

/-! ### operations on great ints -/
def CDivA (_ j : Int) : Prop := j ≠ 0 ∧ j.natAbs.log2 < 9000
section
variable {X : Cx}
theorem op_fdivA : OpR X (binaryOp .FloorDiv) (rI CDivA fun i j => .int (i.fdiv j)) := opI fun i j _ _ _ _ _ hc q =>
  floordiv_int hc.1 q (.inl (PyProof.noPylong_of_log2 hc.2))
end
theorem divA {i j : Int} {b : Nat} (h : j ≠ 0) (hb : j.natAbs < 2 ^ b) (h0 : 0 < b) (h9 : b ≤ 9000) : CDivA i j := ⟨h, Nat.lt_of_lt_of_le (PySem.Flt.log2_lt_of h0 hb) h9⟩

/-! ### raise X(), no argument -/
section
variable {X : Cx} {C : Addr} {bmB : List Value} {B newId initId : String}
theorem pmk_own0 {x : Str} {p pos : Pos} (F : ExcBaseFacts B newId initId bmB) (q : PySem.W.excIn X.K C bmB newId = true) (gC : X.mg x = some (.ref C)) (kC : PySem.W.keepIn X.K (.ref C) = true) (r : Raises X (.ref C)) (hg : Gl X x)
    (hdb : (x == ("__debug__" : Str)) = false := by decide) : PMk X (.Call (.Name x p) [] [] pos) (fun _ H Q => Q (.ref C) none H) := by
  intro pins s σ H Q I h
  refine wpAny_Call_Name_kw (ld_glob I hg gC ?_ hdb)
  refine PySem.W.callWith_K0 I.kIn kC ?_
  obtain ⟨bm, N, nm, qn, bs, hdct, sn, sub, ab, col, dd, k0, k1, k2, k3, k5, mN, hC, hN, hni, T⟩ := exc_obj I.kIn q
  refine wpAny_call_exc_subT F T hC hN hni (fun h' e hm => ?_) (Nat.zero_le _)
  exact mk_of I hm r h (I.hok.gone hm.new)
end

/-- the same where the exception's context is told, and its record -/
theorem pmk5_own0 {X : Cx} {C : Addr} {bmB : List Value} {B newId initId : String} {x : Str} {p pos : Pos} (F : ExcBaseFacts B newId initId bmB) (q : PySem.W.excIn X.K C bmB newId = true) (gC : X.mg x = some (.ref C)) (kC : PySem.W.keepIn X.K (.ref C) = true) (r : Raises X (.ref C)) (hg : Gl X x)
    (hdb : (x == ("__debug__" : Str)) = false := by decide) : L2H.PMk5 X (.Call (.Name x p) [] [] pos) (fun _ H Q => Q (.ref C) none H) := by
  intro pins s σ H Q I h
  refine wpAny_Call_Name_kw (ld_glob I hg gC ?_ hdb)
  refine PySem.W.callWith_K0 I.kIn kC ?_
  obtain ⟨bm, N, nm, qn, bs, hdct, sn, sub, ab, col, dd, k0, k1, k2, k3, k5, mN, hC, hN, hni, T⟩ := exc_obj I.kIn q
  exact wpAny_call_exc_subT F T hC hN hni (fun h' e hm => L2H.mk_of5 I hm r h (I.hok.gone hm.new)) (Nat.zero_le _)

/-! ### the text: defs and error classes as the top has left them -/
/-- a def of the text (no defaults) under its name -/
structure DefAt (K : PySem.W.Frag) (mg : Str → Option Value) (x : Str) (st : Stmt) (ps : List Str) (f : Addr) (fd : FuncData) : Prop where
  F : Fun K x x st f fd
  g : mg x = some (.ref f)
  b : Binds K fd ps []
/-- an own error class without __init__ over the built-in class whose new is named, bm its line of bases -/
structure ErrAt (K : PySem.W.Frag) (mg : Str → Option Value) (x : Str) (bm : List Value) (newId : String) (C : Addr) : Prop where
  g : mg x = some (.ref C)
  k : PySem.W.keepIn K (.ref C) = true
  q : PySem.W.excIn K C bm newId = true
  b : PySem.W.subIn K (.ref C) (.type "BaseException") = some true
  t : PySem.W.typeIn K (.ref C) = some (.type "type")
theorem ErrAt.mk0 {X : Cx} {x : Str} {bm : List Value} {B newId initId : String} {C : Addr} {p pos : Pos} (T : ErrAt X.K X.mg x bm newId C) (F : ExcBaseFacts B newId initId bm) (hg : Gl X x) (hdb : (x == ("__debug__" : Str)) = false := by decide) :
    PMk X (.Call (.Name x p) [] [] pos) (fun _ H Q => Q (.ref C) none H) := pmk_own0 F T.q T.g T.k (raises_own T.b T.t) hg hdb
theorem ErrAt.mk5 {X : Cx} {x : Str} {bm : List Value} {B newId initId : String} {C : Addr} {p pos : Pos} (T : ErrAt X.K X.mg x bm newId C) (F : ExcBaseFacts B newId initId bm) (hg : Gl X x) (hdb : (x == ("__debug__" : Str)) = false := by decide) :
    L2H.PMk5 X (.Call (.Name x p) [] [] pos) (fun _ H Q => Q (.ref C) none H) := pmk5_own0 F T.q T.g T.k (raises_own T.b T.t) hg hdb
/-! ### what a def lets out whose exceptions have no context -/
section
variable {P : Program} {w : World} {K : PySem.W.Frag} {mg : Str → Option Value} {base : Heap} {k : Nat} {f : Addr} {fd : FuncData} {ps : List Str} {sp : Sp}
abbrev CXn (P : Program) (w : World) : CXT := L2N.CX P w
theorem cxn_up {outer : List Env} {H : Hp} {s : Shared} {E : XK} {u : Value} {s' : Shared} (h : CXn P w outer H s E u s') : L2.CX P w outer H s E u s' := by
  obtain ⟨a, B, H', cls, d, e, fl, r⟩ := h
  exact ⟨a, B, H', cls, d, e, L2H.flyingZ_imp (fun _ z => z.zc) fl, r⟩
theorem up (F : FnOk P w K mg base (CXn P w) k f fd ps sp) : FnOk P w K mg base (L2.CX P w) k f fd ps sp :=
  ⟨F.len, fun A outer s H args us vs Q E hr e0 hb hv hs => codeAny_mono (F.run A outer s H args us vs Q E hr e0 hb hv hs) fun r s' h => by
    cases r with
    | error e => exact cxn_up h
    | ok fl => cases fl <;> exact h⟩
theorem _root_.L2.Fun.okN {x qual : Str} {st : Stmt} {N : List Str} (F : Fun K x qual st f fd) (S : FnScope N ps (defScope st)) (len : ∀ vs H Q E, sp vs H Q E → vs.length = ps.length)
    (body : ∀ (cdv : Value) (A : Around) (outer : List Env) (s : Shared) (H : Hp) (vs : List V) (Q : VK) (E : XK), Room k (A.deeper (envOfC qual (defScope st) s.heap.objs.size f cdv)) → sp vs H Q E →
      ∃ t, PSs (cxOf (CXn P w) P w K mg base N qual (defScope st) f cdv A outer s H E) (defBody st) t ∧ t { nx := fun _ H' => Q .non H', rt := Q } (start N vs) H) : FnOk P w K mg base (CXn P w) (k + 1) f fd ps sp := by
  obtain ⟨oc, od, kV, doc, pm, an, cdv, ct, osl, rfl, lk, hcd⟩ := F.ex
  exact fn_of lk hcd S len fun A outer s H vs Q E hr hsp => body cdv A outer s H vs Q E hr hsp
end
theorem passN {X : Cx} : Passes (CXn X.prog X.w) X E0 := fun _ _ _ _ _ _ _ h => by
  obtain ⟨_, _, _, _, _, _, _, _, _, _, _, _, z⟩ := h
  exact z.elim
end LR
set_option Elab.async false
set_option linter.all false
set_option maxRecDepth 100000
set_option maxHeartbeats 4000000
/-! DJ: a def's promise over data; raising -/
namespace DL
open PySem PySem.Spec PyProof.Rows L2
/-- the slots at a def's entry -/
def startD (N : List Str) (as : List Sl) : List Sl := as ++ (N.drop as.length).map fun _ => .un
theorem nth_app_l : ∀ {as bs : List Sl} {i : Nat}, i < as.length → nth (as ++ bs) i = nth as i
  | [], _, _, h => absurd h (Nat.not_lt_zero _)
  | _ :: _, _, 0, _ => rfl
  | _ :: as, bs, i + 1, h => nth_app_l (as := as) (Nat.lt_of_succ_lt_succ h)
theorem nth_app_r : ∀ {as bs : List Sl} {i : Nat}, as.length ≤ i → nth (as ++ bs) i = nth bs (i - as.length)
  | [], _, _, _ => rfl
  | _ :: _, _, 0, h => absurd h (by simp)
  | _ :: as, bs, i + 1, h => by
    rw [List.length_cons, Nat.add_sub_add_right]
    exact nth_app_r (as := as) (Nat.le_of_succ_le_succ h)
theorem nth_un {α : Type} : ∀ (l : List α) (i : Nat), nth (l.map fun _ => Sl.un) i = .un
  | [], _ => rfl
  | _ :: _, 0 => rfl
  | _ :: l, i + 1 => nth_un l i
theorem arg_at {K : PySem.W.Frag} {Z : Addr → Prop} {Hs H : Hp} {O : Addr → Option Nat} (hO : ∀ p, Z p → O p = some 0) : ∀ {as : List Sl} {vs : List V} {i : Nat} {j : Nat}, ArgIs K Z Hs H as vs → i < as.length → SlIs K O Hs H j (some vs[i]?) (nth as i)
  | [], _, _, _, _, h => absurd h (Nat.not_lt_zero _)
  | .d x :: as, _, 0, _, ⟨v, ws, e, h1, _⟩, _ => by subst e; exact ⟨v, rfl, h1⟩
  | .d x :: as, _, i + 1, _, ⟨v, ws, e, _, h2⟩, h => by subst e; exact arg_at (as := as) hO h2 (Nat.lt_of_succ_lt_succ h)
  | .pool :: as, _, 0, _, ⟨p, ws, e, h1, h2, _⟩, _ => by subst e; exact ⟨p, rfl, hO p h1, h2⟩
  | .pool :: as, _, i + 1, _, ⟨p, ws, e, _, _, h2⟩, h => by subst e; exact arg_at (as := as) hO h2 (Nat.lt_of_succ_lt_succ h)
  | .un :: _, _, _, _, h, _ => h.elim
  | .own _ _ :: _, _, _, _, h, _ => h.elim
  | .mu _ _ :: _, _, _, _, h, _ => h.elim
section
variable {P : Program} {w : World} {K : PySem.W.Frag} {mg : Str → Option Value} {base : Heap}
open Classical in
theorem abs_start {Z : Addr → Prop} {Hs H : Hp} {E : XK} {N : List Str} {as : List Sl} {vs : List V} (sub : Same Hs H) (hz : ∀ p, Z p → Hs p = none ∧ NT (H p)) (ai : ArgIs K Z Hs H as vs) : ∃ O, Abs K ⟨Z, Hs, H, E⟩ O Hs H (start N vs) (startD N as) := by
  have hO : ∀ p, Z p → (if Z p then some 0 else none) = some 0 := fun p h => if_pos h
  have nO : ∀ p, (if Z p then some 0 else none : Option Nat) ≠ none → Z p := fun p h => by
    by_cases z : Z p
    · exact z
    · exact absurd (if_neg z) h
  have hl := ai.len
  refine ⟨fun b => if Z b then some 0 else none, .refl sub, fun a h => (hz a (nO a h)).1, fun a h => (hz a (nO a h)).2, fun a h => .inl (nO a h), hO, ?_, fun i => ?_⟩
  · unfold L2.start startD
    rw [List.length_append, List.length_append, List.length_map, List.length_map, List.length_replicate, List.length_drop]
    omega
  · unfold L2.start startD
    by_cases hi : i < as.length
    · rw [nth_app_l hi, List.getElem?_append_left (by rw [List.length_map]; omega), List.getElem?_map]
      have q := arg_at (K := K) (Hs := Hs) (H := H) (O := fun b => if Z b then some 0 else none) hO (j := i) ai hi
      have hv : vs[i]? = some (vs[i]'(by omega)) := List.getElem?_eq_getElem (by omega)
      rw [hv] at q ⊢
      exact q
    · rw [nth_app_r (Nat.le_of_not_lt hi), nth_un]
      trivial
/-- the wishes of a body at its entry -/
structure Bd (X : Cx) (c : Cn) : Prop where
  px : Passes (L2.CX X.prog X.w) X c.E
  tk : Takes X (fun cls d _ H => c.E cls d H)
  zz : ∀ p, c.Z p → c.Hs p = none ∧ NT (c.H p)
theorem fnD {x qual : Str} {st : Stmt} {f : Addr} {fd : FuncData} {N ps : List Str} {k : Nat} {spec : SpD} (F : Fun K x qual st f fd) (S : FnScope N ps (defScope st)) (hlen : ∀ as Qd Ed, spec as Qd Ed → as.length = ps.length)
    (body : ∀ (cdv : Value) (A : Around) (outer : List Env) (s : Shared) (H : Hp) (E : XK) (c : Cn), Room k (A.deeper (envOfC qual (defScope st) s.heap.objs.size f cdv)) → Bd (cxOf (L2.CX P w) P w K mg base N qual (defScope st) f cdv A outer s H E) c →
      ∃ t : TSD, DSs (cxOf (L2.CX P w) P w K mg base N qual (defScope st) f cdv A outer s H E) c (defBody st) t ∧ ∀ as Qd Ed, spec as Qd Ed → t { nx := fun _ => Qd .non, rt := Qd } (startD N as) Ed) :
    FnOk P w K mg base (L2.CX P w) (k + 1) f fd ps (spD K spec) := by
  refine F.okX S (fun vs H Q E h => ?_) (fun cdv A outer s H vs Q E hr h => ?_)
  · obtain ⟨Z, Hs, as, Qd, Ed, _, _, ai, hf, _⟩ := h
    rw [ai.len]
    exact hlen as Qd Ed hf
  · obtain ⟨Z, Hs, as, Qd, Ed, sub, hz, ai, hf, cv, ce⟩ := h
    obtain ⟨t, ht, run⟩ := body cdv A outer s H E ⟨Z, Hs, H, E⟩ hr ⟨passes_call (takes_of rfl rfl rfl rfl) fun _ _ _ _ h => h, takes_of rfl rfl rfl rfl, hz⟩
    obtain ⟨O, A0⟩ := abs_start (K := K) (E := E) (N := N) sub hz ai
    refine ⟨_, ht, O, Hs, _, _, Ed, A0, run as Qd Ed hf, fun er Hs' H' x q => ce er Hs' H' x q, ?_⟩
    exact ⟨fun σ' O' Hs' H' ss' _ A' q => cv .non .non Hs' H' A'.ext rfl q, fun _ _ _ _ _ _ _ q => q.elim, fun _ _ _ _ _ _ _ q => q.elim, fun d v Hs' H' x i q => cv d v Hs' H' x i q, fun ds p xs Hs' H' x n1 n2 h1 h2 q => cv (.lst ds) _ (upd Hs' p (.lst xs)) H' (x.freeze n1 n2 h1) ⟨p, xs, rfl, upd_same, h2.same (same_new0 n2)⟩ q, fun _ _ _ _ _ _ _ _ _ _ z => z.elim⟩
open LG in
theorem fnDG {x qual : Str} {st : Stmt} {f : Addr} {fd : FuncData} {N ps : List Str} {k : Nat} {spec : SpD} (F : Fun K x qual st f fd) (S : FnScope N ps (defScope st)) (hlen : ∀ as Qd Ed, spec as Qd Ed → as.length = ps.length)
    (body : ∀ (cdv : Value) (A : Around) (outer : List Env) (s : Shared) (H : Hp) (E : XK) (c : Cn), A.guards = some [] → Room k (A.deeper (envOfC qual (defScope st) s.heap.objs.size f cdv)) → Bd (cxOf (L2.CX P w) P w K mg base N qual (defScope st) f cdv A outer s H E) c →
      ∃ t : TSD, DSs (cxOf (L2.CX P w) P w K mg base N qual (defScope st) f cdv A outer s H E) c (defBody st) t ∧ ∀ as Qd Ed, spec as Qd Ed → t { nx := fun _ => Qd .non, rt := Qd } (startD N as) Ed) :
    FnG P w K mg base (L2.CX P w) (k + 1) f fd ps (spD K spec) := by
  refine fun_okG F S (fun vs H Q E h => ?_) (fun cdv A outer s H vs Q E g hr h => ?_)
  · obtain ⟨Z, Hs, as, Qd, Ed, _, _, ai, hf, _⟩ := h
    rw [ai.len]
    exact hlen as Qd Ed hf
  · obtain ⟨Z, Hs, as, Qd, Ed, sub, hz, ai, hf, cv, ce⟩ := h
    obtain ⟨t, ht, run⟩ := body cdv A outer s H E ⟨Z, Hs, H, E⟩ g hr ⟨passes_call (takes_of rfl rfl rfl rfl) fun _ _ _ _ h => h, takes_of rfl rfl rfl rfl, hz⟩
    obtain ⟨O, A0⟩ := abs_start (K := K) (E := E) (N := N) sub hz ai
    refine ⟨_, ht, O, Hs, _, _, Ed, A0, run as Qd Ed hf, fun er Hs' H' x q => ce er Hs' H' x q, ?_⟩
    exact ⟨fun σ' O' Hs' H' ss' _ A' q => cv .non .non Hs' H' A'.ext rfl q, fun _ _ _ _ _ _ _ q => q.elim, fun _ _ _ _ _ _ _ q => q.elim, fun d v Hs' H' x i q => cv d v Hs' H' x i q, fun ds p xs Hs' H' x n1 n2 h1 h2 q => cv (.lst ds) _ (upd Hs' p (.lst xs)) H' (x.freeze n1 n2 h1) ⟨p, xs, rfl, upd_same, h2.same (same_new0 n2)⟩ q, fun _ _ _ _ _ _ _ _ _ _ z => z.elim⟩
end
/-- a promise of a def that hands back a list of its own -/
abbrev SpF := List Sl → (List D → Prop) → QE → Prop
def spF (K : PySem.W.Frag) (f : SpF) : Sp := fun vs H Q E => ∃ (Z : Addr → Prop) (Hs : Hp) (as : List Sl) (Qo : List D → Prop) (Ed : QE), Same Hs H ∧ (∀ p, Z p → Hs p = none ∧ NT (H p)) ∧ ArgIs K Z Hs H as vs ∧ f as Qo Ed ∧
  (∀ ds p xs Hs' H', Ext Z Hs H Hs' H' → H p = none → Hs' p = none → H' p = some (.lst xs) → IsA K Hs' ds xs → Qo ds → Q (.ref p) H') ∧ (∀ er Hs' H', Ext Z Hs H Hs' H' → Ed er → ErrPost K E er Hs' H')
theorem fnF {P : Program} {w : World} {K : PySem.W.Frag} {mg : Str → Option Value} {base : Heap} {x qual : Str} {st : Stmt} {f : Addr} {fd : FuncData} {N ps : List Str} {k : Nat} {spec : SpF} (F : Fun K x qual st f fd) (S : FnScope N ps (defScope st)) (hlen : ∀ as Qd Ed, spec as Qd Ed → as.length = ps.length)
    (body : ∀ (cdv : Value) (A : Around) (outer : List Env) (s : Shared) (H : Hp) (E : XK) (c : Cn), Room k (A.deeper (envOfC qual (defScope st) s.heap.objs.size f cdv)) → Bd (cxOf (L2.CX P w) P w K mg base N qual (defScope st) f cdv A outer s H E) c →
      ∃ t : TSD, DSs (cxOf (L2.CX P w) P w K mg base N qual (defScope st) f cdv A outer s H E) c (defBody st) t ∧ ∀ as Qo Ed, spec as Qo Ed → t { nx := fun _ => False, rt := fun _ => False, ro := Qo } (startD N as) Ed) :
    FnOk P w K mg base (L2.CX P w) (k + 1) f fd ps (spF K spec) := by
  refine F.okX S (fun vs H Q E h => ?_) (fun cdv A outer s H vs Q E hr h => ?_)
  · obtain ⟨Z, Hs, as, Qd, Ed, _, _, ai, hf, _⟩ := h
    rw [ai.len]
    exact hlen as Qd Ed hf
  · obtain ⟨Z, Hs, as, Qd, Ed, sub, hz, ai, hf, cv, ce⟩ := h
    obtain ⟨t, ht, run⟩ := body cdv A outer s H E ⟨Z, Hs, H, E⟩ hr ⟨passes_call (takes_of rfl rfl rfl rfl) fun _ _ _ _ h => h, takes_of rfl rfl rfl rfl, hz⟩
    obtain ⟨O, A0⟩ := abs_start (K := K) (E := E) (N := N) sub hz ai
    refine ⟨_, ht, O, Hs, _, _, Ed, A0, run as Qd Ed hf, fun er Hs' H' x q => ce er Hs' H' x q, ?_⟩
    exact ⟨fun _ _ _ _ _ _ _ q => q.elim, fun _ _ _ _ _ _ _ q => q.elim, fun _ _ _ _ _ _ _ q => q.elim, fun _ _ _ _ _ _ q => q.elim, fun ds p xs Hs' H' x n1 n2 h1 h2 q => cv ds p xs Hs' H' x n1 n2 h1 h2 q, fun _ _ _ _ _ _ _ _ _ _ z => z.elim⟩
section
variable {X : Cx} {c : Cn}
/-- what is never reached -/
def tdDead : TSD := fun _ _ _ => False
theorem d_dead {st : Stmt} : DS X c st tdDead := ps_imp ps_never fun Dn σ H q => by
  obtain ⟨O, Hs, ss, En, Ed, A, h, er, g⟩ := q
  exact h.elim
/-- raise C(), C an own class without __init__ -/
def tdRaise (C : Addr) : TSD := fun _ _ Ed => Ed (.e0 C)
theorem d_raise {x : Str} {bm : List Value} {B newId initId : String} {C : Addr} {p pos pos' : Pos} (b : Bd X c) (hc : X.calm = true) (T : LR.ErrAt X.K X.mg x bm newId C) (F : ExcBaseFacts B newId initId bm) (hg : Gl X x := by rfl) (hdb : (x == ("__debug__" : Str)) = false := by decide) :
    DS X c (.Raise (some (.Call (.Name x p) [] [] pos)) none pos') (tdRaise C) := by
  refine ps_imp (ps_raise hc b.tk (T.mk0 F hg hdb)) fun Dn σ H q => ?_
  obtain ⟨O, Hs, ss, En, Ed, A, h, er, g⟩ := q
  exact er (.e0 C) Hs H A.ext h
section
variable {i : Nat} {y : Str} {py : Pos} {tg elt iter : Expr} {ifs : List Expr} {scope : Scope} {own : List (Str × Nat)} {pos spos : Pos} {ti : TID} {p : Pat} {tt : TTD} {te : TD}
/-- x = [..] on one line, x a local -/
theorem ps_lcO (hc : X.calm = true) (hN : X.N.Nodup) (hy : X.N[i]? = some y) (hyl : X.env.scope.names.lookup y = some .local)
    (hsw : swapsWith (.ListComp elt [⟨tg, iter, ifs, 0⟩] scope pos) (some (.Name y py)) spos.line X.env = pure true) (hi : DI X c tg iter ti) (ok : BlkOk X.N X.env.scope scope own)
    (hg : ∀ (s : Shared) (H : Hp) (C : Addr) (cl : List (Str × Addr)) (fp : List Addr), DG (X.blk s H scope (compEnvC scope cl C X.env) fp) tg p) (ht : ∀ (s : Shared) (H : Hp) (C : Addr) (cl : List (Str × Addr)) (fp : List Addr), DTs (X.blk s H scope (compEnvC scope cl C X.env) fp) c ifs tt)
    (he : ∀ (s : Shared) (H : Hp) (C : Addr) (cl : List (Str × Addr)) (fp : List Addr), DE (X.blk s H scope (compEnvC scope cl C X.env) fp) c elt te) (hsub : ∀ j ∈ p.vs, j ∈ own.map (·.2)) (hs : ∀ x, foldedSetIterable iter X.env x = pure x) :
    PS X (.Assign [.Name y py] (.ListComp elt [⟨tg, iter, ifs, 0⟩] scope pos) spos) (tAsg (liftO c X.K (toLc ti p tt te (own.map (·.2)))) (gName i)) :=
  ps_imp (ps_setLc (g := p.tg X.K) (tt := liftT c X.K tt) (te := lift c X.K te) hc hN hy hyl hsw hi ok hg ht he hs) fun Dn σ H q => lc_run hsub σ H _ q
theorem d_setLc (hc : X.calm = true) (hN : X.N.Nodup) (hy : X.N[i]? = some y) (hyl : X.env.scope.names.lookup y = some .local)
    (hsw : swapsWith (.ListComp elt [⟨tg, iter, ifs, 0⟩] scope pos) (some (.Name y py)) spos.line X.env = pure true) (hi : DI X c tg iter ti) (ok : BlkOk X.N X.env.scope scope own)
    (hg : ∀ (s : Shared) (H : Hp) (C : Addr) (cl : List (Str × Addr)) (fp : List Addr), DG (X.blk s H scope (compEnvC scope cl C X.env) fp) tg p) (ht : ∀ (s : Shared) (H : Hp) (C : Addr) (cl : List (Str × Addr)) (fp : List Addr), DTs (X.blk s H scope (compEnvC scope cl C X.env) fp) c ifs tt)
    (he : ∀ (s : Shared) (H : Hp) (C : Addr) (cl : List (Str × Addr)) (fp : List Addr), DE (X.blk s H scope (compEnvC scope cl C X.env) fp) c elt te) (hsub : ∀ j ∈ p.vs, j ∈ own.map (·.2) := by decide) (hs : ∀ x, foldedSetIterable iter X.env x = pure x := by intro _; rfl) :
    DS X c (.Assign [.Name y py] (.ListComp elt [⟨tg, iter, ifs, 0⟩] scope pos) spos) (tdAsg (tdO (toLc ti p tt te (own.map (·.2)))) (.n i)) := by
  refine ps_imp (ps_lcO hc hN hy hyl hsw hi ok hg ht he hsub hs) fun Dn σ H q => ?_
  obtain ⟨O, Hs, ss, En, Ed, A, h, er, g⟩ := q
  refine ⟨O, Hs, ss, _, Ed, A, h, er, fun ds p xs Hs1 H1 x1 n1 n2 h1 h2 q1 => ?_⟩
  have x2 := x1.freeze n1 n2 h1
  exact g.nx _ O _ H1 _ x2.fz ((A.next x2).set (x := .lst ds) ⟨p, xs, rfl, upd_same, h2.same (same_new0 n2)⟩) q1
theorem d_setLcO (hc : X.calm = true) (hN : X.N.Nodup) (hy : X.N[i]? = some y) (hyl : X.env.scope.names.lookup y = some .local)
    (hsw : swapsWith (.ListComp elt [⟨tg, iter, ifs, 0⟩] scope pos) (some (.Name y py)) spos.line X.env = pure true) (hi : DI X c tg iter ti) (ok : BlkOk X.N X.env.scope scope own)
    (hg : ∀ (s : Shared) (H : Hp) (C : Addr) (cl : List (Str × Addr)) (fp : List Addr), DG (X.blk s H scope (compEnvC scope cl C X.env) fp) tg p) (ht : ∀ (s : Shared) (H : Hp) (C : Addr) (cl : List (Str × Addr)) (fp : List Addr), DTs (X.blk s H scope (compEnvC scope cl C X.env) fp) c ifs tt)
    (he : ∀ (s : Shared) (H : Hp) (C : Addr) (cl : List (Str × Addr)) (fp : List Addr), DE (X.blk s H scope (compEnvC scope cl C X.env) fp) c elt te) (hsub : ∀ j ∈ p.vs, j ∈ own.map (·.2) := by decide) (hs : ∀ x, foldedSetIterable iter X.env x = pure x := by intro _; rfl) :
    DS X c (.Assign [.Name y py] (.ListComp elt [⟨tg, iter, ifs, 0⟩] scope pos) spos) (tdSetOwn i (toLc ti p tt te (own.map (·.2)))) := by
  refine ps_imp (ps_lcO hc hN hy hyl hsw hi ok hg ht he hsub hs) fun Dn σ H q => ?_
  obtain ⟨O, Hs, ss, En, Ed, A, h, er, g⟩ := q
  refine ⟨O, Hs, ss, _, Ed, A, h, er, fun ds p xs Hs1 H1 x1 n1 n2 h1 h2 q1 => ?_⟩
  obtain ⟨O', A'⟩ := (A.next x1).own (i := i) A.live (A.fresh n1) n1 n2 h1 h2
  exact g.nx _ O' Hs1 _ _ x1.fz A' (q1 p)
end
/-- x += e -/
def tdAug (i : Nat) (te : TD) (r : RD2) : TSD := fun En ss Ed => match nth ss i with
  | .d x => te ss (fun y => r x y fun z => En.nx (put ss i (.d z))) Ed
  | _ => False
structure IpD (X : Cx) (op : Operator) (r : RD2) : Prop where
  ex : ∃ r0 : TIp, PIp X op r0 ∧ ∀ (Z : Addr → Prop) (Hs H : Hp) (d e : D) (v u : V) (Qd : QD) (Q : VK), Same Hs H → Is X.K Hs d v → Is X.K Hs e u → r d e Qd →
    (∀ x w Hs' H', Ext Z Hs H Hs' H' → Is X.K Hs' x w → Qd x → Q w H') → r0 v u H Q
theorem ipd_add : IpD X .Add (r2i0 fun i j => .int (i + j)) := ⟨_, ip_add, fun Z Hs H d e v u Qd Q s i1 i2 q cn => by
  obtain ⟨i, j, rfl, rfl, q⟩ := r2i0_inv q
  exact ⟨i, j, i1, i2, cn (.int _) _ Hs H (.refl s) rfl q⟩⟩
theorem ipd_sub : IpD X .Sub (r2i0 fun i j => .int (i - j)) := ⟨_, ip_sub, fun Z Hs H d e v u Qd Q s i1 i2 q cn => by
  obtain ⟨i, j, rfl, rfl, q⟩ := r2i0_inv q
  exact ⟨i, j, i1, i2, cn (.int _) _ Hs H (.refl s) rfl q⟩⟩
theorem d_aug {i : Nat} {x : Str} {e : Expr} {op : Operator} {pos pos' : Pos} {te : TD} {r : RD2} (hN : X.N.Nodup) (hi : X.N[i]? = some x) (hx : Loc X.env.scope x) (he : DE X c e te) (ho : IpD X op r) (hf : X.fn x = true ∨ X.env.scope.names.lookup x = some .local := by first | exact .inl rfl | exact .inr rfl | assumption) :
    DS X c (.AugAssign (.Name x pos') op e pos) (tdAug i te r) := by
  obtain ⟨r0, h0, cn⟩ := ho.ex
  refine ps_imp (ps_aug hN hi hx he h0 hf) fun Dn σ H q => ?_
  obtain ⟨O, Hs, ss, En, Ed, A, h, er, g⟩ := q
  have hs := A.sl i
  unfold tdAug at h
  split at h
  · rename_i d hd
    rw [hd] at hs
    obtain ⟨v, e1, i1⟩ := hs
    refine ⟨v, e1, O, Hs, ss, _, Ed, A, h, er, fun y u Hs1 H1 x1 i2 q1 => ?_⟩
    exact cn (Z0 O) Hs1 H1 d y v u _ _ x1.sub (i1.same x1.fz) i2 q1 fun z z' Hs2 H2 x2 i3 q2 => g.nx _ O Hs2 H2 _ (x1.fz.trans x2.fz) (((A.next x1).next x2).set i3) q2
  · exact h.elim
end
end DL
set_option Elab.async false
set_option linter.all false
set_option maxRecDepth 100000
set_option maxHeartbeats 4000000
/-! DK: short words for terms: defs by name, constants -/
namespace DL
open PySem PySem.Spec PyProof.Rows L2
/-- the def of this name keeps this promise -/
structure DefD (P : Program) (w : World) (K : PySem.W.Frag) (mg : Str → Option Value) (base : Heap) (x : Str) (k : Nat) (sp : SpD) : Prop where
  ex : ∃ f fd ps, FnOk P w K mg base (L2.CX P w) k f fd ps (spD K sp) ∧ mg x = some (.ref f) ∧ PySem.W.keepIn K (.ref f) = true ∧ Binds K fd ps []
theorem DefD.mk1 {P : Program} {w : World} {K : PySem.W.Frag} {mg : Str → Option Value} {base : Heap} {x : Str} {st : Stmt} {ps : List Str} {f : Addr} {fd : FuncData} {k : Nat} {sp : SpD} (D : LR.DefAt K mg x st ps f fd) (G : FnOk P w K mg base (L2.CX P w) k f fd ps (spD K sp)) : DefD P w K mg base x k sp :=
  ⟨f, fd, ps, G, D.g, D.F.kp, D.b⟩
theorem DefD.imp {P : Program} {w : World} {K : PySem.W.Frag} {mg : Str → Option Value} {base : Heap} {x : Str} {k : Nat} {sp sp' : SpD} (D : DefD P w K mg base x k sp) (h : ∀ as Qd Ed, sp' as Qd Ed → sp as Qd Ed) : DefD P w K mg base x k sp' := by
  obtain ⟨f, fd, ps, G, r⟩ := D.ex
  exact ⟨f, fd, ps, G.imp fun vs H Q E ⟨Z, Hs, as, Qd, Ed, a, b, d, e, z⟩ => ⟨Z, Hs, as, Qd, Ed, a, b, d, h _ _ _ e, z⟩, r⟩
structure DefF (P : Program) (w : World) (K : PySem.W.Frag) (mg : Str → Option Value) (base : Heap) (x : Str) (k : Nat) (sp : SpF) : Prop where
  ex : ∃ f fd ps, FnOk P w K mg base (L2.CX P w) k f fd ps (spF K sp) ∧ mg x = some (.ref f) ∧ PySem.W.keepIn K (.ref f) = true ∧ Binds K fd ps []
theorem DefF.mk1 {P : Program} {w : World} {K : PySem.W.Frag} {mg : Str → Option Value} {base : Heap} {x : Str} {st : Stmt} {ps : List Str} {f : Addr} {fd : FuncData} {k : Nat} {sp : SpF} (D : LR.DefAt K mg x st ps f fd) (G : FnOk P w K mg base (L2.CX P w) k f fd ps (spF K sp)) : DefF P w K mg base x k sp :=
  ⟨f, fd, ps, G, D.g, D.F.kp, D.b⟩
theorem DefF.toD {P : Program} {w : World} {K : PySem.W.Frag} {mg : Str → Option Value} {base : Heap} {x : Str} {k : Nat} {sp : SpF} (D : DefF P w K mg base x k sp) : DefD P w K mg base x k (fun as Q Ed => sp as (fun ds => Q (.lst ds)) Ed) := by
  obtain ⟨f, fd, ps, G, r⟩ := D.ex
  exact ⟨f, fd, ps, G.imp fun vs H Q E ⟨Z, Hs, as, Qd, Ed, a, b, d, e, z, y⟩ => ⟨Z, Hs, as, _, Ed, a, b, d, e, fun ds p xs Hs' H' x n1 n2 h1 h2 q => z (.lst ds) _ (upd Hs' p (.lst xs)) H' (x.freeze n1 n2 h1) ⟨p, xs, rfl, upd_same, h2.same (same_new0 n2)⟩ q, y⟩, r⟩
abbrev Er0 : XK := fun _ _ _ => False
theorem pass0D {X : Cx} : Passes (L2.CX X.prog X.w) X Er0 := fun pins σ H s e s' I h => by
  obtain ⟨_, _, _, _, _, _, _, _, _, _, _, _, z⟩ := h
  exact z.elim
section
variable {X : Cx} {c : Cn} {x : Str} {p pos : Pos} {e : Expr} {es : List Expr} {t : TAD} {k : Nat} {sp : SpD}
/-- a call that raises nothing -/
def tdCallN (f : SpD) (t : TAD) : TD := fun ss Q Ed => t ss (fun as => f as Q fun _ => False) Ed
theorem d_cN (G : DefD X.prog X.w X.K X.mg X.base x k sp) (hr : Room k X.A) (ha : DAs X c (e :: es) t) (hg : Gl X x := by rfl) (hdb : (x == ("__debug__" : Str)) = false := by decide) (he : starEach (e :: es) X.env = (false, eval e X.env) :: starEach es X.env := by rfl) (hpl : (backTo pos (starEach es X.env)).any (·.1) = false := by rfl) :
    DE X c (.Call (.Name x p) (e :: es) [] pos) (tdCallN sp t) := by
  obtain ⟨f, fd, ps, F, hm, hk, hb⟩ := G.ex
  refine pe_imp (pe_call F hr hg hm hk hb .nil pass0D ha hdb he hpl) fun σ H Q q => ?_
  obtain ⟨O, Hs, ss, Qd, Ed, A, h, er, g⟩ := q
  refine ⟨O, Hs, ss, _, Ed, A, h, er, fun as vs Hs1 H1 e1 i1 q1 => ?_⟩
  have A1 := A.next e1
  show spD X.K sp (vs ++ []) H1 Q Er0
  rw [List.append_nil]
  exact ⟨Z0 O, Hs1, as, Qd, fun _ => False, A1.sub, fun p hp => ⟨A1.fz p (by rw [hp]; exact fun z => nomatch z), A1.live p (by rw [hp]; exact fun z => nomatch z)⟩, i1, q1,
    fun d v Hs2 H2 e2 i2 q2 => g d v Hs2 H2 (e1.trans e2) i2 q2, fun _ _ _ _ z => z.elim⟩
/-- a call that may raise what the body may let out -/
def tdCallE (f : SpD) (t : TAD) : TD := fun ss Q Ed => t ss (fun as => f as Q Ed) Ed
theorem d_cE (G : DefD X.prog X.w X.K X.mg X.base x k sp) (hr : Room k X.A) (b : Bd X c) (ha : DAs X c (e :: es) t) (hg : Gl X x := by rfl) (hdb : (x == ("__debug__" : Str)) = false := by decide) (he : starEach (e :: es) X.env = (false, eval e X.env) :: starEach es X.env := by rfl) (hpl : (backTo pos (starEach es X.env)).any (·.1) = false := by rfl) :
    DE X c (.Call (.Name x p) (e :: es) [] pos) (tdCallE sp t) := by
  obtain ⟨f, fd, ps, F, hm, hk, hb⟩ := G.ex
  refine pe_imp (pe_call F hr hg hm hk hb .nil b.px ha hdb he hpl) fun σ H Q q => ?_
  obtain ⟨O, Hs, ss, Qd, Ed, A, h, er, g⟩ := q
  refine ⟨O, Hs, ss, _, Ed, A, h, er, fun as vs Hs1 H1 e1 i1 q1 => ?_⟩
  show spD X.K sp (vs ++ []) H1 Q c.E
  rw [List.append_nil]
  exact sp_of (A.next e1) er i1 q1 fun d v Hs2 H2 e2 i2 q2 => g d v Hs2 H2 (e1.trans e2) i2 q2
def toCallN (f : SpF) (t : TAD) : TOD := fun ss Q Ed => t ss (fun as => f as Q fun _ => False) Ed
theorem do_cN {sp : SpF} (G : DefF X.prog X.w X.K X.mg X.base x k sp) (hr : Room k X.A) (ha : DAs X c (e :: es) t) (hg : Gl X x := by rfl) (hdb : (x == ("__debug__" : Str)) = false := by decide) (he : starEach (e :: es) X.env = (false, eval e X.env) :: starEach es X.env := by rfl) (hpl : (backTo pos (starEach es X.env)).any (·.1) = false := by rfl) :
    DO X c (.Call (.Name x p) (e :: es) [] pos) (toCallN sp t) := by
  obtain ⟨f, fd, ps, F, hm, hk, hb⟩ := G.ex
  refine pe_imp (pe_call F hr hg hm hk hb .nil pass0D ha hdb he hpl) fun σ H Q q => ?_
  obtain ⟨O, Hs, ss, Qd, Ed, A, h, er, g⟩ := q
  refine ⟨O, Hs, ss, _, Ed, A, h, er, fun as vs Hs1 H1 e1 i1 q1 => ?_⟩
  have A1 := A.next e1
  have n0 : ∀ p, H1 p = none → H p = none := fun p np => by
    cases z : H p with
    | none => rfl
    | some u => exact absurd np (e1.live p (by rw [z]; exact fun z => nomatch z))
  show spF X.K sp (vs ++ []) H1 Q Er0
  rw [List.append_nil]
  exact ⟨Z0 O, Hs1, as, Qd, fun _ => False, A1.sub, fun p hp => ⟨A1.fz p (by rw [hp]; exact fun z => nomatch z), A1.live p (by rw [hp]; exact fun z => nomatch z)⟩, i1, q1,
    fun ds p xs Hs2 H2 e2 n1 n2 h1 h2 q2 => g ds p xs Hs2 H2 (e1.trans e2) (n0 p n1) n2 h1 h2 q2, fun _ _ _ _ z => z.elim⟩
/-- a constant of the module: an int -/
theorem d_gint {i : Int} {tk : Tok} (hm : X.mg x = some (.int i tk)) (hg : Gl X x := by rfl) (hd : (x == ("__debug__" : Str)) = false := by decide) : DE X c (.Name x pos) (tdC (.int i)) := d_const (v := .int i) (pe_glob hg hm ⟨_, rfl⟩ hd) fun _ => rfl
theorem d_gstr {i : Str} {tk : Tok} (hm : X.mg x = some (.str i tk)) (hg : Gl X x := by rfl) (hd : (x == ("__debug__" : Str)) = false := by decide) : DE X c (.Name x pos) (tdC (.str i)) := d_const (v := .str i) (pe_glob hg hm ⟨_, rfl⟩ hd) fun _ => rfl
end
/-! ### repr, where nothing is being shown -/
section
variable {X : Cx}
/-- bools, and lists and tuples -/
def rReprD : List D → QD → Prop := fun ds Q => match ds with
  | [.bl b] => Q (.str (if b then "True" else "False"))
  | [.lst xs] => ∃ d, py (.lst xs) = some d ∧ LG.Fine d ∧ Q (.str d.shown)
  | [.tup xs] => ∃ d, py (.tup xs) = some d ∧ LG.Fine d ∧ Q (.str d.shown)
  | _ => False
theorem cr_reprB : CallR X (.builtin "repr") (fun vs H Q => ∃ b, vs = [.bl b] ∧ Q (.str (if b then "True" else "False")) H) := by
  intro pins s σ H vs us Q I r h
  obtain ⟨b, rfl, q⟩ := h
  obtain ⟨u, rfl, ru⟩ := vals1 r
  cases ru
  exact PySem.P.repr_of_bool ⟨.str _, H, I.tok _, ⟨_, rfl⟩, q⟩
theorem cd_repr (g : X.A.guards = some []) (hu : X.A.units + 64 < cLine) : CallD X (.builtin "repr") rReprD := ⟨_, call_or cr_reprB (LG.cr_repr g hu), fun Z Hs H ds vs Qd Q s i q cn => by
  unfold rReprD at q
  split at q
  · obtain ⟨v, e, h1⟩ := isA1 i
    cases h1
    exact .inl ⟨_, e, cn (.str _) _ Hs H (.refl s) rfl q⟩
  · obtain ⟨v, e, h1⟩ := isA1 i
    obtain ⟨d, hd, hf, q⟩ := q
    have hp := py_dp (h1.same s) hd
    obtain ⟨a, xs, e2, _⟩ := h1
    subst e2
    exact .inr ⟨a, d, e, hp, hf, cn (.str _) _ Hs H (.refl s) rfl q⟩
  · obtain ⟨v, e, h1⟩ := isA1 i
    obtain ⟨d, hd, hf, q⟩ := q
    have hp := py_dp (h1.same s) hd
    obtain ⟨a, xs, e2, _⟩ := h1
    subst e2
    exact .inr ⟨a, d, e, hp, hf, cn (.str _) _ Hs H (.refl s) rfl q⟩
  · exact q.elim⟩
end
/-! ### the pool -/
section
variable {P : Program} {w : World} {K : PySem.W.Frag} {mg : Str → Option Value} {base : Heap}
/-- _law_draw(pool, many), many above 0: any number below it -/
def sdDraw : SpD := fun as Q _ => match as with
  | [.pool, .d (.int m)] => (0 < m ∧ m.natAbs < 2 ^ 200) ∧ ∀ d : Int, 0 ≤ d → d < m → Q (.int d)
  | _ => False
end
section
variable {X : Cx} {c : Cn}
theorem d_par2 {i j : Nat} {x y : Str} {a b : Expr} {ta tb : TD} {px py pt pos : Pos} {kt k2 pt2} (hc : X.calm = true) (hN : X.N.Nodup) (hi : X.N[i]? = some x) (hj : X.N[j]? = some y) (hij : i ≠ j) (hx : X.env.scope.names.lookup x = some .local) (hy : X.env.scope.names.lookup y = some .local)
    (ha : DE X c a ta) (hb : DE X c b tb) (hw : swappedStores [.Tuple [.Name x px, .Name y py] kt pt] (.Tuple [a, b] k2 pt2) X.env = pure (some [x, y]) := by rfl) (hs : swapsWithSole [.Tuple [.Name x px, .Name y py] kt pt] (.Tuple [a, b] k2 pt2) pos.line X.env = pure false := by rfl)
    (h1 : starEach [a, b] X.env = (false, eval a X.env) :: starEach [b] X.env := by rfl) (h2 : starEach [b] X.env = (false, eval b X.env) :: starEach [] X.env := by rfl) : DS X c (.Assign [.Tuple [.Name x px, .Name y py] kt pt] (.Tuple [a, b] k2 pt2) pos) (tdPar i j ta tb) :=
  d_par hc hN hi hj hij hx hy ha hb (ps_par hc hN hi hj hij hx hy (pa_cons ha (pa_cons hb pa_nil h2) h1) hw hs)
theorem d_append {n : Str} {e : Expr} {np apos pos pos' : Pos} {i : Nat} {te : TD} (hx : PE X (.Name n np) (tVar i)) (he : DE X c e te) (hs1 : starEach [e] X.env = (false, eval e X.env) :: starEach [] X.env := by rfl)
    (hline : (apos.endLine == pos.line) = true := by rfl) (hfew : ((backTo pos (starEach [e] X.env)).all (fun x => !x.1) && (backToKw pos (keywordEach [] X.env)).all (fun x => x.1.isSome) && decide ([e].length + ([] : List Keyword).length + (if ([] : List Keyword).isEmpty then 0 else 1) < 30)) = true := by rfl) (hpl : (backTo pos (starEach [] X.env)).any (·.1) = false := by rfl)
    (hs : swapsWith (.Call (.Attribute (.Name n np) "append" apos) [e] [] pos) none pos'.line X.env = pure false := by rfl) : DS X c (.Expr (.Call (.Attribute (.Name n np) "append" apos) [e] [] pos) pos') (tdApp i te) :=
  d_app hx he (pe_bm PySem.F.plainAttrs_list PySem.F.slot_list_append PySem.F.type_list_append mt_append hx (pa_cons he pa_nil hs1) rfl hfew hline hs1 hpl) hs
end
/-! ### readings -/
theorem ifD {p A B : Prop} [Decidable p] (h1 : p → A) (h2 : ¬ p → B) : if decide p = true then A else B := by
  by_cases h : p
  · rw [if_pos (decide_eq_true h)]; exact h1 h
  · rw [if_neg (by simpa using h)]; exact h2 h
theorem ifN {p A B : Prop} [Decidable p] (h1 : ¬ p → A) (h2 : p → B) : if (!decide p) = true then A else B := by
  by_cases h : p
  · rw [if_neg (by simpa using h)]; exact h2 h
  · rw [if_pos (by simpa using h)]; exact h1 h
theorem ifB {b : Bool} {A B : Prop} (h1 : b = true → A) (h2 : b = false → B) : if b = true then A else B := by
  cases b
  · exact h2 rfl
  · exact h1 rfl
end DL
set_option Elab.async false
set_option linter.all false
set_option maxRecDepth 100000
set_option maxHeartbeats 4000000
/-! DQ: defs with keyword-only parameters -/
namespace DL
open PySem PySem.Spec PyProof.Rows L2
/-- n positional parameters, the keyword-only ones ks with the defaults ds -/
structure DefK (P : Program) (w : World) (K : PySem.W.Frag) (mg : Str → Option Value) (base : Heap) (x : Str) (k n : Nat) (ks : List Str) (ds : List D) (sp : SpD) : Prop where
  ex : ∃ f fd ps dus dvs, FnOk P w K mg base (L2.CX P w) k f fd ps (spD K sp) ∧ mg x = some (.ref f) ∧ PySem.W.keepIn K (.ref f) = true ∧ Binds K fd ps dus ∧ Vals dvs dus ∧ (∀ H, IsA K H ds dvs) ∧ KBn K fd ps n ks (fun us ws => us ++ ws) (fun vs zs => vs ++ zs)
theorem ArgIs.app2 {K Z Hs H} : ∀ {as bs : List Sl} {vs ws : List V}, ArgIs K Z Hs H as vs → ArgIs K Z Hs H bs ws → ArgIs K Z Hs H (as ++ bs) (vs ++ ws)
  | [], _, _, _, h, g => by cases h; exact g
  | .d _ :: _, _, _, _, ⟨v, ws', e1, h1, h3⟩, g => by subst e1; exact ⟨v, _, rfl, h1, h3.app2 g⟩
  | .pool :: _, _, _, _, ⟨p, ws', e1, h1, h3, h4⟩, g => by subst e1; exact ⟨p, _, rfl, h1, h3, h4.app2 g⟩
  | .un :: _, _, _, _, h, _ => h.elim
  | .own _ _ :: _, _, _, _, h, _ => h.elim
  | .mu _ _ :: _, _, _, _, h, _ => h.elim
section
variable {X : Cx} {c : Cn} {x : Str} {p pos kpos : Pos} {e : Expr} {es : List Expr} {kws : List Keyword} {t tk : TAD} {te : TD} {k n : Nat} {ks : List Str} {ds : List D} {sp : SpD} {nm : Option Str}
/-- a call that leaves the keyword-only parameters to their defaults -/
theorem d_cD (G : DefK X.prog X.w X.K X.mg X.base x k n ks ds sp) (hr : Room k X.A) (ha : DAs X c (e :: es) t) (hg : Gl X x := by rfl) (hdb : (x == ("__debug__" : Str)) = false := by decide) (he : starEach (e :: es) X.env = (false, eval e X.env) :: starEach es X.env := by rfl) (hpl : (backTo pos (starEach es X.env)).any (·.1) = false := by rfl) :
    DE X c (.Call (.Name x p) (e :: es) [] pos) (tdCallN (fun as => sp (as ++ dats ds)) t) := by
  obtain ⟨f, fd, ps, dus, dvs, F, hm, hk, hb, hd, hds, _⟩ := G.ex
  refine pe_imp (pe_call F hr hg hm hk hb hd pass0D ha hdb he hpl) fun σ H Q q => ?_
  obtain ⟨O, Hs, ss, Qd, Ed, A, h, er, g⟩ := q
  refine ⟨O, Hs, ss, _, Ed, A, h, er, fun as vs Hs1 H1 e1 i1 q1 => ?_⟩
  have A1 := A.next e1
  exact ⟨Z0 O, Hs1, _, Qd, fun _ => False, A1.sub, fun p hp => ⟨A1.fz p (by rw [hp]; exact fun z => nomatch z), A1.live p (by rw [hp]; exact fun z => nomatch z)⟩, i1.app (hds Hs1), q1,
    fun d v Hs2 H2 e2 i2 q2 => g d v Hs2 H2 (e1.trans e2) i2 q2, fun _ _ _ _ z => z.elim⟩
theorem d_cDE (G : DefK X.prog X.w X.K X.mg X.base x k n ks ds sp) (hr : Room k X.A) (b : Bd X c) (ha : DAs X c (e :: es) t) (hg : Gl X x := by rfl) (hdb : (x == ("__debug__" : Str)) = false := by decide) (he : starEach (e :: es) X.env = (false, eval e X.env) :: starEach es X.env := by rfl) (hpl : (backTo pos (starEach es X.env)).any (·.1) = false := by rfl) :
    DE X c (.Call (.Name x p) (e :: es) [] pos) (tdCallE (fun as => sp (as ++ dats ds)) t) := by
  obtain ⟨f, fd, ps, dus, dvs, F, hm, hk, hb, hd, hds, _⟩ := G.ex
  refine pe_imp (pe_call F hr hg hm hk hb hd b.px ha hdb he hpl) fun σ H Q q => ?_
  obtain ⟨O, Hs, ss, Qd, Ed, A, h, er, g⟩ := q
  refine ⟨O, Hs, ss, _, Ed, A, h, er, fun as vs Hs1 H1 e1 i1 q1 => ?_⟩
  exact sp_of (A.next e1) er (i1.app (hds Hs1)) q1 fun d v Hs2 H2 e2 i2 q2 => g d v Hs2 H2 (e1.trans e2) i2 q2
abbrev DKs (X : Cx) (c : Cn) (kws : List Keyword) (t : TAD) : Prop := PK X kws (liftA c X.K t)
theorem pk_imp {kws : List Keyword} {t t' : TA} (h : PK X kws t) (f : ∀ σ H Q, t' σ H Q → t σ H Q) : PK X kws t' := ⟨fun po pins s σ H Q I q => h.run po pins s σ H Q I (f _ _ _ q)⟩
theorem dk_nil : DKs X c [] tdNil := by
  refine pk_imp pk_nil fun σ H Q q => ?_
  obtain ⟨O, Hs, ss, Qd, Ed, A, h, er, g⟩ := q
  exact g [] [] Hs H (.refl A.sub) rfl h
theorem dk_cons (ha : DE X c e te) (hr : DKs X c kws t) : DKs X c (⟨nm, e, kpos⟩ :: kws) (tdCons te t) := by
  refine pk_imp (pk_cons ha hr) fun σ H Q q => ?_
  obtain ⟨O, Hs, ss, Qd, Ed, A, h, er, g⟩ := q
  refine ⟨O, Hs, ss, _, Ed, A, h, er, fun d v Hs1 H1 e1 i1 q1 => ?_⟩
  exact ⟨O, Hs1, ss, _, Ed, A.next e1, q1, er, fun as vs Hs2 H2 e2 i2 q2 => g (.d d :: as) (v :: vs) Hs2 H2 (e1.trans e2) ⟨v, vs, rfl, i1.same e2.fz, i2⟩ q2⟩
def tdCallK (n m : Nat) (f : SpD) (t tk : TAD) : TD := fun ss Q Ed => t ss (fun as => tk ss (fun bs => as.length = n ∧ bs.length = m ∧ f (as ++ bs) Q fun _ => False) Ed) Ed
def tdCallKE (n m : Nat) (f : SpD) (t tk : TAD) : TD := fun ss Q Ed => t ss (fun as => tk ss (fun bs => as.length = n ∧ bs.length = m ∧ f (as ++ bs) Q Ed) Ed) Ed
/-- f(e, .., k = v, ..) -/
theorem d_cK (G : DefK X.prog X.w X.K X.mg X.base x k n ks ds sp) (hr : Room k X.A) (ha : DAs X c (e :: es) t) (hkw : DKs X c kws tk) (hg : Gl X x := by rfl) (hall : (backToKw pos (keywordEach kws X.env)).all (·.1.isSome) = true := by rfl) (hks : (backToKw pos (keywordEach kws X.env)).filterMap (·.1) = ks := by rfl)
    (hdb : (x == ("__debug__" : Str)) = false := by decide) (he : starEach (e :: es) X.env = (false, eval e X.env) :: starEach es X.env := by rfl)
    (hpl : ((backTo pos (starEach (e :: es) X.env)).any (·.1) || (backToKw pos (keywordEach kws X.env)).any (·.1.isNone)) = false := by rfl) :
    DE X c (.Call (.Name x p) (e :: es) kws pos) (tdCallK n ks.length sp t tk) := by
  obtain ⟨f, fd, ps, dus, dvs, F, hm, hk, _, _, _, hb⟩ := G.ex
  refine pe_imp (pe_callN F hr hg hm hk hb pass0D ha hkw hall hks hdb he hpl) fun σ H Q q => ?_
  obtain ⟨O, Hs, ss, Qd, Ed, A, h, er, g⟩ := q
  refine ⟨O, Hs, ss, _, Ed, A, h, er, fun as vs Hs1 H1 e1 i1 q1 => ?_⟩
  refine ⟨O, Hs1, ss, _, Ed, A.next e1, q1, er, fun bs zs Hs2 H2 e2 i2 q2 => ?_⟩
  obtain ⟨l1, l2, q2⟩ := q2
  have A2 := (A.next e1).next e2
  exact ⟨i1.len.trans l1, i2.len.trans l2, Z0 O, Hs2, _, Qd, fun _ => False, A2.sub, fun p hp => ⟨A2.fz p (by rw [hp]; exact fun z => nomatch z), A2.live p (by rw [hp]; exact fun z => nomatch z)⟩, (i1.next e2).app2 i2, q2,
    fun d v Hs3 H3 e3 i3 q3 => g d v Hs3 H3 ((e1.trans e2).trans e3) i3 q3, fun _ _ _ _ z => z.elim⟩
theorem d_cKE (G : DefK X.prog X.w X.K X.mg X.base x k n ks ds sp) (hr : Room k X.A) (b : Bd X c) (ha : DAs X c (e :: es) t) (hkw : DKs X c kws tk) (hg : Gl X x := by rfl) (hall : (backToKw pos (keywordEach kws X.env)).all (·.1.isSome) = true := by rfl) (hks : (backToKw pos (keywordEach kws X.env)).filterMap (·.1) = ks := by rfl)
    (hdb : (x == ("__debug__" : Str)) = false := by decide) (he : starEach (e :: es) X.env = (false, eval e X.env) :: starEach es X.env := by rfl)
    (hpl : ((backTo pos (starEach (e :: es) X.env)).any (·.1) || (backToKw pos (keywordEach kws X.env)).any (·.1.isNone)) = false := by rfl) :
    DE X c (.Call (.Name x p) (e :: es) kws pos) (tdCallKE n ks.length sp t tk) := by
  obtain ⟨f, fd, ps, dus, dvs, F, hm, hk, _, _, _, hb⟩ := G.ex
  refine pe_imp (pe_callN F hr hg hm hk hb b.px ha hkw hall hks hdb he hpl) fun σ H Q q => ?_
  obtain ⟨O, Hs, ss, Qd, Ed, A, h, er, g⟩ := q
  refine ⟨O, Hs, ss, _, Ed, A, h, er, fun as vs Hs1 H1 e1 i1 q1 => ?_⟩
  refine ⟨O, Hs1, ss, _, Ed, A.next e1, q1, er, fun bs zs Hs2 H2 e2 i2 q2 => ?_⟩
  obtain ⟨l1, l2, q2⟩ := q2
  exact ⟨i1.len.trans l1, i2.len.trans l2, sp_of ((A.next e1).next e2) er ((i1.next e2).app2 i2) q2 fun d v Hs3 H3 e3 i3 q3 => g d v Hs3 H3 ((e1.trans e2).trans e3) i3 q3⟩
end
end DL
set_option Elab.async false
set_option linter.all false
set_option maxRecDepth 100000
set_option maxHeartbeats 4000000
/-! SE: set(xs) and sorted(set(xs)), xs a list of ints -/
namespace DL
open PySem PySem.Spec PyProof.Rows L2
abbrev newSet (w : World) : Obj := { cls := .type "set", dict := none, data := .set #[] 0 (.fresh 0 0 (!w.params.followText "set-order")) }
section
variable {P : Program} {w : World} {A : Around} {E : Value → Shared → Prop} {s : Shared} {l : Addr} {items : Array Value} {ns : List Int}
/-- what the set's __init__ leaves -/
def SetMade (w : World) (s : Shared) (ns : List Int) (s2 : Shared) : Prop := ∃ hp tk k, s2 = { s with heap := hp, toks := tk } ∧ SetR w hp s.heap.objs.size (fun j => decide (j ∈ ns)) k ∧ k ≤ ns.length ∧ ∀ b x, s.heap.get? b = some x → hp.get? b = some x
set_option maxHeartbeats 8000000 in
theorem set_init (hh : A.handled = none) (hl : s.heap.IsList l items) (ii : IntsAre items.toList ns) (few : ns.length + 1 < scanBound) :
    codeAny (model P w) A (.call (.builtin "set.__init__") ⟨[.ref s.heap.objs.size, .ref l], []⟩) (wants (fun r s2 => r = .none ∧ SetMade w s ns s2) E) { s with heap := s.heap.push (newSet w) } := by
  have size : items.size = ns.length := by rw [← IntsAre.length ii, Array.length_toList]
  have atS : (s.heap.push (newSet w)).get? s.heap.objs.size = some (newSet w) := Heap.get?_push_size _ rfl
  have sz1 : (s.heap.push (newSet w)).objs.size = s.heap.objs.size + 1 := Heap.size_push ..
  have ty : Shared.TypeIs { s with heap := s.heap.push (newSet w) } (.ref s.heap.objs.size) "set" := ⟨_, atS, rfl⟩
  have ll : l < s.heap.objs.size := by obtain ⟨_, z, _⟩ := hl; exact Heap.lt_size z
  refine codeAny_call_builtin F.called_set.init.plain F.entry_set_init (check_set_init_1 ty ?_)
  obtain ⟨⟨lc, ld, lt, lx⟩, lo, e1, m, e2⟩ := hl
  cases (show lc = Value.type "list" from e1)
  cases (show lt = Data.seq items m from e2)
  have lo2 : (s.heap.push (newSet w)).get? l = some ⟨.type "list", ld, .seq items m, lx⟩ := Heap.get?_push_of_some _ lo
  have il : (s.heap.push (newSet w)).IsList l items := ⟨_, lo2, rfl, m, rfl⟩
  have k1 := F.sub_list_set
  have k2 := F.sub_list_frozenset
  have k3 : (Value.type "list" == Value.type "dict") = false := by decide
  unfold Builtin.«set.__init__» noKeywords Builtin.Frozenset.updateFrom
  generalize hit : pyIter = it
  wp_walk
  subst hit
  refine wpAny_pyIter_list il (wpAny_bind (wpAny_runValue ?_))
  have nI : l ≠ (s.heap.push (newSet w)).objs.size := by rw [sz1]; exact Nat.ne_of_lt (Nat.lt_succ_of_lt ll)
  have nS : s.heap.objs.size ∉ [(s.heap.push (newSet w)).objs.size, l] := by
    rw [sz1]
    intro z
    rcases List.mem_cons.mp z with z | z
    · exact Nat.ne_of_lt (Nat.lt_succ_self _) z
    · exact Nat.ne_of_gt ll (List.mem_singleton.mp z)
  have value : ∀ (i : Nat) (v : Value), items[i]? = some v → ∃ k t, ns[i]? = some k ∧ v = .int k t := fun i v hv => by
    have lt : i < ns.length := by
      rw [← size]
      exact (Array.getElem?_eq_some_iff.mp hv).1
    obtain ⟨t, e⟩ := PyProof.Rows.IntsAre.int_at ii i v (by rw [Array.getElem?_toList]; exact hv)
    rw [List.getD_eq_getElem?_getD, List.getElem?_eq_getElem lt] at e
    exact ⟨ns[i], t, List.getElem?_eq_getElem lt, e⟩
  have start : SetR w ((s.heap.push (newSet w)).push { cls := .type "list_iterator", data := .fields #[.ref l, .int 0 0] }) s.heap.objs.size (fun j => decide (j ∈ ns.take 0)) 0 := setR_new_at (Heap.get?_push_of_some _ atS)
  have nohand : A.in1.in1.handled = none := by simp [hh]
  have WL := (Walks.list (prog := P) (w := w) nohand _ l nI items).toS
  refine set_update_ints (P := P) (w := w) WL s.heap.objs.size nS ns size few value (items.size - 0) 0 _ (by omega) (Nat.zero_le _) ?_ ?_ ?_
  · exact ⟨⟨_, Heap.get?_push_size _ rfl, rfl, rfl⟩, il.push _⟩
  · exact ⟨0, Nat.le_refl 0, start⟩
  intro s2 k mv hk hS
  obtain ⟨hp, g2, d2, tk, o2⟩ := s2
  cases (show g2 = s.gens from mv.gens)
  cases (show d2 = s.drawn from mv.drawn)
  cases (show o2 = s.os from mv.os)
  show wpAny _ _ _ _ _ _
  refine wpAny_pure ?_
  show wpAny _ _ (ret Value.none) _ _ _
  refine wpAny_pure ⟨rfl, hp, tk, k, rfl, hS, by rw [← size]; exact hk, fun b x e => ?_⟩
  have lb := Heap.lt_size e
  refine mv.heap b x (fun z => ?_) (Heap.get?_push_of_some _ (Heap.get?_push_of_some _ e))
  rcases List.mem_cons.mp z with z | z
  · exact Nat.ne_of_lt lb z
  · have z2 := List.mem_singleton.mp z
    rw [sz1] at z2
    exact Nat.ne_of_lt (Nat.lt_succ_of_lt lb) z2
set_option maxHeartbeats 8000000 in
theorem call_setL {Q : Value → Shared → Prop} (hh : A.handled = none) (hl : s.heap.IsList l items) (ii : IntsAre items.toList ns) (few : ns.length + 1 < scanBound) (hq : ∀ s2, SetMade w s ns s2 → Q (.ref s.heap.objs.size) s2) : wpAny (model P w) A (call (.type "set") [.ref l]) Q E s := by
  obtain ⟨bs, rest, mro⟩ := F.called_set.mro
  have c1 := F.called_set.made
  have c2 := F.called_set.sub
  have c3 := F.called_set.notType
  have c4 := F.called_set.canCreate
  have c5 := F.typeCall_set_1 (.ref l)
  refine wpAny_call (codeAny_of_tree ?_)
  show wpAny _ _ (callAny (.type "set") _) _ _ _
  refine wpAny_pure (And.intro (Code.quiet_builtin _ (by decide +kernel)) (codeAny_builtin F.entry_type_call ?_))
  rw [Around.under_plain (weight_type_call_type "set" [.ref l] []) rfl]
  repeat (any_goals (first | assumption | wp_step))
  refine codeAny_mono (code_set_led1 (.ref l) (E := E) (Q₁ := fun ob s1 => ob = .ref s.heap.objs.size ∧ s1 = { s with heap := s.heap.push (newSet w) }) ⟨rfl, rfl⟩) fun r s1 hr => ?_
  rcases r with e | fl
  · exact hr
  cases fl <;> first | exact hr.elim | skip
  obtain ⟨rfl, rfl⟩ := hr
  have ty : Shared.TypeIs { s with heap := s.heap.push (newSet w) } (.ref s.heap.objs.size) "set" := ⟨_, Heap.get?_push_size _ rfl, rfl⟩
  have i1 := F.called_set.init.lookup
  have i2 := F.called_set.init.bind (.ref s.heap.objs.size)
  repeat (any_goals (first | assumption | wp_step))
  refine codeAny_mono (set_init (E := E) (by simpa using hh) hl ii few) fun r s2 hr => ?_
  rcases r with e | fl
  · exact hr
  cases fl <;> first | exact hr.elim | skip
  obtain ⟨rfl, hr⟩ := hr
  have hr2 := hr
  obtain ⟨hp, tk, k, rfl, _⟩ := hr2
  repeat (any_goals (first | assumption | wp_step))
  exact hq _ hr
end
section
variable {X : Cx} {c : Cn}
theorem cr_setL (hc : X.calm = true) : CallR X (.type "set") (fun vs H Q => ∃ (l : Addr) (ns : List Int), vs = [V.ref l] ∧ SqL X.K H l (ns.map V.int) ∧ ns.length ≤ 1000 ∧
    ∀ (p : Addr) (ks : List Int), H p = none → ks.Nodup → (∀ j, j ∈ ks ↔ j ∈ ns) → Q (.ref p) (upd H p (SetO X.w p (fun j => decide (j ∈ ns)) ks.length))) := by
  intro pins s σ H vs us Q I r h
  obtain ⟨l, ns, rfl, hq, few, q⟩ := h
  rw [Vals.ref1 r]
  obtain ⟨its, rv, lp, _⟩ := I.list hq
  refine call_setL (ns := ns) (I.ok.hd hc) lp.isList (ints_of_vals rv) (by unfold scanBound; omega) fun s2 ⟨hp, tk, k, e, R, _, kp⟩ => ?_
  subst e
  have R2 := R
  obtain ⟨o, es, ep, t, _, _, _, _, nd, mem, _, _, sz, _, _⟩ := R2
  have free := I.hok.fresh (Nat.le_refl s.heap.objs.size)
  have hl : (es.toList.map keyOf).length = k := by rw [List.length_map, Array.length_toList]; exact sz
  refine ⟨.ref _, upd H s.heap.objs.size (SetO X.w s.heap.objs.size (fun j => decide (j ∈ ns)) k), I.laid kp (Nat.le_refl _) (setO_new R), rfl, ?_⟩
  rw [← hl]
  exact q _ _ free nd fun j => by rw [← mem j, decide_eq_true_eq]
/-- sorted(set(xs)): fewer than 64 different ints -/
def tdSortSet (te : TD) : TD := fun ss Q Ed => te ss (fun x => match x with
  | .lst ds => ∃ ns, intL ds = some ns ∧ ns.length ≤ 1000 ∧ (∀ ks : List Int, ks.Nodup → (∀ j, j ∈ ks ↔ j ∈ ns) → ks.length < 64) ∧ ∀ ks : List Int, ks.Pairwise (· < ·) → (∀ j, j ∈ ks ↔ j ∈ ns) → Q (.lst (ks.map .int))
  | _ => False) Ed
theorem isA_ints {K H} : ∀ ks : List Int, IsA K H (ks.map D.int) (ks.map V.int)
  | [] => rfl
  | k :: ks => ⟨.int k, ks.map V.int, rfl, rfl, isA_ints ks⟩
theorem d_sortSet {p p2 pos pos2 : Pos} {a : Expr} {te : TD} (hc : X.calm = true) (m1 : X.mg "sorted" = none) (m2 : X.mg "set" = none) (ha : DE X c a te) (g1 : Gl X "sorted" := by rfl) (g2 : Gl X "set" := by rfl)
    (h1 : starEach [a] X.env = (false, eval a X.env) :: starEach [] X.env := by rfl) (h2 : starEach [.Call (.Name "set" p2) [a] [] pos2] X.env = (false, eval (.Call (.Name "set" p2) [a] [] pos2) X.env) :: starEach [] X.env := by rfl)
    (h3 : (backTo pos (starEach [] X.env)).any (·.1) = false := by rfl) (h4 : (backTo pos2 (starEach [] X.env)).any (·.1) = false := by rfl) : DE X c (.Call (.Name "sorted" p) [.Call (.Name "set" p2) [a] [] pos2] [] pos) (tdSortSet te) := by
  refine pe_imp (pe_callB (cr_sortedSet hc) g1 m1 (by decide +kernel) (pa_cons (pe_callTy (cr_setL hc) g2 m2 (by decide +kernel) (pa_cons ha pa_nil h1) (by decide) (by decide) h1 h4) pa_nil h2) (by decide) (by decide) h2 h3) fun σ H Q q => ?_
  obtain ⟨O, Hs, ss, Qd, Ed, A, h, er, g⟩ := q
  refine ⟨O, Hs, ss, _, Ed, A, h, er, fun d v Hs1 H1 e1 i1 q1 => ?_⟩
  split at q1
  · rename_i ds
    obtain ⟨ns, hi, few, lt, q1⟩ := q1
    obtain ⟨l, xs, rfl, hl, ia⟩ := i1
    have ex := intL_is ia hi
    subst ex
    refine ⟨l, ns, rfl, .of (e1.sub _ _ hl), few, fun a ks na nd mem => ?_⟩
    refine ⟨a, _, _, rfl, upd_same, lt ks nd mem, fun ks2 b pw mem2 _ nb => ?_⟩
    have x2 : Ext (Z0 O) Hs1 H1 Hs1 (upd H1 a (SetO X.w a (fun j => decide (j ∈ ns)) ks.length)) := .grow e1.sub na
    have x3 := Ext.laid (Z := Z0 O) (o := .lst (ks2.map V.int)) x2.sub nb
    refine g _ _ _ _ ((e1.trans x2).trans x3) ?_ (q1 ks2 pw fun j => by rw [mem2 j, decide_eq_true_eq])
    exact ⟨b, _, rfl, upd_same, isA_ints ks2⟩
  · exact q1.elim
end
end DL
set_option Elab.async false
set_option linter.all false
set_option maxRecDepth 100000
set_option maxHeartbeats 4000000
/-! DR: readings of common shapes -/
namespace DL
open PySem PySem.Spec PyProof.Rows L2
/-- [.. for .. in items if ..], each item giving the list g of it (none or one) -/
theorem lc_by {items : List D} (g : D → List D) {p : Pat} {vs : List Nat} {ss : List Sl} {tt : TTD} {te : TD} {Ed : QE} {Q : List D → Prop} (small : items.length ≤ 1000)
    (turn : ∀ d, d ∈ items → ∀ (acc : List D) (J : List D → Prop), J (acc ++ g d) → p.gd d (wipeD ss vs) fun ss2 => tt ss2 (fun b => if b = true then te ss2 (fun y => J (acc ++ [y])) Ed else J acc) Ed) (fin : Q (items.flatMap g)) :
    items.length < sizeLine ∧ ∃ I : Nat → List D → Prop, I 0 [] ∧
  (∀ i d acc, items[i]? = some d → I i acc → p.gd d (wipeD ss vs) fun ss2 => tt ss2 (fun b => if b = true then te ss2 (fun y => I (i + 1) (acc ++ [y])) Ed else I (i + 1) acc) Ed) ∧ ∀ acc, I items.length acc → Q acc := by
  refine ⟨small1000 small, fun i acc => acc = (items.take i).flatMap g, rfl, fun i d acc hd e => ?_, fun acc e => ?_⟩
  · subst e
    exact turn d (List.mem_of_getElem? hd) _ (fun acc => acc = (items.take (i + 1)).flatMap g) (by
      show _ = _
      rw [List.take_add_one, hd]
      simp)
  · rw [e, List.take_length]
    exact fin
def onInt (f : Int → List D) : D → List D
  | .int x => f x
  | _ => []
theorem rng_flat {lo : Int} {n : Nat} (f : Int → Bool) : (rngD lo n).flatMap (onInt fun x => if f x = true then [D.int x] else []) = (((List.range n).map fun k : Nat => lo + (k : Int)).filter f).map D.int := by
  unfold rngD
  induction List.range n with
  | nil => rfl
  | cons k ks ih =>
    rw [List.map_cons, List.flatMap_cons, ih, List.map_cons]
    show (if f (lo + (k : Int)) = true then [D.int (lo + (k : Int))] else []) ++ _ = _
    by_cases h : f (lo + (k : Int)) = true
    · rw [if_pos h, List.filter_cons_of_pos h]; rfl
    · rw [if_neg h, List.filter_cons_of_neg h]; rfl
theorem rng_map {lo : Int} {n : Nat} (f : Int → D) : (rngD lo n).flatMap (onInt fun x => [f x]) = (List.range n).map fun k : Nat => f (lo + (k : Int)) := by
  unfold rngD
  induction List.range n with
  | nil => rfl
  | cons k ks ih => rw [List.map_cons, List.flatMap_cons, ih, List.map_cons]; rfl
theorem ints_map {ks : List Int} (f : Int → D) : (ks.map D.int).flatMap (onInt fun x => [f x]) = ks.map f := by
  induction ks with
  | nil => rfl
  | cons k ks ih => rw [List.map_cons, List.flatMap_cons, ih, List.map_cons]; rfl
theorem rng_mem {lo : Int} {n : Nat} {d : D} (h : d ∈ rngD lo n) : ∃ k : Nat, k < n ∧ d = .int (lo + (k : Int)) := by
  obtain ⟨i, e⟩ := List.getElem?_of_mem h
  obtain ⟨a, b⟩ := rngD_get e
  exact ⟨i, a, b⟩
theorem ints_mem {ks : List Int} {d : D} (h : d ∈ ks.map D.int) : ∃ k, k ∈ ks ∧ d = .int k := by
  obtain ⟨k, a, b⟩ := List.mem_map.mp h
  exact ⟨k, a, b.symm⟩
/-! ### == of data -/
/-- data of ints, bools, texts, None in lists and tuples, not deeper than n -/
def shD : Nat → D → Bool
  | _, .non => true
  | _, .bl _ => true
  | _, .int _ => true
  | _, .str x => PyData.canLay0 (.str x)
  | n + 1, .lst ds => ds.all (shD n)
  | n + 1, .tup ds => ds.all (shD n)
  | _, _ => false
mutual
def eqD : D → D → Bool
  | .non, .non => true
  | .bl a, .bl b => a == b
  | .bl a, .int j => (if a then 1 else 0) == j
  | .int i, .bl b => i == (if b then 1 else 0)
  | .int i, .int j => i == j
  | .str x, .str y => x == y
  | .lst xs, .lst ys => eqDA xs ys
  | .tup xs, .tup ys => eqDA xs ys
  | _, _ => false
def eqDA : List D → List D → Bool
  | [], [] => true
  | x :: xs, y :: ys => eqD x y && eqDA xs ys
  | _, _ => false
end
theorem pyA_len : ∀ {ds : List D} {es : List PyData}, pyA ds = some es → es.length = ds.length
  | [], _, h => by simp only [pyA, Option.some.injEq] at h; subst h; rfl
  | d :: ds, _, h => by
    simp only [pyA] at h
    split at h
    · rename_i q1 q2
      cases h
      exact congrArg Nat.succ (pyA_len q2)
    · cases h
theorem shD_py : ∀ (n : Nat) (d : D), shD n d = true → ∃ e, py d = some e ∧ PyData.canLay0 e = true ∧ PyData.depth e ≤ n := by
  have lst : ∀ (n : Nat), (∀ d : D, shD n d = true → ∃ e, py d = some e ∧ PyData.canLay0 e = true ∧ PyData.depth e ≤ n) → ∀ ds : List D, ds.all (shD n) = true → ∃ es, pyA ds = some es ∧ PyData.canLayAll0 es = true ∧ PyData.depthAll es ≤ n := by
    intro n ih ds
    induction ds with
    | nil => exact fun _ => ⟨[], rfl, rfl, Nat.zero_le _⟩
    | cons d ds id =>
      intro h
      rw [List.all_cons, Bool.and_eq_true] at h
      obtain ⟨e, h1, h2, h3⟩ := ih d h.1
      obtain ⟨es, h4, h5, h6⟩ := id h.2
      refine ⟨e :: es, ?_, ?_, ?_⟩
      · simp only [pyA, h1, h4]
      · simp only [PyData.canLayAll0, h2, h5, Bool.and_self]
      · simp only [PyData.depthAll]; omega
  intro n
  induction n with
  | zero =>
    intro d h
    cases d <;> simp only [shD] at h <;> first | (cases h; done) | skip
    · exact ⟨.none, rfl, rfl, Nat.le_refl _⟩
    · exact ⟨.bool _, rfl, rfl, Nat.le_refl _⟩
    · exact ⟨.int _, rfl, rfl, Nat.le_refl _⟩
    · exact ⟨.str _, rfl, h, Nat.le_refl _⟩
  | succ n ih =>
    intro d h
    cases d <;> simp only [shD] at h <;> first | (cases h; done) | skip
    · exact ⟨.none, rfl, rfl, Nat.zero_le _⟩
    · exact ⟨.bool _, rfl, rfl, Nat.zero_le _⟩
    · exact ⟨.int _, rfl, rfl, Nat.zero_le _⟩
    · exact ⟨.str _, rfl, h, Nat.zero_le _⟩
    · obtain ⟨es, h1, h2, h3⟩ := lst n ih _ h
      exact ⟨.list es, by simp only [py, h1, Option.map_some], by simp only [PyData.canLay0, h2], by simp only [PyData.depth]; omega⟩
    · obtain ⟨es, h1, h2, h3⟩ := lst n ih _ h
      exact ⟨.tuple es, by simp only [py, h1, Option.map_some], by simp only [PyData.canLay0, h2], by simp only [PyData.depth]; omega⟩
mutual
theorem eqD_py : ∀ {x y : D} {a b : PyData}, py x = some a → py y = some b → PyData.eqv a b = eqD x y
  | .non, y, _, b, h, k => by
    simp only [py, Option.some.injEq] at h; subst h
    cases y <;> simp only [py, Option.some.injEq, Option.map_eq_some_iff, reduceCtorEq] at k <;> first | (subst k; rfl) | (obtain ⟨_, _, rfl⟩ := k; rfl)
  | .bl _, y, _, b, h, k => by
    simp only [py, Option.some.injEq] at h; subst h
    cases y <;> simp only [py, Option.some.injEq, Option.map_eq_some_iff, reduceCtorEq] at k <;> first | (subst k; simp only [PyData.eqv, eqD]) | (obtain ⟨_, _, rfl⟩ := k; rfl)
  | .int _, y, _, b, h, k => by
    simp only [py, Option.some.injEq] at h; subst h
    cases y <;> simp only [py, Option.some.injEq, Option.map_eq_some_iff, reduceCtorEq] at k <;> first | (subst k; simp only [PyData.eqv, eqD]) | (obtain ⟨_, _, rfl⟩ := k; rfl)
  | .str _, y, _, b, h, k => by
    simp only [py, Option.some.injEq] at h; subst h
    cases y <;> simp only [py, Option.some.injEq, Option.map_eq_some_iff, reduceCtorEq] at k <;> first | (subst k; simp only [PyData.eqv, eqD]) | (obtain ⟨_, _, rfl⟩ := k; rfl)
  | .lst xs, y, _, b, h, k => by
    simp only [py, Option.map_eq_some_iff] at h
    obtain ⟨as, ha, rfl⟩ := h
    cases y <;> simp only [py, Option.some.injEq, Option.map_eq_some_iff, reduceCtorEq] at k <;> first | (subst k; rfl) | skip
    · obtain ⟨bs, hb, rfl⟩ := k
      simp only [PyData.eqv, eqD]
      exact eqDA_py ha hb
    · obtain ⟨bs, hb, rfl⟩ := k; rfl
  | .tup xs, y, _, b, h, k => by
    simp only [py, Option.map_eq_some_iff] at h
    obtain ⟨as, ha, rfl⟩ := h
    cases y <;> simp only [py, Option.some.injEq, Option.map_eq_some_iff, reduceCtorEq] at k <;> first | (subst k; rfl) | skip
    · obtain ⟨bs, hb, rfl⟩ := k; rfl
    · obtain ⟨bs, hb, rfl⟩ := k
      simp only [PyData.eqv, eqD]
      exact eqDA_py ha hb
  | .dct _ _, _, _, _, h, _ => by simp [py] at h
  | .dctT _ _, _, _, _, h, _ => by simp [py] at h
  | .tupK _, _, _, _, h, _ => by simp [py] at h
  | .obj _ _ _, _, _, _, h, _ => by simp [py] at h
  | .ty _, _, _, _, h, _ => by simp [py] at h
  | .cls _, _, _, _, h, _ => by simp [py] at h
  | .is _, _, _, _, h, _ => by simp [py] at h
theorem eqDA_py : ∀ {xs ys : List D} {as bs : List PyData}, pyA xs = some as → pyA ys = some bs → PyData.eqvAll as bs = eqDA xs ys
  | [], [], _, _, h, k => by simp only [pyA, Option.some.injEq] at h k; subst h; subst k; rfl
  | [], _ :: _, _, bs, h, k => by
    have := pyA_len k
    simp only [pyA, Option.some.injEq] at h; subst h
    cases bs with
    | nil => cases this
    | cons _ _ => rfl
  | _ :: _, [], as, _, h, k => by
    have := pyA_len h
    simp only [pyA, Option.some.injEq] at k; subst k
    cases as with
    | nil => cases this
    | cons _ _ => rfl
  | x :: xs, y :: ys, _, _, h, k => by
    simp only [pyA] at h k
    split at h
    · rename_i p1 p2
      cases h
      split at k
      · rename_i q1 q2
        cases k
        simp only [PyData.eqvAll, eqDA]
        rw [eqD_py p1 q1, eqDA_py p2 q2]
      · cases k
    · cases h
end
theorem shaped_of {d : D} (h : shD 60 d = true) : ∃ e, py d = some e ∧ SeqAt.shaped e = true := by
  obtain ⟨e, h1, h2, h3⟩ := shD_py 60 d h
  refine ⟨e, h1, ?_⟩
  unfold SeqAt.shaped
  rw [h2, Bool.true_and, decide_eq_true_eq]
  omega
/-- x == y, whichever data these are -/
theorem rEq_by {f : Bool → Bool} {x y : D} {Q : QD} (hx : shD 60 x = true) (hy : shD 60 y = true) (q : Q (.bl (f (eqD x y)))) : rEqD f x y Q := by
  obtain ⟨a, h1, h2⟩ := shaped_of hx
  obtain ⟨b, h3, h4⟩ := shaped_of hy
  have e := eqD_py h1 h3
  have gen : ∃ d e, py x = some d ∧ py y = some e ∧ SeqAt.shaped d = true ∧ SeqAt.shaped e = true ∧ Q (.bl (f (PyData.eqv d e))) := ⟨a, b, h1, h3, h2, h4, by rw [e]; exact q⟩
  unfold rEqD
  split
  · simp only [eqD] at q
    rename_i i j
    rw [show decide (i = j) = (i == j) from rfl]
    exact q
  · simp only [eqD] at q
    rename_i i j
    rw [show decide (i = j) = (i == j) by cases i <;> cases j <;> rfl]
    exact q
  · simp only [eqD] at q
    rename_i i j
    rw [show decide (i = j) = (i == j) by rw [Bool.eq_iff_iff, decide_eq_true_eq, beq_iff_eq]]
    exact q
  · exact gen
theorem sh_ints : ∀ (n : Nat) (ks : List Int), (ks.map D.int).all (shD n) = true
  | _, [] => rfl
  | n, k :: ks => by
    rw [List.map_cons, List.all_cons, sh_ints n ks, Bool.and_true]
    cases n <;> rfl
theorem eq_ints : ∀ (ks js : List Int), eqDA (ks.map D.int) (js.map D.int) = decide (ks = js)
  | [], [] => rfl
  | [], _ :: _ => by simp [eqDA]
  | _ :: _, [] => by simp [eqDA]
  | k :: ks, j :: js => by
    rw [List.map_cons, List.map_cons]
    simp only [eqDA, eqD]
    rw [eq_ints ks js, Bool.eq_iff_iff]
    simp [beq_iff_eq]
/-- two lists of ints -/
theorem rEq_ints {f : Bool → Bool} {ks js : List Int} {Q : QD} (q : Q (.bl (f (decide (ks = js))))) : rEqD f (.lst (ks.map .int)) (.lst (js.map .int)) Q :=
  rEq_by (sh_ints 59 ks) (sh_ints 59 js) (by simp only [eqD]; rw [eq_ints]; exact q)
end DL
set_option Elab.async false
set_option linter.all false
set_option maxRecDepth 100000
set_option maxHeartbeats 4000000
/-! EX: own errors over any base, whose __init__ stores -/
namespace DL
open PySem PySem.Spec PyProof.Rows L2
open PySem.W (excInitIn excOver takerIn hasDictIn)
/-- such a class at C; bm, newId: of its base; fs: what it stores -/
structure XC (K : PySem.W.Frag) (C : Addr) (B newId initId : String) (bm : List Value) (fs : List Str) : Prop where
  q : excInitIn K C bm newId = true
  o : excOver K C bm = true
  d : hasDictIn K C = true
  sa : PySem.W.findIn K (.ref C) "__setattr__" = some (some (.builtin "object.__setattr__"))
  exC : PySem.W.subIn K (.ref C) (.type "BaseException") = some true
  tyC : PySem.W.typeIn K (.ref C) = some (.type "type")
  kC : PySem.W.keepIn K (.ref C) = true
  FB : ExcBaseFacts B newId initId bm
  SF : StoreFacts B bm "object.__setattr__" "object"
  fr : ∀ f ∈ fs, takerIn K C f = some none
section
open Builtin Builtin.ObjectAttr
variable {prog : Program} {w : World} {A : Around} {E : Value → Shared → Prop} {R : Result → Shared → Prop} {K : PySem.W.Frag} {C x : Addr} {B newId initId : String} {bm : List Value} {fs : List Str} {name : Str} {tk : Tok} {v : Value} {fv : Array Value}
variable {hp : Heap} {g : Array GenState} {d : Drawn} {t : Nat} {os : OsState}
/-- the first store -/
theorem sa_first (T : XC K C B newId initId bm fs) (hf : name ∈ fs) (X : K.In hp) (hx : hp.get? x = some { cls := .ref C, data := .fields fv })
    (hq : ∀ h2 t2 dx, (∀ b o, b ≠ x → hp.get? b = some o → h2.get? b = some o) → hp.objs.size ≤ dx → dx ≠ x → h2.get? x = some { cls := .ref C, dict := some dx, data := .fields fv } → h2.Ns1 dx (fun y => if y = name then some v else none) → R (.ok (.ret .none)) ⟨h2, g, d, t2, os⟩) :
    codeAny (model prog w) A (.call (.builtin "object.__setattr__") ⟨[.ref x, .str name tk, v], []⟩) R ⟨hp, g, d, t, os⟩ := by
  refine PySem.W.osa_openX (s := ⟨hp, g, d, t, os⟩) (od := none) T.SF X ⟨hx, rfl, rfl, trivial⟩ T.o (T.fr _ hf) fun b => ?_
  obtain ⟨cd, hc, hh⟩ := PySem.W.any_some T.d
  have nx : x ≠ hp.objs.size := Nat.ne_of_lt (Heap.lt_size hx)
  have cls : PySem.W.Looks (model prog w) hp (classData C) cd := PySem.W.looks_clsIn X hc
  obtain ⟨nm, bs, mro, ns, qn, hd, sn, sb, ab, col, del⟩ := cd
  cases (show hd = true from hh)
  show wpAny _ _ (storeInOwnDict (.ref x) (.ref C) (.str name tk) name v b) _ _ _
  unfold storeInOwnDict ownDictForStores
  repeat (first | with_reducible refine PySem.HandSPX.store_in_new ?_ ?_ | with_reducible refine wpAny_loadPart_at hx ?_ | with_reducible refine cls.at ?_ | wp_step)
  · exact ⟨_, #[], _, (Heap.get?_update_ne _ _ _ _ nx.symm).trans (Heap.get?_push_at rfl rfl), rfl, fun e he => absurd he (by simp), fun _ => rfl⟩
  · intro h2 t2 n2 sb
    refine hq h2 t2 hp.objs.size (fun b o hb ho => ?_) (Nat.le_refl _) nx.symm ?_ n2
    · rw [sb.2 b (Nat.ne_of_lt (Heap.lt_size ho)), Heap.get?_update_ne _ _ _ _ hb]
      exact Heap.get?_push_of_some _ ho
    · rw [sb.2 x nx]
      exact Heap.get?_update_self _ (Heap.get?_push_of_some _ hx) rfl
/-- a further store -/
theorem sa_more {dx : Addr} {m0 : Str → Option Value} {nl : List Str} (T : XC K C B newId initId bm fs) (hf : name ∈ fs) (X : K.In hp) (hx : hp.get? x = some { cls := .ref C, dict := some dx, data := .fields fv }) (hn : hp.Ns1 dx m0) (hw : Within m0 nl) (hz : nl.length ≤ 1000)
    (hq : ∀ h2 t2, (∀ b o, b ≠ dx → hp.get? b = some o → h2.get? b = some o) → h2.Ns1 dx (fun y => if y = name then some v else m0 y) → R (.ok (.ret .none)) ⟨h2, g, d, t2, os⟩) :
    codeAny (model prog w) A (.call (.builtin "object.__setattr__") ⟨[.ref x, .str name tk, v], []⟩) R ⟨hp, g, d, t, os⟩ := by
  obtain ⟨oD, _, _, hD, _, _⟩ := hn.count hw
  refine PySem.W.osa_openX (s := ⟨hp, g, d, t, os⟩) (od := some oD) T.SF X ⟨hx, rfl, rfl, hD⟩ T.o (T.fr _ hf) fun b => ?_
  obtain ⟨cd, hc, hh⟩ := PySem.W.any_some T.d
  have cls : PySem.W.Looks (model prog w) hp (classData C) cd := PySem.W.looks_clsIn X hc
  obtain ⟨nm, bs, mro, ns, qn, hd, sn, sb, ab, col, del⟩ := cd
  cases (show hd = true from hh)
  show wpAny _ _ (storeInOwnDict (.ref x) (.ref C) (.str name tk) name v b) _ _ _
  unfold storeInOwnDict ownDictForStores
  repeat (first | with_reducible refine PySem.OEX.store_in_old hn hw hz ?_ | with_reducible refine wpAny_loadPart_at hx ?_ | with_reducible refine cls.at ?_ | wp_step)
  intro h2 t2 n2 sb
  exact hq h2 t2 (fun b o hb ho => (sb.2 b hb).trans ho) n2
end
section
variable {X : Cx} {pins : List (Addr × Obj)} {σ : L2.St} {H : Hp} {s : Shared} {a C dx : Addr} {f : Str} {y : V} {u : Value} {gs : List (Str × V)} {Q : Unit → Shared → Prop} {E : Value → Shared → Prop} {A : Around} {B newId initId : String} {bm : List Value} {fs : List Str}
theorem put_first (T : XC X.K C B newId initId bm fs) (hf : f ∈ fs) (I : Inv X pins σ H s) (e : H a = some (exo a C none)) (ry : RelV y u)
    (h : ∀ dx s', H dx = none → dx ≠ a → Inv X pins σ (upd (upd H dx (exd dx [(f, y)])) a (exo a C (some dx))) s' → Q () s') : wpAny (model X.prog X.w) A (setAttr (.ref a) f u) Q E s := by
  obtain ⟨t1, ho⟩ := exo_at I.hok e
  obtain ⟨hp, g, d, t, os⟩ := s
  refine PySem.W.set_plain I.kIn (od := none) ⟨ho, rfl, rfl, trivial⟩ T.sa (sa_first T hf I.kIn ho fun h2 t2 dx k dn ne hx hn => ?_)
  have nd : H dx = none := I.hok.fresh dn
  have old : ∀ {b : Addr} {o : Obj}, hp.get? b = some o → b ≠ dx := fun {b o} z => Nat.ne_of_lt (Nat.lt_of_lt_of_le (Heap.lt_size z) dn)
  have fa : ∀ {b : Addr}, H b = none → b ≠ a := fun {b} n z => by rw [z, e] at n; cases n
  have two : ∀ {b : Addr}, b ≠ a → b ≠ dx → (upd (upd H dx (exd dx [(f, y)])) a (exo a C (some dx))) b = H b := fun {b} h1 h2 => by rw [upd_ne h1, upd_ne h2]
  have kept : ∀ {b : Addr} {o : HO}, H b = some o → exo a C none ≠ o → (upd (upd H dx (exd dx [(f, y)])) a (exo a C (some dx))) b = some o := fun {b o} z nz => by
    rw [two (at_ne e z nz) (ne_of_none z nd)]
    exact z
  refine h dx ⟨h2, g, d, t2, os⟩ nd ne (I.un (t' := t2) ⟨?_, ?_, ?_, ?_, ?_, ?_, ?_⟩ fun b o z => ?_)
  · exact fun b o z n _ _ => k b o (fa n) z
  · exact fun b o z n _ _ => ⟨o.slots, k b o (fa n) z⟩
  · exact fun b o z n _ => by rw [two (fa n) (old z)]; exact n
  · intro b o z _
    by_cases c : b = a
    · subst c; exact ⟨_, hx⟩
    · exact ⟨o, k b o c z⟩
  · exact fun b xs z => kept z exo_tup
  · exact fun b o v z => kept z exo_frz
  · exact fun b ps z => ⟨#[], by rw [kept z exo_tbl]; simp⟩
  · by_cases c : b = a
    · subst c
      rw [upd_same] at z
      cases z
      exact exo_ok hx
    · by_cases c2 : b = dx
      · subst c2
        rw [upd_ne c, upd_same] at z
        cases z
        exact exd_ok hn (relO_put (fs := []) ry fun _ => trivial)
      · rw [two c c2] at z
        refine (I.hok b o z).stay (fun p q hc w => k p q ?_ w) (fun p hc => kept hc exo_own) fun p xs hc => kept hc exo_tup
        rcases hc with hc | hc
        · rw [hc]; exact c
        · exact at_ne e hc exo_own
theorem put_more (T : XC X.K C B newId initId bm fs) (hf : f ∈ fs) (I : Inv X pins σ H s) (e : H a = some (exo a C (some dx))) (ed : H dx = some (exd dx gs)) (hl : gs.length ≤ 900) (ry : RelV y u)
    (h : ∀ s', Inv X pins σ (upd H dx (exd dx ((f, y) :: gs))) s' → Q () s') : wpAny (model X.prog X.w) A (setAttr (.ref a) f u) Q E s := by
  obtain ⟨t1, ho⟩ := exo_at I.hok e
  obtain ⟨mA, hn, rel⟩ := exd_at I.hok ed
  obtain ⟨hp, g, d, t, os⟩ := s
  have hw := within_of rel
  obtain ⟨oD, _, _, hD, _, _⟩ := hn.count hw
  refine PySem.W.set_plain I.kIn (od := some oD) ⟨ho, rfl, rfl, hD⟩ T.sa (sa_more T hf I.kIn ho hn hw (by rw [List.length_map]; omega) fun h2 t2 k n2 => ?_)
  have there : ∃ o, h2.get? dx = some o := by obtain ⟨o, _, _, z, _⟩ := n2; exact ⟨o, z⟩
  exact h _ (I.write (t' := t2) (x := dx) (e := dx) (o := exd dx ((f, y) :: gs)) (by rw [ed]; trivial) (.inl rfl) k there (exd_ok n2 (relO_put ry rel)))
end
/-- self.f = e, in such an __init__ -/
def tPut (K : PySem.W.Frag) (f : Str) (to te : TE) : TS := fun D σ H => te σ H fun y H1 => to σ H1 fun x H2 => ∃ (a C : Addr) (B newId initId : String) (bm : List Value) (fs : List Str), x = .ref a ∧ XC K C B newId initId bm fs ∧ f ∈ fs ∧
  ((H2 a = some (exo a C none) ∧ ∀ dx, H2 dx = none → dx ≠ a → D.nx σ (upd (upd H2 dx (exd dx [(f, y)])) a (exo a C (some dx)))) ∨
    ∃ (dx : Addr) (gs : List (Str × V)), H2 a = some (exo a C (some dx)) ∧ H2 dx = some (exd dx gs) ∧ gs.length ≤ 900 ∧ D.nx σ (upd H2 dx (exd dx ((f, y) :: gs))))
section
variable {X : Cx} {o e : Expr} {es : List Expr} {to te : TE} {ta : TA} {f : Str} {p p' p1 p2 pos : Pos}
theorem ps_put (ho : PE X o to) (he : PE X e te) (hs : swapsWith e (some (.Attribute o f p')) pos.line X.env = pure false := by rfl) : PS X (.Assign [.Attribute o f p'] e pos) (tPut X.K f to te) := ⟨fun pins s σ H D I h => by
  refine plainObj_wpAny_Assign_Attribute (thn (he.run pins s σ H _ I h) fun v s1 ⟨y, H1, I1, r1, q1⟩ => thn (ho.run pins s1 σ H1 _ I1 q1) fun u s2 ⟨x, H2, I2, r2, a, C, _, _, _, _, _, ex, T, hf, q⟩ => ?_) hs
  subst ex
  cases r2
  rcases q with ⟨ea, q⟩ | ⟨dx, gs, ea, ed, hl, q⟩
  · exact put_first T hf I2 ea r1 fun dx s' n ne J => ⟨σ, _, J, q dx n ne⟩
  · exact put_more T hf I2 ea ed hl r1 fun s' J => ⟨σ, _, J, q⟩⟩
/-- C(e, ..): its own __init__ keeps sp -/
def tNewX (C : Addr) (sp : Sp) (ta : TA) : L2.St → Hp → XK → Prop := fun σ H Q => ta σ H fun vs H1 => vs.length ≤ 1000 ∧ ∀ a, H1 a = none → sp (.ref a :: vs) (upd H1 a (exo a C none))
  (fun v H2 => v = .non ∧ ∃ (d : Addr) (gs : List (Str × V)), H2 a = some (exo a C (some d)) ∧ H2 d = some (exd d gs) ∧ H1 d = none ∧ Q (.ref C) (some d) (upd (del H2 a) d (.xd gs))) (fun _ _ _ => False)
theorem pmk_newX {x : Str} {C fI : Addr} {k : Nat} {fd : FuncData} {ps : List Str} {sp : Sp} {B newId initId : String} {bm : List Value} {fs : List Str} (T : XC X.K C B newId initId bm fs) (iC : PySem.W.findIn X.K (.ref C) "__init__" = some (some (.ref fI))) (tI : PySem.W.typeIn X.K (.ref fI) = some (.type "function"))
    (F1 : FnOk X.prog X.w X.K X.mg X.base (L2.CX X.prog X.w) k fI fd ps sp) (hr : Room (k + 1) X.A) (hb : Binds X.K fd ps []) (hx : Passes (L2.CX X.prog X.w) X Er0) (hg : Gl X x) (hm : X.mg x = some (.ref C)) (ha : PA X (e :: es) ta)
    (hdb : (x == ("__debug__" : Str)) = false := by decide) (he : starEach (e :: es) X.env = (false, eval e X.env) :: starEach es X.env := by rfl) (hpl : (backTo pos (starEach es X.env)).any (·.1) = false := by rfl) :
    PMk X (.Call (.Name x p) (e :: es) [] pos) (tNewX C sp ta) := by
  intro pins s σ H Q I h
  refine wpAny_Call_Name_kw (ld_glob I hg hm ?_ hdb)
  refine PySem.W.callWith_K (h₀ := X.base) I.ok.mod.kin T.kC (thn (ha.run pos pins s σ H _ I h) fun us s1 ⟨vs, H1, J, rv, few, q1⟩ => ⟨J.kIn, ?_⟩) he hpl
  obtain ⟨hp, g, dr, tk, os⟩ := s1
  obtain ⟨nm, N, qn, bs, bm', hdct, sn, sub, ab, col, dd, k0, k1, k2, k3, k5, hC, hT⟩ := PySem.W.excInit_of J.kIn T.q
  have le : hp.objs.size ≤ hp.objs.size + 1 := Nat.le_succ _
  have fr := J.hok.fresh le
  have run := q1 (hp.objs.size + 1) fr
  have keep2 : ∀ b x, hp.get? b = some x → ((hp.push (PySem.W.kdv_tup us)).push (PySem.HandSPX.excO C hp.objs.size)).get? b = some x := fun b x z => Heap.get?_push_of_some _ (Heap.get?_push_of_some _ z)
  have new : ((hp.push (PySem.W.kdv_tup us)).push (PySem.HandSPX.excO C hp.objs.size)).get? (hp.objs.size + 1) = some (PySem.HandSPX.excO C hp.objs.size) := by heap_get
  have J2 : Inv X pins σ (upd H1 (hp.objs.size + 1) (exo (hp.objs.size + 1) C none)) ⟨(hp.push (PySem.W.kdv_tup us)).push (PySem.HandSPX.excO C hp.objs.size), g, dr, tk, os⟩ := J.laid (t' := tk) keep2 le (exo_ok new)
  have all : Vals (V.ref (hp.objs.size + 1) :: vs) (Value.ref (hp.objs.size + 1) :: us) := .cons rfl rv
  have len : (Value.ref (hp.objs.size + 1) :: us ++ []).length = ps.length := by
    rw [List.append_nil, ← all.length]
    exact F1.len _ _ _ _ run
  have bnd := hb _ (Value.ref (hp.objs.size + 1) :: us) J2.kIn len
  rw [List.append_nil] at bnd
  have fit : us.length ≤ sizeLine := by rw [← Paired.length rv, sizeLine_eq]; omega
  show wpAny _ _ (call (.ref C) us) _ _ _
  refine wpAny_call (PySem.HandSPX.call_own T.FB hT hC (PySem.W.looks_findIn J.kIn iC) (fun me => PySem.W.bind_fn J.kIn me tI) fit ?_)
  refine codeAny_mono (F1.run _ X.stack _ _ ⟨Value.ref (hp.objs.size + 1) :: us, []⟩ (Value.ref (hp.objs.size + 1) :: us) _ _ Er0 (hr.make C us []) (J2.env0.make C us []) bnd all run) fun r s2 z => ?_
  rcases r with er | fl
  · exact hx pins σ _ _ er s2 J2 z
  cases fl <;> first | exact False.elim z | skip
  obtain ⟨v, H2, w1, w2, w3, w4, w5, ev, d, gs, ea, ed, nd, q2⟩ := z
  subst ev
  obtain ⟨h2, g2, d2, t2, o2⟩ := s2
  exact ⟨w5, mk_end (raises_own T.exC T.tyC) J le keep2 w3 w4 w1 w2 ea ed nd q2⟩
end
/-- what such an __init__(self, y) with self.f = y does -/
def spInit (K : PySem.W.Frag) (f : Str) : Sp := fun vs H Q _ => ∃ (a C : Addr) (y : V) (B newId initId : String) (bm : List Value) (fs : List Str), vs = [.ref a, y] ∧ XC K C B newId initId bm fs ∧ f ∈ fs ∧ H a = some (exo a C none) ∧ ∀ dx, H dx = none → dx ≠ a → Q .non (upd (upd H dx (exd dx [(f, y)])) a (exo a C (some dx)))
/-- the error of this name, whose __init__ stores its one parameter as f -/
structure ErrD1 (P : Program) (w : World) (K : PySem.W.Frag) (mg : Str → Option Value) (base : Heap) (x : Str) (C : Addr) (f : Str) : Prop where
  g : mg x = some (.ref C)
  ex : ∃ B newId initId bm fI fd ps, XC K C B newId initId bm [f] ∧ PySem.W.findIn K (.ref C) "__init__" = some (some (.ref fI)) ∧ PySem.W.typeIn K (.ref fI) = some (.type "function") ∧ FnOk P w K mg base (L2.CX P w) 1 fI fd ps (spInit K f) ∧ Binds K fd ps []
section
variable {P : Program} {w : World} {K : PySem.W.Frag} {mg : Str → Option Value} {base : Heap}
theorem ok_init {qual me y f : Str} {st : Stmt} {fI : Addr} {fd : FuncData} (F : Fun K "__init__" qual st fI fd) (S : FnScope [me, y] [me, y] (defScope st))
    (body : ∀ (cdv : Value) (A : Around) (outer : List Env) (s : Shared) (H : Hp) (E : XK), PSs (cxOf (L2.CX P w) P w K mg base [me, y] qual (defScope st) fI cdv A outer s H E) (defBody st) (tPut K f (tVar 0) (tVar 1))) :
    FnOk P w K mg base (L2.CX P w) 1 fI fd [me, y] (spInit K f) := by
  refine F.okX S (fun vs H Q E h => ?_) (fun cdv A outer s H vs Q E hr h => ⟨_, body cdv A outer s H E, ?_⟩)
  · obtain ⟨_, _, _, _, _, _, _, _, rfl, _⟩ := h
    rfl
  · obtain ⟨a, C, u, B, newId, initId, bm, fs, rfl, T, hf, ha, q⟩ := h
    exact ⟨u, rfl, .ref a, rfl, a, C, B, newId, initId, bm, fs, rfl, T, hf, .inl ⟨ha, q⟩⟩
end
section
variable {X : Cx} {c : Cn} {te : TD} {x f : Str} {C : Addr} {e : Expr} {p pos pos' : Pos}
/-- raise C(e) -/
def tdRaise1 (C : Addr) (f : Str) (te : TD) : TSD := fun _ ss Ed => te ss (fun d => Ed (.e1 C f d)) Ed
theorem d_raise1 (b : Bd X c) (hc : X.calm = true) (T : ErrD1 X.prog X.w X.K X.mg X.base x C f) (hr : Room 2 X.A) (he : DE X c e te) (hg : Gl X x := by rfl) (hdb : (x == ("__debug__" : Str)) = false := by decide) (hs1 : starEach [e] X.env = (false, eval e X.env) :: starEach [] X.env := by rfl) (hpl : (backTo pos (starEach [] X.env)).any (·.1) = false := by rfl) :
    DS X c (.Raise (some (.Call (.Name x p) [e] [] pos)) none pos') (tdRaise1 C f te) := by
  obtain ⟨B, newId, initId, bm, fI, fd, ps, xc, iC, tI, F, hb⟩ := T.ex
  refine ps_imp (ps_raise hc b.tk (pmk_newX xc iC tI F hr hb pass0D hg T.g (pa_cons he pa_nil hs1) hdb hs1 hpl)) fun Dn σ H q => ?_
  obtain ⟨O, Hs, ss, En, Ed, A, h, er, gc⟩ := q
  refine ⟨O, Hs, ss, _, Ed, A, h, er, fun d v Hs1 H1 e1 i1 q1 => ?_⟩
  refine ⟨by show 1 ≤ 1000; decide, fun a na => ⟨a, C, v, B, newId, initId, bm, [f], rfl, xc, List.mem_singleton.mpr rfl, upd_same, fun dx nd ne => ⟨rfl, dx, [(f, v)], upd_same, ?_, ?_, ?_⟩⟩⟩
  · rw [upd_ne ne, upd_same]
  · rw [upd_ne ne] at nd
    exact nd
  · rw [upd_ne ne] at nd
    have eq : upd (del (upd (upd (upd H1 a (exo a C none)) dx (exd dx [(f, v)])) a (exo a C (some dx))) a) dx (.xd [(f, v)]) = upd H1 dx (.xd [(f, v)]) := by
      funext z
      by_cases c1 : z = dx
      · rw [c1, upd_same, upd_same]
      · rw [upd_ne c1, upd_ne c1]
        by_cases c2 : z = a
        · rw [c2, del_same, na]
        · rw [del_ne c2, upd_ne c2, upd_ne c1, upd_ne c2]
    rw [eq]
    have x2 : Ext (Z0 O) Hs H (upd Hs1 dx (.xd [(f, v)])) (upd H1 dx (.xd [(f, v)])) := e1.trans (.laid e1.sub nd)
    exact er (.e1 C f d) _ _ (A.after x2) q1 dx v upd_same (i1.same (Ext.laid (Z := Z0 O) e1.sub nd).fz)
end
end DL
set_option Elab.async false
set_option linter.all false
set_option maxRecDepth 100000
set_option maxHeartbeats 4000000
/-! try: .. with several clauses, `except X as n` (all with one name) and `except X` mixed -/
namespace TM
open PySem PySem.Spec PyProof.Rows L2
abbrev Sui := Addr → Value → Option Addr → TS
/-- behind a suite the name is gone -/
def unset (i : Nat) (D : Ends) : Ends := ⟨fun u G => D.nx (u.set i none) G, D.rt, fun u G => D.bk (u.set i none) G, fun u G => D.ct (u.set i none) G⟩
/-- what the clauses wish, from the first on -/
def wAll (K : PySem.W.Frag) (i : Nat) (Wo : WX) (D : Ends) : List (Value × Bool × Sui) → WX
  | [] => Wo
  | p :: more => fun C dd u G => ∃ yes, PySem.W.exmOne K C p.1 = some yes ∧ (yes = true → ∀ x, G x = none → if p.2.1 then p.2.2 x C dd (unset i D) (u.set i (some (.ref x))) G else p.2.2 x C dd D u G) ∧ (yes = false → wAll K i Wo D more C dd u G)
inductive Clauses (X : Cx) (n : Str) : List ExceptHandler → List (Value × Bool × Sui) → Prop
  | nil : Clauses X n [] []
  | cons {y : Str} {c : Value} {ts : Sui} {b : Stmt} {bs : List Stmt} {p1 p2 : Pos} {hs : List ExceptHandler} {l : List (Value × Bool × Sui)} (names : Names X y c)
      (su : ∀ (x : Addr) (ox : Obj) (C : Value) (dd : Option Addr) (pn : List (Addr × Obj)), Zc C dd ox → (∃ vs, ox.data = .fields vs) → PSs (X.suite x ((x, ox) :: pn)) (b :: bs) (ts x C dd)) (more : Clauses X n hs l) :
      Clauses X n (.ExceptHandler (some (.Name y p1)) (some n) (b :: bs) p2 :: hs) ((c, true, ts) :: l)
  | bare {y : Str} {c : Value} {ts : Sui} {b : Stmt} {bs : List Stmt} {p1 p2 : Pos} {hs : List ExceptHandler} {l : List (Value × Bool × Sui)} (names : Names X y c)
      (su : ∀ (x : Addr) (ox : Obj) (C : Value) (dd : Option Addr) (pn : List (Addr × Obj)), Zc C dd ox → (∃ vs, ox.data = .fields vs) → PSs (X.suite x ((x, ox) :: pn)) (b :: bs) (ts x C dd)) (more : Clauses X n hs l) :
      Clauses X n (.ExceptHandler (some (.Name y p1)) none (b :: bs) p2 :: hs) ((c, false, ts) :: l)
section
variable {X : Cx} {n : Str} {i : Nat} {body : List Stmt} {h1 : ExceptHandler} {hs : List ExceptHandler} {l : List (Value × Bool × Sui)} {pos : Pos} {tb : WX → TS} {Wo : WX}
theorem ps_tryAs (e1 : X.stack = X.env :: X.outer) (e2 : X.env.frame = some X.env.locals) (nd : X.N.Nodup) (at_ : X.N[i]? = some n) (lo : X.env.kindOf n = some .local) (tk : Takes X Wo)
    (hb : ∀ (W : WX) (pn : List (Addr × Obj)) (xe : Value → Shared → Prop), Takes (X.tr pn xe) W → PassesOwn (model X.prog X.w) X.A X.env xe → PSs (X.tr pn xe) body (tb W)) (hh : Clauses X n (h1 :: hs) l) :
    PS X (.Try body (h1 :: hs) [] [] pos) (fun D u G => tb (wAll X.K i Wo D l) D u G) := by
  refine ⟨fun pins s u G D I r => ?_⟩
  have ok := I.ok
  have frames : X.A.frames = some (X.env :: X.outer) := by rw [ok.frames, e1]
  have vis : Loc X.env.scope n := .inl lo
  refine wpAny_Try_except ?_
  refine wpAny_mono ((hb (wAll X.K i Wo D l) (X.pn ++ pins) (fun x t1 => wpAny (model X.prog X.w) X.A (noteFrame x X.env)
      (fun _ t2 => wpAny (model X.prog X.w) X.A (setFlight x none) (fun _ t3 => wpAny (model X.prog X.w) X.A (handleBy x X.env (h1 :: hs)) (SP X pins D) X.xe t3) X.xe t2) X.xe t1)
      (fun v t z => ?_) PassesOwn.looking).run [] s u G D (I.toTry _) r) (fun fl t z => ?_) (fun _ _ z => z)
  · obtain ⟨x, B, t0, pins', u', G', C, dd, rfl, Jt, nb, upt, sky, nx, os, bare, wish⟩ := z
    have J : Inv X pins u' G' t0 := Jt.ofTry ok
    have sky2 : Sky B (X.env :: X.outer) x (Zc C dd) X.env.locals t.heap := e1 ▸ sky
    show wpAny (model X.prog X.w) X.A (noteFrame (.ref x) X.env) _ _ _
    refine Sky.land Zc.steady frames e2 sky2 fun g3 fly up3 => ?_
    have J3 : Inv X pins u' G' { t with heap := g3 } := J.landed nb fly.1 (upt.trans up3) os bare
    obtain ⟨ox, vx, hx, zx, dx⟩ := fly.there
    have out : x ∉ frs (X.env :: X.outer) := fun m => by
      obtain ⟨_, ob, eb, no⟩ := fly.2.2.1.mem m
      cases hx.symm.trans eb
      exact no _ dx
    have notL : x ≠ X.env.locals := fun z => out (List.mem_filterMap.mpr ⟨X.env, List.mem_cons_self, by rw [e2, z]⟩)
    have notF : x ∉ X.fs := fun m => let ⟨v, hv, q⟩ := List.mem_filterMap.mp m; out (List.mem_filterMap.mpr ⟨v, List.mem_cons_of_mem _ hv, q⟩)
    have S3 := J3.suite hx dx nx notL notF
    have ty : PySem.W.Looks (model X.prog X.w) g3 (typeOf (.ref x)) C := fun _ _ _ _ keep q => wpAny_typeOf_ref (keep _ _ hx) (by rw [zx.1]; exact q)
    have go : ∀ {hs' : List ExceptHandler} {l' : List (Value × Bool × Sui)}, Clauses X n hs' l' → wAll X.K i Wo D l' C dd u' G' →
        wpAny (model X.prog X.w) X.A (handleBy (.ref x) X.env hs') (SP X pins D) X.xe { t with heap := g3 } := by
      intro hs' l' cl
      induction cl with
      | nil =>
        intro wish
        refine wpAny_handleBy_nil ?_
        obtain ⟨k1, k2, k3, o9, v9, T, oT, tT, a9, z9, d9, f9, r9⟩ := id fly
        unfold PySem.passOn
        refine wpAny_bind (wpAny_field a9 d9 f9 ?_)
        rw [if_neg (show ¬ ((Value.ref T == Value.none) = true) by simp)]
        have fin : wpAny (model X.prog X.w) X.A (setFlight (.ref x) X.env.frame) (fun _ t4 => wpAny (model X.prog X.w) X.A (throw (.ref x) : Sem Flow) (SP X pins D) X.xe t4) X.xe { t with heap := g3 } := by
          rw [e2]
          exact HandSPX.setFlight_upZ fly fun g4 held up4 => wpAny_throw (tk _ _ ⟨x, B, t0, pins, u', G', C, dd, rfl, J, nb, (upt.trans up3).trans up4, .inr (.inr (e1.symm ▸ held)), nx, os, bare, wish⟩)
        first | exact wpAny_bind (wpAny_pure (wpAny_bind fin)) | exact wpAny_bind fin
      | @cons y c ts b bs p1 p2 hs2 l2 names su more ih =>
        intro wish
        obtain ⟨yes, m1, onYes, onNo⟩ := wish
        refine wpAny_handleBy_cons (codeAny_handlers_test ?_) (fun z => by cases z)
        have names' := names
        have clause : ∀ {Q : Value → Shared → Prop} {E : Value → Shared → Prop}, Q c { t with heap := g3 } → wpAny (model X.prog X.w) (X.A.mark (some (.ref x))) (eval (.Name y p1) X.env) Q E { t with heap := g3 } := fun q => by
          obtain ⟨gl, dbg, m | ⟨m, bv, nn⟩⟩ := names'
          · exact ld_glob (X := X.suite x ((x, ox) :: (X.pn ++ pins))) S3 gl m q dbg
          · exact ld_blt (X := X.suite x ((x, ox) :: (X.pn ++ pins))) S3 gl m bv q nn dbg
        refine clause ((PySem.W.exm_one (M := model X.prog X.w) J3.kIn ty m1).here ?_)
        cases yes with
        | false => exact ih (onNo rfl)
        | true =>
          refine codeAny_handlers_suite_as (HandSPX.lands_againZ fly fun g4 fly4 up4 => ?_)
          have J4 : Inv X pins u' G' { t with heap := g4 } := J.landed nb fly4.1 ((upt.trans up3).trans up4) os bare
          obtain ⟨o4, v4, h4, z4, d4⟩ := fly4.there
          refine store_ok (X := X.suite x ((x, o4) :: (X.pn ++ pins))) (v := .ref x) (J4.suite h4 d4 nx notL notF) nd at_ vis rfl (fun t5 S5 => ?_) (.inr lo)
          refine wpAny_mono ((su x o4 C dd (X.pn ++ pins) z4 ⟨_, d4⟩).run [] t5 _ G' _ S5 (onYes rfl x nx)) (fun fl t6 z => ?_) (fun _ _ z => z.elim)
          have last : ∀ {u6 : L2.St} {G6 : Hp} {Q : Shared → Prop}, Inv (X.suite x ((x, o4) :: (X.pn ++ pins))) [] u6 G6 t6 → (∀ t7, Inv X pins (u6.set i none) G6 t7 → Q t7) →
              wpAny (model X.prog X.w) X.A (do bindName X.env n .none; unbindBehindTheSuite X.env n p2) (fun _ t7 => Q t7) X.xe t6 := fun S6 q => gone_ok (S6.unsuite ok) nd at_ lo q
          cases fl with
          | ret u9 => exact let ⟨_, _, _, S6, rv, q⟩ := z; last S6 fun _ J7 => ⟨_, _, _, J7, rv, q⟩
          | next => exact let ⟨_, _, S6, q⟩ := z; last S6 fun _ J7 => ⟨_, _, J7, q⟩
          | brk => exact let ⟨_, _, S6, q⟩ := z; last S6 fun _ J7 => ⟨_, _, J7, q⟩
          | cont => exact let ⟨_, _, S6, q⟩ := z; last S6 fun _ J7 => ⟨_, _, J7, q⟩
      | @bare y c ts b bs p1 p2 hs2 l2 names su more ih =>
        intro wish
        obtain ⟨yes, m1, onYes, onNo⟩ := wish
        refine wpAny_handleBy_cons (codeAny_handlers_test ?_) (fun z => by cases z)
        have names' := names
        have clause : ∀ {Q : Value → Shared → Prop} {E : Value → Shared → Prop}, Q c { t with heap := g3 } → wpAny (model X.prog X.w) (X.A.mark (some (.ref x))) (eval (.Name y p1) X.env) Q E { t with heap := g3 } := fun q => by
          obtain ⟨gl, dbg, m | ⟨m, bv, nn⟩⟩ := names'
          · exact ld_glob (X := X.suite x ((x, ox) :: (X.pn ++ pins))) S3 gl m q dbg
          · exact ld_blt (X := X.suite x ((x, ox) :: (X.pn ++ pins))) S3 gl m bv q nn dbg
        refine clause ((PySem.W.exm_one (M := model X.prog X.w) J3.kIn ty m1).here ?_)
        cases yes with
        | false => exact ih (onNo rfl)
        | true =>
          refine codeAny_handlers_suite (HandSPX.lands_againZ fly fun g4 fly4 up4 => ?_)
          have J4 : Inv X pins u' G' { t with heap := g4 } := J.landed nb fly4.1 ((upt.trans up3).trans up4) os bare
          obtain ⟨o4, v4, h4, z4, d4⟩ := fly4.there
          refine wpAny_mono ((su x o4 C dd (X.pn ++ pins) z4 ⟨_, d4⟩).run [] _ _ G' _ (J4.suite h4 d4 nx notL notF) (onYes rfl x nx)) (fun fl t6 z => ?_) (fun _ _ z => z.elim)
          cases fl with
          | ret u9 => exact let ⟨_, _, _, S6, rv, q⟩ := z; ⟨_, _, _, S6.unsuite ok, rv, q⟩
          | next => exact let ⟨_, _, S6, q⟩ := z; ⟨_, _, S6.unsuite ok, q⟩
          | brk => exact let ⟨_, _, S6, q⟩ := z; ⟨_, _, S6.unsuite ok, q⟩
          | cont => exact let ⟨_, _, S6, q⟩ := z; ⟨_, _, S6.unsuite ok, q⟩
    exact go hh wish
  · cases fl with
    | ret u9 => exact let ⟨_, _, _, J, rv, q⟩ := z; ⟨_, _, _, J.ofTry ok, rv, q⟩
    | next => exact let ⟨_, _, J, q⟩ := z; wpAny_execs_nil ⟨_, _, J.ofTry ok, q⟩
    | brk => exact let ⟨_, _, J, q⟩ := z; ⟨_, _, J.ofTry ok, q⟩
    | cont => exact let ⟨_, _, J, q⟩ := z; ⟨_, _, J.ofTry ok, q⟩
end
end TM
set_option Elab.async false
set_option linter.all false
set_option maxRecDepth 100000
set_option maxHeartbeats 4000000
/-! TY: try .. except over data -/
namespace DL
open PySem PySem.Spec PyProof.Rows L2
def ErrD.C : ErrD → Addr
  | .e0 C => C
  | .e1 C _ _ => C
/-- an error stands at a, its dict at d -/
def ErrIs (K : PySem.W.Frag) (a : Addr) (d : Option Addr) (er : ErrD) : Hp → V → Prop := fun H v => v = .ref a ∧ match er with
  | .e0 _ => d = none
  | .e1 _ f x => ∃ dd u, d = some dd ∧ H dd = some (.xd [(f, u)]) ∧ Is K H x u
theorem ErrIs.same {K a d er H H' v} (h : ErrIs K a d er H v) (s : Same H H') : ErrIs K a d er H' v := by
  obtain ⟨e, h⟩ := h
  refine ⟨e, ?_⟩
  cases er with
  | e0 C => exact h
  | e1 C f x => obtain ⟨dd, u, h1, h2, h3⟩ := h; exact ⟨dd, u, h1, s _ _ h2, h3.same s⟩
/-- a suite, by what it holds -/
abbrev SuD := Addr → Option Addr → ErrD → TSD
def unS (n : Nat) : List Sl := List.replicate n .un
def suS (K : PySem.W.Frag) (i n : Nat) (as : Bool) (a : Addr) (d : Option Addr) (er : ErrD) : List Sl := if as then put (unS n) i (.d (.is (ErrIs K a d er))) else unS n
def EnD.out (En : EnD) : EnD := { nx := fun _ => False, rt := En.rt, ro := En.ro, rm := En.rm }
/-- what the clauses make of an error -/
def clsD (K : PySem.W.Frag) (i n : Nat) (En : EnD) (Ed : QE) : List (Value × Bool × SuD) → QE
  | [] => Ed
  | p :: more => fun er => ∃ yes, PySem.W.exmOne K (.ref er.C) p.1 = some yes ∧ (yes = true → ∀ a d, p.2.2 a d er En.out (suS K i n p.2.1 a d er) fun _ => False) ∧ (yes = false → clsD K i n En Ed more er)
def tdTry (K : PySem.W.Frag) (i n : Nat) (tb : TSD) (l : List (Value × Bool × SuD)) : TSD := fun En ss Ed => tb En ss (clsD K i n En Ed l)
inductive ClsD (X : Cx) (c : Cn) (n : Str) : List ExceptHandler → List (Value × Bool × SuD) → Prop
  | nil : ClsD X c n [] []
  | as {y : Str} {cv : Value} {ts : SuD} {b : Stmt} {bs : List Stmt} {p1 p2 : Pos} {hs : List ExceptHandler} {l : List (Value × Bool × SuD)} (names : Names X y cv)
      (su : ∀ (a : Addr) (oe : Obj) (d : Option Addr) (pn : List (Addr × Obj)) (er : ErrD), Zc (.ref er.C) d oe → (∃ vs, oe.data = .fields vs) → DSs (X.suite a ((a, oe) :: pn)) c (b :: bs) (ts a d er)) (more : ClsD X c n hs l) :
      ClsD X c n (.ExceptHandler (some (.Name y p1)) (some n) (b :: bs) p2 :: hs) ((cv, true, ts) :: l)
  | no {y : Str} {cv : Value} {ts : SuD} {b : Stmt} {bs : List Stmt} {p1 p2 : Pos} {hs : List ExceptHandler} {l : List (Value × Bool × SuD)} (names : Names X y cv)
      (su : ∀ (a : Addr) (oe : Obj) (d : Option Addr) (pn : List (Addr × Obj)) (er : ErrD), Zc (.ref er.C) d oe → (∃ vs, oe.data = .fields vs) → DSs (X.suite a ((a, oe) :: pn)) c (b :: bs) (ts a d er)) (more : ClsD X c n hs l) :
      ClsD X c n (.ExceptHandler (some (.Name y p1)) none (b :: bs) p2 :: hs) ((cv, false, ts) :: l)
section
variable {X : Cx} {c : Cn}
def toTM (c : Cn) (K : PySem.W.Frag) (p : Value × Bool × SuD) : Value × Bool × TM.Sui := (p.1, p.2.1, fun a cv d D σ H => ∃ er : ErrD, cv = .ref er.C ∧ liftS c K (p.2.2 a d er) D σ H)
theorem ClsD.tm {n : Str} {hs : List ExceptHandler} {l : List (Value × Bool × SuD)} (h : ClsD X c n hs l) : TM.Clauses X n hs (l.map (toTM c X.K)) := by
  induction h with
  | nil => exact .nil
  | as names su more ih =>
    refine .cons names (fun a oe cv d pn hz hf => ⟨fun pins s σ H D I h => ?_⟩) ih
    obtain ⟨er, rfl, h⟩ := h
    exact (su a oe d pn er hz hf).run pins s σ H D I h
  | no names su more ih =>
    refine .bare names (fun a oe cv d pn hz hf => ⟨fun pins s σ H D I h => ?_⟩) ih
    obtain ⟨er, rfl, h⟩ := h
    exact (su a oe d pn er hz hf).run pins s σ H D I h
/-- how an error lies in a frozen heap -/
def ErrAtD (K : PySem.W.Frag) (Hs : Hp) (er : ErrD) (d : Option Addr) : Prop := match er with
  | .e0 _ => d = none
  | .e1 _ f x => ∃ dd u, d = some dd ∧ Hs dd = some (.xd [(f, u)]) ∧ Is K Hs x u
theorem ErrPost.use {K : PySem.W.Frag} {E : XK} {er : ErrD} {Hs H : Hp} {d : Option Addr} (h : ErrPost K E er Hs H) (a : ErrAtD K Hs er d) : E (.ref er.C) d H := by
  cases er with
  | e0 C => cases a; exact h
  | e1 C f x => obtain ⟨dd, u, rfl, h1, h2⟩ := a; exact h dd u h1 h2
theorem ErrPost.of {K : PySem.W.Frag} {E : XK} {er : ErrD} {Hs H : Hp} (h : ∀ d, ErrAtD K Hs er d → E (.ref er.C) d H) : ErrPost K E er Hs H := by
  cases er with
  | e0 C => exact h none rfl
  | e1 C f x => exact fun dd u h1 h2 => h (some dd) ⟨dd, u, rfl, h1, h2⟩
open Classical in
theorem abs_un {K : PySem.W.Frag} {Hs H : Hp} {σ : L2.St} (x : Ext c.Z c.Hs c.H Hs H) (zz : ∀ p, c.Z p → c.Hs p = none ∧ NT (c.H p)) : ∃ O, Abs K c O Hs H σ (unS σ.length) := by
  have nO : ∀ p, (if c.Z p then some 0 else none : Option Nat) ≠ none → c.Z p := fun p h => by
    by_cases z : c.Z p
    · exact z
    · exact absurd (if_neg z) h
  refine ⟨fun b => if c.Z b then some 0 else none, x, fun a h => x.new a (zz a (nO a h)).1 (zz a (nO a h)).2, fun a h => x.nt a (zz a (nO a h)).2, fun a h => .inl (nO a h), fun a h => if_pos h, by unfold unS; rw [List.length_replicate], fun i => ?_⟩
  have : ∀ (k i : Nat), nth (unS k) i = .un := by
    intro k
    unfold unS
    induction k with
    | zero => exact fun _ => rfl
    | succ k ih =>
      intro i
      cases i with
      | zero => rfl
      | succ i => exact ih i
  rw [this]
  trivial
theorem wAll_of {i n : Nat} {En : EnD} {Ed : QE} {Dn : Ends} {Hs H : Hp} {er : ErrD} {d : Option Addr} {Hs0 : Hp} (x : Ext c.Z c.Hs c.H Hs H) (zz : ∀ p, c.Z p → c.Hs p = none ∧ NT (c.H p)) (ec : ErrC X.K c Ed) (gc : Conn c X.K Hs0 En Dn) (ha : ErrAtD X.K Hs er d) :
    ∀ (l : List (Value × Bool × SuD)), clsD X.K i n En Ed l er → ∀ σ : L2.St, σ.length = n → TM.wAll X.K i (fun cls d _ H => c.E cls d H) Dn (l.map (toTM c X.K)) (.ref er.C) d σ H
  | [], h, _, _ => (ec er Hs H x h).use ha
  | (cv, as, ts) :: more, h, σ, hl => by
    obtain ⟨yes, m, onY, onN⟩ := h
    refine ⟨yes, m, fun y a na => ?_, fun y => wAll_of x zz ec gc ha more (onN y) σ hl⟩
    have run := onY y a d
    obtain ⟨O, A⟩ := abs_un (K := X.K) (σ := σ) x zz
    rw [hl] at A
    have is : Is X.K Hs (.is (ErrIs X.K a d er)) (.ref a) := fun H' s' => by
      refine ErrIs.same ⟨rfl, ?_⟩ s'
      cases er with
      | e0 C => exact ha
      | e1 C f x => exact ha
    cases as with
    | true =>
      refine ⟨er, rfl, O, Hs, _, En.out, fun _ => False, A.set (i := i) is, run, fun _ _ _ _ z => z.elim, ?_⟩
      exact ⟨fun _ _ _ _ _ _ _ z => z.elim, fun _ _ _ _ _ _ _ z => z.elim, fun _ _ _ _ _ _ _ z => z.elim, gc.rt, gc.ro, gc.rm⟩
    | false =>
      refine ⟨er, rfl, O, Hs, _, En.out, fun _ => False, A, run, fun _ _ _ _ z => z.elim, ?_⟩
      exact ⟨fun _ _ _ _ _ _ _ z => z.elim, fun _ _ _ _ _ _ _ z => z.elim, fun _ _ _ _ _ _ _ z => z.elim, gc.rt, gc.ro, gc.rm⟩
theorem d_try {n : Str} {i : Nat} {body : List Stmt} {h1 : ExceptHandler} {hs : List ExceptHandler} {l : List (Value × Bool × SuD)} {pos : Pos} {tb : TSD} (b : Bd X c) (e1 : X.stack = X.env :: X.outer) (e2 : X.env.frame = some X.env.locals) (nd : X.N.Nodup) (at_ : X.N[i]? = some n) (lo : X.env.kindOf n = some .local)
    (hb : ∀ (c2 : Cn) (pn : List (Addr × Obj)) (xe : Value → Shared → Prop), Bd (X.tr pn xe) c2 → PassesOwn (model X.prog X.w) X.A X.env xe → DSs (X.tr pn xe) c2 body tb) (hh : ClsD X c n (h1 :: hs) l) :
    DS X c (.Try body (h1 :: hs) [] [] pos) (tdTry X.K i X.N.length tb l) := by
  refine ps_imp (TM.ps_tryAs (tb := fun W => liftS ⟨c.Z, c.Hs, c.H, fun cls d H => ∀ σ : L2.St, σ.length = X.N.length → W cls d σ H⟩ X.K tb) e1 e2 nd at_ lo b.tk (fun W pn xe tk po => ?_) hh.tm) fun Dn σ H q => ?_
  · have tk2 : Takes (X.tr pn xe) (fun cls d _ H => ∀ σ : L2.St, σ.length = X.N.length → W cls d σ H) := fun u s' ⟨a, B, sI, pins, σ, H, cls, d, e, I, nb, up, sky, na, os, ag, w⟩ => tk u s' ⟨a, B, sI, pins, σ, H, cls, d, e, I, nb, up, sky, na, os, ag, w σ I.len⟩
    exact hb _ pn xe ⟨passes_call tk2 fun _ _ _ _ h => h, tk2, b.zz⟩ po
  · obtain ⟨O, Hs, ss, En, Ed, A, h, er, gc⟩ := q
    refine ⟨O, Hs, ss, En, clsD X.K i X.N.length En Ed l, ⟨A.ext, A.fz, A.live, A.own0, A.z, A.len, A.sl⟩, h, fun er' Hs' H' x hc => .of fun d ha => fun σ' hl => wAll_of (c := c) x b.zz er gc ha l hc σ' hl, ?_⟩
    have back : ∀ {O' : Addr → Option Nat} {Hs' H' : Hp} {σ' : L2.St} {ss' : List Sl}, Abs X.K ⟨c.Z, c.Hs, c.H, fun cls d H => ∀ σ : L2.St, σ.length = X.N.length → TM.wAll X.K i (fun cls d _ H => c.E cls d H) Dn (l.map (toTM c X.K)) cls d σ H⟩ O' Hs' H' σ' ss' → Abs X.K c O' Hs' H' σ' ss' := fun A => ⟨A.ext, A.fz, A.live, A.own0, A.z, A.len, A.sl⟩
    exact ⟨fun σ' O' Hs' H' ss' s A' q => gc.nx σ' O' Hs' H' ss' s (back A') q, fun σ' O' Hs' H' ss' s A' q => gc.bk σ' O' Hs' H' ss' s (back A') q, fun σ' O' Hs' H' ss' s A' q => gc.ct σ' O' Hs' H' ss' s (back A') q, gc.rt, gc.ro, gc.rm⟩
/-! ### the caught error's field; its class -/
def tdFld (K : PySem.W.Frag) (i : Nat) (a : Addr) (d : Option Addr) (er : ErrD) (f : Str) : TD := fun ss Q _ => match er with
  | .e1 C g x => g = f ∧ XfC K C ∧ PySem.W.findIn K (.ref C) f = some none ∧ nth ss i = .d (.is (ErrIs K a d er)) ∧ Q x
  | .e0 _ => False
theorem d_fld {a : Addr} {oe : Obj} {d : Option Addr} {pn : List (Addr × Obj)} {er : ErrD} {e : Expr} {i : Nat} {f : Str} {pos : Pos} (hz : Zc (.ref er.C) d oe) (hf : ∃ vs, oe.data = .fields vs) (he : PE (X.suite a ((a, oe) :: pn)) e (tVar i)) (hb : attributeBase e f X.env (eval e X.env) = eval e X.env := by rfl) :
    DE (X.suite a ((a, oe) :: pn)) c (.Attribute e f pos) (tdFld X.K i a d er f) := ⟨fun pins s σ H Q I q => by
  obtain ⟨O, Hs, ss, Qd, Ed, A, h, _, g⟩ := q
  unfold tdFld at h
  split at h
  · rename_i C g0 x
    obtain ⟨rfl, T, no, hn, q⟩ := h
    have sl := A.sl i
    rw [hn] at sl
    obtain ⟨v, ev, is⟩ := sl
    obtain ⟨rfl, dd, u, rfl, hd, ix⟩ := is Hs (.refl _)
    refine (pe_xf T no hz hf he hb).run pins s σ H Q I ⟨_, ev, rfl, rfl, dd, _, u, rfl, A.sub _ _ hd, ?_, g x u Hs H (.refl A.sub) ix q⟩
    show List.lookup g0 [(g0, u)] = some u
    simp [List.lookup]
  · exact h.elim⟩
/-- what the class of an error must be, to be asked about -/
structure IsC (K : PySem.W.Frag) (C : Addr) : Prop where
  cl : (PySem.W.clsIn K C).isSome = true
  ga : PySem.W.findIn K (.ref C) "__getattribute__" = some (some (.builtin "BaseException.__getattribute__"))
  gt : PySem.W.findIn K (.ref C) "__getattr__" = some none
  sb : PySem.W.subIn K (.ref C) (.type "BaseException") = some true
  cc : PySem.W.findIn K (.ref C) "__class__" = some (some (.builtin "object.__class__"))
  cg : PySem.W.specialIn K (.builtin "object.__class__") "__get__" = some (some (.builtin "getset_descriptor.__get__"))
  ct : PySem.W.takesIn K (.builtin "object.__class__") = some true
  mo : PySem.W.mroIn K C (.type "object") = some true
theorem call_isX {a : Addr} {oe : Obj} {d : Option Addr} {pn : List (Addr × Obj)} {er : ErrD} (hz : Zc (.ref er.C) d oe) (hf : ∃ vs, oe.data = .fields vs) : CallR (X.suite a ((a, oe) :: pn)) (.builtin "isinstance") (fun xs H Q => ∃ (cv : V) (cu : Value) (b : Bool), xs = [.ref a, cv] ∧ (∀ u, RelV cv u → u = cu) ∧ IsC X.K er.C ∧ PySem.W.kitOne X.K (.ref er.C) cu = some b ∧ ErrIs X.K a d er H (.ref a) ∧ Q (.bl b) H) := by
  intro pins s σ H xs us Q I r h
  obtain ⟨cv, cu, b, rfl, rel, T, k, is, q⟩ := h
  rcases r with _ | ⟨rx, rr⟩
  rcases rr with _ | ⟨rt, rr⟩
  cases rr
  cases rx
  cases rel _ rt
  obtain ⟨ho, _⟩ := I.pin (a, oe) (List.mem_append.mpr (.inl List.mem_cons_self))
  have nc : PySem.W.notCls oe = true := by obtain ⟨vs, hv⟩ := hf; unfold PySem.W.notCls; rw [hv] <;> rfl
  have fin : ∀ od : Option Obj, PySem.W.InstAt s.heap a oe er.C od → wpAny (model X.prog X.w) (X.suite a ((a, oe) :: pn)).A (call (.builtin "isinstance") [.ref a, cu]) (EP (X.suite a ((a, oe) :: pn)) pins σ Q) (X.suite a ((a, oe) :: pn)).xe s := fun od J =>
    PySem.W.kia_one (PySem.W.kitx_exc (od := od) T.cl T.ga T.gt T.sb T.cc T.cg T.ct T.mo) I.kIn J k (fun z => nomatch z) fun tk => ⟨.bl b, H, I.kept (t' := tk) fun _ _ z => z, rfl, q⟩
  obtain ⟨_, is⟩ := is
  cases er with
  | e0 C =>
    have ed : d = none := is
    subst ed
    exact fin none ⟨ho, hz.1, nc, by rw [hz.2]; trivial⟩
  | e1 C f x =>
    obtain ⟨dd, u, rfl, hd, _⟩ := is
    obtain ⟨mA, hns, _⟩ := (I.hok dd _ hd : ObjOk X.prog X.w H s.heap dd (.xd [(f, u)]))
    obtain ⟨od, hod, _⟩ := lookIn_ns hns
    exact fin (some od) ⟨ho, hz.1, nc, by rw [hz.2]; exact hod⟩
/-- isinstance(e, T), T a built-in class -/
def tdIsX (K : PySem.W.Frag) (i : Nat) (a : Addr) (d : Option Addr) (er : ErrD) (T : String) : TD := fun ss Q _ => ∃ b, IsC K er.C ∧ PySem.W.kitOne K (.ref er.C) (.type T) = some b ∧ nth ss i = .d (.is (ErrIs K a d er)) ∧ Q (.bl b)
theorem d_isX {a : Addr} {oe : Obj} {d : Option Addr} {pn : List (Addr × Obj)} {er : ErrD} {e : Expr} {i : Nat} {x : Str} {T : String} {p p2 pos : Pos} (hz : Zc (.ref er.C) d oe) (hf : ∃ vs, oe.data = .fields vs) (mi : X.mg "isinstance" = none) (he : PE (X.suite a ((a, oe) :: pn)) e (tVar i)) (ht : PE (X.suite a ((a, oe) :: pn)) (.Name x p2) (tC (.ty T)))
    (gi : Gl (X.suite a ((a, oe) :: pn)) "isinstance" := by rfl) (h1 : starEach [e, .Name x p2] X.env = (false, eval e X.env) :: starEach [.Name x p2] X.env := by rfl) (h2 : starEach [.Name x p2] X.env = (false, eval (.Name x p2) X.env) :: starEach [] X.env := by rfl) (hpl : (backTo pos (starEach [.Name x p2] X.env)).any (·.1) = false := by rfl) :
    DE (X.suite a ((a, oe) :: pn)) c (.Call (.Name "isinstance" p) [e, .Name x p2] [] pos) (tdIsX X.K i a d er T) := ⟨fun pins s σ H Q I q => by
  obtain ⟨O, Hs, ss, Qd, Ed, A, ⟨b, C, k, hn, q⟩, _, g⟩ := q
  have sl := A.sl i
  rw [hn] at sl
  obtain ⟨v, ev, is⟩ := sl
  have is2 := is H A.sub
  obtain ⟨rfl, _⟩ := is Hs (.refl _)
  refine (pe_callB (call_isX (X := X) (pn := pn) hz hf) gi mi (by decide +kernel) (pa_cons he (pa_cons ht pa_nil h2) h1) (by decide) (by decide) h1 hpl).run pins s σ H Q I ?_
  exact ⟨_, ev, .ty T, .type T, b, rfl, fun u r => r, C, k, is2, g (.bl b) _ Hs H (.refl A.sub) rfl q⟩⟩
end
end DL
set_option Elab.async false
set_option linter.all false
set_option maxRecDepth 100000
set_option maxHeartbeats 4000000
/-! DT: dicts -/
namespace DL
open PySem PySem.Spec PyProof.Rows L2
/-! ### keys -/
def keyD : D → Option Key
  | .int i => some (.inl i)
  | .str x => some (.inr x)
  | _ => none
def kvD : Key → D
  | .inl i => .int i
  | .inr x => .str x
theorem keyD_is {K : PySem.W.Frag} {H : Hp} {d : D} {v : V} {k : Key} (i : Is K H d v) (h : keyD d = some k) : v = kV k := by
  cases d <;> simp only [keyD, Option.some.injEq, reduceCtorEq] at h <;> subst h <;> exact i
theorem kvD_is {K : PySem.W.Frag} {H : Hp} : ∀ k : Key, Is K H (kvD k) (kV k)
  | .inl _ => rfl
  | .inr _ => rfl
theorem keyD_kv : ∀ k : Key, keyD (kvD k) = some k
  | .inl _ => rfl
  | .inr _ => rfl
def keysL : List D → Option (List Key)
  | [] => some []
  | d :: ds => match keyD d, keysL ds with
    | some k, some ks => some (k :: ks)
    | _, _ => none
def keyT : D → Option (List Key)
  | .tup ds => keysL ds
  | _ => none
theorem keysL_is {K : PySem.W.Frag} {H : Hp} : ∀ {ds : List D} {xs : List V} {ks : List Key}, IsA K H ds xs → keysL ds = some ks → xs = ks.map kV
  | [], _, _, h, e => by cases h; cases e; rfl
  | d :: ds, _, ks, ⟨x, ys, e, h1, h2⟩, q => by
    subst e
    simp only [keysL] at q
    split at q
    · rename_i q1 q2
      cases q
      rw [keyD_is h1 q1, keysL_is h2 q2]
      rfl
    · cases q
theorem keysL_kv : ∀ ks : List Key, keysL (ks.map kvD) = some ks
  | [] => rfl
  | k :: ks => by simp only [List.map_cons, keysL, keyD_kv, keysL_kv ks]
theorem kvs_is {K : PySem.W.Frag} {H : Hp} : ∀ ks : List Key, IsA K H (ks.map kvD) (ks.map kV)
  | [] => rfl
  | k :: ks => ⟨_, _, rfl, kvD_is k, kvs_is ks⟩
/-! ### the value of a key -/
section
variable {κ : Type} [DecidableEq κ]
def lookD : List κ → List D → κ → Option D
  | k :: ks, d :: ds, j => if k = j then some d else lookD ks ds j
  | _, _, _ => none
theorem look_is {K : PySem.W.Frag} {H : Hp} : ∀ {ks : List κ} {ds : List D} {xs : List V} {j : κ}, ks.length = ds.length → IsA K H ds xs → match lookD ks ds j with
    | some d => ∃ v, valV (ks.zip xs) j = some v ∧ Is K H d v
    | none => valV (ks.zip xs) j = none
  | [], [], _, _, _, h => by cases h; rfl
  | [], _ :: _, _, _, h, _ => by cases h
  | _ :: _, [], _, _, h, _ => by cases h
  | k :: ks, d :: ds, _, j, h, ⟨x, ys, e, h1, h2⟩ => by
    subst e
    unfold lookD
    by_cases c : k = j
    · rw [if_pos c]
      exact ⟨x, valV_pos c, h1⟩
    · rw [if_neg c]
      have q := look_is (j := j) (Nat.succ.inj h) h2
      show match lookD ks ds j with | some d => ∃ v, valV ((k, x) :: ks.zip ys) j = some v ∧ Is K H d v | none => valV ((k, x) :: ks.zip ys) j = none
      rw [valV_neg c]
      exact q
theorem look_some {K : PySem.W.Frag} {H : Hp} {ks : List κ} {ds : List D} {xs : List V} {j : κ} {d : D} (l : ks.length = ds.length) (h : IsA K H ds xs) (e : lookD ks ds j = some d) : ∃ v, valV (ks.zip xs) j = some v ∧ Is K H d v := by
  have q := look_is (j := j) l h
  rw [e] at q
  exact q
theorem look_none {K : PySem.W.Frag} {H : Hp} {ks : List κ} {ds : List D} {xs : List V} {j : κ} (l : ks.length = ds.length) (h : IsA K H ds xs) (e : lookD ks ds j = none) : valV (ks.zip xs) j = none := by
  have q := look_is (j := j) l h
  rw [e] at q
  exact q
/-- d[k] = x, told of the keys and of the values -/
def putKs : List κ → κ → List κ
  | [], j => [j]
  | k :: ks, j => if k = j then k :: ks else k :: putKs ks j
def putDs {α : Type} : List κ → List α → κ → α → List α
  | k :: ks, d :: ds, j, x => if k = j then x :: ds else d :: putDs ks ds j x
  | _, _, _, x => [x]
theorem put_len2 {α : Type} : ∀ {ks : List κ} {ds : List α} {j : κ} {x : α}, ks.length = ds.length → (putKs ks j).length = (putDs ks ds j x).length ∧ (putKs ks j).length ≤ ks.length + 1
  | [], [], _, _, _ => ⟨rfl, Nat.le_refl _⟩
  | [], _ :: _, _, _, h => by cases h
  | _ :: _, [], _, _, h => by cases h
  | k :: ks, d :: ds, j, x, h => by
    unfold putKs putDs
    by_cases c : k = j
    · rw [if_pos c, if_pos c]
      exact ⟨h, Nat.le_succ _⟩
    · rw [if_neg c, if_neg c]
      obtain ⟨a, b⟩ := put_len2 (j := j) (x := x) (Nat.succ.inj h)
      exact ⟨congrArg Nat.succ a, Nat.succ_le_succ b⟩
theorem put_isA {K : PySem.W.Frag} {H : Hp} {x : D} {v : V} (hx : Is K H x v) : ∀ {ks : List κ} {ds : List D} {xs : List V} {j : κ}, ks.length = ds.length → IsA K H ds xs → IsA K H (putDs ks ds j x) (putDs ks xs j v)
  | [], [], _, _, _, h => by cases h; exact ⟨v, [], rfl, hx, rfl⟩
  | [], _ :: _, _, _, h, _ => by cases h
  | _ :: _, [], _, _, h, _ => by cases h
  | k :: ks, d :: ds, _, j, h, ⟨y, ys, e, h1, h2⟩ => by
    subst e
    unfold putDs
    by_cases c : k = j
    · rw [if_pos c, if_pos c]
      exact ⟨v, ys, rfl, hx, h2⟩
    · rw [if_neg c, if_neg c]
      exact ⟨y, _, rfl, h1, put_isA hx (Nat.succ.inj h) h2⟩
theorem put_zip {v : V} : ∀ {ks : List κ} {xs : List V} {j : κ}, ks.Nodup → ks.length = xs.length → putK (ks.zip xs) j v = (putKs ks j).zip (putDs ks xs j v)
  | [], [], _, _, _ => rfl
  | [], _ :: _, _, _, h => by cases h
  | _ :: _, [], _, _, h => by cases h
  | k :: ks, x :: xs, j, nd, h => by
    have ih := put_zip (v := v) (j := j) (List.nodup_cons.mp nd).2 (Nat.succ.inj h)
    unfold putKs putDs
    by_cases c : k = j
    · rw [if_pos c, if_pos c]
      have : ∀ p ∈ ks.zip xs, ¬ p.1 = j := fun p hp e => (List.nodup_cons.mp nd).1 (by rw [c, ← e]; exact (List.of_mem_zip hp).1)
      show (if ((k, x) :: ks.zip xs).any (fun kv => decide (kv.1 = j)) = true then ((k, x) :: ks.zip xs).map (fun kv => if kv.1 = j then (kv.1, v) else kv) else _) = _
      rw [if_pos (by rw [List.any_cons, decide_eq_true c]; rfl), List.map_cons, if_pos c]
      show (k, v) :: _ = (k, v) :: ks.zip xs
      congr 1
      exact (List.map_congr_left fun p hp => if_neg (this p hp)).trans (List.map_id _)
    · rw [if_neg c, if_neg c]
      show (if ((k, x) :: ks.zip xs).any (fun kv => decide (kv.1 = j)) = true then ((k, x) :: ks.zip xs).map (fun kv => if kv.1 = j then (kv.1, v) else kv) else ((k, x) :: ks.zip xs) ++ [(j, v)]) = (k, x) :: (putKs ks j).zip (putDs ks xs j v)
      rw [← ih, List.any_cons, decide_eq_false c, Bool.false_or, List.map_cons, if_neg c]
      show _ = (k, x) :: (if (ks.zip xs).any (fun kv => decide (kv.1 = j)) = true then (ks.zip xs).map (fun kv => if kv.1 = j then (kv.1, v) else kv) else ks.zip xs ++ [(j, v)])
      by_cases a : (ks.zip xs).any (fun kv => decide (kv.1 = j)) = true
      · rw [if_pos a, if_pos a]
      · rw [if_neg a, if_neg a]
        rfl
theorem putKs_nodup : ∀ {ks : List κ} {j : κ}, ks.Nodup → (putKs ks j).Nodup ∧ ∀ x, x ∈ putKs ks j ↔ x ∈ ks ∨ x = j
  | [], j, _ => ⟨by simp [putKs], fun x => by simp [putKs]⟩
  | k :: ks, j, nd => by
    obtain ⟨a, b⟩ := putKs_nodup (j := j) (List.nodup_cons.mp nd).2
    unfold putKs
    by_cases c : k = j
    · rw [if_pos c]
      exact ⟨nd, fun x => ⟨.inl, fun h => h.elim id fun e => by rw [e, ← c]; exact List.mem_cons_self⟩⟩
    · rw [if_neg c]
      refine ⟨List.nodup_cons.mpr ⟨fun m => ((b k).mp m).elim (List.nodup_cons.mp nd).1 c, a⟩, fun x => ?_⟩
      rw [List.mem_cons, List.mem_cons, b x, or_assoc]
theorem look_mem {ks : List κ} {ds : List D} {j : κ} (l : ks.length = ds.length) : (lookD ks ds j).isSome = true ↔ j ∈ ks := by
  induction ks generalizing ds with
  | nil => cases ds <;> simp [lookD]
  | cons k ks ih =>
    cases ds with
    | nil => cases l
    | cons d ds =>
      unfold lookD
      by_cases c : k = j
      · rw [if_pos c]; simp [c]
      · rw [if_neg c, ih (Nat.succ.inj l), List.mem_cons]
        exact ⟨.inr, fun h => h.resolve_left fun e => c e.symm⟩
end
/-! ### locking for good -/
section
variable {X : Cx} {c : Cn}
theorem pe_frz {e : Expr} {t : TE} (h : PE X e t) : PE X e (fun σ H Q => t σ H fun v H1 => ∃ d u, v = .ref d ∧ H1 d = some u ∧ Mut (some u) ∧ ∀ od, Q v (upd H1 d (.frz od u))) := by
  refine ⟨fun pins s σ H Q I hw => ?_⟩
  refine thn (h.run pins s σ _ _ I hw) fun v s1 ⟨x, H1, I1, r, d, u, e, hd, mu, q⟩ => ?_
  obtain ⟨od, I2⟩ := I1.lock hd mu
  exact ⟨x, _, I2, r, q od⟩
theorem pss_frz {st : List Stmt} {t : TS} (h : PSs X st t) : PSs X st (fun D σ H => ∃ d u, H d = some u ∧ Mut (some u) ∧ ∀ od, t D σ (upd H d (.frz od u))) := by
  refine ⟨fun pins s σ H D I hw => ?_⟩
  obtain ⟨d, u, hd, mu, hw⟩ := hw
  obtain ⟨od, I1⟩ := I.lock hd mu
  exact h.run pins s σ _ _ I1 (hw od)
/-! ### an expression that makes a dict of its own -/
abbrev TMD := List Sl → (Mu → Prop) → QE → Prop
def liftM (c : Cn) (K : PySem.W.Frag) (t : TMD) : TE := fun σ H Q => ∃ O Hs ss Qm Ed, Abs K c O Hs H σ ss ∧ t ss Qm Ed ∧ ErrC K c Ed ∧ ∀ m p u Hs' H', Ext (Z0 O) Hs H Hs' H' → H p = none → Hs' p = none → H' p = some u → MuIs K Hs' m u → Qm m → Q (.ref p) H'
abbrev DOM (X : Cx) (c : Cn) (e : Expr) (t : TMD) : Prop := PE X e (liftM c X.K t)
/-- as data -/
def Mu.d : Mu → D
  | .dic ks ds => .dct ks ds
  | .dit ks ds => .dctT ks ds
  | .ins C ns ds => .obj C ns ds
def Mu.isD : Mu → Bool
  | .ins _ _ _ => false
  | _ => true
theorem mu_frz {K : PySem.W.Frag} {Hs : Hp} {p : Addr} {od : Obj} : ∀ {m : Mu} {u : HO}, m.isD = true → MuIs K Hs m u → Hs p = none → Mut (some u) ∧ Is K (upd Hs p (.frz od u)) m.d (.ref p)
  | .dic ks ds, _, _, ⟨xs, e, l, h⟩, n => by subst e; exact ⟨trivial, p, od, xs, rfl, upd_same, l, h.same (same_up n)⟩
  | .dit ks ds, _, _, ⟨xs, e, l, h⟩, n => by subst e; exact ⟨trivial, p, od, xs, rfl, upd_same, l, h.same (same_up n)⟩
  | .ins _ _ _, _, e, _, _ => by cases e
def tdM (t : TMD) : TD := fun ss Q Ed => t ss (fun m => m.isD = true ∧ Q m.d) Ed
theorem d_ofM {e : Expr} {t : TMD} (h : DOM X c e t) : DE X c e (tdM t) := by
  refine pe_imp (pe_frz h) fun σ H Q q => ?_
  obtain ⟨O, Hs, ss, Qd, Ed, A, h, er, g⟩ := q
  refine ⟨O, Hs, ss, _, Ed, A, h, er, fun m p u Hs1 H1 x1 n1 n2 h1 h2 ⟨q0, q1⟩ => ?_⟩
  refine ⟨p, u, rfl, h1, (mu_frz (od := default) q0 h2 n2).1, fun od => ?_⟩
  exact g _ _ (upd Hs1 p (.frz od u)) _ ((x1.put n1 n2).freeze n1 n2 upd_same) (mu_frz q0 h2 n2).2 q1
/-- x = e, the new dict the slot's own -/
def tdSetM (i : Nat) (t : TMD) : TSD := fun En ss Ed => t ss (fun m => ∀ p, En.nx (put ss i (.mu p m))) Ed
theorem Abs.ownM {K c O Hs H σ ss} (A : Abs K c O Hs H σ ss) {i : Nat} {p : Addr} {m : Mu} {u : HO} {H0 : Hp} (lv : ∀ a, O a ≠ none → NT (H0 a)) (c0 : c.H p = none) (n0 : H0 p = none) (n : Hs p = none) (hp : H p = some u) (h : MuIs K Hs m u) :
    ∃ O', Abs K c O' Hs H (σ.set i (some (.ref p))) (put ss i (.mu p m)) := by
  classical
  have Op : O p = none := by
    cases q : O p with
    | none => rfl
    | some k => exact absurd n0 (lv p (by rw [q]; exact fun z => nomatch z)).ne
  have hO : ∀ a, a ≠ p → (if a = p then some (i + 1) else O a) = O a := fun a h => if_neg h
  refine ⟨fun b => if b = p then some (i + 1) else O b, A.ext, fun a h => ?_, fun a h' => ?_, fun a h => ?_, fun a h => ?_, by rw [put_len, List.length_set]; exact A.len, fun j => ?_⟩
  · by_cases e : a = p
    · subst e; exact n
    · rw [hO a e] at h; exact A.fz a h
  · by_cases e : a = p
    · subst e; rw [hp]; exact h.nt
    · rw [hO a e] at h'; exact A.live a h'
  · by_cases e : a = p
    · subst e; exact .inr c0
    · rw [hO a e] at h; exact A.own0 a h
  · by_cases e : a = p
    · subst e
      have := A.z a h
      rw [Op] at this; cases this
    · show (if a = p then some (i + 1) else O a) = some 0
      rw [hO a e]; exact A.z a h
  · by_cases e : j = i
    · subst e
      by_cases l : j < ss.length
      · rw [nth_put l, List.getElem?_set_self (by rw [A.len]; exact l)]
        exact ⟨u, rfl, if_pos rfl, hp, h⟩
      · rw [put_out (Nat.le_of_not_lt l), nth_out (Nat.le_of_not_lt l)]
        trivial
    · rw [nth_put_ne e, List.getElem?_set_ne (fun z => e z.symm)]
      have q := A.sl j
      revert q
      cases nth ss j with
      | un => exact fun _ => trivial
      | d x => exact fun q => q
      | own p' es =>
        rintro ⟨xs', h1, h2, h3, h4⟩
        have ne : p' ≠ p := by rintro rfl; rw [Op] at h2; cases h2
        exact ⟨xs', h1, (hO p' ne).trans h2, h3, h4⟩
      | pool =>
        rintro ⟨p', h1, h2, h3⟩
        have ne : p' ≠ p := by rintro rfl; rw [Op] at h2; cases h2
        exact ⟨p', h1, (hO p' ne).trans h2, h3⟩
      | mu p' m' =>
        rintro ⟨u', h1, h2, h3, h4⟩
        have ne : p' ≠ p := by rintro rfl; rw [Op] at h2; cases h2
        exact ⟨u', h1, (hO p' ne).trans h2, h3, h4⟩
theorem d_setM {i : Nat} {x : Str} {e : Expr} {pos pos' : Pos} {t : TMD} (hN : X.N.Nodup) (hi : X.N[i]? = some x) (hx : Loc X.env.scope x) (h : DOM X c e t) (hs : swapsWith e (some (.Name x pos')) pos.line X.env = pure false := by rfl)
    (hf : X.fn x = true ∨ X.env.scope.names.lookup x = some .local := by first | exact .inl rfl | exact .inr rfl | assumption) : DS X c (.Assign [.Name x pos'] e pos) (tdSetM i t) := by
  refine ps_imp (ps_set hN hi hx h hs hf) fun Dn σ H q => ?_
  obtain ⟨O, Hs, ss, En, Ed, A, h, er, gc⟩ := q
  refine ⟨O, Hs, ss, _, Ed, A, h, er, fun m p u Hs1 H1 x1 n1 n2 h1 h2 q1 => ?_⟩
  obtain ⟨O', A'⟩ := (A.next x1).ownM (i := i) A.live (A.fresh n1) n1 n2 h1 h2
  exact gc.nx _ O' Hs1 _ _ x1.fz A' (q1 p)
/-- return of a dict that was just made, or of a slot's own -/
def tdRetM (t : TMD) : TSD := fun En ss Ed => t ss En.rm Ed
theorem d_retM {e : Expr} {pos : Pos} {t : TMD} (h : DOM X c e t) : DS X c (.Return (some e) pos) (tdRetM t) := by
  refine ps_imp (ps_ret h) fun Dn σ H q => ?_
  obtain ⟨O, Hs, ss, En, Ed, A, h, er, gc⟩ := q
  exact ⟨O, Hs, ss, _, Ed, A, h, er, fun m p u Hs1 H1 x1 n1 n2 h1 h2 q1 => gc.rm m p u Hs1 H1 (A.after x1) (A.fresh n1) n2 h1 h2 q1⟩
def tdRetMu (i : Nat) : TSD := fun En ss _ => match nth ss i with
  | .mu _ m => En.rm m
  | _ => False
theorem mu_facts {K c O Hs H σ ss} (A : Abs K c O Hs H σ ss) {i : Nat} {p : Addr} {m : Mu} (h : nth ss i = .mu p m) : ∃ u, σ[i]? = some (some (.ref p)) ∧ O p = some (i + 1) ∧ H p = some u ∧ MuIs K Hs m u ∧ Hs p = none ∧ c.H p = none := by
  have q := A.sl i
  rw [h] at q
  obtain ⟨u, h1, own, h3, h4⟩ := q
  have nz : ¬ c.Z p := fun z => by have := A.z p z; rw [own] at this; cases this
  exact ⟨u, h1, own, h3, h4, A.fz p (by rw [own]; exact fun z => nomatch z), (A.own0 p (by rw [own]; exact fun z => nomatch z)).resolve_left nz⟩
theorem d_retMu {e : Expr} {pos : Pos} {i : Nat} (he : PE X e (tVar i)) : DS X c (.Return (some e) pos) (tdRetMu i) := by
  refine ps_imp (ps_ret he) fun Dn σ H q => ?_
  obtain ⟨O, Hs, ss, En, Ed, A, h, er, g⟩ := q
  unfold tdRetMu at h
  split at h
  · rename_i p m hs
    obtain ⟨u, h1, _, h3, h4, h5, h6⟩ := mu_facts A hs
    exact ⟨_, h1, g.rm m p u Hs H A.ext h6 h5 h3 h4 h⟩
  · exact h.elim
/-- a dict of a slot's own is given up: data from here on -/
def tdPubM (i : Nat) (t : TSD) : TSD := fun En ss Ed => match nth ss i with
  | .mu _ m => m.isD = true ∧ t En (put ss i (.d m.d)) Ed
  | _ => False
theorem dss_pubM (i : Nat) {st : List Stmt} {t : TSD} (h : DSs X c st t) : DSs X c st (tdPubM i t) := by
  refine pss_imp (pss_frz h) fun Dn σ H q => ?_
  obtain ⟨O, Hs, ss, En, Ed, A, h, er, g⟩ := q
  unfold tdPubM at h
  split at h
  · rename_i p m hs
    obtain ⟨q0, h⟩ := h
    obtain ⟨u, h1, own, h3, h4, h5, _⟩ := mu_facts A hs
    refine ⟨p, u, h3, (mu_frz (od := default) q0 h4 h5).1, fun od => ?_⟩
    obtain ⟨A', s'⟩ := A.pubG (o := .frz od u) h1 own h3 (mu_frz q0 h4 h5).2
    exact ⟨_, _, _, En, Ed, A', h, er, g.up s'⟩
  · exact h.elim
/-! ### {}, {k: v} -/
theorem do_dnewK {pos : Pos} : DOM X c (.Dict [] [] pos) (fun _ Q _ => Q (.dic [] [])) := by
  refine pe_imp pe_dnewK fun σ H Q q => ?_
  obtain ⟨O, Hs, ss, Qd, Ed, A, h, er, g⟩ := q
  intro p np
  exact g (.dic [] []) p _ Hs _ (.grow A.sub np) np (none_sub A.sub np) upd_same ⟨[], rfl, rfl, rfl⟩ h
theorem do_dnewT {pos : Pos} : DOM X c (.Dict [] [] pos) (fun _ Q _ => Q (.dit [] [])) := by
  refine pe_imp pe_dnewT fun σ H Q q => ?_
  obtain ⟨O, Hs, ss, Qd, Ed, A, h, er, g⟩ := q
  intro p np
  exact g (.dit [] []) p _ Hs _ (.grow A.sub np) np (none_sub A.sub np) upd_same ⟨[], rfl, rfl, rfl⟩ h
theorem d_dsp0 {pos : Pos} : DE X c (.Dict [] [] pos) (tdC (.dct [] [])) := pe_imp (d_ofM do_dnewK) fun σ H Q q => by
  obtain ⟨O, Hs, ss, Qd, Ed, A, h, er, g⟩ := q
  exact ⟨O, Hs, ss, Qd, Ed, A, ⟨rfl, h⟩, er, g⟩
/-- the pairs of a display -/
def tdPairs : List (TD × TD) → List Sl → (List (D × D) → Prop) → QE → Prop
  | [], _, Q, _ => Q []
  | p :: r, ss, Q, Ed => p.1 ss (fun k => p.2 ss (fun v => tdPairs r ss (fun ps => Q ((k, v) :: ps)) Ed) Ed) Ed
def PairIs (K : PySem.W.Frag) (Hs : Hp) : List (D × D) → List (V × V) → Prop
  | [], vs => vs = []
  | p :: ps, vs => ∃ k v ws, vs = (k, v) :: ws ∧ Is K Hs p.1 k ∧ Is K Hs p.2 v ∧ PairIs K Hs ps ws
theorem PairIs.same {K Hs Hs'} (s : Same Hs Hs') : ∀ {ps : List (D × D)} {vs : List (V × V)}, PairIs K Hs ps vs → PairIs K Hs' ps vs
  | [], _, h => h
  | _ :: _, _, ⟨k, v, ws, e, h1, h2, h3⟩ => ⟨k, v, ws, e, h1.same s, h2.same s, h3.same s⟩
theorem pairs_run : ∀ (trs : List (TD × TD)) {O : Addr → Option Nat} {Hs H : Hp} {σ : L2.St} {ss : List Sl} {Qp : List (D × D) → Prop} {Ed : QE} {Q : List (V × V) → Hp → Prop}, Abs X.K c O Hs H σ ss → tdPairs trs ss Qp Ed → ErrC X.K c Ed →
    (∀ ps vs Hs' H', Ext (Z0 O) Hs H Hs' H' → PairIs X.K Hs' ps vs → Qp ps → Q vs H') → tPairs (trs.map fun p => (lift c X.K p.1, lift c X.K p.2)) σ H Q
  | [], O, Hs, H, σ, ss, Qp, Ed, Q, A, h, er, g => g [] [] Hs H (.refl A.sub) rfl h
  | (tk, tv) :: r, O, Hs, H, σ, ss, Qp, Ed, Q, A, h, er, g => by
    refine ⟨O, Hs, ss, _, Ed, A, h, er, fun d v Hs1 H1 e1 i1 q1 => ?_⟩
    refine ⟨O, Hs1, ss, _, Ed, A.next e1, q1, er, fun d2 v2 Hs2 H2 e2 i2 q2 => ?_⟩
    exact pairs_run r ((A.next e1).next e2) q2 er fun ps vs Hs3 H3 e3 i3 q3 => g ((d, d2) :: ps) ((v, v2) :: vs) Hs3 H3 ((e1.trans e2).trans e3) ⟨v, v2, vs, rfl, (i1.same e2.fz).same e3.fz, i2.same e3.fz, i3⟩ q3
def keysD : List (D × D) → Option (List Key)
  | [] => some []
  | p :: ps => match keyD p.1, keysD ps with
    | some k, some ks => some (k :: ks)
    | _, _ => none
def toDsp (trs : List (TD × TD)) : TMD := fun ss Q Ed => tdPairs trs ss (fun ps => ∃ ks, keysD ps = some ks ∧ ks.Nodup ∧ ps.length ≤ 15 ∧ Q (.dic ks (ps.map (·.2)))) Ed
abbrev DPs (X : Cx) (c : Cn) (pos : Pos) (keys : List (Option Expr)) (vals : List Expr) (trs : List (TD × TD)) : Prop := PPs X pos keys vals (trs.map fun p => (lift c X.K p.1, lift c X.K p.2))
theorem dps_nil {pos : Pos} : DPs X c pos [] [] [] := pps_nil
theorem dps_cons {pos : Pos} {k v : Expr} {ks : List (Option Expr)} {vs : List Expr} {tk tv : TD} {trs : List (TD × TD)} (hk : DE X c k tk) (hv : DE X c v tv) (hr : DPs X c pos ks vs trs) : DPs X c pos (some k :: ks) (v :: vs) ((tk, tv) :: trs) := pps_cons hk hv hr
theorem pairs_keys {K : PySem.W.Frag} {Hs : Hp} : ∀ {ps : List (D × D)} {vs : List (V × V)} {ks : List Key}, PairIs K Hs ps vs → keysD ps = some ks → vs = (zipV ks (vs.map (·.2))).map (fun kv => (kV kv.1, kv.2)) ∧ IsA K Hs (ps.map (·.2)) (vs.map (·.2)) ∧ ks.length = ps.length
  | [], _, ks, h, e => by
    simp only [keysD, Option.some.injEq] at e
    subst e
    cases h
    exact ⟨rfl, rfl, rfl⟩
  | p :: ps, _, ks, ⟨k, v, ws, ev, h1, h2, h3⟩, e => by
    subst ev
    simp only [keysD] at e
    split at e
    · rename_i k0 ks0 q1 q2
      cases e
      obtain ⟨a, b, d⟩ := pairs_keys h3 q2
      refine ⟨?_, ⟨v, _, rfl, h2, b⟩, congrArg Nat.succ d⟩
      rw [keyD_is h1 q1]
      show _ = (kV k0, v) :: (zipV ks0 (ws.map (·.2))).map (fun kv => (kV kv.1, kv.2))
      rw [← a]
    · cases e
theorem merge_new : ∀ (more acc : List (Key × V)), (acc.map (·.1) ++ more.map (·.1)).Nodup → mergeK acc more = acc ++ more
  | [], acc, _ => by rw [List.append_nil]; rfl
  | (k, v) :: r, acc, h => by
    have nk : valV acc k = none := by
      have : k ∉ acc.map (·.1) := fun m => by
        rw [List.nodup_append] at h
        exact h.2.2 k m k (by simp) rfl
      unfold valV
      rw [List.find?_eq_none.mpr fun p hp e => this (by rw [← of_decide_eq_true e]; exact List.mem_map_of_mem hp)]
      rfl
    show mergeK (putK acc k v) r = _
    rw [putK_new v nk, merge_new r (acc ++ [(k, v)]) (by simpa using h)]
    simp
theorem zipV_keys {ks : List Key} {xs : List V} (h : ks.length = xs.length) : (zipV ks xs).map (·.1) = ks ∧ (zipV ks xs).length = ks.length := by
  refine ⟨List.map_fst_zip (Nat.le_of_eq h), ?_⟩
  rw [List.length_zip, h, Nat.min_self]
theorem do_dsp {pos : Pos} {keys : List (Option Expr)} {vals : List Expr} {trs : List (TD × TD)} (h : DPs X c pos keys vals trs) (hall : keys.all (·.isSome) = true := by rfl) (hl : keys.length = vals.length := by rfl) (h0 : keys ≠ [] := by exact fun z => nomatch z) (h15 : keys.length ≤ 15 := by decide) : DOM X c (.Dict keys vals pos) (toDsp trs) := by
  refine pe_imp (pe_disp h hall hl h0 h15) fun σ H Q q => ?_
  obtain ⟨O, Hs, ss, Qd, Ed, A, h, er, g⟩ := q
  intro p np
  have x0 : Ext (Z0 O) Hs H Hs (upd H p (.dK [])) := .grow A.sub np
  have nps : Hs p = none := none_sub A.sub np
  have nz : ¬ Z0 O p := fun z => (A.live p (by rw [show O p = some 0 from z]; exact fun w => nomatch w)).ne np
  refine pairs_run trs (A.next x0) h er fun ps vs Hs2 H2 e2 i2 ⟨ks, hk, nd, few, q⟩ => ?_
  obtain ⟨a, b, l⟩ := pairs_keys i2 hk
  have lv : ks.length = (vs.map (·.2)).length := by rw [b.len, List.length_map, l]
  obtain ⟨z1, z2⟩ := zipV_keys lv
  refine ⟨e2.keep p _ nz upd_same, zipV ks (vs.map (·.2)), a, by rw [z2, l]; exact few, ?_⟩
  rw [merge_new _ [] (by rw [z1]; exact nd), List.nil_append]
  have n2 : Hs2 p = none := e2.new p nps (by rw [upd_same]; trivial)
  exact g (.dic ks (ps.map (·.2))) p _ Hs2 _ ((x0.trans e2).put np n2) np n2 upd_same ⟨_, rfl, by rw [l, List.length_map], b⟩ q
/-- {k: v, ..} as data -/
theorem d_dsp {pos : Pos} {keys : List (Option Expr)} {vals : List Expr} {trs : List (TD × TD)} (h : DPs X c pos keys vals trs) (hall : keys.all (·.isSome) = true := by rfl) (hl : keys.length = vals.length := by rfl) (h0 : keys ≠ [] := by exact fun z => nomatch z) (h15 : keys.length ≤ 15 := by decide) : DE X c (.Dict keys vals pos) (tdM (toDsp trs)) := d_ofM (do_dsp h hall hl h0 h15)
/-! ### reading -/
def OptIs (K : PySem.W.Frag) (Hs : Hp) : Option D → Option V → Prop
  | some d, r => ∃ w, r = some w ∧ Is K Hs d w
  | none, r => r = none
/-- what data of a dict hold at a key -/
def getDD (x y : D) : Option (Option D) := match x with
  | .dct ks ds => (keyD y).map (lookD ks ds)
  | .dctT ks ds => (keyT y).map (lookD ks ds)
  | _ => none
theorem getDD_is {K : PySem.W.Frag} {Hs H : Hp} {x y : D} {v u : V} {o : Option D} (s : Same Hs H) (i1 : Is K Hs x v) (i2 : Is K Hs y u) (h : getDD x y = some o) : ∃ a r, v = .ref a ∧ IsD H a ∧ DGet H a u r ∧ OptIs K Hs o r := by
  cases x <;> simp only [getDD, reduceCtorEq] at h
  · rename_i ks ds
    obtain ⟨a, od, xs, rfl, ha, l, ia⟩ := i1
    cases hk : keyD y with
    | none => rw [hk] at h; cases h
    | some k =>
      rw [hk] at h
      have e := keyD_is i2 hk
      subst e
      cases h
      refine ⟨a, valV (zipV ks xs) k, rfl, .inl ⟨_, .inr ⟨od, s _ _ ha⟩⟩, .inl ⟨_, k, .inr ⟨od, s _ _ ha⟩, rfl, rfl⟩, ?_⟩
      generalize hd : lookD ks ds k = o
      cases o with
      | some d => exact look_some l ia hd
      | none => exact look_none l ia hd
  · rename_i ks ds
    obtain ⟨a, od, xs, rfl, ha, l, ia⟩ := i1
    cases hk : keyT y with
    | none => rw [hk] at h; cases h
    | some k =>
      rw [hk] at h
      cases h
      cases y <;> simp only [keyT, reduceCtorEq] at hk
      obtain ⟨b, ys, rfl, hb, ib⟩ := i2
      have e := keysL_is ib hk
      subst e
      refine ⟨a, valV (zipT ks xs) k, rfl, .inr ⟨_, .inr ⟨od, s _ _ ha⟩⟩, .inr ⟨_, k, b, .inr ⟨od, s _ _ ha⟩, rfl, s _ _ hb, rfl⟩, ?_⟩
      generalize hd : lookD ks ds k = o
      cases o with
      | some d => exact look_some l ia hd
      | none => exact look_none l ia hd
def tdDGetD (td ty : TD) : TD := fun ss Q Ed => td ss (fun x => ty ss (fun y => match getDD x y with
  | some (some d) => Q d
  | _ => False) Ed) Ed
theorem d_dget {a b : Expr} {pos : Pos} {td ty : TD} (hu : X.A.units + 1 < cLine) (ha : DE X c a td) (hb : DE X c b ty) (hs : NoSl b := by exact fun _ _ => rfl) : DE X c (.Subscript a b pos) (tdDGetD td ty) := by
  refine pe_imp (pe_dget hu ha hb hs) fun σ H Q q => ?_
  obtain ⟨O, Hs, ss, Qd, Ed, A, h, er, g⟩ := q
  refine ⟨O, Hs, ss, _, Ed, A, h, er, fun d v Hs1 H1 e1 i1 q1 => ?_⟩
  refine ⟨O, Hs1, ss, _, Ed, A.next e1, q1, er, fun d2 v2 Hs2 H2 e2 i2 q2 => ?_⟩
  split at q2
  · rename_i d3 hd
    obtain ⟨p, r, rfl, _, dg, w, rfl, iw⟩ := getDD_is e2.sub (i1.same e2.fz) i2 hd
    exact ⟨p, w, rfl, dg, g _ _ Hs2 H2 (e1.trans e2) iw q2⟩
  · exact q2.elim
/-- k in d, k not in d -/
def tdDInD (neg : Bool) (ty td : TD) : TD := fun ss Q Ed => ty ss (fun y => td ss (fun x => match getDD x y with
  | some o => Q (.bl (o.isSome != neg))
  | none => False) Ed) Ed
theorem opt_match {K : PySem.W.Frag} {Hs : Hp} {o : Option D} {r : Option V} (h : OptIs K Hs o r) : r.isSome = o.isSome := by
  cases o with
  | some d => obtain ⟨w, e, _⟩ := h; rw [e]; rfl
  | none => rw [show r = none from h]; rfl
theorem d_din {a b : Expr} {pos : Pos} {td ty : TD} (hu : X.A.units + 1 < cLine) (hy : DE X c a ty) (hd : DE X c b td) (h1 : behindInMarks .In b = false := by rfl) : DE X c (.Compare a [.In] [b] pos) (tdDInD false ty td) := by
  refine pe_imp (pe_cmp (pc_din hu hy hd) h1) fun σ H Q q => ?_
  obtain ⟨O, Hs, ss, Qd, Ed, A, h, er, g⟩ := q
  refine ⟨O, Hs, ss, _, Ed, A, h, er, fun d v Hs1 H1 e1 i1 q1 => ?_⟩
  refine ⟨O, Hs1, ss, _, Ed, A.next e1, q1, er, fun d2 v2 Hs2 H2 e2 i2 q2 => ?_⟩
  split at q2
  · rename_i o ho
    obtain ⟨p, r, rfl, _, dg, m⟩ := getDD_is e2.sub i2 (i1.same e2.fz) ho
    refine ⟨p, r, rfl, dg, g (.bl _) _ Hs2 H2 (e1.trans e2) rfl ?_⟩
    rw [opt_match m]
    have : (o.isSome != false) = o.isSome := by cases o.isSome <;> rfl
    rw [this] at q2
    exact q2
  · exact q2.elim
theorem d_dnotin {a b : Expr} {pos : Pos} {td ty : TD} (hu : X.A.units + 1 < cLine) (hy : DE X c a ty) (hd : DE X c b td) (h1 : behindInMarks .NotIn b = false := by rfl) : DE X c (.Compare a [.NotIn] [b] pos) (tdDInD true ty td) := by
  refine pe_imp (pe_cmp (pc_dnotin hu hy hd) h1) fun σ H Q q => ?_
  obtain ⟨O, Hs, ss, Qd, Ed, A, h, er, g⟩ := q
  refine ⟨O, Hs, ss, _, Ed, A, h, er, fun d v Hs1 H1 e1 i1 q1 => ?_⟩
  refine ⟨O, Hs1, ss, _, Ed, A.next e1, q1, er, fun d2 v2 Hs2 H2 e2 i2 q2 => ?_⟩
  split at q2
  · rename_i o ho
    obtain ⟨p, r, rfl, _, dg, m⟩ := getDD_is e2.sub i2 (i1.same e2.fz) ho
    refine ⟨p, r, rfl, dg, g (.bl _) _ Hs2 H2 (e1.trans e2) rfl ?_⟩
    rw [opt_match m]
    have : (o.isSome != true) = !o.isSome := by cases o.isSome <;> rfl
    rw [this] at q2
    exact q2
  · exact q2.elim
/-- d.get(k, x) -/
def tdGet2 (td ty tx : TD) : TD := fun ss Q Ed => td ss (fun x => (match x with
    | .dct _ _ => True
    | .dctT _ _ => True
    | _ => False) ∧ ty ss (fun y => tx ss (fun z => match getDD x y with
  | some o => Q (o.getD z)
  | none => False) Ed) Ed) Ed
theorem d_get2 {o e f : Expr} {apos cpos : Pos} {td ty tx : TD} (hu : X.A.units + 1 < cLine) (ho : DE X c o td) (he : DE X c e ty) (hf : DE X c f tx) (m : M2 X o "get" apos e f cpos := by exact ⟨rfl, rfl, rfl, rfl⟩) : DE X c (.Call (.Attribute o "get" apos) [e, f] [] cpos) (tdGet2 td ty tx) := by
  refine pe_imp (pe_dget2 hu ho he hf m) fun σ H Q q => ?_
  obtain ⟨O, Hs, ss, Qd, Ed, A, h, er, g⟩ := q
  refine ⟨O, Hs, ss, _, Ed, A, h, er, fun d v Hs1 H1 e1 i1 ⟨q0, q1⟩ => ?_⟩
  have isd : ∃ a, v = .ref a ∧ IsD H1 a := by
    cases d <;> first | exact q0.elim | skip
    · obtain ⟨a, od, xs, rfl, ha, _⟩ := i1
      exact ⟨a, rfl, .inl ⟨_, .inr ⟨od, e1.sub _ _ ha⟩⟩⟩
    · obtain ⟨a, od, xs, rfl, ha, _⟩ := i1
      exact ⟨a, rfl, .inr ⟨_, .inr ⟨od, e1.sub _ _ ha⟩⟩⟩
  obtain ⟨a, rfl, isd⟩ := isd
  refine ⟨a, rfl, isd, O, Hs1, ss, _, Ed, A.next e1, q1, er, fun d2 v2 Hs2 H2 e2 i2 q2 => ?_⟩
  refine ⟨O, Hs2, ss, _, Ed, (A.next e1).next e2, q2, er, fun d3 v3 Hs3 H3 e3 i3 q3 => ?_⟩
  split at q3
  · rename_i o ho
    obtain ⟨p, r, ep, _, dg, m⟩ := getDD_is e3.sub ((i1.same e2.fz).same e3.fz) (i2.same e3.fz) ho
    cases ep
    refine ⟨r, dg, ?_⟩
    cases o with
    | some d4 =>
      obtain ⟨w, rfl, iw⟩ := m
      exact g d4 w Hs3 H3 ((e1.trans e2).trans e3) iw q3
    | none =>
      rw [show r = none from m]
      exact g d3 v3 Hs3 H3 ((e1.trans e2).trans e3) i3 q3
  · exact q3.elim
/-! ### walking -/
theorem Ext.late {Z : Addr → Prop} {Hs H : Hp} {q : Addr} {xs : List V} (s : Same Hs H) (n : Hs q = none) (h : H q = some (.tup xs)) : Ext Z Hs H (upd Hs q (.tup xs)) H where
  fz := same_up n
  sub := fun b o e => by
    by_cases hb : b = q
    · subst hb; rw [upd_same] at e; cases e; exact h
    · rw [upd_ne hb] at e; exact s _ _ e
  keep := fun _ _ _ e => e
  live := fun _ e => e
  new := fun b e f => by
    have hb : b ≠ q := by rintro rfl; rw [h] at f; exact f
    rw [upd_ne hb]; exact e
  nt := fun _ e => e
  pool := fun b l _ ⟨xs, h1, h2⟩ => ⟨xs, h1, h2.same (same_up n)⟩
/-- a tuple that stands there can be taken for data -/
theorem late_tup {K : PySem.W.Frag} {Hs H : Hp} {q : Addr} {xs : List V} {ds : List D} (s : Same Hs H) (h : H q = some (.tup xs)) (i : IsA K Hs ds xs) : ∃ Hs2, (∀ Z, Ext Z Hs H Hs2 H) ∧ Is K Hs2 (.tup ds) (.ref q) := by
  cases n : Hs q with
  | none => exact ⟨_, fun Z => .late s n h, q, xs, rfl, upd_same, i.same (same_up n)⟩
  | some o =>
    have e := s _ _ n
    rw [h] at e
    cases e
    exact ⟨Hs, fun Z => .refl s, q, xs, rfl, n, i⟩
theorem zip_get {κ : Type} {ks : List κ} {xs : List V} {i : Nat} {k : κ} {x : V} (h : (ks.zip xs)[i]? = some (k, x)) : ks[i]? = some k ∧ xs[i]? = some x := by
  rw [List.getElem?_zip_eq_some] at h
  exact h
theorem itk_items {K : PySem.W.Frag} {Hs : Hp} {a : Addr} {od : Obj} {ks : List Key} {xs : List V} (h : Hs a = some (.frz od (.dK (zipV ks xs)))) (l : ks.length = xs.length) : ItIs K (Itk a od (zipV ks xs)) (ks.map kvD) Hs where
  go := fun i Hs' H s1 s2 hi => ⟨(s1.trans s2) _ _ h, by rw [List.length_zip, ← l, Nat.min_self]; rw [List.length_map] at hi; exact hi⟩
  stop := fun i Hs' H s1 s2 hi => ⟨(s1.trans s2) _ _ h, by rw [List.length_zip, ← l, Nat.min_self]; rw [List.length_map] at hi; exact Nat.le_of_eq hi⟩
  yld := fun i Hs' H v H' d s1 s2 y hd => by
    obtain ⟨e, k, x, hk, ev⟩ := y
    subst e; subst ev
    rw [List.getElem?_map, (zip_get hk).1] at hd
    cases hd
    exact ⟨Hs', fun Z => .refl s2, kvD_is k⟩
theorem itkt_items {K : PySem.W.Frag} {Hs : Hp} {a : Addr} {od : Obj} {ks : List (List Key)} {xs : List V} (h : Hs a = some (.frz od (.dT (zipT ks xs)))) (l : ks.length = xs.length) : ItIs K (Itkt a od (zipT ks xs)) (ks.map fun k => .tup (k.map kvD)) Hs where
  go := fun i Hs' H s1 s2 hi => ⟨(s1.trans s2) _ _ h, by rw [List.length_zip, ← l, Nat.min_self]; rw [List.length_map] at hi; exact hi⟩
  stop := fun i Hs' H s1 s2 hi => ⟨(s1.trans s2) _ _ h, by rw [List.length_zip, ← l, Nat.min_self]; rw [List.length_map] at hi; exact Nat.le_of_eq hi⟩
  yld := fun i Hs' H v H' d s1 s2 y hd => by
    obtain ⟨e, k, x, q, hk, ev, hq⟩ := y
    subst e; subst ev
    rw [List.getElem?_map, (zip_get hk).1] at hd
    cases hd
    exact late_tup s2 hq (kvs_is k)
theorem itd_items {K : PySem.W.Frag} {Hs : Hp} {a : Addr} {od : Obj} {ks : List Key} {xs : List V} {ds : List D} (h : Hs a = some (.frz od (.dK (zipV ks xs)))) (l : ks.length = ds.length) (ia : IsA K Hs ds xs) : ItIs K (Itd a od (zipV ks xs)) ds Hs where
  go := fun i Hs' H s1 s2 hi => ⟨(s1.trans s2) _ _ h, by rw [List.length_zip, ia.len, l, Nat.min_self]; exact hi⟩
  stop := fun i Hs' H s1 s2 hi => ⟨(s1.trans s2) _ _ h, by rw [List.length_zip, ia.len, l, Nat.min_self]; exact Nat.le_of_eq hi⟩
  yld := fun i Hs' H v H' d s1 s2 y hd => by
    obtain ⟨e, k, hk⟩ := y
    subst e
    obtain ⟨x, hx, ix⟩ := ia.get hd
    have := (zip_get hk).2
    rw [hx] at this
    cases this
    exact ⟨Hs', fun Z => .refl s2, ix.same s1⟩
def itemsDD (ks : List Key) (ds : List D) : List D := (ks.zip ds).map fun p => .tup [kvD p.1, p.2]
theorem itemsDD_len {ks : List Key} {ds : List D} (l : ks.length = ds.length) : (itemsDD ks ds).length = ks.length := by
  unfold itemsDD
  rw [List.length_map, List.length_zip, l, Nat.min_self]
theorem itemsDD_get {ks : List Key} {ds : List D} {i : Nat} {d : D} (h : (itemsDD ks ds)[i]? = some d) : ∃ k x, ks[i]? = some k ∧ ds[i]? = some x ∧ d = .tup [kvD k, x] := by
  unfold itemsDD at h
  rw [List.getElem?_map] at h
  obtain ⟨p, hp, rfl⟩ := Option.map_eq_some_iff.mp h
  obtain ⟨k, x⟩ := p
  have := List.getElem?_zip_eq_some.mp hp
  exact ⟨k, x, this.1, this.2, rfl⟩
theorem iti_items {K : PySem.W.Frag} {Hs : Hp} {a : Addr} {od : Obj} {ks : List Key} {xs : List V} {ds : List D} (h : Hs a = some (.frz od (.dK (zipV ks xs)))) (l : ks.length = ds.length) (ia : IsA K Hs ds xs) : ItIs K (Iti a od (zipV ks xs)) (itemsDD ks ds) Hs where
  go := fun i Hs' H s1 s2 hi => ⟨(s1.trans s2) _ _ h, by rw [List.length_zip, ia.len, l, Nat.min_self]; rw [itemsDD_len l, l] at hi; exact hi⟩
  stop := fun i Hs' H s1 s2 hi => ⟨(s1.trans s2) _ _ h, by rw [List.length_zip, ia.len, l, Nat.min_self]; rw [itemsDD_len l, l] at hi; exact Nat.le_of_eq hi⟩
  yld := fun i Hs' H v H' d s1 s2 y hd => by
    obtain ⟨T, k, x, hk, ev, nT, eH⟩ := y
    subst ev; subst eH
    obtain ⟨k2, d2, h1, h2, rfl⟩ := itemsDD_get hd
    obtain ⟨g1, g2⟩ := zip_get hk
    rw [g1] at h1
    cases h1
    obtain ⟨x2, hx, ix⟩ := ia.get h2
    rw [g2] at hx
    cases hx
    have L := fun Z => Ext.laid (Z := Z) (o := .tup [kV k, x]) s2 nT
    exact ⟨_, L, T, _, rfl, upd_same, _, _, rfl, kvD_is k, x, _, rfl, (ix.same s1).same (L fun _ => False).fz, rfl⟩
def tiKeys (te : TD) : TID := fun ss Q Ed => te ss (fun x => match x with
  | .dct ks ds => Q (ks.map kvD)
  | .dctT ks ds => Q (ks.map fun k => .tup (k.map kvD))
  | _ => False) Ed
theorem di_keys {tg e : Expr} {te : TD} (h : DE X c e te) : DI X c tg e (tiKeys te) := by
  refine pi_imp (pi_keys h) fun σ H R q => ?_
  obtain ⟨O, Hs, ss, Qi, Ed, A, h, er, g⟩ := q
  refine ⟨O, Hs, ss, _, Ed, A, h, er, fun d v Hs1 H1 x1 i1 q1 => ?_⟩
  split at q1
  · obtain ⟨a, od, xs, rfl, ha, l, ia⟩ := i1
    exact ⟨a, od, rfl, .inl ⟨_, x1.sub _ _ ha, g _ _ Hs1 H1 x1 (itk_items ha (l.trans ia.len.symm)) q1⟩⟩
  · obtain ⟨a, od, xs, rfl, ha, l, ia⟩ := i1
    exact ⟨a, od, rfl, .inr ⟨_, x1.sub _ _ ha, g _ _ Hs1 H1 x1 (itkt_items ha (l.trans ia.len.symm)) q1⟩⟩
  · exact q1.elim
def tiVals (te : TD) : TID := fun ss Q Ed => te ss (fun x => match x with
  | .dct ks ds => Q ds
  | _ => False) Ed
theorem di_vals {tg e : Expr} {te : TD} {apos cpos : Pos} (h : DE X c e te) (hbase : attributeBase e "values" X.env (eval e X.env) = eval e X.env := by rfl) (hline : (apos.endLine == cpos.line) = true := by rfl) : DI X c tg (.Call (.Attribute e "values" apos) [] [] cpos) (tiVals te) := by
  refine pi_imp (pi_values h hbase hline) fun σ H R q => ?_
  obtain ⟨O, Hs, ss, Qi, Ed, A, h, er, g⟩ := q
  refine ⟨O, Hs, ss, _, Ed, A, h, er, fun d v Hs1 H1 x1 i1 q1 => ?_⟩
  split at q1
  · obtain ⟨a, od, xs, rfl, ha, l, ia⟩ := i1
    exact ⟨a, od, _, rfl, x1.sub _ _ ha, g _ _ Hs1 H1 x1 (itd_items ha l ia) q1⟩
  · exact q1.elim
def tiItems (te : TD) : TID := fun ss Q Ed => te ss (fun x => match x with
  | .dct ks ds => Q (itemsDD ks ds)
  | _ => False) Ed
theorem di_items {e : Expr} {te : TD} {apos cpos tpos : Pos} {elts : List Expr} {kk : Nat} (h : DE X c e te) (hbase : attributeBase e "items" X.env (eval e X.env) = eval e X.env := by rfl) (hline : (apos.endLine == cpos.line) = true := by rfl) : DI X c (.Tuple elts kk tpos) (.Call (.Attribute e "items" apos) [] [] cpos) (tiItems te) := by
  refine pi_imp (pi_items h hbase hline) fun σ H R q => ?_
  obtain ⟨O, Hs, ss, Qi, Ed, A, h, er, g⟩ := q
  refine ⟨O, Hs, ss, _, Ed, A, h, er, fun d v Hs1 H1 x1 i1 q1 => ?_⟩
  split at q1
  · obtain ⟨a, od, xs, rfl, ha, l, ia⟩ := i1
    exact ⟨a, od, _, rfl, x1.sub _ _ ha, g _ _ Hs1 H1 x1 (iti_items ha l ia) q1⟩
  · exact q1.elim
/-! ### stores -/
/-- d[k] = e, d a slot's own -/
def putMu (m : Mu) (y x : D) : Option Mu := match m with
  | .dic ks ds => (keyD y).map fun k => .dic (putKs ks k) (putDs ks ds k x)
  | .dit ks ds => (keyT y).map fun k => .dit (putKs ks k) (putDs ks ds k x)
  | .ins _ _ _ => none
def fewMu (m : Mu) : Prop := match m with
  | .dic ks _ => ks.Nodup ∧ ks.length ≤ 1000
  | .dit ks _ => ks.Nodup ∧ ks.length ≤ 1000
  | .ins _ _ _ => False
def tdDPut (i : Nat) (te tk : TD) : TSD := fun En ss Ed => te ss (fun x => match nth ss i with
  | .mu p m => fewMu m ∧ tk ss (fun y => match putMu m y x with
    | some m2 => En.nx (put ss i (.mu p m2))
    | none => False) Ed
  | _ => False) Ed
theorem d_dput {a k e : Expr} {i : Nat} {p0 pos : Pos} {te tk : TD} (hu : X.A.units + 1 < cLine) (he : DE X c e te) (ha : PE X a (tVar i)) (hk : DE X c k tk) (hs : swapsWithSole [.Subscript a k p0] e pos.line X.env = pure false := by rfl) (hw : swappedStores [.Subscript a k p0] e X.env = pure none := by rfl) (h1 : (assignEach [.Subscript a k p0] X.env).map (·.2) = [assign (.Subscript a k p0) X.env] := by rfl)
    (hsub : ∀ v, assign (.Subscript a k p0) X.env v = (do
      let ov ← holding [v] (eval a X.env)
      let iv ← holding [v, ov] (eval k X.env)
      standAt p0
      holding [v, ov, iv] (setItem ov iv v)
      release [v, ov, iv] []) := by intro _; rfl) : DS X c (.Assign [.Subscript a k p0] e pos) (tdDPut i te tk) := by
  refine ps_imp (ps_asg he (pg_sub ha hk (set_dict hu) hsub) hs hw h1) fun Dn σ H q => ?_
  obtain ⟨O, Hs, ss, En, Ed, A, h, er, g⟩ := q
  refine ⟨O, Hs, ss, _, Ed, A, h, er, fun d v Hs1 H1 e1 i1 q1 => ?_⟩
  split at q1
  · rename_i p m hm
    obtain ⟨few, q1⟩ := q1
    obtain ⟨u0, f1, own, _⟩ := mu_facts A hm
    refine ⟨.ref p, f1, O, Hs1, ss, _, Ed, A.next e1, q1, er, fun y w Hs2 H2 e2 i2 q2 => ?_⟩
    have A2 := (A.next e1).next e2
    obtain ⟨u, _, _, hu2, mi, _⟩ := mu_facts A2 hm
    have ix := i1.same e2.fz
    cases m with
    | dic ks ds =>
      obtain ⟨xs, rfl, l, ia⟩ := mi
      cases hk : keyD y with
      | none => simp only [putMu, hk, Option.map_none] at q2
      | some k =>
        simp only [putMu, hk, Option.map_some] at q2
        have ek := keyD_is i2 hk
        subst ek
        have lx : ks.length = xs.length := l.trans ia.len.symm
        refine ⟨p, _, rfl, .k hu2 (by rw [List.length_zip, ← lx, Nat.min_self]; exact Nat.lt_of_le_of_lt few.2 (by decide)), ?_⟩
        rw [put_zip few.1 lx]
        refine g.nx σ O Hs2 _ _ (e1.fz.trans e2.fz) (A2.writeM (m := .dic _ _) f1 own ⟨_, rfl, (put_len2 l).1, put_isA ix l ia⟩) q2
    | dit ks ds =>
      obtain ⟨xs, rfl, l, ia⟩ := mi
      cases hk : keyT y with
      | none => simp only [putMu, hk, Option.map_none] at q2
      | some k =>
        simp only [putMu, hk, Option.map_some] at q2
        cases y <;> simp only [keyT, reduceCtorEq] at hk
        obtain ⟨b, ys, rfl, hb, ib⟩ := i2
        have ek := keysL_is ib hk
        subst ek
        have lx : ks.length = xs.length := l.trans ia.len.symm
        refine ⟨p, _, rfl, .t hu2 (e2.sub _ _ hb) (by rw [List.length_zip, ← lx, Nat.min_self]; exact Nat.lt_of_le_of_lt few.2 (by decide)), ?_⟩
        rw [put_zip few.1 lx]
        refine g.nx σ O Hs2 _ _ (e1.fz.trans e2.fz) (A2.writeM (m := .dit _ _) f1 own ⟨_, rfl, (put_len2 l).1, put_isA ix l ia⟩) q2
    | ins C ns ds => exact few.elim
  · exact q1.elim
/-- d[k], k in d, d.get(k, x), d a slot's own -/
def getMu (m : Mu) (y : D) : Option (Option D) := match m with
  | .dic ks ds => (keyD y).map (lookD ks ds)
  | .dit ks ds => (keyT y).map (lookD ks ds)
  | .ins _ _ _ => none
theorem getMu_is {K : PySem.W.Frag} {Hs H : Hp} {m : Mu} {y : D} {u : V} {a : Addr} {w0 : HO} {o : Option D} (s : Same Hs H) (ha : H a = some w0) (i1 : MuIs K Hs m w0) (i2 : Is K Hs y u) (h : getMu m y = some o) : ∃ r, IsD H a ∧ DGet H a u r ∧ OptIs K Hs o r := by
  cases m <;> simp only [getMu, reduceCtorEq] at h
  · rename_i ks ds
    obtain ⟨xs, rfl, l, ia⟩ := i1
    cases hk : keyD y with
    | none => rw [hk] at h; cases h
    | some k =>
      rw [hk] at h
      have e := keyD_is i2 hk
      subst e
      cases h
      refine ⟨valV (zipV ks xs) k, .inl ⟨_, .inl ha⟩, .inl ⟨_, k, .inl ha, rfl, rfl⟩, ?_⟩
      generalize hd : lookD ks ds k = o
      cases o with
      | some d => exact look_some l ia hd
      | none => exact look_none l ia hd
  · rename_i ks ds
    obtain ⟨xs, rfl, l, ia⟩ := i1
    cases hk : keyT y with
    | none => rw [hk] at h; cases h
    | some k =>
      rw [hk] at h
      cases h
      cases y <;> simp only [keyT, reduceCtorEq] at hk
      obtain ⟨b, ys, rfl, hb, ib⟩ := i2
      have e := keysL_is ib hk
      subst e
      refine ⟨valV (zipT ks xs) k, .inr ⟨_, .inl ha⟩, .inr ⟨_, k, b, .inl ha, rfl, s _ _ hb, rfl⟩, ?_⟩
      generalize hd : lookD ks ds k = o
      cases o with
      | some d => exact look_some l ia hd
      | none => exact look_none l ia hd
def tdGet2Mu (i : Nat) (ty tx : TD) : TD := fun ss Q Ed => match nth ss i with
  | .mu _ m => m.isD = true ∧ ty ss (fun y => tx ss (fun z => match getMu m y with
    | some o => Q (o.getD z)
    | none => False) Ed) Ed
  | _ => False
theorem d_get2Mu {o e f : Expr} {i : Nat} {apos cpos : Pos} {ty tx : TD} (hu : X.A.units + 1 < cLine) (ho : PE X o (tVar i)) (he : DE X c e ty) (hf : DE X c f tx) (m : M2 X o "get" apos e f cpos := by exact ⟨rfl, rfl, rfl, rfl⟩) : DE X c (.Call (.Attribute o "get" apos) [e, f] [] cpos) (tdGet2Mu i ty tx) := by
  refine pe_imp (pe_dget2 hu ho he hf m) fun σ H Q q => ?_
  obtain ⟨O, Hs, ss, Qd, Ed, A, h, er, g⟩ := q
  unfold tdGet2Mu at h
  split at h
  · rename_i p m hm
    obtain ⟨q0, q1⟩ := h
    obtain ⟨u0, f1, own, h0, mi0, _⟩ := mu_facts A hm
    refine ⟨.ref p, f1, p, rfl, ?_, O, Hs, ss, _, Ed, A, q1, er, fun d2 v2 Hs2 H2 e2 i2 q2 => ?_⟩
    · cases m with
      | dic ks ds => obtain ⟨xs, rfl, _⟩ := mi0; exact .inl ⟨_, .inl h0⟩
      | dit ks ds => obtain ⟨xs, rfl, _⟩ := mi0; exact .inr ⟨_, .inl h0⟩
      | ins C ns ds => cases q0
    refine ⟨O, Hs2, ss, _, Ed, A.next e2, q2, er, fun d3 v3 Hs3 H3 e3 i3 q3 => ?_⟩
    obtain ⟨u, _, _, h3, mi, _⟩ := mu_facts ((A.next e2).next e3) hm
    split at q3
    · rename_i o ho
      obtain ⟨r, _, dg, m⟩ := getMu_is e3.sub h3 mi (i2.same e3.fz) ho
      refine ⟨r, dg, ?_⟩
      cases o with
      | some d4 =>
        obtain ⟨w, rfl, iw⟩ := m
        exact g d4 w Hs3 H3 (e2.trans e3) iw q3
      | none =>
        rw [show r = none from m]
        exact g d3 v3 Hs3 H3 (e2.trans e3) i3 q3
    · exact q3.elim
  · exact h.elim
def tdDGetMu (i : Nat) (ty : TD) : TD := fun ss Q Ed => match nth ss i with
  | .mu _ m => ty ss (fun y => match getMu m y with
    | some (some d) => Q d
    | _ => False) Ed
  | _ => False
theorem d_dgetMu {a b : Expr} {i : Nat} {pos : Pos} {ty : TD} (hu : X.A.units + 1 < cLine) (ha : PE X a (tVar i)) (hb : DE X c b ty) (hs : NoSl b := by exact fun _ _ => rfl) : DE X c (.Subscript a b pos) (tdDGetMu i ty) := by
  refine pe_imp (pe_dget hu ha hb hs) fun σ H Q q => ?_
  obtain ⟨O, Hs, ss, Qd, Ed, A, h, er, g⟩ := q
  unfold tdDGetMu at h
  split at h
  · rename_i p m hm
    obtain ⟨u0, f1, own, _⟩ := mu_facts A hm
    refine ⟨.ref p, f1, O, Hs, ss, _, Ed, A, h, er, fun d2 v2 Hs2 H2 e2 i2 q2 => ?_⟩
    obtain ⟨u, _, _, h3, mi, _⟩ := mu_facts (A.next e2) hm
    split at q2
    · rename_i d3 hd
      obtain ⟨r, _, dg, w, rfl, iw⟩ := getMu_is e2.sub h3 mi i2 hd
      exact ⟨p, w, rfl, dg, g _ _ Hs2 H2 e2 iw q2⟩
    · exact q2.elim
  · exact h.elim
end
end DL
set_option Elab.async false
set_option linter.all false
set_option maxRecDepth 100000
set_option maxHeartbeats 4000000
/-! DU: len, list, sorted, dict of a dict; dict comprehensions -/
namespace DL
open PySem PySem.Spec PyProof.Rows L2
section
variable {X : Cx} {c : Cn}
theorem call_lenR : CallR X (.builtin "len") (fun xs H Q => ∃ a kvs, xs = [V.ref a] ∧ Rd H a (.dK kvs) ∧ Q (.int kvs.length) H) := by
  intro pins s σ H xs us Q I r h
  obtain ⟨a, kvs, rfl, ha, q⟩ := h
  obtain ⟨u, rfl, ru⟩ := vals1 r
  cases ru
  exact d_len I ha fun t s' I' => ⟨.int kvs.length, H, I', ⟨t, rfl⟩, q⟩
/-- len of lists, tuples, texts, dicts -/
def rLenD2 : List D → QD → Prop := fun ds Q => match ds with
  | [.dct ks xs] => Q (.int (ks.length : Nat))
  | ds => rLenD ds Q
theorem cd_lenD : CallD X (.builtin "len") rLenD2 := by
  obtain ⟨r0, h0, c0⟩ := (cd_len (X := X)).ex
  refine ⟨_, call_or h0 call_lenR, fun Z Hs H ds vs Qd Q s i q cn => ?_⟩
  unfold rLenD2 at q
  split at q
  · obtain ⟨x, e, a, od, xs, e2, h1, l, h2⟩ := isA1 i
    subst e2; subst e
    refine .inr ⟨a, _, rfl, .inr ⟨od, s _ _ h1⟩, ?_⟩
    rw [List.length_zip, h2.len, l, Nat.min_self, ← l]
    exact cn (.int _) _ Hs H (.refl s) rfl q
  · exact .inl (c0 Z Hs H _ _ Qd Q s i q cn)
/-- len of a dict of a slot's own -/
def tdLenMu (i : Nat) : TD := fun ss Q _ => match nth ss i with
  | .mu _ (.dic ks _) => Q (.int (ks.length : Nat))
  | _ => False
theorem d_lenMu {p pos : Pos} {e : Expr} {i : Nat} (hm : X.mg "len" = none) (he : PE X e (tVar i)) (hg : Gl X "len" := by rfl) (hs1 : starEach [e] X.env = (false, eval e X.env) :: starEach [] X.env := by rfl) : DE X c (.Call (.Name "len" p) [e] [] pos) (tdLenMu i) := by
  refine pe_imp (pe_callB call_lenR hg hm (by decide +kernel) (pa_cons he pa_nil hs1) (by decide) (by decide) hs1 rfl) fun σ H Q q => ?_
  obtain ⟨O, Hs, ss, Qd, Ed, A, h, er, g⟩ := q
  unfold tdLenMu at h
  split at h
  · rename_i p ks ds hm2
    obtain ⟨u, f1, _, h3, mi, _⟩ := mu_facts A hm2
    obtain ⟨xs, rfl, l, ia⟩ := mi
    refine ⟨_, f1, p, _, rfl, .inl h3, ?_⟩
    rw [List.length_zip, ia.len, l, Nat.min_self, ← l]
    exact g (.int _) _ Hs H (.refl A.sub) rfl h
  · exact h.elim
/-- sorted of a dict whose keys are texts -/
def rSortDD : List D → QD → Prop := fun ds Q => match ds with
  | [.dct ks xs] => ∃ ns : List Str, ks = ns.map Sum.inr ∧ ns.length < 64 ∧ ∀ ys : List Str, ys.Perm ns → sortedS ys = true → Q (.lst (ys.map .str))
  | _ => False
theorem strs_is {K : PySem.W.Frag} {H : Hp} : ∀ ys : List Str, IsA K H (ys.map D.str) (ys.map V.str)
  | [] => rfl
  | y :: ys => ⟨_, _, rfl, rfl, strs_is ys⟩
theorem cd_sortedD (hc : X.calm = true) : CallD X (.builtin "sorted") rSortDD := ⟨_, call_sortedD hc, fun Z Hs H ds vs Qd Q s i q cn => by
  unfold rSortDD at q
  split at q
  · obtain ⟨x, e, a, od, xs, e2, h1, l, h2⟩ := isA1 i
    subst e2; subst e
    obtain ⟨ns, rfl, few, q⟩ := q
    refine ⟨a, _, ns, rfl, .inr ⟨od, s _ _ h1⟩, List.map_fst_zip (by rw [h2.len, l]; exact Nat.le_refl _), few, fun ys p pm so np => ?_⟩
    exact cn (.lst _) _ (upd Hs p (.lst (ys.map V.str))) _ (.laid s np) ⟨p, _, rfl, upd_same, strs_is ys⟩ (q ys pm so)
  · exact q.elim⟩
/-- list(d), a new list -/
def toListD (te : TD) : TOD := fun ss Q Ed => te ss (fun x => match x with
  | .dct ks _ => Q (ks.map kvD)
  | _ => False) Ed
theorem do_listD {p pos : Pos} {e : Expr} {te : TD} (hc : X.calm = true) (hm : X.mg "list" = none) (he : DE X c e te) (hg : Gl X "list" := by rfl) (hs1 : starEach [e] X.env = (false, eval e X.env) :: starEach [] X.env := by rfl) : DO X c (.Call (.Name "list" p) [e] [] pos) (toListD te) := by
  refine pe_imp (pe_callTy (call_listD hc) hg hm (by decide +kernel) (pa_cons he pa_nil hs1) (by decide) (by decide) hs1 rfl) fun σ H Q q => ?_
  obtain ⟨O, Hs, ss, Qd, Ed, A, h, er, g⟩ := q
  refine ⟨O, Hs, ss, _, Ed, A, h, er, fun d v Hs1 H1 e1 i1 q1 => ?_⟩
  split at q1
  · obtain ⟨a, od, xs, rfl, ha, l, ia⟩ := i1
    refine ⟨a, _, rfl, .inr ⟨od, e1.sub _ _ ha⟩, fun p np => ?_⟩
    have n0 : H p = none := by
      cases z : H p with
      | none => rfl
      | some u => exact absurd np (e1.live p (by rw [z]; exact fun z => nomatch z))
    refine g _ p _ Hs1 _ (e1.trans (.grow e1.sub np)) n0 (none_sub e1.sub np) upd_same ?_ q1
    rename_i ks ds
    have e : (zipV ks xs).map (fun kv => kV kv.1) = ks.map kV := by
      have : (zipV ks xs).map (fun kv => kV kv.1) = ((zipV ks xs).map (·.1)).map kV := by rw [List.map_map]; rfl
      rw [this, List.map_fst_zip (by rw [ia.len, l]; exact Nat.le_refl _)]
    rw [e]
    exact kvs_is ks
  · exact q1.elim
/-- dict(d), a new dict -/
def toDictD (te : TD) : TMD := fun ss Q Ed => te ss (fun x => match x with
  | .dct ks ds => Q (.dic ks ds)
  | _ => False) Ed
theorem do_dictD {p pos : Pos} {e : Expr} {te : TD} (hm : X.mg "dict" = none) (he : DE X c e te) (hg : Gl X "dict" := by rfl) (hs1 : starEach [e] X.env = (false, eval e X.env) :: starEach [] X.env := by rfl) : DOM X c (.Call (.Name "dict" p) [e] [] pos) (toDictD te) := by
  refine pe_imp (pe_callTy call_dictD hg hm (by decide +kernel) (pa_cons he pa_nil hs1) (by decide) (by decide) hs1 rfl) fun σ H Q q => ?_
  obtain ⟨O, Hs, ss, Qd, Ed, A, h, er, g⟩ := q
  refine ⟨O, Hs, ss, _, Ed, A, h, er, fun d v Hs1 H1 e1 i1 q1 => ?_⟩
  split at q1
  · obtain ⟨a, od, xs, rfl, ha, l, ia⟩ := i1
    refine ⟨a, _, rfl, .inr ⟨od, e1.sub _ _ ha⟩, fun p np => ?_⟩
    have n0 : H p = none := by
      cases z : H p with
      | none => rfl
      | some u => exact absurd np (e1.live p (by rw [z]; exact fun z => nomatch z))
    exact g (.dic _ _) p _ Hs1 _ (e1.trans (.grow e1.sub np)) n0 (none_sub e1.sub np) upd_same ⟨xs, rfl, l, ia⟩ q1
  · exact q1.elim
/-! ### {k: v for .. in ..}, keys that differ -/
def toDc (ti : TID) (p : Pat) (tt : TTD) (tk tv : TD) (vs : List Nat) : TMD := fun ss Q Ed => ti ss (fun items => items.length < 1000 ∧ ∃ I : Nat → List Key → List D → Prop, I 0 [] [] ∧
  (∀ i d ks ds, items[i]? = some d → I i ks ds → ks.length ≤ i → p.gd d (wipeD ss vs) fun ss2 => tt ss2 (fun b => if b = true then tk ss2 (fun y => tv ss2 (fun z => ∃ k, keyD y = some k ∧ k ∉ ks ∧ I (i + 1) (ks ++ [k]) (ds ++ [z])) Ed) Ed else I (i + 1) ks ds) Ed) ∧ ∀ ks ds, I items.length ks ds → Q (.dic ks ds)) Ed
theorem zip_snoc {κ : Type} : ∀ {ks : List κ} {xs : List V} {k : κ} {x : V}, ks.length = xs.length → (ks ++ [k]).zip (xs ++ [x]) = ks.zip xs ++ [(k, x)]
  | [], [], _, _, _ => rfl
  | [], _ :: _, _, _, h => by cases h
  | _ :: _, [], _, _, h => by cases h
  | k :: ks, x :: xs, _, _, h => congrArg ((k, x) :: ·) (zip_snoc (Nat.succ.inj h))
theorem valV_fresh {ks : List Key} {xs : List V} {k : Key} (h : k ∉ ks) : valV (zipV ks xs) k = none := by
  unfold valV
  rw [List.find?_eq_none.mpr fun p hp e => h (by rw [← of_decide_eq_true e]; exact (List.of_mem_zip hp).1)]
  rfl
section
variable {tg kx vx iter : Expr} {ifs : List Expr} {scope : Scope} {own : List (Str × Nat)} {pos : Pos} {ti : TID} {p : Pat} {tt : TTD} {tk tv : TD}
theorem dc_run (hsub : ∀ j ∈ p.vs, j ∈ own.map (·.2)) : ∀ σ H Q, liftM c X.K (toDc ti p tt tk tv (own.map (·.2))) σ H Q → tDc (liftI c X.K ti) (p.tg X.K) (liftT c X.K tt) (lift c X.K tk) (lift c X.K tv) (own.map (·.2)) σ H Q := by
  intro σ H Q q
  obtain ⟨O, Hs, ss, _, Ed, A, h, er, gc⟩ := q
  refine ⟨O, Hs, ss, _, Ed, A, h, er, fun items J Hs1 H1 x1 hJ q1 => ?_⟩
  obtain ⟨hlen, I, i0, turn, fin⟩ := q1
  intro D nD
  have A1 := A.next x1
  have nD1 : Hs1 D = none := none_sub A1.sub nD
  have oD : O D = none := by
    cases z : O D with
    | none => rfl
    | some k => exact absurd nD (A1.live D (by rw [z]; exact fun z => nomatch z)).ne
  refine ⟨fun i m H2 => m = items.length - i ∧ i ≤ items.length ∧ ∃ Hs2 xs ks ds, Ext (Z0 O) Hs1 H1 Hs2 H2 ∧ Hs2 D = none ∧ H2 D = some (.dK (zipV ks xs)) ∧ ks.length = ds.length ∧ IsA X.K Hs2 ds xs ∧ ks.length ≤ i ∧ I i ks ds, ⟨_, rfl, Nat.zero_le _, Hs1, [], [], [], Ext.grow x1.sub nD, nD1, upd_same, rfl, rfl, Nat.le_refl _, i0⟩, ?_⟩
  rintro i m H2 ⟨rfl, hi, Hs2, xs, ks, ds, x2, n2, h2, hl, h3, h4, q2⟩
  by_cases hlt : i < items.length
  · have hd : items[i]? = some items[i] := List.getElem?_eq_getElem hlt
    refine .inr ⟨hJ.go i Hs2 H2 x2.fz x2.sub hlt, fun H5 => ∃ Hs5 xs5 ks5 ds5, Ext (Z0 O) Hs1 H1 Hs5 H5 ∧ Hs5 D = none ∧ H5 D = some (.dK (zipV ks5 xs5)) ∧ ks5.length = ds5.length ∧ IsA X.K Hs5 ds5 xs5 ∧ ks5.length ≤ i + 1 ∧ I (i + 1) ks5 ds5, fun H5 z => ⟨items.length - (i + 1), by omega, rfl, hlt, z⟩, fun v H3 hy => ?_⟩
    obtain ⟨Hs3, x3, is3⟩ := hJ.yld i Hs2 H2 v H3 _ x2.fz x2.sub hy hd
    have x13 := x2.trans (x3 (Z0 O))
    have A3 := (A1.next x13).wipe (own.map (·.2))
    have D3 : H3 D = some (.dK (zipV ks xs)) := (x3 (Z0 O)).keep D _ (fun z => by have z : O D = some 0 := z; rw [oD] at z; cases z) h2
    have n3 : Hs3 D = none := (x3 (Z0 O)).new D n2 (by rw [h2]; trivial)
    refine p.conn A3 is3 (turn i _ ks ds hd q2 h4) fun σ4 ss4 A4 k4 q4 => ⟨?_, ?_⟩
    · have l0 : (L2.wipe σ (own.map (·.2))).length = σ.length := wipe_length _ _
      have e1 : L2.wipe σ4 (own.map (·.2)) = L2.wipe (L2.wipe σ (own.map (·.2))) (own.map (·.2)) := wipe_eq k4.1 fun j hj => k4.2 j fun m => hj (hsub j m)
      have e2 : L2.wipe (L2.wipe σ (own.map (·.2))) (own.map (·.2)) = L2.wipe σ (own.map (·.2)) := wipe_eq l0 fun j hj => wipe_out hj
      exact e1.trans e2
    · refine ⟨O, Hs3, ss4, _, Ed, A4, q4, er, fun b Hs5 H5 x5 q5 => ?_⟩
      have x15 := x13.trans x5
      have D5 : H5 D = some (.dK (zipV ks xs)) := x5.keep D _ (fun z => by have z : O D = some 0 := z; rw [oD] at z; cases z) D3
      have n5 : Hs5 D = none := x5.new D n3 (by rw [D3]; trivial)
      cases b with
      | true =>
        simp only [if_true] at q5
        refine iteT ⟨O, Hs5, ss4, _, Ed, A4.next x5, q5, er, fun y w Hs6 H6 x6 i6 q6 => ?_⟩
        have D6 : H6 D = some (.dK (zipV ks xs)) := x6.keep D _ (fun z => by have z : O D = some 0 := z; rw [oD] at z; cases z) D5
        have n6 : Hs6 D = none := x6.new D n5 (by rw [D5]; trivial)
        refine ⟨O, Hs6, ss4, _, Ed, (A4.next x5).next x6, q6, er, fun z u Hs7 H7 x7 i7 q7 => ?_⟩
        obtain ⟨k, hk, fresh, q7⟩ := q7
        have D7 : H7 D = some (.dK (zipV ks xs)) := x7.keep D _ (fun z => by have z : O D = some 0 := z; rw [oD] at z; cases z) D6
        have n7 : Hs7 D = none := x7.new D n6 (by rw [D6]; trivial)
        have h7 := h3.same (((((x3 (Z0 O)).trans x5).trans x6).trans x7).fz)
        have lx : ks.length = xs.length := hl.trans h3.len.symm
        refine ⟨_, k, keyD_is i6 hk, D7, Nat.lt_of_le_of_lt (show (zipV ks xs).length ≤ 1000 by rw [List.length_zip, ← lx, Nat.min_self]; omega) (by decide), Hs7, xs ++ [u], ks ++ [k], ds ++ [z], ((x15.trans x6).trans x7).put nD n7, n7, ?_, by rw [List.length_append, List.length_append, hl]; rfl, h7.app (.one i7), by rw [List.length_append]; show ks.length + 1 ≤ i + 1; omega, q7⟩
        rw [upd_same, putK_new _ (valV_fresh fresh)]
        exact congrArg (fun z => some (HO.dK z)) (zip_snoc lx).symm
      | false =>
        simp only [Bool.false_eq_true, if_false] at q5
        exact iteF ⟨Hs5, xs, ks, ds, x15, n5, D5, hl, h3.same (((x3 (Z0 O)).trans x5).fz), by omega, q5⟩
  · have e : i = items.length := by omega
    subst e
    have n0 : H D = none := by
      cases z : H D with
      | none => rfl
      | some u => exact absurd nD (x1.live D (by rw [z]; exact fun z => nomatch z))
    exact .inl ⟨hJ.stop _ Hs2 H2 x2.fz x2.sub rfl, gc (.dic ks ds) D _ Hs2 H2 (x1.trans x2) n0 n2 h2 ⟨xs, rfl, hl, h3⟩ (fin ks ds q2)⟩
theorem do_dc (hc : X.calm = true) (hN : X.N.Nodup) (hi : DI X c tg iter ti) (ok : BlkOk X.N X.env.scope scope own)
    (hg : ∀ (s : Shared) (H : Hp) (C : Addr) (cl : List (Str × Addr)) (fp : List Addr), DG (X.blk s H scope (compEnvC scope cl C X.env) fp) tg p) (ht : ∀ (s : Shared) (H : Hp) (C : Addr) (cl : List (Str × Addr)) (fp : List Addr), DTs (X.blk s H scope (compEnvC scope cl C X.env) fp) c ifs tt)
    (hk : ∀ (s : Shared) (H : Hp) (C : Addr) (cl : List (Str × Addr)) (fp : List Addr), DE (X.blk s H scope (compEnvC scope cl C X.env) fp) c kx tk)
    (he : ∀ (s : Shared) (H : Hp) (C : Addr) (cl : List (Str × Addr)) (fp : List Addr), DE (X.blk s H scope (compEnvC scope cl C X.env) fp) c vx tv) (hsub : ∀ j ∈ p.vs, j ∈ own.map (·.2) := by decide) (hs : ∀ x, foldedSetIterable iter X.env x = pure x := by intro _; rfl) :
    DOM X c (.DictComp kx vx [⟨tg, iter, ifs, 0⟩] scope pos) (toDc ti p tt tk tv (own.map (·.2))) := pe_imp (pe_dc hc hN hi ok hg ht hk he hs) (dc_run hsub)
end
end
end DL
set_option Elab.async false
set_option linter.all false
set_option maxRecDepth 100000
set_option maxHeartbeats 4000000
/-! y in x, y not in x, where x is an object of a class with its own __contains__ -/
namespace OI
open PySem PySem.Spec PyProof.Rows L2
theorem contains_fn {M : Model} {A : Around} {s : Shared} {K : PySem.W.Frag} {x C f : Addr} {y : Value} {E : Value → Shared → Prop} {ox : Obj} {od : Option Obj} {Q : Bool → Shared → Prop} (X : K.In s.heap) (I : PySem.W.InstAt s.heap x ox C od)
    (hs : PySem.W.findIn K (.ref C) "__contains__" = some (some (.ref f))) (hf : PySem.W.typeIn K (.ref f) = some (.type "function")) (h : wpAny M A (call (.ref f) [.ref x, y]) (fun r s' => ∃ b, r = Value.bool b ∧ Q b s') E s) :
    wpAny M A (contains (.ref x) y) Q E s := by
  unfold contains
  refine wpAny_holding ?_
  show wpAny M A (specialOf (.ref x) "__contains__" >>= _) Q E s
  have sp : ∀ {Q' : Option Value → Shared → Prop}, Q' (some (.ref f)) s → wpAny M A (specialOf (.ref x) "__contains__") Q' E s := fun q => wpAny_bind (I.type.here ((PySem.W.looks_findIn X hs).here q))
  refine wpAny_bind (sp ?_)
  show wpAny M A (if (some (Value.ref f) == some Value.none) = true then _ else _) Q E s
  rw [if_neg (show ¬ (some (Value.ref f) == some Value.none) = true from fun z => by cases z)]
  refine wpAny_bind ?_
  unfold callSpecialUnlessNone?
  refine wpAny_bind (sp (wpAny_holding (wpAny_bind ((PySem.W.bind_fn X _ hf).here ?_))))
  show wpAny M A (if (Value.ref f == Value.none) = true then _ else _) _ E s
  rw [if_neg (show ¬ (Value.ref f == Value.none) = true from fun z => by cases z)]
  refine wpAny_bind (wpAny_mono h (fun r s' z => ?_) fun _ _ z => z)
  obtain ⟨b, rfl, q⟩ := z
  exact wpAny_pure (wpAny_truthy_bool q)
section
variable {X : Cx} {CX : CXT} {k : Nat} {C g : Addr} {fd : FuncData} {ps : List Str} {sp : Sp} {E : XK}
/-- y in x: what the class's own answer says -/
def rOwnIn (C : Addr) (neg : Bool) (sp : Sp) (E : XK) : R2 := fun y x H Q => ∃ a dx fs, x = .ref a ∧ H a = some (.ins C dx fs) ∧ sp [.ref a, y] H (fun z H' => ∃ b, z = .bl b ∧ Q (.bl (if neg then !b else b)) H') E
theorem own_in {pins : List (Addr × Obj)} {σ : L2.St} {H : Hp} {s : Shared} {y : V} {v : Value} {a dx : Addr} {fs : List (Str × V)} {Q : Bool → Hp → Prop} (hm : Meth X.K C "__contains__" g) (F : FnOk X.prog X.w X.K X.mg X.base CX k g fd ps sp) (hr : Room k X.A) (hb : Binds X.K fd ps []) (hx : Passes CX X E)
    (I : Inv X pins σ H s) (ry : RelV y v) (ea : H a = some (.ins C dx fs)) (q : sp [.ref a, y] H (fun z H' => ∃ b, z = .bl b ∧ Q b H') E) :
    wpAny (model X.prog X.w) X.A (contains (.ref a) v) (fun b s' => ∃ H', Inv X pins σ H' s' ∧ Q b H') X.xe s := by
  obtain ⟨mA, O, r, _, _, _⟩ := ins_get I.hok ea
  obtain ⟨od, J, hl⟩ := O.look
  refine contains_fn I.kIn J hm.at_ (beq_iff_eq.mp hm.fn) (wpAny_mono (run_fn (us := [.ref a, v]) (vs := [.ref a, y]) F hr hb .nil hx I (.cons rfl (.cons ry .nil)) q) (fun r s' z => ?_) fun _ _ z => z)
  obtain ⟨z', H', I', rz, b, eb, qb⟩ := z
  subst eb
  exact ⟨b, rz, H', I', qb⟩
theorem op_notin_own (hm : Meth X.K C "__contains__" g) (F : FnOk X.prog X.w X.K X.mg X.base CX k g fd ps sp) (hr : Room k X.A) (hb : Binds X.K fd ps []) (hx : Passes CX X E) : OpR X (compareOp .NotIn) (rOwnIn C true sp E) := by
  intro pins s σ H y x v u Q I ry rx h
  obtain ⟨a, dx, fs, rfl, ea, q⟩ := h
  cases (show u = Value.ref a from rx)
  show wpAny _ _ (contains (.ref a) v >>= fun b => pure (Value.bool (!b))) _ _ _
  refine wpAny_bind (wpAny_mono (own_in (Q := fun b H' => Q (.bl (!b)) H') hm F hr hb hx I ry ea q) (fun b s' z => ?_) fun _ _ z => z)
  obtain ⟨H', I', q'⟩ := z
  exact wpAny_pure ⟨.bl (!b), H', I', rfl, q'⟩
theorem op_in_own (hm : Meth X.K C "__contains__" g) (F : FnOk X.prog X.w X.K X.mg X.base CX k g fd ps sp) (hr : Room k X.A) (hb : Binds X.K fd ps []) (hx : Passes CX X E) : OpR X (compareOp .In) (rOwnIn C false sp E) := by
  intro pins s σ H y x v u Q I ry rx h
  obtain ⟨a, dx, fs, rfl, ea, q⟩ := h
  cases (show u = Value.ref a from rx)
  show wpAny _ _ (contains (.ref a) v >>= fun b => pure (Value.bool b)) _ _ _
  refine wpAny_bind (wpAny_mono (own_in (Q := fun b H' => Q (.bl b) H') hm F hr hb hx I ry ea q) (fun b s' z => ?_) fun _ _ z => z)
  obtain ⟨H', I', q'⟩ := z
  exact wpAny_pure ⟨.bl b, H', I', rfl, q'⟩
end
end OI
set_option Elab.async false
set_option linter.all false
set_option maxRecDepth 100000
set_option maxHeartbeats 4000000
/-! x == y, x != y, x[y] where x is an object of a class with its own __eq__, __getitem__ -/
namespace OC
open PySem PySem.Spec PyProof.Rows L2
section
variable {P : Program} {w : World} {A : Around} {E : Value → Shared → Prop} {s : Shared} {K : PySem.W.Frag} {x C f : Addr} {ox : Obj} {od : Option Obj}
/-- a built-in's own method, found at the class -/
theorem bound_builtin {M : Model} {nm : Str} {id : String} {args : List Value} {Q : Option Value → Shared → Prop} (bd : ∀ v, bindSpecial (.builtin id) v = pure (.builtin id, [v])) (X : K.In s.heap) (I : PySem.W.InstAt s.heap x ox C od)
    (at_ : PySem.W.findIn K (.ref C) nm = some (some (.builtin id))) (h : wpAny M A (call (.builtin id) (.ref x :: args)) (fun v t => Q (some v) t) E s) : wpAny M A (callSpecialIfBound? (.ref x) nm args) Q E s := by
  unfold callSpecialIfBound? bindSpecialIfBound?
  refine wpAny_holding (wpAny_bind (wpAny_bind (wpAny_bind (I.type.here ((PySem.W.looks_findIn X at_).here (wpAny_bind (wpAny_askSetting (wpAny_ite ?_))))))))
  rw [bd]
  have after : wpAny M A (call (.builtin id) ([.ref x] ++ args) >>= fun v => pure (some v)) Q E s := wpAny_bind (wpAny_mono h (fun _ _ z => wpAny_pure z) fun _ _ z => z)
  split
  · exact wpAny_bind (wpAny_pure (wpAny_pure after))
  · exact wpAny_tryCatch (wpAny_bind (wpAny_pure (wpAny_pure after)))
/-- x != y by the class's own __eq__, turned about -/
theorem ne_own {b tb : Value} {Q : Value → Shared → Prop} (hu : A.units + 1 < cLine) (X : K.In s.heap) (I : PySem.W.InstAt s.heap x ox C od) (hb : PySem.W.Looks (model P w) s.heap (typeOf b) tb) (first : PySem.W.notFirst K C tb = true)
    (ne : PySem.W.findIn K (.ref C) "__ne__" = some (some (.builtin "object.__ne__"))) (isO : PySem.W.subIn K (.ref C) (.type "object") = some true) (eq : PySem.W.findIn K (.ref C) "__eq__" = some (some (.ref f))) (fn : PySem.W.isFn K (.ref f) = true)
    (h : wpAny (model P w) A.in1 (call (.ref f) [.ref x, b]) (fun r t => ∃ k, r = Value.bool k ∧ Q (.bool (!k)) t) E s) : wpAny (model P w) A (richCompare .NotEq (.ref x) b) Q E s := by
  have entry : wpAny (model P w) A.in1 (Builtin.«object.__ne__» ⟨[.ref x, b], []⟩) (fun fin t => ∃ k, fin = .done (.ret (.bool (!k))) ∧ Q (.bool (!k)) t) E s := by
    unfold Builtin.«object.__ne__»
    refine wpAny_bind ?_
    show wpAny _ _ (slotArgs "__ne__" 1 ⟨[.ref x, b], []⟩) _ _ s
    refine wpAny_pure ?_
    show wpAny _ _ _ _ _ s
    refine wpAny_bind (wpAny_cRoomFor (by show A.units + 1 < cLine; exact hu) ?_)
    refine wpAny_bind (PySem.W.ifBound_K X I eq fn (wpAny_mono h (fun r t z => ?_) fun _ _ z => z))
    obtain ⟨k, rfl, q⟩ := z
    exact wpAny_bind (wpAny_truthy_bool (wpAny_pure ⟨k, rfl, q⟩))
  have one : wpAny (model P w) A (tryCompare (.ref x) "__ne__" b) (fun r t => ∃ k, r = some (Value.bool k) ∧ Q (.bool k) t) E s := by
    unfold tryCompare
    refine wpAny_bind (bound_builtin PySem.F.cmp_object.ne.bind X I ne ?_)
    refine wpAny_call (codeAny_call_builtin PySem.F.cmp_object.ne.plain PySem.F.cmpEntry_ne (PySem.W.check_slot PySem.F.cmpKind_ne PySem.F.cmpSplit_ne (I.type.andThen (PySem.W.looks_subIn X isO)) (PySem.F.cmpArgs_ne _ _) (wpAny_mono entry (fun fin t z => ?_) fun _ _ z => z)))
    obtain ⟨k, rfl, q⟩ := z
    exact wpAny_pure ⟨!k, rfl, q⟩
  unfold richCompare
  simp only [oneThing_ref]
  refine wpAny_holding (wpAny_bind (wpAny_cRoomFor (by omega) (wpAny_bind (I.type.here (wpAny_bind (hb.here ?_))))))
  split
  · rename_i q
    have below : PySem.W.subIn K tb (.ref C) = some false := (Bool.or_eq_true_iff.mp first).elim (fun e => by rw [beq_iff_eq.mp e] at q; simp at q) fun e => beq_iff_eq.mp e
    refine wpAny_bind ((PySem.W.looks_subIn X below).here ?_)
    simp only [Bool.false_eq_true, if_false]
    refine wpAny_bind (wpAny_mono one (fun r t z => ?_) fun _ _ z => z)
    obtain ⟨k, rfl, q⟩ := z
    exact wpAny_pure q
  · refine wpAny_bind (wpAny_pure ?_)
    simp only [Bool.false_eq_true, if_false]
    refine wpAny_bind (wpAny_mono one (fun r t z => ?_) fun _ _ z => z)
    obtain ⟨k, rfl, q⟩ := z
    exact wpAny_pure q
end
section
variable {X : Cx} {CX : CXT} {k : Nat} {C g : Addr} {fd : FuncData} {ps : List Str} {sp : Sp} {E : XK}
/-- the callee runs at any place below -/
theorem run_at {A : Around} {pins : List (Addr × Obj)} {σ : L2.St} {H : Hp} {s : Shared} {Q : VK} {us : List Value} {vs : List V} (F : FnOk X.prog X.w X.K X.mg X.base CX k g fd ps sp) (hr : Room k A) (e0 : Env0 X.prog X.w X.K X.mg X.base A X.stack s H) (hb : Binds X.K fd ps []) (hx : Passes CX X E)
    (I : Inv X pins σ H s) (r : Vals vs us) (h : sp vs H Q E) : codeAny (model X.prog X.w) A (.call (.ref g) ⟨us, []⟩) (fun r t => match r with | .ok (.ret v) => EP X pins σ Q v t | .ok _ => False | .error e => X.xe e t) s := by
  have hl : us.length = ps.length := by rw [← r.length]; exact F.len _ _ _ _ h
  refine codeAny_mono (F.run A X.stack s H ⟨us, []⟩ us vs Q E hr e0 (by have := hb s us I.kIn (by simpa using hl); simpa using this) r h) fun r t z => ?_
  match r, z with
  | .error e, z => exact hx pins σ H s e t I z
  | .ok (.ret u), z => exact I.after z
  | .ok .next, z => exact z.elim
  | .ok .brk, z => exact z.elim
  | .ok .cont, z => exact z.elim
/-- of the class: what == and != ask -/
structure EqC (K : PySem.W.Frag) (C g : Addr) : Prop where
  eq : Meth K C "__eq__" g
  ne : PySem.W.findIn K (.ref C) "__ne__" = some (some (.builtin "object.__ne__"))
  ob : PySem.W.subIn K (.ref C) (.type "object") = some true
def rEq (K : PySem.W.Frag) (C : Addr) (neg : Bool) (sp : Sp) (E : XK) : R2 := fun x y H Q => ∃ a dx fs t, x = .ref a ∧ H a = some (.ins C dx fs) ∧ TyX K H y t ∧ PySem.W.notFirst K C t = true ∧ sp [x, y] H (fun z H' => ∃ b, z = .bl b ∧ Q (.bl (if neg then !b else b)) H') E
theorem op_eqOwn (T : EqC X.K C g) (F : FnOk X.prog X.w X.K X.mg X.base CX k g fd ps sp) (hr : Room k X.A) (hb : Binds X.K fd ps []) (hx : Passes CX X E) : OpR X (compareOp .Eq) (rEq X.K C false sp E) := by
  intro pins s σ H x y v u Q I rx ry h
  obtain ⟨a, dx, fs, t, rfl, ea, ty, nf, q⟩ := h
  cases (show v = Value.ref a from rx)
  obtain ⟨mA, O, _⟩ := ins_get I.hok ea
  obtain ⟨od, J, _⟩ := O.look
  obtain ⟨Z, kz, pz, _⟩ := kit_of I ry ty
  obtain ⟨m, hF⟩ := I.fr
  refine PySem.W.cmp_K (op := .Eq) hr.units0 hF I.ok.mod.kin J (kz.ty _ _ I.kIn pz) nf T.eq.at_ T.eq.fn ?_
  refine wpAny_mono (run_fn (us := [.ref a, u]) (vs := [.ref a, y]) F hr hb .nil hx I (.cons rfl (.cons ry .nil)) q) (fun r t z => ?_) fun _ _ z => z
  obtain ⟨z', H', I', rz, b, rfl, qb⟩ := z
  cases (show r = Value.bool b from rz)
  exact ⟨.bl b, H', I', rfl, qb⟩
theorem op_neOwn (T : EqC X.K C g) (F : FnOk X.prog X.w X.K X.mg X.base CX k g fd ps sp) (hr : Room (k + 1) X.A) (hb : Binds X.K fd ps []) (hx : Passes CX X E) : OpR X (compareOp .NotEq) (rEq X.K C true sp E) := by
  intro pins s σ H x y v u Q I rx ry h
  obtain ⟨a, dx, fs, t, rfl, ea, ty, nf, q⟩ := h
  cases (show v = Value.ref a from rx)
  obtain ⟨mA, O, _⟩ := ins_get I.hok ea
  obtain ⟨od, J, _⟩ := O.look
  obtain ⟨Z, kz, pz, _⟩ := kit_of I ry ty
  show wpAny _ _ (richCompare .NotEq (.ref a) u) _ _ _
  refine ne_own (hu_of hr) I.kIn J (kz.ty _ _ I.kIn pz) nf T.ne T.ob T.eq.at_ T.eq.fn ?_
  refine wpAny_mono (wpAny_call (run_at (us := [.ref a, u]) (vs := [.ref a, y]) F hr.in1 I.env0.in1 hb hx I (.cons rfl (.cons ry .nil)) q)) (fun r t z => ?_) fun _ _ z => z
  obtain ⟨z', H', I', rz, b, rfl, qb⟩ := z
  cases (show r = Value.bool b from rz)
  exact ⟨b, rfl, .bl (!b), H', I', rfl, qb⟩
/-- x[y] by the class's own __getitem__ -/
def tIx (C : Addr) (sp : Sp) (E : XK) (ta tb : TE) : TE := fun σ H Q => ta σ H fun x H1 => tb σ H1 fun y H2 => ∃ a dx fs, x = .ref a ∧ H2 a = some (.ins C dx fs) ∧ sp [x, y] H2 Q E
theorem pe_ixOwn {a b : Expr} {ta tb : TE} {pos : Pos} (hm : Meth X.K C "__getitem__" g) (fi : PySem.W.fnIn X.K g = true) (F : FnOk X.prog X.w X.K X.mg X.base CX k g fd ps sp) (hr : Room (k + 1) X.A) (bd : Binds X.K fd ps []) (hx : Passes CX X E) (ha : PE X a ta) (hb : PE X b tb)
    (hsl : ∀ o i, subscripted b true (.ref o) i = runValue (.builtin "lifetime.subscript" ⟨[.ref o, i], []⟩) := by with_unfolding_all exact fun _ _ => rfl) : PE X (.Subscript a b pos) (tIx C sp E ta tb) := by
  refine ⟨fun pins s σ H Q I h => Subscript_ (binT (R := fun x y H2 => ∃ a dx fs, x = .ref a ∧ H2 a = some (.ins C dx fs) ∧ sp [x, y] H2 Q E) ha hb I h fun v u s2 x y H2 I2 rx ry q => ?_)⟩
  obtain ⟨o, dx, fs, rfl, ea, q⟩ := q
  cases (show v = Value.ref o from rx)
  obtain ⟨mA, O, _⟩ := ins_get I2.hok ea
  obtain ⟨od, J, _⟩ := O.look
  obtain ⟨m, hF⟩ := I2.fr
  refine PySem.W.sub_K hF I2.ok.mod.kin J hm.at_ fi hm.fn ?_ (hsl _ _)
  exact wpAny_call (run_at (us := [.ref o, u]) (vs := [.ref o, y]) F hr.in1 I2.env0.in1 bd hx I2 (.cons rfl (.cons ry .nil)) q)
end
end OC
set_option Elab.async false
set_option linter.all false
set_option maxRecDepth 100000
set_option maxHeartbeats 4000000
/-! OB: own classes over data: made, called, asked -/
namespace DL
open PySem PySem.Spec PyProof.Rows L2
theorem Ext.weak {Z : Addr → Prop} {Hs H Hs' H' : Hp} (e : Ext (fun _ => False) Hs H Hs' H') : Ext Z Hs H Hs' H' where
  fz := e.fz
  sub := e.sub
  keep := fun b o _ h => e.keep b o (fun z => z) h
  live := e.live
  new := e.new
  nt := e.nt
  pool := fun b l _ ⟨xs, h1, h2⟩ => ⟨xs, e.keep b _ (fun z => z) h1, h2.same e.fz⟩
theorem lookup_zip {K : PySem.W.Frag} {Hs : Hp} : ∀ {ns : List Str} {ds : List D} {xs : List V} {f : Str} {d : D}, IsA K Hs ds xs → lookD ns ds f = some d → ∃ v, (zipF ns xs).lookup f = some v ∧ Is K Hs d v
  | [], _, _, _, _, _, h => by simp [lookD] at h
  | _ :: _, [], _, _, _, _, h => by simp [lookD] at h
  | n :: ns, d :: ds, _, f, e, ⟨x, ys, ex, h1, h2⟩, h => by
    subst ex
    unfold lookD at h
    by_cases c : n = f
    · rw [if_pos c] at h
      cases h
      refine ⟨x, ?_, h1⟩
      show List.lookup f ((n, x) :: _) = _
      rw [List.lookup_cons, c, beq_self_eq_true]
    · rw [if_neg c] at h
      obtain ⟨v, a, b⟩ := lookup_zip h2 h
      refine ⟨v, ?_, b⟩
      show List.lookup f ((n, x) :: ns.zip ys) = _
      rw [List.lookup_cons, beq_false_of_ne (fun e => c e.symm)]
      exact a
theorem lookup_not : ∀ {ns : List Str} {xs : List V} {f : Str}, f ∉ ns → (zipF ns xs).lookup f = none
  | [], _, _, _ => by simp
  | _ :: _, [], _, _ => rfl
  | n :: ns, x :: xs, f, h => by
    show List.lookup f ((n, x) :: ns.zip xs) = _
    rw [List.lookup_cons, beq_false_of_ne (fun e => h (by rw [e]; exact List.mem_cons_self))]
    exact lookup_not (ns := ns) fun m => h (List.mem_cons_of_mem _ m)
section
variable {P : Program} {w : World} {K : PySem.W.Frag} {mg : Str → Option Value} {base : Heap}
/-- a method of the class at C, whose instances have the attributes ns, keeps this promise -/
structure DefM (P : Program) (w : World) (K : PySem.W.Frag) (mg : Str → Option Value) (base : Heap) (C : Addr) (ns : List Str) (m : Str) (k : Nat) (sp : SpD) : Prop where
  ex : ∃ f fd ps, FnOk P w K mg base (L2.CX P w) k f fd ps (spD K sp) ∧ Cls K C ∧ Meth K C m f ∧ Binds K fd ps []
  no : m ∉ ns
/-- one that hands back a new list -/
structure DefMF (P : Program) (w : World) (K : PySem.W.Frag) (mg : Str → Option Value) (base : Heap) (C : Addr) (ns : List Str) (m : Str) (k : Nat) (sp : SpF) : Prop where
  ex : ∃ f fd ps, FnOk P w K mg base (L2.CX P w) k f fd ps (spF K sp) ∧ Cls K C ∧ Meth K C m f ∧ Binds K fd ps []
  no : m ∉ ns
theorem DefMF.toM {C ns m k sp} (D : DefMF P w K mg base C ns m k sp) : DefM P w K mg base C ns m k (fun as Q Ed => sp as (fun ds => Q (.lst ds)) Ed) := by
  obtain ⟨⟨f, fd, ps, G, r⟩, n⟩ := D
  refine ⟨⟨f, fd, ps, G.imp fun vs H Q E ⟨Z, Hs, as, Qd, Ed, sub, hz, ai, hf, cv, ce⟩ => ⟨Z, Hs, as, fun ds => Qd (.lst ds), Ed, sub, hz, ai, hf, fun ds p xs Hs' H' x n1 n2 h1 h2 q => ?_, ce⟩, r⟩, n⟩
  exact cv (.lst ds) _ (upd Hs' p (.lst xs)) H' (x.freeze n1 n2 h1) ⟨p, xs, rfl, upd_same, h2.same (same_new0 n2)⟩ q
/-- a promise of a def that hands back a new dict -/
abbrev SpMu := List Sl → (Mu → Prop) → QE → Prop
def spMu (K : PySem.W.Frag) (f : SpMu) : Sp := fun vs H Q E => ∃ (Z : Addr → Prop) (Hs : Hp) (as : List Sl) (Qm : Mu → Prop) (Ed : QE), Same Hs H ∧ (∀ p, Z p → Hs p = none ∧ NT (H p)) ∧ ArgIs K Z Hs H as vs ∧ f as Qm Ed ∧
  (∀ m p u Hs' H', Ext Z Hs H Hs' H' → H p = none → Hs' p = none → H' p = some u → MuIs K Hs' m u → Qm m → Q (.ref p) H') ∧ (∀ er Hs' H', Ext Z Hs H Hs' H' → Ed er → ErrPost K E er Hs' H')
structure DefMM (P : Program) (w : World) (K : PySem.W.Frag) (mg : Str → Option Value) (base : Heap) (C : Addr) (ns : List Str) (m : Str) (k : Nat) (sp : SpMu) : Prop where
  ex : ∃ f fd ps, FnOk P w K mg base (L2.CX P w) k f fd ps (spMu K sp) ∧ Cls K C ∧ Meth K C m f ∧ Binds K fd ps []
  no : m ∉ ns
theorem fnMu {x qual : Str} {st : Stmt} {f : Addr} {fd : FuncData} {N ps : List Str} {k : Nat} {spec : SpMu} (F : Fun K x qual st f fd) (S : FnScope N ps (defScope st)) (hlen : ∀ as Qd Ed, spec as Qd Ed → as.length = ps.length)
    (body : ∀ (cdv : Value) (A : Around) (outer : List Env) (s : Shared) (H : Hp) (E : XK) (c : Cn), Room k (A.deeper (envOfC qual (defScope st) s.heap.objs.size f cdv)) → Bd (cxOf (L2.CX P w) P w K mg base N qual (defScope st) f cdv A outer s H E) c →
      ∃ t : TSD, DSs (cxOf (L2.CX P w) P w K mg base N qual (defScope st) f cdv A outer s H E) c (defBody st) t ∧ ∀ as Qm Ed, spec as Qm Ed → t { nx := fun _ => False, rt := fun _ => False, ro := fun _ => False, rm := Qm } (startD N as) Ed) :
    FnOk P w K mg base (L2.CX P w) (k + 1) f fd ps (spMu K spec) := by
  refine F.okX S (fun vs H Q E h => ?_) (fun cdv A outer s H vs Q E hr h => ?_)
  · obtain ⟨Z, Hs, as, Qd, Ed, _, _, ai, hf, _⟩ := h
    rw [ai.len]
    exact hlen as Qd Ed hf
  · obtain ⟨Z, Hs, as, Qd, Ed, sub, hz, ai, hf, cv, ce⟩ := h
    obtain ⟨t, ht, run⟩ := body cdv A outer s H E ⟨Z, Hs, H, E⟩ hr ⟨passes_call (takes_of rfl rfl rfl rfl) fun _ _ _ _ h => h, takes_of rfl rfl rfl rfl, hz⟩
    obtain ⟨O, A0⟩ := abs_start (K := K) (E := E) (N := N) sub hz ai
    refine ⟨_, ht, O, Hs, _, _, Ed, A0, run as Qd Ed hf, fun er Hs' H' x q => ce er Hs' H' x q, ?_⟩
    exact ⟨fun _ _ _ _ _ _ _ q => q.elim, fun _ _ _ _ _ _ _ q => q.elim, fun _ _ _ _ _ _ _ q => q.elim, fun _ _ _ _ _ _ q => q.elim, fun _ _ _ _ _ _ _ _ _ _ q => q.elim, fun m p u Hs' H' x n1 n2 h1 h2 q => cv m p u Hs' H' x n1 n2 h1 h2 q⟩
/-- __init__: what the instance holds in the end -/
abbrev SpI := List Sl → (List Str → List D → Prop) → QE → Prop
def spI (K : PySem.W.Frag) (C : Addr) (f : SpI) : Sp := fun vs H Q E => ∃ (p dx : Addr) (vs' : List V) (Z : Addr → Prop) (Hs H0 : Hp) (as : List Sl) (Qm : List Str → List D → Prop) (Ed : QE), vs = .ref p :: vs' ∧ Same Hs H0 ∧ (∀ q, Z q → Hs q = none ∧ NT (H0 q)) ∧ H0 p = none ∧ H0 dx = none ∧ dx ≠ p ∧ H = upd (upd H0 dx (.own p)) p (.ins C dx []) ∧
  ArgIs K Z Hs H0 as vs' ∧ f as Qm Ed ∧ (∀ ns ds u Hs' H', Ext Z Hs H0 Hs' H' → Hs' p = none → H' p = some u → MuIs K Hs' (.ins C ns ds) u → Qm ns ds → Q .non H') ∧ (∀ er Hs' H', Ext Z Hs H0 Hs' H' → Ed er → ErrPost K E er Hs' H')
theorem fnI {C : Addr} {x qual : Str} {st : Stmt} {f : Addr} {fd : FuncData} {N ps : List Str} {k : Nat} {spec : SpI} (F : Fun K x qual st f fd) (S : FnScope N ps (defScope st)) (hlen : ∀ as Qd Ed, spec as Qd Ed → as.length + 1 = ps.length)
    (body : ∀ (cdv : Value) (A : Around) (outer : List Env) (s : Shared) (H : Hp) (E : XK) (c : Cn), Room k (A.deeper (envOfC qual (defScope st) s.heap.objs.size f cdv)) → Bd (cxOf (L2.CX P w) P w K mg base N qual (defScope st) f cdv A outer s H E) c →
      ∃ t : TSD, DSs (cxOf (L2.CX P w) P w K mg base N qual (defScope st) f cdv A outer s H E) c (defBody st) t ∧ ∀ p as Qm Ed, spec as Qm Ed → t { nx := fun ss => ∃ ns ds, nth ss 0 = .mu p (.ins C ns ds) ∧ Qm ns ds, rt := fun _ => False, ro := fun _ => False } (startD N (.mu p (.ins C [] []) :: as)) Ed) :
    FnOk P w K mg base (L2.CX P w) (k + 1) f fd ps (spI K C spec) := by
  refine F.okX S (fun vs H Q E h => ?_) (fun cdv A outer s H vs Q E hr h => ?_)
  · obtain ⟨p, dx, vs', Z, Hs, H0, as, Qd, Ed, rfl, _, _, _, _, _, _, ai, hf, _⟩ := h
    rw [List.length_cons, ai.len]
    exact hlen as Qd Ed hf
  · obtain ⟨p, dx, vs', Z, Hs, H0, as, Qm, Ed, rfl, sub, hz, np, nd, ne, rfl, ai, hf, cv, ce⟩ := h
    obtain ⟨t, ht, run⟩ := body cdv A outer s _ E ⟨Z, Hs, H0, E⟩ hr ⟨passes_call (takes_of rfl rfl rfl rfl) fun _ _ _ _ h => h, takes_of rfl rfl rfl rfl, hz⟩
    have nd1 : (upd H0 dx (.own p)) p = none := by rw [upd_ne ne.symm]; exact np
    have x1 : Ext Z Hs H0 Hs (upd H0 dx (.own p)) := .grow sub nd
    have x2 : Ext Z Hs H0 Hs (upd (upd H0 dx (.own p)) p (.ins C dx [])) := x1.trans (.grow x1.sub nd1)
    have A : ∃ O, Abs K ⟨Z, Hs, H0, E⟩ O Hs (upd (upd H0 dx (.own p)) p (.ins C dx [])) (start N (.ref p :: vs')) (startD N (.mu p (.ins C [] []) :: as)) ∧ O p = some 1 := by
      classical
      have zp : ¬ Z p := fun z => (hz p z).2.ne np
      have ai2 := ai.next x2
      have hl := ai.len
      have hO : ∀ q, Z q → (if Z q then some 0 else if q = p then some 1 else none : Option Nat) = some 0 := fun q h => if_pos h
      have nO : ∀ q, (if Z q then some 0 else if q = p then some 1 else none : Option Nat) ≠ none → Z q ∨ q = p := fun q h => by
        by_cases z : Z q
        · exact .inl z
        · rw [if_neg z] at h
          by_cases e : q = p
          · exact .inr e
          · exact absurd (if_neg e) h
      refine ⟨fun b => if Z b then some 0 else if b = p then some 1 else none, ⟨x2, fun a h => ?_, fun a h => ?_, fun a h => ?_, hO, ?_, fun i => ?_⟩, ?_⟩
      · rcases nO a h with z | e
        · exact (hz a z).1
        · subst e; exact none_sub sub np
      · rcases nO a h with z | e
        · exact x2.nt a (hz a z).2
        · subst e; rw [upd_same]; trivial
      · rcases nO a h with z | e
        · exact .inl z
        · subst e; exact .inr np
      · unfold L2.start startD
        rw [List.length_append, List.length_append, List.length_map, List.length_map, List.length_replicate, List.length_drop, List.length_cons, List.length_cons]
        omega
      · unfold L2.start startD
        cases i with
        | zero => exact ⟨_, rfl, by show (if Z p then some 0 else if p = p then some 1 else none) = some 1; rw [if_neg zp, if_pos rfl], upd_same, dx, [], rfl, rfl, rfl⟩
        | succ i =>
          show SlIs K _ Hs _ (i + 1) (((vs'.map some) ++ List.replicate _ none)[i]?) (nth (as ++ (N.drop _).map fun _ => Sl.un) i)
          by_cases hi : i < as.length
          · rw [nth_app_l hi, List.getElem?_append_left (by rw [List.length_map]; omega), List.getElem?_map]
            have q := arg_at (K := K) (Hs := Hs) (O := fun b => if Z b then some 0 else if b = p then some 1 else none) hO (j := i + 1) ai2 hi
            have hv : vs'[i]? = some (vs'[i]'(by omega)) := List.getElem?_eq_getElem (by omega)
            rw [hv] at q ⊢
            exact q
          · rw [nth_app_r (Nat.le_of_not_lt hi), nth_un]
            trivial
      · show (if Z p then some 0 else if p = p then some 1 else none) = some 1
        rw [if_neg zp, if_pos rfl]
    obtain ⟨O, A0, _⟩ := A
    refine ⟨_, ht, O, Hs, _, _, Ed, A0, run p as Qm Ed hf, fun er Hs' H' x q => ce er Hs' H' x q, ?_⟩
    refine ⟨fun σ' O' Hs' H' ss' _ A' q => ?_, fun _ _ _ _ _ _ _ q => q.elim, fun _ _ _ _ _ _ _ q => q.elim, fun _ _ _ _ _ _ q => q.elim, fun _ _ _ _ _ _ _ _ _ _ q => q.elim, fun _ _ _ _ _ _ _ _ _ _ q => q.elim⟩
    obtain ⟨ns, ds, hn, q⟩ := q
    obtain ⟨u, _, _, h3, h4, h5, _⟩ := mu_facts A' hn
    exact cv ns ds u Hs' H' A'.ext h5 h3 h4 q
/-- the class x at C is made with __init__ -/
structure DefI (P : Program) (w : World) (K : PySem.W.Frag) (mg : Str → Option Value) (base : Heap) (x : Str) (C : Addr) (k : Nat) (sp : SpI) : Prop where
  ex : ∃ f fd ps, FnOk P w K mg base (L2.CX P w) k f fd ps (spI K C sp) ∧ Mk K C f ∧ mg x = some (.ref C) ∧ Binds K fd ps []
end
section
variable {X : Cx} {c : Cn} {C : Addr} {ns : List Str} {k : Nat}
/-! ### C(..) -/
def tdMake (C : Addr) (sp : SpI) (t : TAD) : TD := fun ss Q Ed => t ss (fun as => sp as (fun ns ds => Q (.obj C ns ds)) Ed) Ed
section
variable {x : Str} {p pos : Pos} {e : Expr} {es : List Expr} {t : TAD} {sp : SpI}
theorem make_run {O Hs H σ ss} (A : Abs X.K c O Hs H σ ss) {Ed : QE} (er : ErrC X.K c Ed) {as : List Sl} {vs : List V} {Qd : QD} {Q : VK} {E : XK} (hE : ∀ er, Ed er → ∀ Hs' H', Ext (Z0 O) Hs H Hs' H' → ErrPost X.K E er Hs' H') (ai : ArgIs X.K (Z0 O) Hs H as vs) (q : sp as (fun ns ds => Qd (.obj C ns ds)) Ed)
    (g : ∀ d v Hs' H', Ext (Z0 O) Hs H Hs' H' → Is X.K Hs' d v → Qd d → Q v H') : ∀ x dx, H x = none → H dx = none → dx ≠ x → spI X.K C sp (.ref x :: (vs ++ [])) (upd (upd H dx (.own x)) x (.ins C dx [])) (fun v H2 => v = .non ∧ Q (.ref x) H2) E := by
  intro x dx nx nd ne
  rw [List.append_nil]
  refine ⟨x, dx, vs, Z0 O, Hs, H, as, _, Ed, rfl, A.sub, fun q hq => ⟨A.fz q (by rw [show O q = some 0 from hq]; exact fun z => nomatch z), A.live q (by rw [show O q = some 0 from hq]; exact fun z => nomatch z)⟩, nx, nd, ne, rfl, ai, q, fun ns ds u Hs' H' x1 n1 h1 mi q1 => ⟨rfl, ?_⟩, fun er' Hs' H' x1 q1 => hE er' q1 Hs' H' x1⟩
  obtain ⟨dx', xs, rfl, l, ia⟩ := mi
  exact g (.obj C ns ds) _ (upd Hs' x (.ins C dx' (zipF ns xs))) H' (x1.freeze nx n1 h1) ⟨x, dx', xs, rfl, upd_same, l, ia.same (same_up n1)⟩ q1
theorem d_mkE (G : DefI X.prog X.w X.K X.mg X.base x C k sp) (hr : Room (k + 1) X.A) (b : Bd X c) (ha : DAs X c (e :: es) t) (hg : Gl X x := by rfl) (hdb : (x == ("__debug__" : Str)) = false := by decide) (he : starEach (e :: es) X.env = (false, eval e X.env) :: starEach es X.env := by rfl) (hpl : (backTo pos (starEach es X.env)).any (·.1) = false := by rfl) :
    DE X c (.Call (.Name x p) (e :: es) [] pos) (tdMake C sp t) := by
  obtain ⟨f, fd, ps, F, M, hm, hb⟩ := G.ex
  refine pe_imp (pe_make M F hr hg hm hb .nil b.px ha hdb he hpl) fun σ H Q q => ?_
  obtain ⟨O, Hs, ss, Qd, Ed, A, h, er, g⟩ := q
  refine ⟨O, Hs, ss, _, Ed, A, h, er, fun as vs Hs1 H1 e1 i1 q1 => ?_⟩
  exact make_run (A.next e1) er (fun er' h' Hs' H' x1 => er er' Hs' H' (A.after (e1.trans x1)) h') i1 q1 fun d v Hs2 H2 e2 i2 q2 => g d v Hs2 H2 (e1.trans e2) i2 q2
/-- .. that raises nothing -/
def tdMakeN (C : Addr) (sp : SpI) (t : TAD) : TD := fun ss Q Ed => t ss (fun as => sp as (fun ns ds => Q (.obj C ns ds)) fun _ => False) Ed
theorem d_mkN (G : DefI X.prog X.w X.K X.mg X.base x C k sp) (hr : Room (k + 1) X.A) (ha : DAs X c (e :: es) t) (hg : Gl X x := by rfl) (hdb : (x == ("__debug__" : Str)) = false := by decide) (he : starEach (e :: es) X.env = (false, eval e X.env) :: starEach es X.env := by rfl) (hpl : (backTo pos (starEach es X.env)).any (·.1) = false := by rfl) :
    DE X c (.Call (.Name x p) (e :: es) [] pos) (tdMakeN C sp t) := by
  obtain ⟨f, fd, ps, F, M, hm, hb⟩ := G.ex
  refine pe_imp (pe_make M F hr hg hm hb .nil pass0D ha hdb he hpl) fun σ H Q q => ?_
  obtain ⟨O, Hs, ss, Qd, Ed, A, h, er, g⟩ := q
  refine ⟨O, Hs, ss, _, Ed, A, h, er, fun as vs Hs1 H1 e1 i1 q1 => ?_⟩
  exact make_run (Ed := fun _ => False) (A.next e1) (fun _ _ _ _ z => z.elim) (fun _ z => z.elim) i1 q1 fun d v Hs2 H2 e2 i2 q2 => g d v Hs2 H2 (e1.trans e2) i2 q2
end
/-! ### self.f = e, in __init__ -/
def tdFldSet (i : Nat) (f : Str) (te : TD) : TSD := fun En ss Ed => te ss (fun x => match nth ss i with
  | .mu p (.ins C ns ds) => f ∉ ns ∧ ns.length ≤ 100 ∧ En.nx (put ss i (.mu p (.ins C (ns ++ [f]) (ds ++ [x]))))
  | _ => False) Ed
theorem putF_new (f : Str) (v : V) : ∀ {ns : List Str} {xs : List V}, f ∉ ns → ns.length = xs.length → putF f v (zipF ns xs) = zipF (ns ++ [f]) (xs ++ [v])
  | [], [], _, _ => rfl
  | [], _ :: _, _, h => by cases h
  | _ :: _, [], _, h => by cases h
  | n :: ns, x :: xs, nf, h => by
    show (if n = f then (n, v) :: ns.zip xs else (n, x) :: putF f v (zipF ns xs)) = (n, x) :: zipF (ns ++ [f]) (xs ++ [v])
    rw [if_neg fun e => nf (by rw [e]; exact List.mem_cons_self), putF_new f v (fun m => nf (List.mem_cons_of_mem _ m)) (Nat.succ.inj h)]
theorem d_fldSet {o e : Expr} {i : Nat} {f : Str} {pos pos' : Pos} {te : TD} (cl : ∀ a dx fs (H : Hp), H a = some (.ins C dx fs) → Cls X.K C ∧ NoAttr X.K C f) (ho : PE X o (tVar i)) (he : DE X c e te) (hs : swapsWith e (some (.Attribute o f pos')) pos.line X.env = pure false := by rfl) : DS X c (.Assign [.Attribute o f pos'] e pos) (fun En ss Ed => (∃ p ns ds, nth ss i = .mu p (.ins C ns ds)) ∧ tdFldSet i f te En ss Ed) := by
  refine ps_imp (ps_fld ho he hs) fun Dn σ H q => ?_
  obtain ⟨O, Hs, ss, En, Ed, A, ⟨⟨p, ns, ds, hn⟩, h⟩, er, g⟩ := q
  refine ⟨O, Hs, ss, _, Ed, A, h, er, fun d v Hs1 H1 e1 i1 q1 => ?_⟩
  rw [hn] at q1
  obtain ⟨nf, few, q1⟩ := q1
  obtain ⟨u, f1, own, h3, mi, _⟩ := mu_facts (A.next e1) hn
  obtain ⟨dx, xs, rfl, l, ia⟩ := mi
  obtain ⟨c1, c2⟩ := cl p dx _ H1 h3
  refine ⟨_, f1, p, C, dx, _, rfl, h3, c1, c2, by rw [List.length_zip]; exact Nat.lt_of_le_of_lt (Nat.min_le_left _ _) (by omega), ?_⟩
  rw [putF_new f v nf (l.trans ia.len.symm)]
  exact g.nx σ O Hs1 _ _ e1.fz ((A.next e1).writeM (m := .ins C (ns ++ [f]) (ds ++ [d])) f1 own ⟨dx, _, rfl, by rw [List.length_append, List.length_append, l]; rfl, ia.app (.one i1)⟩) q1
/-! ### o.f -/
def tdAttr (C : Addr) (f : Str) (td : TD) : TD := fun ss Q Ed => td ss (fun x => match x with
  | .obj C' ns ds => C' = C ∧ ∃ d, lookD ns ds f = some d ∧ Q d
  | _ => False) Ed
theorem d_attr {e : Expr} {f : Str} {pos : Pos} {td : TD} (cl : Cls X.K C) (na : NoAttr X.K C f) (he : DE X c e td) (hb : attributeBase e f X.env (eval e X.env) = eval e X.env := by rfl) : DE X c (.Attribute e f pos) (tdAttr C f td) := by
  refine pe_imp (pe_fld he hb) fun σ H Q q => ?_
  obtain ⟨O, Hs, ss, Qd, Ed, A, h, er, g⟩ := q
  refine ⟨O, Hs, ss, _, Ed, A, h, er, fun d v Hs1 H1 e1 i1 q1 => ?_⟩
  split at q1
  · obtain ⟨rfl, d2, hl, q1⟩ := q1
    obtain ⟨a, dx, xs, rfl, ha, l, ia⟩ := i1
    obtain ⟨u, hu, iu⟩ := lookup_zip ia hl
    exact ⟨a, _, dx, _, u, rfl, e1.sub _ _ ha, cl, na, hu, g d2 u Hs1 H1 e1 iu q1⟩
  · exact q1.elim
/-! ### o.m(..) -/
def tdMethE (C : Addr) (ns : List Str) (sp : SpD) (td : TD) (t : TAD) : TD := fun ss Q Ed => td ss (fun x => match x with
  | .obj C' ns' ds => C' = C ∧ ns' = ns ∧ t ss (fun as => sp (.d (.obj C ns ds) :: as) Q Ed) Ed
  | _ => False) Ed
def tdMethN (C : Addr) (ns : List Str) (sp : SpD) (td : TD) (t : TAD) : TD := fun ss Q Ed => td ss (fun x => match x with
  | .obj C' ns' ds => C' = C ∧ ns' = ns ∧ t ss (fun as => sp (.d (.obj C ns ds) :: as) Q fun _ => False) Ed
  | _ => False) Ed
section
variable {o e : Expr} {es : List Expr} {m : Str} {apos pos : Pos} {td : TD} {t : TAD} {sp : SpD}
theorem d_mE {pl : Sem Bool} (G : DefM X.prog X.w X.K X.mg X.base C ns m k sp) (hr : Room k X.A) (b : Bd X c) (ho : DE X c o td) (ha : DAs X c (e :: es) t)
    (hst : starEach (e :: es) X.env = (false, eval e X.env) :: starEach es X.env := by rfl) (hpl : (backTo pos (starEach es X.env)).any (·.1) = false := by rfl)
    (ht : eval (.Call (.Attribute o m apos) (e :: es) [] pos) X.env = (do
      let ov ← eval o X.env
      standAt apos.atName
      let (f, first) ← holding [ov] (getMethod ov m pl)
      callWith pos f first (backTo pos (starEach (e :: es) X.env)) (backToKw pos (keywordEach [] X.env))) := by rfl) : DE X c (.Call (.Attribute o m apos) (e :: es) [] pos) (tdMethE C ns sp td t) := by
  obtain ⟨⟨f, fd, ps, F, cl, hm, hb⟩, no⟩ := G
  refine pe_imp (pe_meth ho cl hm F hr hb .nil b.px ha hst hpl ht) fun σ H Q q => ?_
  obtain ⟨O, Hs, ss, Qd, Ed, A, h, er, g⟩ := q
  refine ⟨O, Hs, ss, _, Ed, A, h, er, fun d v Hs1 H1 e1 i1 q1 => ?_⟩
  split at q1
  · obtain ⟨rfl, rfl, q1⟩ := q1
    obtain ⟨a, dx, xs, rfl, ha, l, ia⟩ := id i1
    refine ⟨a, dx, _, rfl, e1.sub _ _ ha, lookup_not no, O, Hs1, ss, _, Ed, A.next e1, q1, er, fun as vs Hs2 H2 e2 i2 q2 => ?_⟩
    show spD X.K sp (.ref a :: (vs ++ [])) H2 Q c.E
    rw [List.append_nil]
    exact sp_of ((A.next e1).next e2) er (as := .d _ :: as) ⟨_, vs, rfl, i1.same e2.fz, i2⟩ q2 fun d v Hs3 H3 e3 i3 q3 => g d v Hs3 H3 ((e1.trans e2).trans e3) i3 q3
  · exact q1.elim
theorem d_mN {pl : Sem Bool} (G : DefM X.prog X.w X.K X.mg X.base C ns m k sp) (hr : Room k X.A) (ho : DE X c o td) (ha : DAs X c (e :: es) t)
    (hst : starEach (e :: es) X.env = (false, eval e X.env) :: starEach es X.env := by rfl) (hpl : (backTo pos (starEach es X.env)).any (·.1) = false := by rfl)
    (ht : eval (.Call (.Attribute o m apos) (e :: es) [] pos) X.env = (do
      let ov ← eval o X.env
      standAt apos.atName
      let (f, first) ← holding [ov] (getMethod ov m pl)
      callWith pos f first (backTo pos (starEach (e :: es) X.env)) (backToKw pos (keywordEach [] X.env))) := by rfl) : DE X c (.Call (.Attribute o m apos) (e :: es) [] pos) (tdMethN C ns sp td t) := by
  obtain ⟨⟨f, fd, ps, F, cl, hm, hb⟩, no⟩ := G
  refine pe_imp (pe_meth ho cl hm F hr hb .nil pass0D ha hst hpl ht) fun σ H Q q => ?_
  obtain ⟨O, Hs, ss, Qd, Ed, A, h, er, g⟩ := q
  refine ⟨O, Hs, ss, _, Ed, A, h, er, fun d v Hs1 H1 e1 i1 q1 => ?_⟩
  split at q1
  · obtain ⟨rfl, rfl, q1⟩ := q1
    obtain ⟨a, dx, xs, rfl, ha, l, ia⟩ := id i1
    refine ⟨a, dx, _, rfl, e1.sub _ _ ha, lookup_not no, O, Hs1, ss, _, Ed, A.next e1, q1, er, fun as vs Hs2 H2 e2 i2 q2 => ?_⟩
    have A2 := (A.next e1).next e2
    show spD X.K sp (.ref a :: (vs ++ [])) H2 Q Er0
    rw [List.append_nil]
    exact ⟨Z0 O, Hs2, .d _ :: as, Qd, fun _ => False, A2.sub, fun p hp => ⟨A2.fz p (by rw [hp]; exact fun z => nomatch z), A2.live p (by rw [hp]; exact fun z => nomatch z)⟩, ⟨_, vs, rfl, i1.same e2.fz, i2⟩, q2, fun d v Hs3 H3 e3 i3 q3 => g d v Hs3 H3 ((e1.trans e2).trans e3) i3 q3, fun _ _ _ _ z => z.elim⟩
  · exact q1.elim
/-- o.m() -/
theorem d_m0N {pl : Sem Bool} (G : DefM X.prog X.w X.K X.mg X.base C ns m k sp) (hr : Room k X.A) (ho : DE X c o td)
    (ht : eval (.Call (.Attribute o m apos) [] [] pos) X.env = (do
      let ov ← eval o X.env
      standAt apos.atName
      let (f, first) ← holding [ov] (getMethod ov m pl)
      callWith pos f first (backTo pos (starEach [] X.env)) (backToKw pos (keywordEach [] X.env))) := by rfl) : DE X c (.Call (.Attribute o m apos) [] [] pos) (tdMethN C ns sp td tdNil) := by
  obtain ⟨⟨f, fd, ps, F, cl, hm, hb⟩, no⟩ := G
  refine pe_imp (pe_meth0 ho cl hm F hr hb .nil pass0D ht) fun σ H Q q => ?_
  obtain ⟨O, Hs, ss, Qd, Ed, A, h, er, g⟩ := q
  refine ⟨O, Hs, ss, _, Ed, A, h, er, fun d v Hs1 H1 e1 i1 q1 => ?_⟩
  split at q1
  · obtain ⟨rfl, rfl, q1⟩ := q1
    obtain ⟨a, dx, xs, rfl, ha, l, ia⟩ := id i1
    have A2 := A.next e1
    refine ⟨a, dx, _, rfl, e1.sub _ _ ha, lookup_not no, ?_⟩
    exact ⟨Z0 O, Hs1, [.d _], Qd, fun _ => False, A2.sub, fun p hp => ⟨A2.fz p (by rw [hp]; exact fun z => nomatch z), A2.live p (by rw [hp]; exact fun z => nomatch z)⟩, ⟨_, [], rfl, i1, rfl⟩, q1, fun d v Hs3 H3 e3 i3 q3 => g d v Hs3 H3 (e1.trans e3) i3 q3, fun _ _ _ _ z => z.elim⟩
  · exact q1.elim
end
/-- o.m() that makes a new list -/
def toMeth0 (C : Addr) (ns : List Str) (sp : SpF) (td : TD) : TOD := fun ss Q Ed => td ss (fun x => match x with
  | .obj C' ns' ds => C' = C ∧ ns' = ns ∧ sp [.d (.obj C ns ds)] Q fun _ => False
  | _ => False) Ed
theorem do_m0 {o : Expr} {m : Str} {apos pos : Pos} {td : TD} {sp : SpF} {pl : Sem Bool} (G : DefMF X.prog X.w X.K X.mg X.base C ns m k sp) (hr : Room k X.A) (ho : DE X c o td)
    (ht : eval (.Call (.Attribute o m apos) [] [] pos) X.env = (do
      let ov ← eval o X.env
      standAt apos.atName
      let (f, first) ← holding [ov] (getMethod ov m pl)
      callWith pos f first (backTo pos (starEach [] X.env)) (backToKw pos (keywordEach [] X.env))) := by rfl) : DO X c (.Call (.Attribute o m apos) [] [] pos) (toMeth0 C ns sp td) := by
  obtain ⟨⟨f, fd, ps, F, cl, hm, hb⟩, no⟩ := G
  refine pe_imp (pe_meth0 ho cl hm F hr hb .nil pass0D ht) fun σ H Q q => ?_
  obtain ⟨O, Hs, ss, Qd, Ed, A, h, er, g⟩ := q
  refine ⟨O, Hs, ss, _, Ed, A, h, er, fun d v Hs1 H1 e1 i1 q1 => ?_⟩
  split at q1
  · obtain ⟨rfl, rfl, q1⟩ := q1
    obtain ⟨a, dx, xs, rfl, ha, l, ia⟩ := id i1
    have A2 := A.next e1
    refine ⟨a, dx, _, rfl, e1.sub _ _ ha, lookup_not no, ?_⟩
    refine ⟨Z0 O, Hs1, [.d _], Qd, fun _ => False, A2.sub, fun p hp => ⟨A2.fz p (by rw [hp]; exact fun z => nomatch z), A2.live p (by rw [hp]; exact fun z => nomatch z)⟩, ⟨_, [], rfl, i1, rfl⟩, q1, fun ds p xs Hs3 H3 e3 n1 n2 h1 h2 q3 => ?_, fun _ _ _ _ z => z.elim⟩
    refine g ds p xs Hs3 H3 (e1.trans e3) ?_ n2 h1 h2 q3
    cases z : H p with
    | none => rfl
    | some u => exact absurd n1 (e1.live p (by rw [z]; exact fun z => nomatch z))
  · exact q1.elim
/-- o.m() that makes a new dict -/
def tmMeth0 (C : Addr) (ns : List Str) (sp : SpMu) (td : TD) : TMD := fun ss Q Ed => td ss (fun x => match x with
  | .obj C' ns' ds => C' = C ∧ ns' = ns ∧ sp [.d (.obj C ns ds)] Q fun _ => False
  | _ => False) Ed
theorem dm_m0 {o : Expr} {m : Str} {apos pos : Pos} {td : TD} {sp : SpMu} {pl : Sem Bool} (G : DefMM X.prog X.w X.K X.mg X.base C ns m k sp) (hr : Room k X.A) (ho : DE X c o td)
    (ht : eval (.Call (.Attribute o m apos) [] [] pos) X.env = (do
      let ov ← eval o X.env
      standAt apos.atName
      let (f, first) ← holding [ov] (getMethod ov m pl)
      callWith pos f first (backTo pos (starEach [] X.env)) (backToKw pos (keywordEach [] X.env))) := by rfl) : DOM X c (.Call (.Attribute o m apos) [] [] pos) (tmMeth0 C ns sp td) := by
  obtain ⟨⟨f, fd, ps, F, cl, hm, hb⟩, no⟩ := G
  refine pe_imp (pe_meth0 ho cl hm F hr hb .nil pass0D ht) fun σ H Q q => ?_
  obtain ⟨O, Hs, ss, Qd, Ed, A, h, er, g⟩ := q
  refine ⟨O, Hs, ss, _, Ed, A, h, er, fun d v Hs1 H1 e1 i1 q1 => ?_⟩
  split at q1
  · obtain ⟨rfl, rfl, q1⟩ := q1
    obtain ⟨a, dx, xs, rfl, ha, l, ia⟩ := id i1
    have A2 := A.next e1
    refine ⟨a, dx, _, rfl, e1.sub _ _ ha, lookup_not no, ?_⟩
    refine ⟨Z0 O, Hs1, [.d _], Qd, fun _ => False, A2.sub, fun p hp => ⟨A2.fz p (by rw [hp]; exact fun z => nomatch z), A2.live p (by rw [hp]; exact fun z => nomatch z)⟩, ⟨_, [], rfl, i1, rfl⟩, q1, fun m p u Hs3 H3 e3 n1 n2 h1 h2 q3 => ?_, fun _ _ _ _ z => z.elim⟩
    refine g m p u Hs3 H3 (e1.trans e3) ?_ n2 h1 h2 q3
    cases z : H p with
    | none => rfl
    | some u => exact absurd n1 (e1.live p (by rw [z]; exact fun z => nomatch z))
  · exact q1.elim
/-! ### o.f, a property -/
structure DefP (P : Program) (w : World) (K : PySem.W.Frag) (mg : Str → Option Value) (base : Heap) (C : Addr) (ns : List Str) (m : Str) (k : Nat) (sp : SpD) : Prop where
  ex : ∃ p f fd ps, FnOk P w K mg base (L2.CX P w) k f fd ps (spD K sp) ∧ Cls K C ∧ PropOf K C m p f ∧ Binds K fd ps []
theorem d_prop {e : Expr} {f : Str} {pos : Pos} {td : TD} {sp : SpD} (G : DefP X.prog X.w X.K X.mg X.base C ns f k sp) (hr : Room (k + 1) X.A) (he : DE X c e td) (hb : attributeBase e f X.env (eval e X.env) = eval e X.env := by rfl) : DE X c (.Attribute e f pos) (tdMethN C ns sp td tdNil) := by
  obtain ⟨p, g0, fd, ps, F, cl, hp, hbn⟩ := G.ex
  refine pe_imp (pe_prop he cl hp F hr hbn .nil (pass0D (X := X.nox)) hb) fun σ H Q q => ?_
  obtain ⟨O, Hs, ss, Qd, Ed, A, h, er, g⟩ := q
  refine ⟨O, Hs, ss, _, Ed, A, h, er, fun d v Hs1 H1 e1 i1 q1 => ?_⟩
  split at q1
  · obtain ⟨rfl, rfl, q1⟩ := q1
    obtain ⟨a, dx, xs, rfl, ha, l, ia⟩ := id i1
    have A2 := A.next e1
    refine ⟨a, dx, _, rfl, e1.sub _ _ ha, ?_⟩
    exact ⟨Z0 O, Hs1, [.d _], Qd, fun _ => False, A2.sub, fun p hp => ⟨A2.fz p (by rw [hp]; exact fun z => nomatch z), A2.live p (by rw [hp]; exact fun z => nomatch z)⟩, ⟨_, [], rfl, i1, rfl⟩, q1, fun d v Hs3 H3 e3 i3 q3 => g d v Hs3 H3 (e1.trans e3) i3 q3, fun _ _ _ _ z => z.elim⟩
  · exact q1.elim
/-! ### y in o, o == y, isinstance(y, C) -/
/-- what a def answers by data, asked outside of any state -/
theorem sp_out {sp : SpD} {Hs H : Hp} {as : List D} {vs : List V} {Qd : QD} {Q : VK} {E : XK} (s : Same Hs H) (ia : IsA X.K Hs as vs) (h : sp (dats as) Qd fun _ => False)
    (g : ∀ x w Hs' H', (∀ Z, Ext Z Hs H Hs' H') → Is X.K Hs' x w → Qd x → Q w H') : spD X.K sp vs H Q E := by
  have ai : ∀ {as : List D} {vs : List V}, IsA X.K Hs as vs → ArgIs X.K (fun _ => False) Hs H (dats as) vs := by
    intro as
    induction as with
    | nil => intro vs h; exact h
    | cons d ds ih => intro vs ⟨x, ys, e, h1, h2⟩; exact ⟨x, ys, e, h1, ih h2⟩
  exact ⟨fun _ => False, Hs, dats as, Qd, fun _ => False, s, fun _ z => z.elim, ai ia, h, fun d v Hs' H' x i q => g d v Hs' H' (fun Z => x.weak) i q, fun _ _ _ _ z => z.elim⟩
def rOwnInD (C : Addr) (ns : List Str) (sp : SpD) (neg : Bool) : RD2 := fun y x Q => match x with
  | .obj C' ns' ds => C' = C ∧ ns' = ns ∧ sp [.d (.obj C ns ds), .d y] (fun z => match z with
    | .bl b => Q (.bl (b != neg))
    | _ => False) fun _ => False
  | _ => False
theorem od_inOwn {sp : SpD} (G : DefM X.prog X.w X.K X.mg X.base C ns "__contains__" k sp) (hr : Room k X.A) : OpD X (compareOp .In) (rOwnInD C ns sp false) := by
  obtain ⟨⟨f, fd, ps, F, cl, hm, hb⟩, no⟩ := G
  refine ⟨_, OI.op_in_own hm F hr hb pass0D, fun Z Hs H y x v u Qd Q s i1 i2 q cn => ?_⟩
  unfold rOwnInD at q
  split at q
  · obtain ⟨rfl, rfl, q⟩ := q
    obtain ⟨a, dx, xs, rfl, ha, l, ia⟩ := id i2
    refine ⟨a, dx, _, rfl, s _ _ ha, sp_out (as := [_, y]) s ⟨_, _, rfl, i2, v, [], rfl, i1, rfl⟩ q fun z w Hs' H' x iz qz => ?_⟩
    split at qz
    · rename_i b
      refine ⟨b, iz, ?_⟩
      have e : (b != false) = b := by cases b <;> rfl
      rw [e] at qz
      exact cn (.bl b) (.bl b) Hs' H' (x Z) rfl qz
    · exact qz.elim
  · exact q.elim
theorem od_notinOwn {sp : SpD} (G : DefM X.prog X.w X.K X.mg X.base C ns "__contains__" k sp) (hr : Room k X.A) : OpD X (compareOp .NotIn) (rOwnInD C ns sp true) := by
  obtain ⟨⟨f, fd, ps, F, cl, hm, hb⟩, no⟩ := G
  refine ⟨_, OI.op_notin_own hm F hr hb pass0D, fun Z Hs H y x v u Qd Q s i1 i2 q cn => ?_⟩
  unfold rOwnInD at q
  split at q
  · obtain ⟨rfl, rfl, q⟩ := q
    obtain ⟨a, dx, xs, rfl, ha, l, ia⟩ := id i2
    refine ⟨a, dx, _, rfl, s _ _ ha, sp_out (as := [_, y]) s ⟨_, _, rfl, i2, v, [], rfl, i1, rfl⟩ q fun z w Hs' H' x iz qz => ?_⟩
    split at qz
    · rename_i b
      refine ⟨b, iz, ?_⟩
      have e : (b != true) = !b := by cases b <;> rfl
      rw [e] at qz
      exact cn (.bl (!b)) (.bl (!b)) Hs' H' (x Z) rfl qz
    · exact qz.elim
  · exact q.elim
/-- the class at C, asked about with isinstance, ==: what the text says -/
structure OwnC (K : PySem.W.Frag) (C : Addr) : Prop where
  cl : Cls K C
  ca : PySem.W.findIn K (.ref C) "__class__" = some (some (.builtin "object.__class__"))
  cn : PySem.W.specialIn K (.builtin "object.__class__") "__get__" = some (some (.builtin "getset_descriptor.__get__"))
  ct : PySem.W.takesIn K (.builtin "object.__class__") = some true
  cm : PySem.W.mroIn K C (.type "object") = some true
  self : PySem.W.kitOne K (.ref C) (.ref C) = some true
  kit : ∀ n : Ty7, PySem.W.kitOne K (.type n.name) (.ref C) = some false
  nf : ∀ n : Ty7, PySem.W.notFirst K C (.type n.name) = true
  nfs : PySem.W.notFirst K C (.ref C) = true
theorem obj_ty {K : PySem.W.Frag} {Hs H : Hp} {C : Addr} (T : OwnC K C) {ns : List Str} {ds : List D} {v : V} (s : Same Hs H) (i : Is K Hs (.obj C ns ds) v) : TyX K H v (.ref C) := by
  obtain ⟨a, dx, xs, rfl, ha, _⟩ := i
  exact .base (.ins (s _ _ ha) T.cl T.ca T.cn T.ct T.cm)
/-- isinstance(x, C) -/
def rIsiOwn (C : Addr) : List D → QD → Prop := fun ds Q => match ds with
  | [.obj C' _ _, .cls C2] => C' = C ∧ C2 = C ∧ Q (.bl true)
  | [x, .cls C2] => C2 = C ∧ (kindD x).isSome = true ∧ Q (.bl false)
  | _ => False
theorem cd_isiOwn (T : OwnC X.K C) : CallD X (.builtin "isinstance") (rIsiOwn C) := ⟨_, call_isi, fun Z Hs H ds vs Qd Q s i q cn => by
  unfold rIsiOwn at q
  split at q
  · obtain ⟨rfl, rfl, q⟩ := q
    obtain ⟨v, w, e, h1, h2⟩ := isA2 i
    cases h2; subst e
    exact ⟨v, .ref _, .ref _, .ref _, true, rfl, .own _, obj_ty T s h1, T.self, cn (.bl _) _ Hs H (.refl s) rfl q⟩
  · rename_i x C2 _
    obtain ⟨rfl, kx, q⟩ := q
    obtain ⟨v, w, e, h1, h2⟩ := isA2 i
    cases h2; subst e
    cases hk : kindD x with
    | none => rw [hk] at kx; cases kx
    | some n => exact ⟨v, .ref _, .type n.name, .ref _, false, rfl, .own _, kindD_ty (h1.same s) hk, T.kit n, cn (.bl _) _ Hs H (.refl s) rfl q⟩
  · exact q.elim⟩
theorem d_cls {x : Str} {p : Pos} (hm : X.mg x = some (.ref C)) (hg : Gl X x := by rfl) (hdb : (x == ("__debug__" : Str)) = false := by decide) : DE X c (.Name x p) (tdC (.cls C)) := d_const (v := .ref C) (pe_glob hg hm rfl hdb) fun _ => rfl
def rOwnEq (C : Addr) (ns : List Str) (sp : SpD) (neg : Bool) : RD2 := fun x y Q => match x with
  | .obj C' ns' ds => C' = C ∧ ns' = ns ∧ ((kindD y).isSome = true ∨ ∃ ns2 ds2, y = .obj C ns2 ds2) ∧ sp [.d (.obj C ns ds), .d y] (fun z => match z with
    | .bl b => Q (.bl (b != neg))
    | _ => False) fun _ => False
  | _ => False
structure DefEq (P : Program) (w : World) (K : PySem.W.Frag) (mg : Str → Option Value) (base : Heap) (C : Addr) (ns : List Str) (k : Nat) (sp : SpD) : Prop where
  ex : ∃ f fd ps, FnOk P w K mg base (L2.CX P w) k f fd ps (spD K sp) ∧ OC.EqC K C f ∧ Binds K fd ps []
  T : OwnC K C
theorem eq_ty {K : PySem.W.Frag} {Hs H : Hp} {C : Addr} (T : OwnC K C) {y : D} {v : V} (s : Same Hs H) (i : Is K Hs y v) (h : (kindD y).isSome = true ∨ ∃ ns2 ds2, y = .obj C ns2 ds2) : ∃ t, TyX K H v t ∧ PySem.W.notFirst K C t = true := by
  rcases h with h | ⟨ns2, ds2, rfl⟩
  · cases hk : kindD y with
    | none => rw [hk] at h; cases h
    | some n => exact ⟨_, kindD_ty (i.same s) hk, T.nf n⟩
  · exact ⟨_, obj_ty T s i, T.nfs⟩
theorem od_eqOwn {sp : SpD} (G : DefEq X.prog X.w X.K X.mg X.base C ns k sp) (hr : Room k X.A) : OpD X (compareOp .Eq) (rOwnEq C ns sp false) := by
  obtain ⟨⟨f, fd, ps, F, E, hb⟩, T⟩ := G
  refine ⟨_, OC.op_eqOwn E F hr hb pass0D, fun Z Hs H x y v u Qd Q s i1 i2 q cn => ?_⟩
  unfold rOwnEq at q
  split at q
  · obtain ⟨rfl, rfl, ty, q⟩ := q
    obtain ⟨a, dx, xs, rfl, ha, l, ia⟩ := id i1
    obtain ⟨t, h1, h2⟩ := eq_ty T s i2 ty
    refine ⟨a, dx, _, t, rfl, s _ _ ha, h1, h2, sp_out (as := [_, y]) s ⟨_, _, rfl, i1, u, [], rfl, i2, rfl⟩ q fun z w Hs' H' x iz qz => ?_⟩
    split at qz
    · rename_i b
      refine ⟨b, iz, ?_⟩
      have e : (b != false) = b := by cases b <;> rfl
      rw [e] at qz
      exact cn (.bl b) (.bl b) Hs' H' (x Z) rfl qz
    · exact qz.elim
  · exact q.elim
theorem od_neOwn {sp : SpD} (G : DefEq X.prog X.w X.K X.mg X.base C ns k sp) (hr : Room (k + 1) X.A) : OpD X (compareOp .NotEq) (rOwnEq C ns sp true) := by
  obtain ⟨⟨f, fd, ps, F, E, hb⟩, T⟩ := G
  refine ⟨_, OC.op_neOwn E F hr hb pass0D, fun Z Hs H x y v u Qd Q s i1 i2 q cn => ?_⟩
  unfold rOwnEq at q
  split at q
  · obtain ⟨rfl, rfl, ty, q⟩ := q
    obtain ⟨a, dx, xs, rfl, ha, l, ia⟩ := id i1
    obtain ⟨t, h1, h2⟩ := eq_ty T s i2 ty
    refine ⟨a, dx, _, t, rfl, s _ _ ha, h1, h2, sp_out (as := [_, y]) s ⟨_, _, rfl, i1, u, [], rfl, i2, rfl⟩ q fun z w Hs' H' x iz qz => ?_⟩
    split at qz
    · rename_i b
      refine ⟨b, iz, ?_⟩
      have e : (b != true) = !b := by cases b <;> rfl
      rw [e] at qz
      exact cn (.bl (!b)) (.bl (!b)) Hs' H' (x Z) rfl qz
    · exact qz.elim
  · exact q.elim
end
end DL
set_option Elab.async false
set_option linter.all false
set_option maxRecDepth 100000
set_option maxHeartbeats 4000000
/-! EC: an own error class with __init__, from what the text says of it -/
namespace DL
open PySem PySem.Spec PyProof.Rows L2
open PySem.W (excInitIn excOver excTail)
/-- the bases of ValueError -/
abbrev BMv : List Value := [.type "ValueError", .type "Exception", .type "BaseException", .type "object"]
theorem FBv : ExcBaseFacts "ValueError" "ValueError.__new__" "ValueError.__init__" BMv := PySem.F.excBase_ValueError
section
variable {K : PySem.W.Frag} {C N : Addr} {nm q : Str} {bs bm bmB : List Value} {hd : Bool} {sn : List Str} {sub : List Value} {ab : Bool} {col : Option Bool} {dd : Option Addr} {m0 m1 m2 m3 m5 : Option Value} {newId : String}
theorem xinit_of (xL : K.lookup C = some (excClassObj nm q C N bs bm hd sn sub ab col dd m0 m1 m2 m3 m5 newId)) (t : excTail bmB bm = true) : excInitIn K C bmB newId = true := by
  unfold excInitIn
  rw [xL]
  show (C == C && newId == newId && !false && excTail bmB bm) = true
  rw [t, beq_self_eq_true, beq_self_eq_true]
  rfl
theorem xover_of (xL : K.lookup C = some (excClassObj nm q C N bs bm hd sn sub ab col dd m0 m1 m2 m3 m5 newId)) (t : excTail bmB bm = true) : excOver K C bmB = true := by
  have e : PySem.W.clsIn K C = some { name := nm, bases := bs, mro := .ref C :: bm, ns := N, qualname := q, hasDict := hd, slotNames := sn, subclasses := sub, abstract := ab, collection := col, hasDel := false } := by
    unfold PySem.W.clsIn
    rw [xL]
  unfold excOver
  rw [e]
  show (C == C && excTail bmB bm) = true
  rw [t, beq_self_eq_true]
  rfl
theorem xcls_of (xL : K.lookup C = some (excClassObj nm q C N bs bm hd sn sub ab col dd m0 m1 m2 m3 m5 newId)) : (PySem.W.clsIn K C).isSome = true := by
  unfold PySem.W.clsIn
  rw [xL]
  rfl
theorem cls_some {cd : ClassData} (h : PySem.W.clsIn K C = some cd) : (PySem.W.clsIn K C).isSome = true := by rw [h]; rfl
theorem tk_none {f : Str} (h : PySem.W.findIn K (.ref C) f = some none) : PySem.W.takerIn K C f = some none := by
  unfold PySem.W.takerIn
  rw [h]
  rfl
theorem kit_cv {T : String} {b : Bool} (m : PySem.W.kitMeta T = true) (h : PySem.W.subIn K (.ref C) (.type T) = some b) : PySem.W.kitOne K (.ref C) (.type T) = some b := by
  unfold PySem.W.kitOne
  rw [if_neg (show ¬ (Value.ref C == Value.type T) = true from fun z => by cases z)]
  show (if PySem.W.kitMeta T = true then PySem.W.subIn K (.ref C) (.type T) else none) = some b
  rw [if_pos m]
  exact h
theorem exm_selfD (h1 : PySem.W.subIn K (.ref C) (.type "BaseException") = some true) (h2 : (PySem.W.clsIn K C).isSome = true) (h3 : PySem.W.typeIn K (.ref C) = some (.type "type")) (h4 : PySem.W.subIn K (.ref C) (.ref C) = some true) : PySem.W.exmOne K (.ref C) (.ref C) = some true := by
  have e1 : (PySem.W.subIn K (.ref C) (.type "BaseException") == some true) = true := by rw [h1] <;> rfl
  have e2 : ((PySem.W.clsIn K C).isSome && PySem.W.typeIn K (.ref C) == some (.type "type")) = true := by rw [h2, h3] <;> rfl
  show (if (PySem.W.subIn K (.ref C) (.type "BaseException") == some true) = true then (if ((PySem.W.clsIn K C).isSome && PySem.W.typeIn K (.ref C) == some (.type "type")) = true then PySem.W.subIn K (.ref C) (.ref C) else none) else none) = some true
  rw [if_pos e1, if_pos e2]
  exact h4
theorem exm_otherD {C D : Addr} {b : Bool} (h1 : PySem.W.subIn K (.ref D) (.type "BaseException") = some true) (h2 : (PySem.W.clsIn K D).isSome = true) (h3 : PySem.W.typeIn K (.ref D) = some (.type "type")) (h4 : PySem.W.subIn K (.ref C) (.ref D) = some b) : PySem.W.exmOne K (.ref C) (.ref D) = some b := by
  have e1 : (PySem.W.subIn K (.ref D) (.type "BaseException") == some true) = true := by rw [h1] <;> rfl
  have e2 : ((PySem.W.clsIn K D).isSome && PySem.W.typeIn K (.ref D) == some (.type "type")) = true := by rw [h2, h3] <;> rfl
  show (if (PySem.W.subIn K (.ref D) (.type "BaseException") == some true) = true then (if ((PySem.W.clsIn K D).isSome && PySem.W.typeIn K (.ref D) == some (.type "type")) = true then PySem.W.subIn K (.ref C) (.ref D) else none) else none) = some b
  rw [if_pos e1, if_pos e2]
  exact h4
end
end DL
set_option Elab.async false
set_option linter.all false
set_option maxRecDepth 100000
set_option maxHeartbeats 4000000
/-! DN: defs that may be called in a try whose suite raises from None -/
namespace DL
open PySem PySem.Spec PyProof.Rows L2
section
variable {P : Program} {w : World} {K : PySem.W.Frag} {mg : Str → Option Value} {base : Heap}
structure DefN (P : Program) (w : World) (K : PySem.W.Frag) (mg : Str → Option Value) (base : Heap) (x : Str) (k : Nat) (sp : SpD) : Prop where
  ex : ∃ f fd ps, FnOk P w K mg base (LR.CXn P w) k f fd ps (spD K sp) ∧ mg x = some (.ref f) ∧ PySem.W.keepIn K (.ref f) = true ∧ Binds K fd ps []
theorem DefN.mk1 {x : Str} {st : Stmt} {ps : List Str} {f : Addr} {fd : FuncData} {k : Nat} {sp : SpD} (D : LR.DefAt K mg x st ps f fd) (G : FnOk P w K mg base (LR.CXn P w) k f fd ps (spD K sp)) : DefN P w K mg base x k sp := ⟨f, fd, ps, G, D.g, D.F.kp, D.b⟩
theorem DefN.toD {x : Str} {k : Nat} {sp : SpD} (G : DefN P w K mg base x k sp) : DefD P w K mg base x k sp := by
  obtain ⟨f, fd, ps, F, r⟩ := G.ex
  exact ⟨f, fd, ps, LR.up F, r⟩
structure BdN (X : Cx) (c : Cn) : Prop where
  tk : L2N.Takes X (fun cls d _ H => c.E cls d H)
  zz : ∀ p, c.Z p → c.Hs p = none ∧ NT (c.H p)
theorem fnDN {x qual : Str} {st : Stmt} {f : Addr} {fd : FuncData} {N ps : List Str} {k : Nat} {spec : SpD} (F : Fun K x qual st f fd) (S : FnScope N ps (defScope st)) (hlen : ∀ as Qd Ed, spec as Qd Ed → as.length = ps.length)
    (body : ∀ (cdv : Value) (A : Around) (outer : List Env) (s : Shared) (H : Hp) (E : XK) (c : Cn), Room k (A.deeper (envOfC qual (defScope st) s.heap.objs.size f cdv)) → BdN (cxOf (LR.CXn P w) P w K mg base N qual (defScope st) f cdv A outer s H E) c →
      ∃ t : TSD, DSs (cxOf (LR.CXn P w) P w K mg base N qual (defScope st) f cdv A outer s H E) c (defBody st) t ∧ ∀ as Qd Ed, spec as Qd Ed → t { nx := fun _ => Qd .non, rt := Qd } (startD N as) Ed) :
    FnOk P w K mg base (LR.CXn P w) (k + 1) f fd ps (spD K spec) := by
  refine F.okN S (fun vs H Q E h => ?_) (fun cdv A outer s H vs Q E hr h => ?_)
  · obtain ⟨Z, Hs, as, Qd, Ed, _, _, ai, hf, _⟩ := h
    rw [ai.len]
    exact hlen as Qd Ed hf
  · obtain ⟨Z, Hs, as, Qd, Ed, sub, hz, ai, hf, cv, ce⟩ := h
    obtain ⟨t, ht, run⟩ := body cdv A outer s H E ⟨Z, Hs, H, E⟩ hr ⟨L2N.takes_of rfl rfl rfl rfl, hz⟩
    obtain ⟨O, A0⟩ := abs_start (K := K) (E := E) (N := N) sub hz ai
    refine ⟨_, ht, O, Hs, _, _, Ed, A0, run as Qd Ed hf, fun er Hs' H' x q => ce er Hs' H' x q, ?_⟩
    exact ⟨fun σ' O' Hs' H' ss' _ A' q => cv .non .non Hs' H' A'.ext rfl q, fun _ _ _ _ _ _ _ q => q.elim, fun _ _ _ _ _ _ _ q => q.elim, fun d v Hs' H' x i q => cv d v Hs' H' x i q, fun ds p xs Hs' H' x n1 n2 h1 h2 q => cv (.lst ds) _ (upd Hs' p (.lst xs)) H' (x.freeze n1 n2 h1) ⟨p, xs, rfl, upd_same, h2.same (same_new0 n2)⟩ q, fun _ _ _ _ _ _ _ _ _ _ z => z.elim⟩
end
section
variable {X : Cx} {c : Cn} {k : Nat} {sp : SpD} {x : Str} {p pos : Pos} {e : Expr} {es : List Expr} {t : TAD}
/-- a call, in such a def, that raises nothing -/
theorem d_nN (G : DefN X.prog X.w X.K X.mg X.base x k sp) (hr : Room k X.A) (ha : DAs X c (e :: es) t) (hg : Gl X x := by rfl) (hdb : (x == ("__debug__" : Str)) = false := by decide) (he : starEach (e :: es) X.env = (false, eval e X.env) :: starEach es X.env := by rfl) (hpl : (backTo pos (starEach es X.env)).any (·.1) = false := by rfl) :
    DE X c (.Call (.Name x p) (e :: es) [] pos) (tdCallN sp t) := by
  obtain ⟨f, fd, ps, F, hm, hk, hb⟩ := G.ex
  refine pe_imp (pe_call F hr hg hm hk hb .nil LR.passN ha hdb he hpl) fun σ H Q q => ?_
  obtain ⟨O, Hs, ss, Qd, Ed, A, h, er, g⟩ := q
  refine ⟨O, Hs, ss, _, Ed, A, h, er, fun as vs Hs1 H1 e1 i1 q1 => ?_⟩
  show spD X.K sp (vs ++ []) H1 Q Er0
  rw [List.append_nil]
  have A1 := A.next e1
  exact ⟨Z0 O, Hs1, as, Qd, fun _ => False, A1.sub, fun p hp => ⟨A1.fz p (by rw [show O p = some 0 from hp]; exact fun z => nomatch z), A1.live p (by rw [show O p = some 0 from hp]; exact fun z => nomatch z)⟩, i1, q1, fun d v Hs2 H2 e2 i2 q2 => g d v Hs2 H2 (e1.trans e2) i2 q2, fun _ _ _ _ z => z.elim⟩
/-- raise C() there -/
theorem d_raiseN {x : Str} {bm : List Value} {B newId initId : String} {C : Addr} {p pos pos' : Pos} (b : BdN X c) (hc : X.calm = true) (T : LR.ErrAt X.K X.mg x bm newId C) (F : ExcBaseFacts B newId initId bm) (hg : Gl X x := by rfl) (hdb : (x == ("__debug__" : Str)) = false := by decide) :
    DS X c (.Raise (some (.Call (.Name x p) [] [] pos)) none pos') (tdRaise C) := by
  refine ps_imp (L2N.ps_raise hc b.tk (L2H.PMk5.pmk (T.mk5 F hg hdb))) fun Dn σ H q => ?_
  obtain ⟨O, Hs, ss, En, Ed, A, h, er, g⟩ := q
  exact er (.e0 C) Hs H A.ext h
/-- try: tg = x(..); except y: raise r() from None -/
def tdTryAs (sp : SpD) (C1 C2 : Addr) (t : TAD) (p : Pat) : TSD := fun En ss Ed => t ss (fun as => sp as (fun d => p.gd d ss En.nx) fun er => er = .e0 C1 ∧ Ed (.e0 C2)) fun _ => False
theorem d_tryAs {y r : Str} {bm : List Value} {B newId initId : String} {C1 C2 : Addr} {tg : Expr} {pt : Pat} {p2 np p3 p4 p5 p6 p7 p8 : Pos} {j : Nat} (b : Bd X c) (hs : X.stack = X.env :: X.outer) (hf : X.env.frame = some X.env.locals) (hpa : ∀ hd : Option Value, PassesOwnAt (model X.prog X.w) (X.A.mark hd) X.A X.env X.xe)
    (hn : Names X y (.ref C1)) (ex : PySem.W.exmOne X.K (.ref C1) (.ref C1) = some true) (G : DefN X.prog X.w X.K X.mg X.base x k sp) (hr : Room k X.A) (T : LR.ErrAt X.K X.mg r bm newId C2) (F2 : ExcBaseFacts B newId initId bm)
    (ha : ∀ pn xe, DAs (X.tr pn xe) c (e :: es) t) (hgt : ∀ pn xe, DG (X.tr pn xe) tg pt) (hg : Gl X x := by rfl) (hgr : Gl X r := by rfl) (hdb : (x == ("__debug__" : Str)) = false := by decide) (hdb2 : (r == ("__debug__" : Str)) = false := by decide) (he : starEach (e :: es) X.env = (false, eval e X.env) :: starEach es X.env := by rfl) (hpl : (backTo pos (starEach es X.env)).any (·.1) = false := by rfl)
    (hsw : swapsWithSole [tg] (.Call (.Name x p) (e :: es) [] pos) p2.line X.env = pure false := by rfl) (hw : swappedStores [tg] (.Call (.Name x p) (e :: es) [] pos) X.env = pure none := by rfl) (h1 : (assignEach [tg] X.env).map (·.2) = [assign tg X.env] := by rfl) :
    DS X c (.Try [.Assign [tg] (.Call (.Name x p) (e :: es) [] pos) p2] [.ExceptHandler (some (.Name y np)) none [.Raise (some (.Call (.Name r p3) [] [] p4)) (some (.Constant .none j p5)) p6] p7] [] [] p8) (tdTryAs sp C1 C2 t pt) := by
  obtain ⟨f, fd, ps, F, hm, hk, hb⟩ := G.ex
  refine ps_imp (L2H.ps_try_onlyX (Wout := fun cls d _ H => c.E cls d H) hs hf hn hpa b.tk
    (fun W pn xe tk _ _ => pss_one (ps_asg (pe_callS F hr hg hm hk hb (fun σ => L2N.passAt tk σ) (show PA (X.tr pn xe) (e :: es) (liftA c X.K t) from ha pn xe) hdb he hpl) (show PG (X.tr pn xe) tg (pt.tg X.K) from hgt pn xe) hsw hw h1))
    (fun a oe cls d pn _ _ tkS hot => pss_one (L2H.ps_raiseHN hot tkS (LR.ErrAt.mk5 (X := L2H.suiteX X a ((a, oe) :: pn)) T F2 hgr hdb2)))) fun Dn σ H q => ?_
  obtain ⟨O, Hs, ss, En, Ed, A, h, er, g⟩ := q
  refine ⟨O, Hs, ss, _, fun _ => False, A, h, fun _ _ _ _ z => z.elim, fun as vs Hs1 H1 e1 i1 q1 => ?_⟩
  have A1 := A.next e1
  refine ⟨Z0 O, Hs1, as, _, _, A1.sub, fun p hp => ⟨A1.fz p (by rw [show O p = some 0 from hp]; exact fun z => nomatch z), A1.live p (by rw [show O p = some 0 from hp]; exact fun z => nomatch z)⟩, i1, q1, fun d v Hs2 H2 e2 i2 q2 => ?_, fun er' Hs2 H2 e2 q2 => ?_⟩
  · exact pt.conn (A1.next e2) i2 q2 fun σ' ss' A' _ q' => g.nx σ' O Hs2 H2 ss' (e1.trans e2).fz A' q'
  · obtain ⟨rfl, q2⟩ := q2
    exact ⟨true, ex, fun _ a na => er (.e0 C2) Hs2 H2 (A.after (e1.trans e2)) q2, fun z => nomatch z⟩
end
end DL
set_option Elab.async false
set_option linter.all false
set_option maxRecDepth 100000
set_option maxHeartbeats 4000000
/-! math.gcd of three -/
namespace G3
open PySem PySem.Spec PySem.Calls PyProof.Rows L2
theorem args3 (a b c : Value) : argsOk "math.gcd" ⟨[a, b, c], []⟩ := by unfold argsOk; kernel_rfl
theorem run3 (a : Int) (t : Tok) (b : Int) (u : Tok) (c : Int) (v : Tok) : Gives (Builtin.«math.gcd» ⟨[.int a t, .int b u, .int c v], []⟩) (.int ((((Nat.gcd 0 a.natAbs).gcd b.natAbs).gcd c.natAbs : Nat) : Int)) := by
  refine .of_wp fun M A E s Q h => ?_
  obtain ⟨hp, g, dd, tk, os⟩ := s
  wp_walk
  exact ⟨_, rfl, h⟩
section
variable {X : Cx}
def rGcd3 : List V → Hp → VK → Prop := fun vs H Q => ∃ a b c : Int, vs = [.int a, .int b, .int c] ∧ Q (.int (((Nat.gcd a.natAbs b.natAbs).gcd c.natAbs : Nat) : Int)) H
theorem cr_gcd3 : CallR X (.builtin "math.gcd") rGcd3 := by
  intro pins s σ H vs us Q I r h
  obtain ⟨a, b, c, rfl, q⟩ := h
  cases r with
  | cons r1 r =>
  cases r with
  | cons r2 r =>
  cases r with
  | cons r3 r =>
  cases r
  obtain ⟨t1, e⟩ := (show ∃ t, _ = Value.int a t from r1); subst e
  obtain ⟨t2, e⟩ := (show ∃ t, _ = Value.int b t from r2); subst e
  obtain ⟨t3, e⟩ := (show ∃ t, _ = Value.int c t from r3); subst e
  have g := run3 a t1 b t2 c t3
  rw [Nat.gcd_zero_left] at g
  exact call_function_meets PySem.W.MGF.kind_gcd PySem.W.MGF.plain_gcd PySem.W.MGF.entry_gcd (args3 _ _ _) g.meets ⟨.int _, H, I.tok _, ⟨_, rfl⟩, q⟩
end
end G3
set_option Elab.async false
set_option linter.all false
set_option maxRecDepth 100000
set_option maxHeartbeats 4000000
/-! DX: chains, stars, gcd of three, type(x) -/
namespace DL
open PySem PySem.Spec PyProof.Rows L2
section
variable {X : Cx} {c : Cn}
/-! ### a op b op' c -/
def tdChain (r r' : RD2) (ta tb tc : TD) : TD := fun ss Q Ed => ta ss (fun x => tb ss (fun y => r x y fun z => match z with
  | .bl k => if k = true then tc ss (fun w => r' y w Q) Ed else Q (.bl false)
  | _ => False) Ed) Ed
theorem lift_chain {f f' : Value → Value → Sem Value} {r r' : RD2} {ta tb tc : TD} (o : OpD X f r) (o' : OpD X f' r') : ∃ r0 r1 : R2, OpR X f r0 ∧ OpR X f' r1 ∧ ∀ σ H Q, lift c X.K (tdChain r r' ta tb tc) σ H Q → tChain r0 r1 (lift c X.K ta) (lift c X.K tb) (lift c X.K tc) σ H Q := by
  obtain ⟨r0, h0, cn⟩ := o.ex
  obtain ⟨r1, h1, cn1⟩ := o'.ex
  refine ⟨r0, r1, h0, h1, fun σ H Q q => ?_⟩
  obtain ⟨O, Hs, ss, Qd, Ed, A, h, er, g⟩ := q
  refine ⟨O, Hs, ss, _, Ed, A, h, er, fun d v Hs1 H1 e1 i1 q1 => ?_⟩
  refine ⟨O, Hs1, ss, _, Ed, A.next e1, q1, er, fun d2 v2 Hs2 H2 e2 i2 q2 => ?_⟩
  refine cn (Z0 O) Hs2 H2 d d2 v v2 _ _ e2.sub (i1.same e2.fz) i2 q2 fun z w Hs3 H3 e3 i3 q3 => ?_
  split at q3
  · rename_i k
    refine ⟨k, i3, ?_⟩
    have A3 := ((A.next e1).next e2).next e3
    cases k with
    | true =>
      simp only [if_true] at q3
      refine iteT ⟨O, Hs3, ss, _, Ed, A3, q3, er, fun d4 v4 Hs4 H4 e4 i4 q4 => ?_⟩
      exact cn1 (Z0 O) Hs4 H4 d2 d4 v2 v4 Qd Q e4.sub ((i2.same e3.fz).same e4.fz) i4 q4 fun x w Hs5 H5 e5 i5 q5 => g x w Hs5 H5 ((((e1.trans e2).trans e3).trans e4).trans e5) i5 q5
    | false =>
      simp only [Bool.false_eq_true, if_false] at q3
      exact iteF (g (.bl false) _ Hs3 H3 ((e1.trans e2).trans e3) rfl q3)
  · exact q3.elim
theorem d_chain {op op' : CmpOp} {a b d : Expr} {pos : Pos} {r r' : RD2} {ta tb tc : TD} (o : OpD X (compareOp op) r) (o' : OpD X (compareOp op') r') (ha : DE X c a ta) (hb : DE X c b tb) (hd : DE X c d tc) (hm : lastMarks [op, op'] [b, d] = false := by with_unfolding_all rfl) : DE X c (.Compare a [op, op'] [b, d] pos) (tdChain r r' ta tb tc) := by
  obtain ⟨r0, r1, h0, h1, f⟩ := lift_chain (c := c) (ta := ta) (tb := tb) (tc := tc) o o'
  exact pe_imp (pe_chain h0 h1 ha hb hd hm) f
theorem dt_chain {op op' : CmpOp} {a b d : Expr} {pos : Pos} {r r' : RD2} {ta tb tc : TD} (o : OpD X (compareOp op) r) (o' : OpD X (compareOp op') r') (ha : DE X c a ta) (hb : DE X c b tb) (hd : DE X c d tc) (hm : lastMarks [op, op'] [b, d] = false := by with_unfolding_all rfl) : DT X c (.Compare a [op, op'] [b, d] pos) (tdB (tdChain r r' ta tb tc)) := by
  obtain ⟨r0, r1, h0, h1, f⟩ := lift_chain (c := c) (ta := ta) (tb := tb) (tc := tc) o o'
  refine pt_imp (pt_chain h0 h1 ha hb hd hm) fun σ H Q q => ?_
  obtain ⟨O, Hs, ss, Qd, Ed, A, h, er, g⟩ := q
  refine f σ H _ ⟨O, Hs, ss, _, Ed, A, h, er, fun d v Hs1 H1 e1 i1 q1 => ?_⟩
  cases d <;> first | exact q1.elim | exact ⟨_, i1, g _ Hs1 H1 e1 q1⟩
/-! ### *e among the items of a display -/
def tdStar (te : TD) (tr : TAD) : TAD := fun ss Q Ed => te ss (fun x => match x with
  | .tup ds => tr ss (fun as => Q (dats ds ++ as)) Ed
  | .lst ds => tr ss (fun as => Q (dats ds ++ as)) Ed
  | _ => False) Ed
theorem argis_dats {K : PySem.W.Frag} {Z : Addr → Prop} {Hs H : Hp} {as : List Sl} {vs : List V} (h2 : ArgIs K Z Hs H as vs) : ∀ {ds : List D} {xs : List V}, IsA K Hs ds xs → ArgIs K Z Hs H (dats ds ++ as) (xs ++ vs)
  | [], _, h => by cases h; exact h2
  | d :: ds, _, ⟨x, ys, e, h1, h3⟩ => by subst e; exact ⟨x, _, rfl, h1, argis_dats h2 h3⟩
theorem da_star {e : Expr} {es : List Expr} {p : Pos} {te : TD} {tr : TAD} (he : DE X c e te) (hr : DAs X c es tr) (hs : starEach (.Starred e p :: es) X.env = (true, eval e X.env) :: starEach es X.env := by rfl) : DAs X c (.Starred e p :: es) (tdStar te tr) := by
  refine pa_imp (StX.pa_star he hr hs) fun σ H Q q => ?_
  obtain ⟨O, Hs, ss, Qd, Ed, A, h, er, g⟩ := q
  refine ⟨O, Hs, ss, _, Ed, A, h, er, fun d v Hs1 H1 e1 i1 q1 => ?_⟩
  split at q1
  · obtain ⟨a, xs, rfl, h1, h2⟩ := i1
    refine ⟨a, xs, rfl, .inl (.inl (.inl (e1.sub _ _ h1))), O, Hs1, ss, _, Ed, A.next e1, q1, er, fun as vs Hs2 H2 e2 i2 q2 => ?_⟩
    exact g _ _ Hs2 H2 (e1.trans e2) (argis_dats i2 (h2.same e2.fz)) q2
  · obtain ⟨a, xs, rfl, h1, h2⟩ := i1
    refine ⟨a, xs, rfl, .inr (.of (e1.sub _ _ h1)), O, Hs1, ss, _, Ed, A.next e1, q1, er, fun as vs Hs2 H2 e2 i2 q2 => ?_⟩
    exact g _ _ Hs2 H2 (e1.trans e2) (argis_dats i2 (h2.same e2.fz)) q2
  · exact q1.elim
/-! ### gcd of three -/
def rGcd3D : List D → QD → Prop := fun ds Q => match ds with
  | [.int a, .int b, .int d] => Q (.int ((Nat.gcd (Nat.gcd a.natAbs b.natAbs) d.natAbs : Nat) : Int))
  | _ => False
theorem cd_gcd3 : CallD X (.builtin "math.gcd") rGcd3D := ⟨_, G3.cr_gcd3, fun Z Hs H ds vs Qd Q s i q cn => by
  unfold rGcd3D at q
  split at q
  · obtain ⟨x, ys, rfl, h1, y, zs, rfl, h2, z, ws, rfl, h3, h4⟩ := i
    cases h1; cases h2; cases h3; cases h4
    refine ⟨_, _, _, rfl, cn (.int _) _ Hs H (.refl s) rfl ?_⟩
    exact q
  · exact q.elim⟩
/-! ### type(x) is T -/
def rTypD : List D → QD → Prop := fun ds Q => match ds with
  | [x] => (match kindD x with
    | some .dct => False
    | some k => Q (.ty k)
    | none => False)
  | _ => False
theorem cd_type : CallD X (.type "type") rTypD := ⟨_, call_type1, fun Z Hs H ds vs Qd Q s i q cn => by
  unfold rTypD at q
  split at q
  · rename_i x
    obtain ⟨v, rfl, iv⟩ := isA1 i
    split at q
    · exact q.elim
    · rename_i k nd hk
      refine ⟨v, k.name, rfl, ?_, cn (.ty k) _ Hs H (.refl s) rfl q⟩
      cases x <;> simp only [kindD, Option.some.injEq, reduceCtorEq] at hk <;> subst hk
      · cases iv; exact .non
      · cases iv; exact .bl _
      · cases iv; exact .int _
      · cases iv; exact .str _
      · obtain ⟨a, xs, rfl, h1, _⟩ := iv
        exact .lst (.of (s _ _ h1))
      · obtain ⟨a, xs, rfl, h1, _⟩ := iv
        exact .tup (.inl (.inl (s _ _ h1)))
      · exact absurd rfl (nd)
    · exact q.elim
  · exact q.elim⟩
def rIsTyD : RD2 := fun x y Q => match x, y with
  | .ty a, .ty b => Q (.bl (decide (a = b)))
  | _, _ => False
theorem ty7_inj : ∀ a b : Ty7, decide (a.name = b.name) = decide (a = b) := by
  intro a b
  cases a <;> cases b <;> decide +kernel
theorem od_isTy : OpD X (compareOp .Is) rIsTyD := ⟨_, op_isTyB, fun Z Hs H x y v u Qd Q s i1 i2 q cn => by
  unfold rIsTyD at q
  split at q
  · rename_i a b
    cases i1; cases i2
    refine ⟨_, _, rfl, rfl, ?_⟩
    rw [ty7_inj]
    exact cn (.bl _) _ Hs H (.refl s) rfl q
  · exact q.elim⟩
end
end DL
set_option Elab.async false
set_option linter.all false
set_option maxRecDepth 100000
set_option maxHeartbeats 4000000
/-! DS: signs and methods of texts; a try whose body raises nothing -/
namespace DL
open PySem PySem.Spec PyProof.Rows L2
section
variable {X : Cx} {c : Cn}
def tdStrM (g : Str → Bool) (te : TD) : TD := fun ss Q Ed => te ss (fun x => match x with
  | .str z => Q (.bl (g z))
  | _ => False) Ed
theorem d_strM {o : Expr} {te : TD} {name : Str} {apos cpos : Pos} {id : String} {g : Str → Bool} (sl : Slot "str" name id) (ty : typeOf (Value.builtin id) = pure (Value.type "method_descriptor"))
    (mt : MtR X id fun x xs H Q => ∃ a, x = V.str a ∧ xs = [] ∧ True ∧ Q (V.bl (g a)) H) (ho : DE X c o te) (h1 : attributeBase o name X.env (eval o X.env) = eval o X.env := by rfl) (h2 : (apos.endLine == cpos.line) = true := by rfl) : DE X c (.Call (.Attribute o name apos) [] [] cpos) (tdStrM g te) := by
  refine pe_imp (pe_bm0 PySem.F.plainAttrs_str sl ty mt ho h1 h2) fun σ H Q q => ?_
  obtain ⟨O, Hs, ss, Qd, Ed, A, h, er, cn⟩ := q
  refine ⟨O, Hs, ss, _, Ed, A, h, er, fun d v Hs1 H1 e1 i1 q1 => ?_⟩
  cases d with
  | str z =>
    cases (show v = .str z from i1)
    exact ⟨rfl, z, rfl, rfl, trivial, cn (.bl _) _ Hs1 H1 e1 rfl q1⟩
  | _ => exact q1.elim
def rIxSD : RD2 := fun x y Q => match x, y with
  | .str z, .int i => z.length ≤ sizeLine ∧ ∃ k, atI z.cps.toList i = some k ∧ Q (.str ⟨#[k]⟩)
  | _, _ => False
theorem ixS : IxD X rIxSD := ⟨_, ix_str, fun Z Hs H x y v u Qd Q s i1 i2 q cn => by
  unfold rIxSD at q
  split at q
  · obtain ⟨h1, k, h2, q⟩ := q
    exact ⟨_, _, k, i1, i2, h1, h2, cn (.str _) _ Hs H (.refl s) rfl q⟩
  · exact q.elim⟩
theorem d_tryThru {body : List Stmt} {h0 : ExceptHandler} {hs : List ExceptHandler} {pos : Pos} {tb : TSD} (h : DSs X.nox c body tb) : DS X c (.Try body (h0 :: hs) [] [] pos) tb := ps_try_thru0 h
end
end DL
set_option Elab.async false
set_option linter.all false
set_option maxRecDepth 100000
set_option maxHeartbeats 4000000
/-! DY: a, b = data, a new list -/
namespace DL
open PySem PySem.Spec PyProof.Rows L2
section
variable {X : Cx} {c : Cn}
def tdParO (i j : Nat) (ta : TD) (tb : TOD) : TSD := fun En ss Ed => ta ss (fun x => tb ss (fun ds => ∀ p, En.nx (put (put ss i (.d x)) j (.own p ds))) Ed) Ed
theorem d_par2O {i j : Nat} {x y : Str} {a b : Expr} {ta : TD} {tb : TOD} {px py pt pos : Pos} {kt k2 pt2} (hc : X.calm = true) (hN : X.N.Nodup) (hi : X.N[i]? = some x) (hj : X.N[j]? = some y) (hij : i ≠ j) (hx : X.env.scope.names.lookup x = some .local) (hy : X.env.scope.names.lookup y = some .local)
    (ha : DE X c a ta) (hb : DO X c b tb) (hw : swappedStores [.Tuple [.Name x px, .Name y py] kt pt] (.Tuple [a, b] k2 pt2) X.env = pure (some [x, y]) := by rfl) (hs : swapsWithSole [.Tuple [.Name x px, .Name y py] kt pt] (.Tuple [a, b] k2 pt2) pos.line X.env = pure false := by rfl)
    (h1 : starEach [a, b] X.env = (false, eval a X.env) :: starEach [b] X.env := by rfl) (h2 : starEach [b] X.env = (false, eval b X.env) :: starEach [] X.env := by rfl) : DS X c (.Assign [.Tuple [.Name x px, .Name y py] kt pt] (.Tuple [a, b] k2 pt2) pos) (tdParO i j ta tb) := by
  refine ps_imp (ps_par hc hN hi hj hij hx hy (pa_cons ha (pa_cons hb pa_nil h2) h1) hw hs) fun Dn σ H q => ?_
  obtain ⟨O, Hs, ss, En, Ed, A, h, er, gc⟩ := q
  refine ⟨O, Hs, ss, _, Ed, A, h, er, fun d v Hs1 H1 e1 i1 q1 => ?_⟩
  refine ⟨O, Hs1, ss, _, Ed, A.next e1, q1, er, fun ds p xs Hs2 H2 e2 n1 n2 k1 k2 q2 => ?_⟩
  have A1 := A.next e1
  have A2 := (A1.next e2).set (i := i) (i1.same e2.fz)
  obtain ⟨O', A'⟩ := A2.own (i := j) A1.live (A1.fresh n1) n1 n2 k1 k2
  exact ⟨v, .ref p, rfl, gc.nx _ O' Hs2 H2 _ (e1.fz.trans e2.fz) A' (q2 p)⟩
/-- a, b = a new list, data -/
def tdParO1 (i j : Nat) (tb : TOD) (ta : TD) : TSD := fun En ss Ed => tb ss (fun ds => ta ss (fun x => ∀ p, En.nx (put (put ss j (.d x)) i (.own p ds))) Ed) Ed
theorem d_par2O1 {i j : Nat} {x y : Str} {a b : Expr} {ta : TD} {tb : TOD} {px py pt pos : Pos} {kt k2 pt2} (hc : X.calm = true) (hN : X.N.Nodup) (hi : X.N[i]? = some x) (hj : X.N[j]? = some y) (hij : i ≠ j) (hx : X.env.scope.names.lookup x = some .local) (hy : X.env.scope.names.lookup y = some .local)
    (hb : DO X c a tb) (ha : DE X c b ta) (hw : swappedStores [.Tuple [.Name x px, .Name y py] kt pt] (.Tuple [a, b] k2 pt2) X.env = pure (some [x, y]) := by rfl) (hs : swapsWithSole [.Tuple [.Name x px, .Name y py] kt pt] (.Tuple [a, b] k2 pt2) pos.line X.env = pure false := by rfl)
    (h1 : starEach [a, b] X.env = (false, eval a X.env) :: starEach [b] X.env := by rfl) (h2 : starEach [b] X.env = (false, eval b X.env) :: starEach [] X.env := by rfl) : DS X c (.Assign [.Tuple [.Name x px, .Name y py] kt pt] (.Tuple [a, b] k2 pt2) pos) (tdParO1 i j tb ta) := by
  refine ps_imp (ps_par hc hN hi hj hij hx hy (pa_cons hb (pa_cons ha pa_nil h2) h1) hw hs) fun Dn σ H q => ?_
  obtain ⟨O, Hs, ss, En, Ed, A, h, er, gc⟩ := q
  refine ⟨O, Hs, ss, _, Ed, A, h, er, fun ds p xs Hs1 H1 e1 n1 n2 k1 k2 q1 => ?_⟩
  refine ⟨O, Hs1, ss, _, Ed, A.next e1, q1, er, fun d v Hs2 H2 e2 i2 q2 => ?_⟩
  have Op : O p = none := by
    cases z : O p with
    | none => rfl
    | some k => exact absurd n1 (A.live p (by rw [z]; exact fun z => nomatch z)).ne
  have k1' := e2.keep p _ (fun z => by have z : O p = some 0 := z; rw [Op] at z; cases z) k1
  have n2' := e2.new p n2 (by rw [k1]; trivial)
  have A2 := ((A.next e1).next e2).set (i := j) i2
  obtain ⟨O', A'⟩ := A2.own (i := i) A.live (A.fresh n1) n1 n2' k1' (k2.same e2.fz)
  have sw : (σ.set i (some (.ref p))).set j (some v) = (σ.set j (some v)).set i (some (.ref p)) := List.set_comm _ _ hij
  refine ⟨.ref p, v, rfl, ?_⟩
  show Dn.nx ((σ.set i (some (.ref p))).set j (some v)) H2
  rw [sw]
  exact gc.nx _ O' Hs2 H2 _ (e1.fz.trans e2.fz) A' (q2 p)
theorem od_notin (hu : X.A.units + 65 < cLine) : OpD X (compareOp .NotIn) (rInDD true) := ⟨_, op_notInD hu, fun Z Hs H x y v u Qd Q s i1 i2 q cn => by
  obtain ⟨d, ds, h1, h2, h3, h4, q⟩ := q
  have z : ∀ b : Bool, (b != true) = !b := fun b => by cases b <;> rfl
  rw [z] at q
  exact ⟨d, ds, py_dp (i1.same s) h1, py_dp (i2.same s) h2, h3, h4, cn (.bl _) (.bl _) Hs H (.refl s) rfl q⟩⟩
end
end DL
set_option Elab.async false
set_option linter.all false
set_option maxRecDepth 100000
set_option maxHeartbeats 4000000
/-! DG: a def with defaults, called with all its arguments -/
namespace DL
open PySem PySem.Spec PyProof.Rows L2
variable {P : Program} {w : World} {K : PySem.W.Frag} {mg : Str → Option Value} {base : Heap}
structure DefV (K : PySem.W.Frag) (mg : Str → Option Value) (x : Str) (st : Stmt) (ps : List Str) (dvs : List V) (f : Addr) (fd : FuncData) : Prop where
  F : FunD K x x (defArgs st) (defBody st) (defScope st) dvs [] f fd
  g : mg x = some (.ref f)
  b : Binds K fd ps []
theorem fnDv {x : Str} {st : Stmt} {dvs : List V} {f : Addr} {fd : FuncData} {N ps : List Str} {k : Nat} {spec : SpD} (D : DefV K mg x st ps dvs f fd) (S : FnScope N ps (defScope st)) (hlen : ∀ as Qd Ed, spec as Qd Ed → as.length = ps.length)
    (body : ∀ (cdv : Value) (A : Around) (outer : List Env) (s : Shared) (H : Hp) (E : XK) (c : Cn), Room k (A.deeper (envOfC x (defScope st) s.heap.objs.size f cdv)) → Bd (cxOf (L2.CX P w) P w K mg base N x (defScope st) f cdv A outer s H E) c →
      ∃ t : TSD, DSs (cxOf (L2.CX P w) P w K mg base N x (defScope st) f cdv A outer s H E) c (defBody st) t ∧ ∀ as Qd Ed, spec as Qd Ed → t { nx := fun _ => Qd .non, rt := Qd } (startD N as) Ed) :
    DefD P w K mg base x (k + 1) spec := by
  refine ⟨f, fd, ps, ?_, D.g, D.F.kp, D.b⟩
  refine D.F.ok S (fun vs H Q E h => ?_) (fun cdv A outer s H vs Q E hr h => ?_)
  · obtain ⟨Z, Hs, as, Qd, Ed, _, _, ai, hf, _⟩ := h
    rw [ai.len]
    exact hlen as Qd Ed hf
  · obtain ⟨Z, Hs, as, Qd, Ed, sub, hz, ai, hf, cv, ce⟩ := h
    obtain ⟨t, ht, run⟩ := body cdv A outer s H E ⟨Z, Hs, H, E⟩ hr ⟨passes_call (takes_of rfl rfl rfl rfl) fun _ _ _ _ h => h, takes_of rfl rfl rfl rfl, hz⟩
    obtain ⟨O, A0⟩ := abs_start (K := K) (E := E) (N := N) sub hz ai
    refine ⟨_, ht, O, Hs, _, _, Ed, A0, run as Qd Ed hf, fun er Hs' H' x q => ce er Hs' H' x q, ?_⟩
    exact ⟨fun σ' O' Hs' H' ss' _ A' q => cv .non .non Hs' H' A'.ext rfl q, fun _ _ _ _ _ _ _ q => q.elim, fun _ _ _ _ _ _ _ q => q.elim, fun d v Hs' H' x i q => cv d v Hs' H' x i q, fun ds p xs Hs' H' x n1 n2 h1 h2 q => cv (.lst ds) _ (upd Hs' p (.lst xs)) H' (x.freeze n1 n2 h1) ⟨p, xs, rfl, upd_same, h2.same (same_new0 n2)⟩ q, fun _ _ _ _ _ _ _ _ _ _ z => z.elim⟩
end DL
set_option Elab.async false
set_option linter.all false
set_option maxRecDepth 100000
set_option maxHeartbeats 4000000
/-! DW: xs.insert(at, e) of an own list -/
namespace DL
open PySem PySem.Spec PyProof.Rows L2
section
variable {X : Cx} {c : Cn}
def tdIns (i : Nat) (ta te : TD) : TSD := fun En ss Ed => match nth ss i with
  | .own p ds => ta ss (fun k => te ss (fun d => match k with
    | .int j => 0 ≤ j ∧ j ≤ 1000 ∧ ds.length < sizeLine ∧ En.nx (put ss i (.own p (ds.take j.toNat ++ [d] ++ ds.drop j.toNat)))
    | _ => False) Ed) Ed
  | _ => False
theorem d_insert {n : Str} {e e2 : Expr} {np apos pos pos' : Pos} {i : Nat} {ta te : TD} (hx : PE X (.Name n np) (tVar i)) (ha : DE X c e ta) (he : DE X c e2 te) (hs1 : starEach [e, e2] X.env = (false, eval e X.env) :: starEach [e2] X.env := by rfl) (hs2 : starEach [e2] X.env = (false, eval e2 X.env) :: starEach [] X.env := by rfl)
    (hline : (apos.endLine == pos.line) = true := by rfl) (hfew : ((backTo pos (starEach [e, e2] X.env)).all (fun x => !x.1) && (backToKw pos (keywordEach [] X.env)).all (fun x => x.1.isSome) && decide ([e, e2].length + ([] : List Keyword).length + (if ([] : List Keyword).isEmpty then 0 else 1) < 30)) = true := by rfl) (hpl : (backTo pos (starEach [e2] X.env)).any (·.1) = false := by rfl)
    (hs : swapsWith (.Call (.Attribute (.Name n np) "insert" apos) [e, e2] [] pos) none pos'.line X.env = pure false := by rfl) : DS X c (.Expr (.Call (.Attribute (.Name n np) "insert" apos) [e, e2] [] pos) pos') (tdIns i ta te) := by
  refine ps_imp (ps_expr (pe_bm PySem.F.plainAttrs_list PySem.F.slot_list_insert PySem.F.type_list_insert mt_insert hx (pa_cons ha (pa_cons he pa_nil hs2) hs1) rfl hfew hline hs1 hpl) hs) fun Dn σ H q => ?_
  obtain ⟨O, Hs, ss, En, Ed, A, h, er, gc⟩ := q
  have hsl := A.sl i
  unfold tdIns at h
  split at h
  · rename_i p ds hds
    rw [hds] at hsl
    have il : i < ss.length := by
      by_cases l : i < ss.length
      · exact l
      · rw [nth_out (Nat.le_of_not_lt l)] at hds; cases hds
    obtain ⟨xs, e1, o1, h1, h2⟩ := hsl
    refine ⟨_, e1, .inl ⟨rfl, _, .inl (.inl h1)⟩, O, Hs, ss, _, Ed, A, h, er, fun k v Hs1 H1 x1 i1 q1 => ?_⟩
    refine ⟨O, Hs1, ss, _, Ed, A.next x1, q1, er, fun d v2 Hs2 H2 x2 i2 q2 => ?_⟩
    split at q2
    · rename_i j
      cases i1
      obtain ⟨j0, j1, few, q2⟩ := q2
      have x12 := x1.trans x2
      have h3 : H2 p = some (.lst xs) := x12.keep p _ (fun z => by have z : O p = some 0 := z; rw [o1] at z; cases z) h1
      refine ⟨p, xs, j, v2, rfl, rfl, h3, by rw [h2.len]; exact few, j0, Int.lt_of_le_of_lt j1 (by decide), ?_⟩
      exact gc.nx σ O Hs2 _ _ x12.fz ((A.next x12).write e1 o1 il ((((h2.same x12.fz).take _).app (.one i2)).app ((h2.same x12.fz).drop _))) q2
    · exact q2.elim
  · exact h.elim
end
end DL
set_option Elab.async false
set_option linter.all false
set_option maxRecDepth 100000
set_option maxHeartbeats 4000000
namespace LR
open PySem PySem.Spec PyProof.Rows L2 DL
def topS (i : Nat) : Stmt := PySem.Challenge.pw_laprunners_k08_changed_races.main.body.getD i (.Pass ⟨0, 0, 0, 0⟩)
abbrev s_wall : Stmt := topS 1
abbrev s_is_integer : Stmt := topS 13
abbrev s_is_ratio : Stmt := topS 14
abbrev s_is_number : Stmt := topS 15
abbrev s_as_ratio : Stmt := topS 16
abbrev s_reduced : Stmt := topS 17
abbrev s_ratio : Stmt := topS 18
abbrev s_plus : Stmt := topS 19
abbrev s_minus : Stmt := topS 20
abbrev s_times : Stmt := topS 21
abbrev s_divided : Stmt := topS 22
abbrev s_compare : Stmt := topS 23
abbrev s_remainder : Stmt := topS 24
abbrev s_in_order : Stmt := topS 25
abbrev s_ascending : Stmt := topS 26
abbrev s_inserted : Stmt := topS 27
abbrev s_ranked : Stmt := topS 28
abbrev s_is_name : Stmt := topS 31
abbrev s_is_positive : Stmt := topS 32
abbrev s_as_time : Stmt := topS 33
abbrev s_track_of : Stmt := topS 35
abbrev s_line : Stmt := topS 36
abbrev s_row_at : Stmt := topS 37
abbrev s_position_in : Stmt := topS 38
abbrev s_place_in : Stmt := topS 39
abbrev s_track : Stmt := topS 44
abbrev s_is_runner : Stmt := topS 45
abbrev s_are_ascending : Stmt := topS 46
abbrev s_are_new_names : Stmt := topS 47
abbrev s_law_pool : Stmt := topS 49
abbrev s_law_draw : Stmt := topS 50
abbrev s_law_choose : Stmt := topS 51
abbrev s_law_number : Stmt := topS 52
abbrev s_law_pieces : Stmt := topS 53
abbrev s_law_race : Stmt := topS 54
abbrev s_law_check_change : Stmt := topS 55
abbrev s_law_check_turned : Stmt := topS 56
abbrev s_law_check_slowed : Stmt := topS 57
abbrev s_law : Stmt := topS 58
abbrev c_InvalidNumber : Stmt := topS 3
abbrev c_InvalidLength : Stmt := topS 4
abbrev c_InvalidRunner : Stmt := topS 5
abbrev c_InvalidTime : Stmt := topS 6
abbrev c_InvalidFactor : Stmt := topS 7
abbrev c_InvalidNames : Stmt := topS 8
abbrev c_UnknownName : Stmt := topS 9
abbrev c_DivisionByZero : Stmt := topS 10
abbrev c_Race : Stmt := topS 43
abbrev N_wall : List Str := ["k"]
theorem sc_wall : FnScope N_wall ["k"] (defScope s_wall) := ⟨rfl, rfl, rfl, by decide +kernel, rfl, by decide +kernel, by decide +kernel⟩
abbrev N_is_integer : List Str := ["value"]
theorem sc_is_integer : FnScope N_is_integer ["value"] (defScope s_is_integer) := ⟨rfl, rfl, rfl, by decide +kernel, rfl, by decide +kernel, by decide +kernel⟩
abbrev N_is_ratio : List Str := ["value", "top", "bottom"]
theorem sc_is_ratio : FnScope N_is_ratio ["value"] (defScope s_is_ratio) := ⟨rfl, rfl, rfl, by decide +kernel, rfl, by decide +kernel, by decide +kernel⟩
abbrev N_is_number : List Str := ["value"]
theorem sc_is_number : FnScope N_is_number ["value"] (defScope s_is_number) := ⟨rfl, rfl, rfl, by decide +kernel, rfl, by decide +kernel, by decide +kernel⟩
abbrev N_as_ratio : List Str := ["value", "top", "bottom"]
theorem sc_as_ratio : FnScope N_as_ratio ["value"] (defScope s_as_ratio) := ⟨rfl, rfl, rfl, by decide +kernel, rfl, by decide +kernel, by decide +kernel⟩
abbrev N_reduced : List Str := ["top", "bottom", "divisor"]
theorem sc_reduced : FnScope N_reduced ["top", "bottom"] (defScope s_reduced) := ⟨rfl, rfl, rfl, by decide +kernel, rfl, by decide +kernel, by decide +kernel⟩
abbrev N_ratio : List Str := ["numerator", "denominator"]
theorem sc_ratio : FnScope N_ratio ["numerator", "denominator"] (defScope s_ratio) := ⟨rfl, rfl, rfl, by decide +kernel, rfl, by decide +kernel, by decide +kernel⟩
abbrev N_plus : List Str := ["first", "second", "top", "bottom", "other_top", "other_bottom"]
theorem sc_plus : FnScope N_plus ["first", "second"] (defScope s_plus) := ⟨rfl, rfl, rfl, by decide +kernel, rfl, by decide +kernel, by decide +kernel⟩
abbrev N_minus : List Str := ["first", "second", "top", "bottom", "other_top", "other_bottom"]
theorem sc_minus : FnScope N_minus ["first", "second"] (defScope s_minus) := ⟨rfl, rfl, rfl, by decide +kernel, rfl, by decide +kernel, by decide +kernel⟩
abbrev N_times : List Str := ["first", "second", "top", "bottom", "other_top", "other_bottom"]
theorem sc_times : FnScope N_times ["first", "second"] (defScope s_times) := ⟨rfl, rfl, rfl, by decide +kernel, rfl, by decide +kernel, by decide +kernel⟩
abbrev N_divided : List Str := ["first", "second", "top", "bottom", "other_top", "other_bottom"]
theorem sc_divided : FnScope N_divided ["first", "second"] (defScope s_divided) := ⟨rfl, rfl, rfl, by decide +kernel, rfl, by decide +kernel, by decide +kernel⟩
abbrev N_compare : List Str := ["first", "second", "top", "bottom", "other_top", "other_bottom", "left", "right"]
theorem sc_compare : FnScope N_compare ["first", "second"] (defScope s_compare) := ⟨rfl, rfl, rfl, by decide +kernel, rfl, by decide +kernel, by decide +kernel⟩
abbrev N_remainder : List Str := ["value", "modulus", "top", "bottom", "other_top", "other_bottom"]
theorem sc_remainder : FnScope N_remainder ["value", "modulus"] (defScope s_remainder) := ⟨rfl, rfl, rfl, by decide +kernel, rfl, by decide +kernel, by decide +kernel⟩
abbrev N_in_order : List Str := ["values", "value"]
theorem sc_in_order : FnScope N_in_order ["values"] (defScope s_in_order) := ⟨rfl, rfl, rfl, by decide +kernel, rfl, by decide +kernel, by decide +kernel⟩
abbrev N_ascending : List Str := ["rows"]
theorem sc_ascending : FnScope N_ascending ["rows"] (defScope s_ascending) := ⟨rfl, rfl, rfl, by decide +kernel, rfl, by decide +kernel, by decide +kernel⟩
abbrev N_inserted : List Str := ["rows", "found", "row", "top", "bottom", "at"]
theorem sc_inserted : FnScope N_inserted ["rows"] (defScope s_inserted) := ⟨rfl, rfl, rfl, by decide +kernel, rfl, by decide +kernel, by decide +kernel⟩
abbrev N_ranked : List Str := ["rows", "bits", "ranked", "row", "part", "_", "bottom"]
theorem sc_ranked : FnScope N_ranked ["rows"] (defScope s_ranked) := ⟨rfl, rfl, rfl, by decide +kernel, rfl, by decide +kernel, by decide +kernel⟩
abbrev N_is_name : List Str := ["value"]
theorem sc_is_name : FnScope N_is_name ["value"] (defScope s_is_name) := ⟨rfl, rfl, rfl, by decide +kernel, rfl, by decide +kernel, by decide +kernel⟩
abbrev N_is_positive : List Str := ["value"]
theorem sc_is_positive : FnScope N_is_positive ["value"] (defScope s_is_positive) := ⟨rfl, rfl, rfl, by decide +kernel, rfl, by decide +kernel, by decide +kernel⟩
abbrev N_as_time : List Str := ["value", "time"]
theorem sc_as_time : FnScope N_as_time ["value"] (defScope s_as_time) := ⟨rfl, rfl, rfl, by decide +kernel, rfl, by decide +kernel, by decide +kernel⟩
abbrev N_track_of : List Str := ["start", "pieces", "top", "bottom", "rows", "begin", "speed"]
theorem sc_track_of : FnScope N_track_of ["start", "pieces"] (defScope s_track_of) := ⟨rfl, rfl, rfl, by decide +kernel, rfl, by decide +kernel, by decide +kernel⟩
abbrev N_line : List Str := ["begin", "speed", "top", "bottom", "begin_top", "begin_bottom", "speed_top", "speed_bottom", "rate", "base", "unit", "divisor"]
theorem sc_line : FnScope N_line ["begin", "speed", "top", "bottom"] (defScope s_line) := ⟨rfl, rfl, rfl, by decide +kernel, rfl, by decide +kernel, by decide +kernel⟩
abbrev N_row_at : List Str := ["track", "time", "top", "bottom", "found", "row", "begin_top", "begin_bottom"]
theorem sc_row_at : FnScope N_row_at ["track", "time"] (defScope s_row_at) := ⟨rfl, rfl, rfl, by decide +kernel, rfl, by decide +kernel, by decide +kernel⟩
abbrev N_position_in : List Str := ["row", "time", "top", "bottom", "_", "rate", "base", "unit"]
theorem sc_position_in : FnScope N_position_in ["row", "time"] (defScope s_position_in) := ⟨rfl, rfl, rfl, by decide +kernel, rfl, by decide +kernel, by decide +kernel⟩
abbrev N_place_in : List Str := ["row", "time", "length", "top", "bottom", "length_top", "length_bottom"]
theorem sc_place_in : FnScope N_place_in ["row", "time", "length"] (defScope s_place_in) := ⟨rfl, rfl, rfl, by decide +kernel, rfl, by decide +kernel, by decide +kernel⟩
abbrev N_track : List Str := ["name", "runner", "length", "start", "pieces", "time", "speed", "_"]
theorem sc_track : FnScope N_track ["name", "runner", "length"] (defScope s_track) := ⟨rfl, rfl, rfl, by decide +kernel, rfl, by decide +kernel, by decide +kernel⟩
abbrev N_is_runner : List Str := ["value", "pieces", "piece"]
theorem sc_is_runner : FnScope N_is_runner ["value"] (defScope s_is_runner) := ⟨rfl, rfl, rfl, by decide +kernel, rfl, by decide +kernel, by decide +kernel⟩
abbrev N_are_ascending : List Str := ["begins", "one", "two"]
theorem sc_are_ascending : FnScope N_are_ascending ["begins"] (defScope s_are_ascending) := ⟨rfl, rfl, rfl, by decide +kernel, rfl, by decide +kernel, by decide +kernel⟩
abbrev N_are_new_names : List Str := ["race", "value", "new_names", "name"]
theorem sc_are_new_names : FnScope N_are_new_names ["race", "value"] (defScope s_are_new_names) := ⟨rfl, rfl, rfl, by decide +kernel, rfl, by decide +kernel, by decide +kernel⟩
abbrev N_law_pool : List Str := ["script", "k", "cell", "seed"]
theorem sc_law_pool : FnScope N_law_pool ["script", "k"] (defScope s_law_pool) := ⟨rfl, rfl, rfl, by decide +kernel, rfl, by decide +kernel, by decide +kernel⟩
abbrev N_law_draw : List Str := ["pool", "many", "digit"]
theorem sc_law_draw : FnScope N_law_draw ["pool", "many"] (defScope s_law_draw) := ⟨rfl, rfl, rfl, by decide +kernel, rfl, by decide +kernel, by decide +kernel⟩
abbrev N_law_choose : List Str := ["pool", "items"]
theorem sc_law_choose : FnScope N_law_choose ["pool", "items"] (defScope s_law_choose) := ⟨rfl, rfl, rfl, by decide +kernel, rfl, by decide +kernel, by decide +kernel⟩
abbrev N_law_number : List Str := ["pool", "low", "high", "value"]
theorem sc_law_number : FnScope N_law_number ["pool", "low", "high"] (defScope s_law_number) := ⟨rfl, rfl, rfl, by decide +kernel, rfl, by decide +kernel, by decide +kernel⟩
abbrev N_law_pieces : List Str := ["pool", "pieces", "time", "turn"]
theorem sc_law_pieces : FnScope N_law_pieces ["pool"] (defScope s_law_pieces) := ⟨rfl, rfl, rfl, by decide +kernel, rfl, by decide +kernel, by decide +kernel⟩
abbrev N_law_race : List Str := ["pool", "many", "runners", "name"]
theorem sc_law_race : FnScope N_law_race ["pool", "many"] (defScope s_law_race) := ⟨rfl, rfl, rfl, by decide +kernel, rfl, by decide +kernel, by decide +kernel⟩
abbrev N_law_check_change : List Str := ["pool", "race", "moments", "name", "moment", "speed", "found", "time", "other", "expected", "rest", "piece"]
theorem sc_law_check_change : FnScope N_law_check_change ["pool", "race", "moments"] (defScope s_law_check_change) := ⟨rfl, rfl, rfl, by decide +kernel, rfl, by decide +kernel, by decide +kernel⟩
abbrev N_law_check_turned : List Str := ["pool", "race", "moments", "shift", "turned", "mirrored", "time", "name", "place"]
theorem sc_law_check_turned : FnScope N_law_check_turned ["pool", "race", "moments"] (defScope s_law_check_turned) := ⟨rfl, rfl, rfl, by decide +kernel, rfl, by decide +kernel, by decide +kernel⟩
abbrev N_law_check_slowed : List Str := ["pool", "race", "moments", "factor", "slowed", "time", "name"]
theorem sc_law_check_slowed : FnScope N_law_check_slowed ["pool", "race", "moments"] (defScope s_law_check_slowed) := ⟨rfl, rfl, rfl, by decide +kernel, rfl, by decide +kernel, by decide +kernel⟩
abbrev N_law : List Str := ["script", "k", "pool", "race", "name", "copy", "moments", "other", "rest", "less", "names", "back", "at"]
theorem sc_law : FnScope N_law ["script"] (defScope s_law) := ⟨rfl, rfl, rfl, by decide +kernel, rfl, by decide +kernel, by decide +kernel⟩
abbrev s_Race_init : Stmt := inClass c_Race 0
abbrev N_Race_init : List Str := ["self", "length", "runners", "tracks", "name", "runner"]
theorem sc_Race_init : FnScope N_Race_init ["self", "length", "runners"] (defScope s_Race_init) := ⟨rfl, rfl, rfl, by decide +kernel, rfl, by decide +kernel, by decide +kernel⟩
abbrev s_Race_eq : Stmt := inClass c_Race 1
abbrev N_Race_eq : List Str := ["self", "other"]
theorem sc_Race_eq : FnScope N_Race_eq ["self", "other"] (defScope s_Race_eq) := ⟨rfl, rfl, rfl, by decide +kernel, rfl, by decide +kernel, by decide +kernel⟩
abbrev s_Race_len : Stmt := inClass c_Race 2
abbrev N_Race_len : List Str := ["self"]
theorem sc_Race_len : FnScope N_Race_len ["self"] (defScope s_Race_len) := ⟨rfl, rfl, rfl, by decide +kernel, rfl, by decide +kernel, by decide +kernel⟩
abbrev s_Race_contains : Stmt := inClass c_Race 3
abbrev N_Race_contains : List Str := ["self", "name"]
theorem sc_Race_contains : FnScope N_Race_contains ["self", "name"] (defScope s_Race_contains) := ⟨rfl, rfl, rfl, by decide +kernel, rfl, by decide +kernel, by decide +kernel⟩
abbrev s_Race_length : Stmt := inClass c_Race 4
abbrev N_Race_length : List Str := ["self"]
theorem sc_Race_length : FnScope N_Race_length ["self"] (defScope s_Race_length) := ⟨rfl, rfl, rfl, by decide +kernel, rfl, by decide +kernel, by decide +kernel⟩
abbrev s_Race_names : Stmt := inClass c_Race 5
abbrev N_Race_names : List Str := ["self"]
theorem sc_Race_names : FnScope N_Race_names ["self"] (defScope s_Race_names) := ⟨rfl, rfl, rfl, by decide +kernel, rfl, by decide +kernel, by decide +kernel⟩
abbrev s_Race_track : Stmt := inClass c_Race 6
abbrev N_Race_track : List Str := ["self", "name"]
theorem sc_Race_track : FnScope N_Race_track ["self", "name"] (defScope s_Race_track) := ⟨rfl, rfl, rfl, by decide +kernel, rfl, by decide +kernel, by decide +kernel⟩
abbrev s_Race_tracks : Stmt := inClass c_Race 7
abbrev N_Race_tracks : List Str := ["self"]
theorem sc_Race_tracks : FnScope N_Race_tracks ["self"] (defScope s_Race_tracks) := ⟨rfl, rfl, rfl, by decide +kernel, rfl, by decide +kernel, by decide +kernel⟩
abbrev s_Race_start : Stmt := inClass c_Race 8
abbrev N_Race_start : List Str := ["self", "name", "_", "base", "unit"]
theorem sc_Race_start : FnScope N_Race_start ["self", "name"] (defScope s_Race_start) := ⟨rfl, rfl, rfl, by decide +kernel, rfl, by decide +kernel, by decide +kernel⟩
abbrev s_Race_pieces : Stmt := inClass c_Race 9
abbrev N_Race_pieces : List Str := ["self", "name", "row"]
theorem sc_Race_pieces : FnScope N_Race_pieces ["self", "name"] (defScope s_Race_pieces) := ⟨rfl, rfl, rfl, by decide +kernel, rfl, by decide +kernel, by decide +kernel⟩
abbrev s_Race_change_times : Stmt := inClass c_Race 10
abbrev N_Race_change_times : List Str := ["self", "name", "row"]
theorem sc_Race_change_times : FnScope N_Race_change_times ["self"] (defScope s_Race_change_times) := ⟨rfl, rfl, rfl, by decide +kernel, rfl, by decide +kernel, by decide +kernel⟩
abbrev s_Race_position : Stmt := inClass c_Race 11
abbrev N_Race_position : List Str := ["self", "name", "time", "track", "moment", "top", "bottom"]
theorem sc_Race_position : FnScope N_Race_position ["self", "name", "time"] (defScope s_Race_position) := ⟨rfl, rfl, rfl, by decide +kernel, rfl, by decide +kernel, by decide +kernel⟩
abbrev s_Race_place : Stmt := inClass c_Race 12
abbrev N_Race_place : List Str := ["self", "name", "time", "track", "moment"]
theorem sc_Race_place : FnScope N_Race_place ["self", "name", "time"] (defScope s_Race_place) := ⟨rfl, rfl, rfl, by decide +kernel, rfl, by decide +kernel, by decide +kernel⟩
abbrev s_Race_speed : Stmt := inClass c_Race 14
abbrev N_Race_speed : List Str := ["self", "name", "time", "track", "moment"]
theorem sc_Race_speed : FnScope N_Race_speed ["self", "name", "time"] (defScope s_Race_speed) := ⟨rfl, rfl, rfl, by decide +kernel, rfl, by decide +kernel, by decide +kernel⟩
abbrev s_Race_changed : Stmt := inClass c_Race 15
abbrev N_Race_changed : List Str := ["self", "name", "time", "speed", "pieces", "moment", "last_piece", "kept", "runners", "piece"]
theorem sc_Race_changed : FnScope N_Race_changed ["self", "name", "time", "speed"] (defScope s_Race_changed) := ⟨rfl, rfl, rfl, by decide +kernel, rfl, by decide +kernel, by decide +kernel⟩
abbrev s_Race_without : Stmt := inClass c_Race 16
abbrev N_Race_without : List Str := ["self", "name", "runners"]
theorem sc_Race_without : FnScope N_Race_without ["self", "name"] (defScope s_Race_without) := ⟨rfl, rfl, rfl, by decide +kernel, rfl, by decide +kernel, by decide +kernel⟩
abbrev s_Race_renamed : Stmt := inClass c_Race 17
abbrev N_Race_renamed : List Str := ["self", "names", "runners", "name"]
theorem sc_Race_renamed : FnScope N_Race_renamed ["self", "names"] (defScope s_Race_renamed) := ⟨rfl, rfl, rfl, by decide +kernel, rfl, by decide +kernel, by decide +kernel⟩
abbrev s_Race_turned : Stmt := inClass c_Race 18
abbrev N_Race_turned : List Str := ["self", "shift", "distance", "moved", "name", "start", "pieces"]
theorem sc_Race_turned : FnScope N_Race_turned ["self", "shift"] (defScope s_Race_turned) := ⟨rfl, rfl, rfl, by decide +kernel, rfl, by decide +kernel, by decide +kernel⟩
abbrev s_Race_reversed_ring : Stmt := inClass c_Race 19
abbrev N_Race_reversed_ring : List Str := ["self", "backward", "name", "start", "pieces", "backward_pieces", "time", "speed"]
theorem sc_Race_reversed_ring : FnScope N_Race_reversed_ring ["self"] (defScope s_Race_reversed_ring) := ⟨rfl, rfl, rfl, by decide +kernel, rfl, by decide +kernel, by decide +kernel⟩
abbrev s_Race_slowed : Stmt := inClass c_Race 20
abbrev N_Race_slowed : List Str := ["self", "factor", "slower", "name", "start", "pieces", "slow_pieces", "time", "speed"]
theorem sc_Race_slowed : FnScope N_Race_slowed ["self", "factor"] (defScope s_Race_slowed) := ⟨rfl, rfl, rfl, by decide +kernel, rfl, by decide +kernel, by decide +kernel⟩
abbrev s_Race_runners : Stmt := inClass c_Race 21
abbrev N_Race_runners : List Str := ["self", "name"]
theorem sc_Race_runners : FnScope N_Race_runners ["self"] (defScope s_Race_runners) := ⟨rfl, rfl, rfl, by decide +kernel, rfl, by decide +kernel, by decide +kernel⟩
end LR
set_option Elab.async false
set_option linter.all false
set_option maxRecDepth 100000
set_option maxHeartbeats 4000000
set_option exponentiation.threshold 100000
namespace LR
open PySem PySem.Spec PyProof.Rows L2 DL
section
variable {P : Program} {w : World} {K : PySem.W.Frag} {mg : Str → Option Value} {base : Heap}
/-! ### numbers as data -/
def rD (q : Rat) : DL.D := .tup [.int q.num, .int q.den]
def ratD : DL.D → Option Rat
  | .int i => some (i : Rat)
  | .tup [.int n, .int d] => if 1 ≤ d ∧ Nat.gcd n.natAbs d.natAbs = 1 then some (Rat.divInt n d) else none
  | _ => none
def KK (x : DL.D) : Prop := ∃ k, kindD x = some k ∧ k ≠ .dct
def KN : DL.D → Prop
  | .tup [a, b] => KK a ∧ KK b
  | x => KK x
theorem KK.some {x : DL.D} (h : KK x) : (kindD x).isSome = true := by obtain ⟨k, e, _⟩ := h; rw [e]; rfl
theorem ratD_rD (q : Rat) : ratD (rD q) = some q := by
  have h1 : (1 : Int) ≤ (q.den : Int) := by have := den_pos q; omega
  have h2 : Nat.gcd q.num.natAbs ((q.den : Int)).natAbs = 1 := q.reduced
  show (if 1 ≤ (q.den : Int) ∧ Nat.gcd q.num.natAbs ((q.den : Int)).natAbs = 1 then some (Rat.divInt q.num q.den) else none) = some q
  rw [if_pos ⟨h1, h2⟩, Rat.num_divInt_den]
theorem KN_rD (q : Rat) : KN (rD q) := ⟨⟨_, rfl, by decide⟩, ⟨_, rfl, by decide⟩⟩
theorem KN_int (i : Int) : KN (.int i) := ⟨_, rfl, by decide⟩
theorem tup_rD {n d : Int} (h1 : 1 ≤ d) (h2 : Nat.gcd n.natAbs d.natAbs = 1) : DL.D.tup [.int n, .int d] = rD (Rat.divInt n d) := by
  have g : d.gcd n = 1 := by
    show Nat.gcd d.natAbs n.natAbs = 1
    rw [Nat.gcd_comm]
    exact h2
  have e1 : (Rat.divInt n d).num = n := by
    rw [Rat.num_divInt, g, Int.sign_eq_one_of_pos (by omega)]
    simp
  have e2 : ((Rat.divInt n d).den : Int) = d := by
    rw [Rat.den_divInt, if_neg (by omega), g]
    simp
    omega
  show _ = DL.D.tup [.int (Rat.divInt n d).num, .int ((Rat.divInt n d).den : Int)]
  rw [e1, e2]
theorem int_rD (i : Int) : DL.D.tup [.int i, .int 1] = rD (i : Rat) := rfl
/-! ### is_integer, is_ratio, is_number -/
def isIntD : DL.D → Bool
  | .int _ => true
  | _ => false
def isRatB : DL.D → Bool
  | .tup [.int n, .int d] => decide (1 ≤ d) && decide (Nat.gcd n.natAbs d.natAbs = 1)
  | _ => false
theorem ratD_some {x : DL.D} : (ratD x).isSome = (isIntD x || isRatB x) := by
  unfold ratD
  split
  · rfl
  · rename_i n d
    show _ = (false || (decide (1 ≤ d) && decide (Nat.gcd n.natAbs d.natAbs = 1)))
    by_cases h1 : 1 ≤ d <;> by_cases h2 : Nat.gcd n.natAbs d.natAbs = 1 <;> simp [h1, h2]
  · rename_i h1 h2
    cases x <;> first | rfl | exact absurd rfl (h1 _) | skip
    rename_i xs
    rcases xs with _ | ⟨a, _ | ⟨b, _ | ⟨e, xs⟩⟩⟩
    · rfl
    · cases a <;> rfl
    · cases a <;> cases b <;> first | rfl | exact absurd rfl (h2 _ _)
    · cases a <;> cases b <;> rfl
def sdInt : SpD := fun as Q _ => match as with
  | [.d x] => (kindD x).isSome = true ∧ Q (.bl (isIntD x))
  | _ => False
theorem sdInt_len  (as Q E) (h : sdInt  as Q E) : as.length = 1 := by
  unfold sdInt at h
  split at h
  · rfl
  · exact h.elim

theorem ok_int {f fd} (D : DefAt K mg "is_integer" s_is_integer ["value"] f fd) (m_isinstance : mg "isinstance" = none) (m_int : mg "int" = none) (m_bool : mg "bool" = none) : DefN P w K mg base "is_integer" 1 sdInt :=
  .mk1 D (fnDN D.F sc_is_integer sdInt_len fun cdv A outer s H E c hr b => ⟨_, (dss_one (d_ret (d_and (d_callB cd_isi m_isinstance (da_name (pv 0) (da_cons (d_ty .int m_int) da_nil))) (d_one (d_not (d_callB cd_isi m_isinstance (da_name (pv 0) (da_cons (d_ty .bl m_bool) da_nil)))))))), fun as Qd Ed h => by
    unfold sdInt at h
    split at h
    · rename_i x
      obtain ⟨h1, h2⟩ := h
      cases x <;> first | exact h2 | cases h1
    · exact h.elim⟩)
def sdIsR : SpD := fun as Q _ => match as with
  | [.d x] => KN x ∧ Q (.bl (isRatB x))
  | _ => False
theorem sdIsR_len  (as Q E) (h : sdIsR  as Q E) : as.length = 1 := by
  unfold sdIsR at h
  split at h
  · rfl
  · exact h.elim

theorem ok_isr {f fd} (D : DefAt K mg "is_ratio" s_is_ratio ["value"] f fd) (m_isinstance : mg "isinstance" = none) (m_tuple : mg "tuple" = none) (m_len : mg "len" = none) (m_gcd : mg "gcd" = some (.builtin "math.gcd")) (Nis_integer : DefN P w K mg base "is_integer" 1 sdInt) : DefN P w K mg base "is_ratio" 2 sdIsR :=
  .mk1 D (fnDN D.F sc_is_ratio sdIsR_len fun cdv A outer s H E c hr b => ⟨_, (dss_cons (d_ifS (PW.pt (dw_or (dt_not (dt_val (d_callB cd_isi m_isinstance (da_name (pv 0) (da_cons (d_ty .tup m_tuple) da_nil))))) (dw_or1 (dt_cmp (od_ne hr.units) (d_callB cd_len m_len (da_name (pv 0) da_nil)) d_int))))
      (dss_one (d_ret d_bl))
      dss_nil)
      (dss_cons (d_asg (d_var (pv 0)) (dg_tup rfl (dgs_cons (dg_name (pg_name (i := 1) sc_is_ratio.nd rfl (.inl rfl))) (dgs_cons (dg_name (pg_name (i := 2) sc_is_ratio.nd rfl (.inl rfl))) dgs_nil))))
      (dss_one (d_ret (d_and (d_nN Nis_integer (hr.mono (by decide)) (da_name (pv 1) da_nil)) (d_and (d_nN Nis_integer (hr.mono (by decide)) (da_name (pv 2) da_nil)) (d_and (d_cmp od_ge (d_var (pv 2)) d_int) (d_one (d_cmp (od_eq hr.units) (d_callBfun cd_gcd m_gcd (da_name (pv 1) (da_name (pv 2) da_nil))) d_int))))))))), fun as Qd Ed h => by
    unfold sdIsR at h
    split at h
    · rename_i x
      obtain ⟨kn, q⟩ := h
      by_cases tup : ∃ ys, x = .tup ys
      · obtain ⟨ys, rfl⟩ := tup
        rcases ys with _ | ⟨a, _ | ⟨b, _ | ⟨e, ys⟩⟩⟩
        · exact q
        · have e : isRatB (.tup [a]) = false := by cases a <;> rfl
          rw [e] at q
          exact q
        · obtain ⟨ka, kb⟩ := kn
          have k1 := ka.some
          have k2 := kb.some
          clear ka kb
          cases a <;> first | exact ⟨k1, q⟩ | (cases k1; done) | skip
          cases b <;> first | exact ⟨k1, k2, q⟩ | (cases k2; done) | skip
          rename_i n d
          refine ⟨k1, k2, ifD (fun c => ?_) (fun c => ?_)⟩
          · have e : isRatB (.tup [.int n, .int d]) = decide (((Nat.gcd n.natAbs d.natAbs : Nat) : Int) = 1) := by
              show (decide (1 ≤ d) && _) = _
              rw [decide_eq_true c, Bool.true_and, decide_eq_decide]
              omega
            rw [e] at q
            exact q
          · have e : isRatB (.tup [.int n, .int d]) = false := by
              show (decide (1 ≤ d) && _) = _
              rw [decide_eq_false c, Bool.false_and]
            rw [e] at q
            exact q
        · have e : isRatB (.tup (a :: b :: e :: ys)) = false := by cases a <;> cases b <;> rfl
          rw [e] at q
          exact q
      · cases x <;> first | exact absurd ⟨_, rfl⟩ tup | exact q | (obtain ⟨k, e, _⟩ := kn; cases e; done)
    · exact h.elim⟩)
def sdIsN : SpD := fun as Q _ => match as with
  | [.d x] => KN x ∧ Q (.bl (ratD x).isSome)
  | _ => False
theorem sdIsN_len  (as Q E) (h : sdIsN  as Q E) : as.length = 1 := by
  unfold sdIsN at h
  split at h
  · rfl
  · exact h.elim

theorem KN.kind {x : DL.D} (h : KN x) : (kindD x).isSome = true := by
  unfold KN at h
  split at h
  · rfl
  · exact h.some
theorem ok_isn {f fd} (D : DefAt K mg "is_number" s_is_number ["value"] f fd) (Gis_integer : DefD P w K mg base "is_integer" 1 sdInt) (Gis_ratio : DefD P w K mg base "is_ratio" 2 sdIsR) : DefD P w K mg base "is_number" 3 sdIsN :=
  .mk1 D (fnD D.F sc_is_number sdIsN_len fun cdv A outer s H E c hr b => ⟨_, (dss_one (d_ret (d_or (d_cN Gis_integer (hr.mono (by decide)) (da_name (pv 0) da_nil)) (d_one (d_cN Gis_ratio (hr.mono (by decide)) (da_name (pv 0) da_nil)))))), fun as Qd Ed h => by
    unfold sdIsN at h
    split at h
    · rename_i x
      obtain ⟨kn, q⟩ := h
      rw [ratD_some] at q
      refine ⟨kn.kind, ifB (fun c => ?_) (fun c => ⟨kn, ?_⟩)⟩
      · rw [c] at q
        exact q
      · rw [c, Bool.false_or] at q
        exact q
    · exact h.elim⟩)
/-! ### as_ratio -/
def sdAsR (CN : Addr) : SpD := fun as Q Ed => match as with
  | [.d x] => KN x ∧ (ratD x = none → Ed (.e0 CN)) ∧ ∀ q, ratD x = some q → Q (rD q)
  | _ => False
theorem sdAsR_len (CN : Addr) (as Q E) (h : sdAsR CN as Q E) : as.length = 1 := by
  unfold sdAsR at h
  split at h
  · rfl
  · exact h.elim

theorem ok_asr {f fd CN} (D : DefAt K mg "as_ratio" s_as_ratio ["value"] f fd) (XInvalidNumber : LR.ErrAt K mg "InvalidNumber" BMv "ValueError.__new__" CN) (m_type : mg "type" = none) (m_int : mg "int" = none) (m_tuple : mg "tuple" = none) (m_len : mg "len" = none) (m_gcd : mg "gcd" = some (.builtin "math.gcd")) (Nis_integer : DefN P w K mg base "is_integer" 1 sdInt) (Nis_ratio : DefN P w K mg base "is_ratio" 2 sdIsR) : DefN P w K mg base "as_ratio" 3 (sdAsR CN) :=
  .mk1 D (fnDN D.F sc_as_ratio (sdAsR_len CN) fun cdv A outer s H E c hr b => ⟨_, (dss_cut (d_ifS (PW.pt (dw_and (dt_cmp od_isTy (d_callTy cd_type m_type (da_name (pv 0) da_nil)) (d_ty .tup m_tuple)) (dw_and1 (dt_cmp (od_eq hr.units) (d_callB cd_len m_len (da_name (pv 0) da_nil)) d_int))))
      (dss_cons (d_asg (d_var (pv 0)) (dg_tup rfl (dgs_cons (dg_name (pg_name (i := 1) sc_as_ratio.nd rfl (.inl rfl))) (dgs_cons (dg_name (pg_name (i := 2) sc_as_ratio.nd rfl (.inl rfl))) dgs_nil))))
      (dss_one (d_ifS (PW.pt (dw_and (dt_cmp od_isTy (d_callTy cd_type m_type (da_name (pv 1) da_nil)) (d_ty .int m_int)) (dw_and (dt_cmp od_isTy (d_callTy cd_type m_type (da_name (pv 2) da_nil)) (d_ty .int m_int)) (dw_and (dt_cmp od_ge (d_var (pv 2)) d_int) (dw_and1 (dt_cmp (od_eq hr.units) (d_callBfun cd_gcd m_gcd (da_name (pv 1) (da_name (pv 2) da_nil))) d_int))))))
      (dss_one (d_ret (d_var (pv 0))))
      dss_nil)))
      (dss_one (d_ifS (dt_cmp od_isTy (d_callTy cd_type m_type (da_name (pv 0) da_nil)) (d_ty .int m_int))
      (dss_one (d_ret (d_tup (da_name (pv 0) (da_cons d_int da_nil)))))
      dss_nil)))
      (dss_cons (d_ifS (dt_val (d_nN Nis_integer (hr.mono (by decide)) (da_name (pv 0) da_nil)))
      (dss_one (d_ret (d_tup (da_name (pv 0) (da_cons d_int da_nil)))))
      dss_nil)
      (dss_cons (d_ifS (dt_val (d_nN Nis_ratio (hr.mono (by decide)) (da_name (pv 0) da_nil)))
      (dss_one (d_ret (d_var (pv 0))))
      dss_nil)
      (dss_one (d_raiseN b rfl XInvalidNumber FBv))))), fun as Qd Ed h => by
    unfold sdAsR at h
    split at h
    · rename_i x
      obtain ⟨kn, q1, q2⟩ := h
      refine ⟨fun ss => (∃ o1 o2, ss = [.d x, o1, o2]) ∧ ratD x = none, ?_, ?_⟩
      · by_cases tup : ∃ ys, x = .tup ys
        · obtain ⟨ys, rfl⟩ := tup
          rcases ys with _ | ⟨a, _ | ⟨b, _ | ⟨e, ys⟩⟩⟩
          · exact ⟨⟨_, _, rfl⟩, rfl⟩
          · exact ⟨⟨_, _, rfl⟩, by cases a <;> rfl⟩
          · obtain ⟨⟨k1, e1, n1⟩, ⟨k2, e2, n2⟩⟩ := kn
            cases a <;> first | exact ⟨⟨_, _, rfl⟩, rfl⟩ | (cases e1; done) | (cases e1; exact absurd rfl n1) | skip
            cases b <;> first | exact ⟨⟨_, _, rfl⟩, rfl⟩ | (cases e2; done) | (cases e2; exact absurd rfl n2) | skip
            rename_i n d
            refine ifD (fun c1 => ifD (fun c2 => ?_) (fun c2 => ?_)) (fun c1 => ?_)
            · have c2 : Nat.gcd n.natAbs d.natAbs = 1 := by omega
              have e := q2 (Rat.divInt n d) (by show (if 1 ≤ d ∧ Nat.gcd n.natAbs d.natAbs = 1 then some (Rat.divInt n d) else none) = _; rw [if_pos ⟨c1, c2⟩])
              rw [← tup_rD c1 c2] at e
              exact e
            · exact ⟨⟨_, _, rfl⟩, by show (if 1 ≤ d ∧ Nat.gcd n.natAbs d.natAbs = 1 then some (Rat.divInt n d) else none) = _; rw [if_neg (fun z => c2 (by rw [z.2]; rfl))]⟩
            · exact ⟨⟨_, _, rfl⟩, by show (if 1 ≤ d ∧ Nat.gcd n.natAbs d.natAbs = 1 then some (Rat.divInt n d) else none) = _; rw [if_neg (fun z => c1 z.1)]⟩
          · exact ⟨⟨_, _, rfl⟩, by cases a <;> cases b <;> rfl⟩
        · obtain ⟨k, ek, nk⟩ : KK x := by
            unfold KN at kn
            split at kn
            · exact absurd ⟨_, rfl⟩ tup
            · exact kn
          cases x <;> first | exact absurd ⟨_, rfl⟩ tup | exact ⟨⟨_, _, rfl⟩, rfl⟩ | (cases ek; done) | (cases ek; exact absurd rfl nk) | skip
          rename_i i
          have e := q2 (i : Rat) rfl
          exact e
      · rintro _ ⟨⟨o1, o2, rfl⟩, e⟩
        have z := ratD_some (x := x)
        rw [e] at z
        have z1 : isIntD x = false := by cases h : isIntD x <;> simp [h] at z ⊢
        have z2 : isRatB x = false := by cases h : isRatB x <;> simp [h] at z ⊢
        refine ⟨kn.kind, ?_⟩
        rw [z1]
        refine ⟨kn, ?_⟩
        rw [z2]
        exact q1 e
    · exact h.elim⟩)
/-! ### reduced -/
def sdRed : SpD := fun as Q _ => match as with
  | [.d (.int n), .d (.int d)] => 0 < d ∧ n.natAbs < 2 ^ 8000 ∧ d.natAbs < 2 ^ 8000 ∧ Q (rD (Rat.divInt n d))
  | _ => False
theorem sdRed_len  (as Q E) (h : sdRed  as Q E) : as.length = 2 := by
  unfold sdRed at h
  split at h
  · rfl
  · exact h.elim

theorem ok_red {f fd} (D : DefAt K mg "reduced" s_reduced ["top", "bottom"] f fd) (m_gcd : mg "gcd" = some (.builtin "math.gcd")) : DefD P w K mg base "reduced" 1 sdRed :=
  .mk1 D (fnD D.F sc_reduced sdRed_len fun cdv A outer s H E c hr b => ⟨_, (dss_cons (d_asg (d_callBfun cd_gcd m_gcd (da_name (pv 0) (da_name (pv 1) da_nil))) (dg_name (pg_name (i := 2) sc_reduced.nd rfl (.inl rfl))))
      (dss_cons (d_ifS (dt_cmp (od_eq hr.units) (d_var (pv 2)) d_int)
      (dss_one (d_ret (d_tup (da_name (pv 0) (da_name (pv 1) da_nil)))))
      dss_nil)
      (dss_one (d_ret (d_tup (da_cons (d_op od_div (d_var (pv 0)) (d_var (pv 2))) (da_cons (d_op od_div (d_var (pv 1)) (d_var (pv 2))) da_nil))))))), fun as Qd Ed h => by
    unfold sdRed at h
    split at h
    · rename_i n d
      obtain ⟨hd, hn, hdd, q⟩ := h
      have hd0 : d ≠ 0 := by omega
      have e1 := sdiv_num (n := n) hd0
      have e2 := sdiv_den (n := n) hd0
      have g0 := gcd_pos (n := n) hd0
      have gl := Nat.gcd_le_right n.natAbs (Int.natAbs_pos.mpr hd0)
      have es : sdiv n d = ((Nat.gcd n.natAbs d.natAbs : Nat) : Int) := by unfold sdiv; rw [if_neg (by omega)]
      rw [es] at e1 e2
      have q3 : Qd (.tup [.int (n.fdiv ((Nat.gcd n.natAbs d.natAbs : Nat) : Int)), .int (d.fdiv ((Nat.gcd n.natAbs d.natAbs : Nat) : Int))]) := by
        rw [e1, e2]
        exact q
      refine ifD (fun c => ?_) (fun c => ?_)
      · rw [c, Int.fdiv_one, Int.fdiv_one] at q3
        exact q3
      · have zg : ((Nat.gcd n.natAbs d.natAbs : Nat) : Int) ≠ 0 ∧ ((Nat.gcd n.natAbs d.natAbs : Nat) : Int).natAbs.log2 < 9000 := dv (b := 8000) (by omega) (by rw [Int.natAbs_natCast]; omega)
        exact ⟨zg, zg, q3⟩
    · exact h.elim⟩)
/-! ### two numbers -/
def sdTwo (CN : Addr) (R : Rat → Rat → QD → QE → Prop) : SpD := fun as Q Ed => match as with
  | [.d x, .d y] => KN x ∧ (ratD x = none → Ed (.e0 CN)) ∧ ∀ q, ratD x = some q → KN y ∧ (ratD y = none → Ed (.e0 CN)) ∧ ∀ r, ratD y = some r → Sz 3900 q ∧ Sz 3900 r ∧ R q r Q Ed
  | _ => False
theorem sdTwo_len (CN : Addr) (R) (as Q E) (h : sdTwo CN R as Q E) : as.length = 2 := by
  unfold sdTwo at h
  split at h
  · rfl
  · exact h.elim

theorem sdTwo_of {CN : Addr} {R : Rat → Rat → QD → QE → Prop} {x y : DL.D} {q r : Rat} {Q : QD} {Ed : QE} (kx : KN x) (ky : KN y) (h1 : ratD x = some q) (h2 : ratD y = some r) (z1 : Sz 3900 q) (z2 : Sz 3900 r) (h : R q r Q Ed) : sdTwo CN R [.d x, .d y] Q Ed :=
  ⟨kx, fun e => by (rw [h1] at e; cases e), fun q' e => by
    rw [h1] at e
    cases e
    exact ⟨ky, fun e => by (rw [h2] at e; cases e), fun r' e => by
      rw [h2] at e
      cases e
      exact ⟨z1, z2, h⟩⟩⟩
theorem lt8 {n : Nat} {a : Nat} (h : n < 2 ^ a) (l : a ≤ 8000 := by decide) : n < 2 ^ 8000 := Nat.lt_of_lt_of_le h (Nat.pow_le_pow_right (by decide) l)
theorem absmul {x y : Int} {a b : Nat} (h1 : x.natAbs < 2 ^ a) (h2 : y.natAbs < 2 ^ b) : (x * y).natAbs < 2 ^ (a + b) := by rw [Int.natAbs_mul]; exact mul_lt h1 h2
theorem absadd {x y : Int} {a : Nat} (h1 : x.natAbs < 2 ^ a) (h2 : y.natAbs < 2 ^ a) : (x + y).natAbs < 2 ^ (a + 1) := Nat.lt_of_le_of_lt (Int.natAbs_add_le x y) (add_lt h1 h2)
theorem abssub {x y : Int} {a : Nat} (h1 : x.natAbs < 2 ^ a) (h2 : y.natAbs < 2 ^ a) : (x - y).natAbs < 2 ^ (a + 1) := by rw [Int.sub_eq_add_neg]; exact absadd h1 (by rw [Int.natAbs_neg]; exact h2)
theorem absden {q : Rat} {a : Nat} (h : Sz a q) : ((q.den : Int)).natAbs < 2 ^ a := by rw [Int.natAbs_natCast]; exact h.2
theorem den0 (q : Rat) : (0 : Int) < q.den := by have := den_pos q; omega
theorem dens (p q : Rat) : (0 : Int) < (p.den : Int) * q.den := Int.mul_pos (den0 p) (den0 q)
abbrev sd_plus (CN : Addr) : SpD := sdTwo CN (fun p q Q _ => Q (rD (p + q)))
theorem ok_plus {f fd CN} (D : DefAt K mg "plus" s_plus ["first", "second"] f fd) (Gas_ratio : DefD P w K mg base "as_ratio" 3 (sdAsR CN)) (Greduced : DefD P w K mg base "reduced" 1 sdRed) : DefD P w K mg base "plus" 4 (sd_plus CN) :=
  .mk1 D (fnD D.F sc_plus (sdTwo_len _ _) fun cdv A outer s H E c hr b => ⟨_, (dss_cons (d_asg (d_cE Gas_ratio (hr.mono (by decide)) b (da_name (pv 0) da_nil)) (dg_tup rfl (dgs_cons (dg_name (pg_name (i := 2) sc_plus.nd rfl (.inl rfl))) (dgs_cons (dg_name (pg_name (i := 3) sc_plus.nd rfl (.inl rfl))) dgs_nil))))
      (dss_cons (d_asg (d_cE Gas_ratio (hr.mono (by decide)) b (da_name (pv 1) da_nil)) (dg_tup rfl (dgs_cons (dg_name (pg_name (i := 4) sc_plus.nd rfl (.inl rfl))) (dgs_cons (dg_name (pg_name (i := 5) sc_plus.nd rfl (.inl rfl))) dgs_nil))))
      (dss_one (d_ret (d_cN Greduced (hr.mono (by decide)) (da_cons (d_op od_addA (d_op od_mulA (d_var (pv 2)) (d_var (pv 5))) (d_op od_mulA (d_var (pv 4)) (d_var (pv 3)))) (da_cons (d_op od_mulA (d_var (pv 3)) (d_var (pv 5))) da_nil))))))), fun as Qd Ed h => by
    unfold sd_plus sdTwo at h
    split at h
    · rename_i x y
      obtain ⟨kx, qx, h⟩ := h
      refine ⟨kx, qx, fun p e1 => ?_⟩
      obtain ⟨ky, qy, h⟩ := h p e1
      refine ⟨ky, qy, fun q e2 => ?_⟩
      obtain ⟨zp, zq, h⟩ := h q e2
      have zpd := absden zp
      have zqd := absden zq
      refine ⟨mu zp.1 zqd, mu zq.1 zpd, mu zpd zqd, dens p q, lt8 (absadd (absmul zp.1 zqd) (absmul zq.1 zpd)), lt8 (absmul zpd zqd), ?_⟩
      rw [← add_as]
      exact h
    · exact h.elim⟩)
abbrev sd_minus (CN : Addr) : SpD := sdTwo CN (fun p q Q _ => Q (rD (p - q)))
theorem ok_minus {f fd CN} (D : DefAt K mg "minus" s_minus ["first", "second"] f fd) (Gas_ratio : DefD P w K mg base "as_ratio" 3 (sdAsR CN)) (Greduced : DefD P w K mg base "reduced" 1 sdRed) : DefD P w K mg base "minus" 4 (sd_minus CN) :=
  .mk1 D (fnD D.F sc_minus (sdTwo_len _ _) fun cdv A outer s H E c hr b => ⟨_, (dss_cons (d_asg (d_cE Gas_ratio (hr.mono (by decide)) b (da_name (pv 0) da_nil)) (dg_tup rfl (dgs_cons (dg_name (pg_name (i := 2) sc_minus.nd rfl (.inl rfl))) (dgs_cons (dg_name (pg_name (i := 3) sc_minus.nd rfl (.inl rfl))) dgs_nil))))
      (dss_cons (d_asg (d_cE Gas_ratio (hr.mono (by decide)) b (da_name (pv 1) da_nil)) (dg_tup rfl (dgs_cons (dg_name (pg_name (i := 4) sc_minus.nd rfl (.inl rfl))) (dgs_cons (dg_name (pg_name (i := 5) sc_minus.nd rfl (.inl rfl))) dgs_nil))))
      (dss_one (d_ret (d_cN Greduced (hr.mono (by decide)) (da_cons (d_op od_sub (d_op od_mulA (d_var (pv 2)) (d_var (pv 5))) (d_op od_mulA (d_var (pv 4)) (d_var (pv 3)))) (da_cons (d_op od_mulA (d_var (pv 3)) (d_var (pv 5))) da_nil))))))), fun as Qd Ed h => by
    unfold sd_minus sdTwo at h
    split at h
    · rename_i x y
      obtain ⟨kx, qx, h⟩ := h
      refine ⟨kx, qx, fun p e1 => ?_⟩
      obtain ⟨ky, qy, h⟩ := h p e1
      refine ⟨ky, qy, fun q e2 => ?_⟩
      obtain ⟨zp, zq, h⟩ := h q e2
      have zpd := absden zp
      have zqd := absden zq
      refine ⟨mu zp.1 zqd, mu zq.1 zpd, mu zpd zqd, dens p q, lt8 (abssub (absmul zp.1 zqd) (absmul zq.1 zpd)), lt8 (absmul zpd zqd), ?_⟩
      rw [← sub_as]
      exact h
    · exact h.elim⟩)
abbrev sd_times (CN : Addr) : SpD := sdTwo CN (fun p q Q _ => Q (rD (p * q)))
theorem ok_times {f fd CN} (D : DefAt K mg "times" s_times ["first", "second"] f fd) (Gas_ratio : DefD P w K mg base "as_ratio" 3 (sdAsR CN)) (Greduced : DefD P w K mg base "reduced" 1 sdRed) : DefD P w K mg base "times" 4 (sd_times CN) :=
  .mk1 D (fnD D.F sc_times (sdTwo_len _ _) fun cdv A outer s H E c hr b => ⟨_, (dss_cons (d_asg (d_cE Gas_ratio (hr.mono (by decide)) b (da_name (pv 0) da_nil)) (dg_tup rfl (dgs_cons (dg_name (pg_name (i := 2) sc_times.nd rfl (.inl rfl))) (dgs_cons (dg_name (pg_name (i := 3) sc_times.nd rfl (.inl rfl))) dgs_nil))))
      (dss_cons (d_asg (d_cE Gas_ratio (hr.mono (by decide)) b (da_name (pv 1) da_nil)) (dg_tup rfl (dgs_cons (dg_name (pg_name (i := 4) sc_times.nd rfl (.inl rfl))) (dgs_cons (dg_name (pg_name (i := 5) sc_times.nd rfl (.inl rfl))) dgs_nil))))
      (dss_one (d_ret (d_cN Greduced (hr.mono (by decide)) (da_cons (d_op od_mulA (d_var (pv 2)) (d_var (pv 4))) (da_cons (d_op od_mulA (d_var (pv 3)) (d_var (pv 5))) da_nil))))))), fun as Qd Ed h => by
    unfold sd_times sdTwo at h
    split at h
    · rename_i x y
      obtain ⟨kx, qx, h⟩ := h
      refine ⟨kx, qx, fun p e1 => ?_⟩
      obtain ⟨ky, qy, h⟩ := h p e1
      refine ⟨ky, qy, fun q e2 => ?_⟩
      obtain ⟨zp, zq, h⟩ := h q e2
      have zpd := absden zp
      have zqd := absden zq
      refine ⟨mu zp.1 zq.1, mu zpd zqd, dens p q, lt8 (absmul zp.1 zq.1), lt8 (absmul zpd zqd), ?_⟩
      rw [← mul_as]
      exact h
    · exact h.elim⟩)
theorem negs {a b : Int} (hb : b ≠ 0) : Rat.divInt (-a) (-b) = Rat.divInt a b := by
  rw [Rat.divInt_eq_div, Rat.divInt_eq_div]
  have : ((b : Int) : Rat) ≠ 0 := fun e => hb (by exact_mod_cast e)
  rw [Rat.intCast_neg, Rat.intCast_neg]
  grind
theorem lt_iff (p q : Rat) : p < q ↔ p.num * q.den < q.num * p.den := by
  rw [Rat.lt_iff]
/-- -1, 0, 1 -/
def cmpR (p q : Rat) : Int := if p < q then -1 else if q < p then 1 else 0
abbrev sd_compare (CN : Addr) : SpD := sdTwo CN (fun p q Q _ => Q (.int (cmpR p q)))
theorem ok_compare {f fd CN} (D : DefAt K mg "compare" s_compare ["first", "second"] f fd) (Gas_ratio : DefD P w K mg base "as_ratio" 3 (sdAsR CN)) (Greduced : DefD P w K mg base "reduced" 1 sdRed) : DefD P w K mg base "compare" 4 (sd_compare CN) :=
  .mk1 D (fnD D.F sc_compare (sdTwo_len _ _) fun cdv A outer s H E c hr b => ⟨_, (dss_cons (d_asg (d_cE Gas_ratio (hr.mono (by decide)) b (da_name (pv 0) da_nil)) (dg_tup rfl (dgs_cons (dg_name (pg_name (i := 2) sc_compare.nd rfl (.inl rfl))) (dgs_cons (dg_name (pg_name (i := 3) sc_compare.nd rfl (.inl rfl))) dgs_nil))))
      (dss_cons (d_asg (d_cE Gas_ratio (hr.mono (by decide)) b (da_name (pv 1) da_nil)) (dg_tup rfl (dgs_cons (dg_name (pg_name (i := 4) sc_compare.nd rfl (.inl rfl))) (dgs_cons (dg_name (pg_name (i := 5) sc_compare.nd rfl (.inl rfl))) dgs_nil))))
      (dss_cons (d_par2 (i := 6) (j := 7) rfl sc_compare.nd rfl rfl (by decide) rfl rfl (d_op od_mulA (d_var (pv 2)) (d_var (pv 5))) (d_op od_mulA (d_var (pv 4)) (d_var (pv 3))))
      (dss_cons (d_ifS (dt_cmp od_lt (d_var (pv 6)) (d_var (pv 7)))
      (dss_one (d_ret (d_un ud_neg d_int)))
      dss_nil)
      (dss_one (d_ret (d_if (dt_cmp od_gt (d_var (pv 6)) (d_var (pv 7))) d_int d_int))))))), fun as Qd Ed h => by
    unfold sd_compare sdTwo at h
    split at h
    · rename_i x y
      obtain ⟨kx, qx, h⟩ := h
      refine ⟨kx, qx, fun p e1 => ?_⟩
      obtain ⟨ky, qy, h⟩ := h p e1
      refine ⟨ky, qy, fun q e2 => ?_⟩
      obtain ⟨zp, zq, h⟩ := h q e2
      have zpd := absden zp
      have zqd := absden zq
      refine ⟨mu zp.1 zqd, mu zq.1 zpd, ?_⟩
      have e1 := lt_iff p q
      have e2 := lt_iff q p
      unfold cmpR at h
      refine ifD (fun c => ?_) (fun c => ifD (fun c2 => ?_) (fun c2 => ?_))
      · rw [if_pos (e1.mpr c)] at h
        exact h
      · rw [if_neg (fun z => c (e1.mp z)), if_pos (e2.mpr c2)] at h
        exact h
      · rw [if_neg (fun z => c (e1.mp z)), if_neg (fun z => c2 (e2.mp z))] at h
        exact h
    · exact h.elim⟩)
abbrev BMa : List Value := [.type "ArithmeticError", .type "Exception", .type "BaseException", .type "object"]
theorem FBa : ExcBaseFacts "ArithmeticError" "ArithmeticError.__new__" "ArithmeticError.__init__" BMa := PySem.F.excBase_ArithmeticError
abbrev sd_remainder (CN : Addr) (CZ : Addr) : SpD := sdTwo CN (fun p q Q Ed => (q ≤ 0 → Ed (.e0 CZ)) ∧ (0 < q → Q (rD (rem p q))))
theorem ok_remainder {f fd CN CZ} (D : DefAt K mg "remainder" s_remainder ["value", "modulus"] f fd) (XDivisionByZero : LR.ErrAt K mg "DivisionByZero" BMa "ArithmeticError.__new__" CZ) (Gas_ratio : DefD P w K mg base "as_ratio" 3 (sdAsR CN)) (Greduced : DefD P w K mg base "reduced" 1 sdRed) : DefD P w K mg base "remainder" 4 (sd_remainder CN CZ) :=
  .mk1 D (fnD D.F sc_remainder (sdTwo_len _ _) fun cdv A outer s H E c hr b => ⟨_, (dss_cons (d_asg (d_cE Gas_ratio (hr.mono (by decide)) b (da_name (pv 0) da_nil)) (dg_tup rfl (dgs_cons (dg_name (pg_name (i := 2) sc_remainder.nd rfl (.inl rfl))) (dgs_cons (dg_name (pg_name (i := 3) sc_remainder.nd rfl (.inl rfl))) dgs_nil))))
      (dss_cons (d_asg (d_cE Gas_ratio (hr.mono (by decide)) b (da_name (pv 1) da_nil)) (dg_tup rfl (dgs_cons (dg_name (pg_name (i := 4) sc_remainder.nd rfl (.inl rfl))) (dgs_cons (dg_name (pg_name (i := 5) sc_remainder.nd rfl (.inl rfl))) dgs_nil))))
      (dss_cons (d_ifS (dt_cmp od_le (d_var (pv 4)) d_int)
      (dss_one (d_raise b rfl XDivisionByZero FBa))
      dss_nil)
      (dss_one (d_ret (d_cN Greduced (hr.mono (by decide)) (da_cons (d_op od_mod (d_op od_mulA (d_var (pv 2)) (d_var (pv 5))) (d_op od_mulA (d_var (pv 4)) (d_var (pv 3)))) (da_cons (d_op od_mulA (d_var (pv 3)) (d_var (pv 5))) da_nil)))))))), fun as Qd Ed h => by
    unfold sd_remainder sdTwo at h
    split at h
    · rename_i x y
      obtain ⟨kx, qx, h⟩ := h
      refine ⟨kx, qx, fun p e1 => ?_⟩
      obtain ⟨ky, qy, h⟩ := h p e1
      refine ⟨ky, qy, fun q e2 => ?_⟩
      obtain ⟨zp, zq, h⟩ := h q e2
      have zpd := absden zp
      have zqd := absden zq
      obtain ⟨h1, h2⟩ := h
      refine ifD (fun c => h1 ?_) (fun c => ?_)
      · exact Rat.not_lt.mp fun z => by have := num_pos_iff.mpr z; omega
      · have qn : 0 < q.num := by omega
        have qp : 0 < q := num_pos_iff.mp qn
        have h := h2 qp
        rw [rem_as qp] at h
        have mp : (0 : Int) < q.num * p.den := Int.mul_pos qn (den0 p)
        have em : (p.num * q.den).fmod (q.num * p.den) = (p.num * q.den) % (q.num * p.den) := Int.fmod_eq_emod_of_nonneg _ (by omega)
        have b1 := Int.emod_nonneg (p.num * q.den) (show q.num * p.den ≠ 0 by omega)
        have b2 := Int.emod_lt_of_pos (p.num * q.den) mp
        have z2 := absmul zq.1 zpd
        refine ⟨mu zp.1 zqd, mu zq.1 zpd, show q.num * p.den ≠ 0 by omega, ?_⟩
        refine ⟨mu zpd zqd, dens p q, ?_, lt8 (absmul zpd zqd), ?_⟩
        · rw [em]
          exact lt8 (Nat.lt_of_le_of_lt (show ((p.num * q.den) % (q.num * p.den)).natAbs ≤ (q.num * p.den).natAbs by omega) z2)
        · rw [em]
          exact h
    · exact h.elim⟩)
/-! ### ratio, of two integers, the second one not 0 -/
def sdRatio : SpD := fun as Q _ => match as with
  | [.d (.int n), .d (.int d)] => d ≠ 0 ∧ n.natAbs < 2 ^ 3900 ∧ d.natAbs < 2 ^ 3900 ∧ Q (rD (Rat.divInt n d))
  | _ => False
theorem sdRatio_len  (as Q E) (h : sdRatio  as Q E) : as.length = 2 := by
  unfold sdRatio at h
  split at h
  · rfl
  · exact h.elim

theorem ok_ratio {f fd} (D : DefV K mg "ratio" s_ratio ["numerator", "denominator"] [.int 1] f fd) (Gis_integer : DefD P w K mg base "is_integer" 1 sdInt) (Greduced : DefD P w K mg base "reduced" 1 sdRed) : DefD P w K mg base "ratio" 2 sdRatio :=
  fnDv D sc_ratio sdRatio_len fun cdv A outer s H E c hr b => ⟨_, (dss_cons (d_ifS (PW.pt (dw_or (dt_not (dt_val (d_cN Gis_integer (hr.mono (by decide)) (da_name (pv 0) da_nil)))) (dw_or1 (dt_not (dt_val (d_cN Gis_integer (hr.mono (by decide)) (da_name (pv 1) da_nil)))))))
      (dss_one d_dead)
      dss_nil)
      (dss_cons (d_ifS (dt_cmp (od_eq hr.units) (d_var (pv 1)) d_int)
      (dss_one d_dead)
      dss_nil)
      (dss_cons (d_ifS (dt_cmp od_lt (d_var (pv 1)) d_int)
      (dss_one (d_ret (d_cN Greduced (hr.mono (by decide)) (da_cons (d_un ud_neg (d_var (pv 0))) (da_cons (d_un ud_neg (d_var (pv 1))) da_nil)))))
      dss_nil)
      (dss_one (d_ret (d_cN Greduced (hr.mono (by decide)) (da_name (pv 0) (da_name (pv 1) da_nil)))))))), fun as Qd Ed h => by
    unfold sdRatio at h
    split at h
    · rename_i n d
      obtain ⟨d0, zn, zd, q⟩ := h
      refine ⟨rfl, rfl, ?_⟩
      refine ifD (fun c => absurd c d0) (fun _ => ?_)
      refine ifD (fun c => ?_) (fun c => ?_)
      · have c : d < 0 := c
        refine ⟨show 0 < -d by omega, lt8 (a := 3900) (by rw [Int.natAbs_neg]; exact zn), lt8 (a := 3900) (by rw [Int.natAbs_neg]; exact zd), ?_⟩
        rw [negs d0]
        exact q
      · have c : ¬ d < 0 := c
        exact ⟨show 0 < d by omega, lt8 zn, lt8 zd, q⟩
    · exact h.elim⟩
abbrev sd_divided (CN : Addr) (CZ : Addr) : SpD := sdTwo CN (fun p q Q Ed => (q = 0 → Ed (.e0 CZ)) ∧ (q ≠ 0 → Q (rD (p / q))))
theorem ok_divided {f fd CN CZ} (D : DefAt K mg "divided" s_divided ["first", "second"] f fd) (XDivisionByZero : LR.ErrAt K mg "DivisionByZero" BMa "ArithmeticError.__new__" CZ) (Gas_ratio : DefD P w K mg base "as_ratio" 3 (sdAsR CN)) (Greduced : DefD P w K mg base "reduced" 1 sdRed) : DefD P w K mg base "divided" 4 (sd_divided CN CZ) :=
  .mk1 D (fnD D.F sc_divided (sdTwo_len _ _) fun cdv A outer s H E c hr b => ⟨_, (dss_cons (d_asg (d_cE Gas_ratio (hr.mono (by decide)) b (da_name (pv 0) da_nil)) (dg_tup rfl (dgs_cons (dg_name (pg_name (i := 2) sc_divided.nd rfl (.inl rfl))) (dgs_cons (dg_name (pg_name (i := 3) sc_divided.nd rfl (.inl rfl))) dgs_nil))))
      (dss_cons (d_asg (d_cE Gas_ratio (hr.mono (by decide)) b (da_name (pv 1) da_nil)) (dg_tup rfl (dgs_cons (dg_name (pg_name (i := 4) sc_divided.nd rfl (.inl rfl))) (dgs_cons (dg_name (pg_name (i := 5) sc_divided.nd rfl (.inl rfl))) dgs_nil))))
      (dss_cons (d_ifS (dt_cmp (od_eq hr.units) (d_var (pv 4)) d_int)
      (dss_one (d_raise b rfl XDivisionByZero FBa))
      dss_nil)
      (dss_cons (d_ifS (dt_cmp od_lt (d_var (pv 4)) d_int)
      (dss_one (d_ret (d_cN Greduced (hr.mono (by decide)) (da_cons (d_op od_mulA (d_un ud_neg (d_var (pv 2))) (d_var (pv 5))) (da_cons (d_op od_mulA (d_un ud_neg (d_var (pv 3))) (d_var (pv 4))) da_nil)))))
      dss_nil)
      (dss_one (d_ret (d_cN Greduced (hr.mono (by decide)) (da_cons (d_op od_mulA (d_var (pv 2)) (d_var (pv 5))) (da_cons (d_op od_mulA (d_var (pv 3)) (d_var (pv 4))) da_nil))))))))), fun as Qd Ed h => by
    unfold sd_divided sdTwo at h
    split at h
    · rename_i x y
      obtain ⟨kx, qx, h⟩ := h
      refine ⟨kx, qx, fun p e1 => ?_⟩
      obtain ⟨ky, qy, h⟩ := h p e1
      refine ⟨ky, qy, fun q e2 => ?_⟩
      obtain ⟨zp, zq, h⟩ := h q e2
      have zpd := absden zp
      have zqd := absden zq
      obtain ⟨h1, h2⟩ := h
      refine ifD (fun c => h1 ?_) (fun c => ?_)
      · have c : q.num = 0 := c
        exact Rat.num_eq_zero.mp c
      · have c : q.num ≠ 0 := c
        have q0 : q ≠ 0 := fun z => c (by rw [z]; rfl)
        have h := h2 q0
        rw [div_as] at h
        refine ifD (fun n => ?_) (fun n => ?_)
        · have n : q.num < 0 := n
          have zn : (-p.num).natAbs < 2 ^ 3900 := by rw [Int.natAbs_neg]; exact zp.1
          have zd : (-(p.den : Int)).natAbs < 2 ^ 3900 := by rw [Int.natAbs_neg]; exact zpd
          have e1 : -p.num * (q.den : Int) = -(p.num * q.den) := Int.neg_mul _ _
          have e2 : -(p.den : Int) * q.num = -((p.den : Int) * q.num) := Int.neg_mul _ _
          have np : (p.den : Int) * q.num < 0 := Int.mul_neg_of_pos_of_neg (den0 p) n
          refine ⟨mu zn zqd, mu zd zq.1, by rw [e2]; omega, lt8 (absmul zn zqd), lt8 (absmul zd zq.1), ?_⟩
          rw [e1, e2, negs (by omega)]
          exact h
        · have n : 0 < q.num := by
            have n : ¬ q.num < 0 := n
            omega
          exact ⟨mu zp.1 zqd, mu zpd zq.1, Int.mul_pos (den0 p) n, lt8 (absmul zp.1 zqd), lt8 (absmul zpd zq.1), h⟩
    · exact h.elim⟩)
/-! ### is_positive, as_time -/
def posB (x : DL.D) : Bool := match ratD x with
  | some q => decide (0 < q)
  | none => false
def sdPos : SpD := fun as Q _ => match as with
  | [.d x] => KN x ∧ Q (.bl (posB x))
  | _ => False
theorem sdPos_len  (as Q E) (h : sdPos  as Q E) : as.length = 1 := by
  unfold sdPos at h
  split at h
  · rfl
  · exact h.elim

theorem ok_pos {f fd CN} (D : DefAt K mg "is_positive" s_is_positive ["value"] f fd) (Gis_number : DefD P w K mg base "is_number" 3 sdIsN) (Gas_ratio : DefD P w K mg base "as_ratio" 3 (sdAsR CN)) : DefD P w K mg base "is_positive" 4 sdPos :=
  .mk1 D (fnD D.F sc_is_positive sdPos_len fun cdv A outer s H E c hr b => ⟨_, (dss_one (d_ret (d_and (d_cN Gis_number (hr.mono (by decide)) (da_name (pv 0) da_nil)) (d_one (d_cmp od_gt (d_ix ixd (d_cN Gas_ratio (hr.mono (by decide)) (da_name (pv 0) da_nil)) d_int) d_int))))), fun as Qd Ed h => by
    unfold sdPos at h
    split at h
    · rename_i x
      obtain ⟨kn, q⟩ := h
      unfold posB at q
      refine ⟨kn, ?_⟩
      cases e : ratD x with
      | none =>
        rw [e] at q
        exact q
      | some p =>
        rw [e] at q
        refine ⟨kn, fun z => by (rw [e] at z; cases z), fun p' z => ?_⟩
        rw [e] at z
        cases z
        have e2 : decide (0 < p.num) = decide (0 < p) := decide_eq_decide.mpr num_pos_iff
        have q : Qd (.bl (decide (0 < p))) := q
        rw [← e2] at q
        exact q
    · exact h.elim⟩)
def sdTime (CT : Addr) : SpD := fun as Q Ed => match as with
  | [.d x] => KN x ∧ (ratD x = none → Ed (.e0 CT)) ∧ ∀ q, ratD x = some q → (q < 0 → Ed (.e0 CT)) ∧ (0 ≤ q → Q (rD q))
  | _ => False
theorem sdTime_len (CT : Addr) (as Q E) (h : sdTime CT as Q E) : as.length = 1 := by
  unfold sdTime at h
  split at h
  · rfl
  · exact h.elim

theorem ok_time {f fd CN CT} (D : DefAt K mg "as_time" s_as_time ["value"] f fd) (NInvalidNumber : mg "InvalidNumber" = some (.ref CN)) (xxInvalidNumber : PySem.W.exmOne K (.ref CN) (.ref CN) = some true) (XInvalidTime : LR.ErrAt K mg "InvalidTime" BMv "ValueError.__new__" CT) (Nas_ratio : DefN P w K mg base "as_ratio" 3 (sdAsR CN)) : DefD P w K mg base "as_time" 4 (sdTime CT) :=
  .mk1 D (fnD D.F sc_as_time (sdTime_len CT) fun cdv A outer s H E c hr b => ⟨_, (dss_cons (d_tryAs b rfl rfl (L2H.passesAt_of rfl) ⟨rfl, by decide, .inl NInvalidNumber⟩ xxInvalidNumber Nas_ratio (hr.mono (by decide)) XInvalidTime FBv (fun _ _ => (da_name (pv 0) da_nil)) (fun _ _ => (dg_name (pg_name (i := 1) sc_as_time.nd rfl (.inl rfl)))))
      (dss_cons (d_ifS (dt_cmp od_lt (d_ix ixd (d_var (pv 1)) d_int) d_int)
      (dss_one (d_raise b rfl XInvalidTime FBv))
      dss_nil)
      (dss_one (d_ret (d_var (pv 1)))))), fun as Qd Ed h => by
    unfold sdTime at h
    split at h
    · rename_i x
      obtain ⟨kn, q1, q2⟩ := h
      refine ⟨kn, fun e => ⟨rfl, q1 e⟩, fun q e => ?_⟩
      obtain ⟨h1, h2⟩ := q2 q e
      refine ifD (fun c => h1 (num_neg_iff.mp c)) (fun c => h2 (Rat.not_lt.mp fun z => c (num_neg_iff.mpr z)))
    · exact h.elim⟩)
end
end LR
set_option linter.all false
/-! rows of a track: plain mathematics -/
namespace LR
structure Row where
  b : Rat
  s : Rat
  p : Rat
/-- where a row's line is at 0, and at t -/
def Row.base (r : Row) : Rat := r.p - r.s * r.b
def Row.at_ (r : Row) (t : Rat) : Rat := r.p + r.s * (t - r.b)
theorem Row.at_eq (r : Row) (t : Rat) : r.at_ t = r.s * t + r.base := by
  unfold Row.at_ Row.base
  grind
/-- q in units of 1/u -/
def Uq (u : Int) (q : Rat) (B : Int) : Prop := q * (u : Rat) = (B : Rat)
theorem cast_ne {u : Int} (h : 0 < u) : ((u : Int) : Rat) ≠ 0 := fun e => by
  have := Rat.intCast_inj.mp (show ((u : Int) : Rat) = ((0 : Int) : Rat) from e)
  omega
theorem uq_div {u B : Int} {q : Rat} (h : 0 < u) (e : Uq u q B) : q = Rat.divInt B u := by
  have h2 := cast_ne h
  unfold Uq at e
  rw [Rat.divInt_eq_div, ← e]
  grind
theorem uq_of {u B : Int} (h : 0 < u) : Uq u (Rat.divInt B u) B := by
  unfold Uq
  rw [Rat.divInt_eq_div]
  have := cast_ne h
  grind
theorem uq_self (q : Rat) : Uq (q.den : Int) q q.num := by
  have d0 : (0 : Int) < q.den := by have := den_pos q; omega
  have := uq_of (B := q.num) d0
  rw [Rat.num_divInt_den] at this
  exact this
/-- a unit that divides nothing of both: no greater than the product of the bottoms -/
theorem unit_le {u R B : Int} {s c : Rat} (h0 : 0 < u) (g : Nat.gcd (Nat.gcd R.natAbs B.natAbs) u.natAbs = 1) (h1 : Uq u s R) (h2 : Uq u c B) : u ≤ (s.den : Int) * c.den := by
  have e1 := uq_self s
  have e2 := uq_self c
  have d1 := den_pos s
  have d2 := den_pos c
  unfold Uq at *
  have k1 : R * (s.den : Int) = s.num * u := by
    apply Rat.intCast_inj.mp
    rw [Rat.intCast_mul, Rat.intCast_mul, ← h1, ← e1]
    grind
  have k2 : B * (c.den : Int) = c.num * u := by
    apply Rat.intCast_inj.mp
    rw [Rat.intCast_mul, Rat.intCast_mul, ← h2, ← e2]
    grind
  have D : 0 < (s.den : Int) * c.den := Int.mul_pos (by omega) (by omega)
  have v1 : u ∣ R * ((s.den : Int) * c.den) := ⟨s.num * c.den, by rw [← Int.mul_assoc, k1]; grind⟩
  have v2 : u ∣ B * ((s.den : Int) * c.den) := ⟨c.num * s.den, by rw [Int.mul_comm (s.den : Int), ← Int.mul_assoc, k2]; grind⟩
  generalize (s.den : Int) * c.den = d at D v1 v2 ⊢
  have n1 : u.natAbs ∣ R.natAbs * d.natAbs := by rw [← Int.natAbs_mul]; exact Int.natAbs_dvd_natAbs.mpr v1
  have n2 : u.natAbs ∣ B.natAbs * d.natAbs := by rw [← Int.natAbs_mul]; exact Int.natAbs_dvd_natAbs.mpr v2
  have n3 : u.natAbs ∣ Nat.gcd R.natAbs B.natAbs * d.natAbs := by
    rw [← Nat.gcd_mul_right]
    exact Nat.dvd_gcd n1 n2
  have n4 : u.natAbs ∣ Nat.gcd (Nat.gcd R.natAbs B.natAbs) u.natAbs * d.natAbs := by
    rw [← Nat.gcd_mul_right]
    exact Nat.dvd_gcd n3 (Nat.dvd_mul_right _ _)
  rw [g, Nat.one_mul] at n4
  have := Nat.le_of_dvd (by omega) n4
  omega
theorem uq_abs {u B : Int} {q : Rat} {a b : Nat} (h0 : 0 < u) (e : Uq u q B) (hq : Sz a q) (hu : u.natAbs < 2 ^ b) : B.natAbs < 2 ^ (a + b) := by
  have e1 := uq_self q
  have d1 := den_pos q
  unfold Uq at *
  have k1 : B * (q.den : Int) = q.num * u := by
    apply Rat.intCast_inj.mp
    rw [Rat.intCast_mul, Rat.intCast_mul, ← e, ← e1]
    grind
  have k2 : B.natAbs * q.den = q.num.natAbs * u.natAbs := by
    have := congrArg Int.natAbs k1
    rw [Int.natAbs_mul, Int.natAbs_mul, Int.natAbs_natCast] at this
    exact this
  have k3 : B.natAbs ≤ B.natAbs * q.den := Nat.le_mul_of_pos_right _ d1
  have k4 := mul_lt hq.1 hu
  omega
/-! ### the row that a time stands in: behind it stops the first one that begins later -/
def rowGo (t : Rat) : Row → List Row → Row
  | f, [] => f
  | f, r :: rs => if t < r.b then f else rowGo t r rs
def nextRow (r : Row) (c : Rat × Rat) : Row := ⟨c.1, c.2, r.at_ c.1⟩
def trackGo (r : Row) : List (Rat × Rat) → List Row
  | [] => [r]
  | c :: cs => r :: trackGo (nextRow r c) cs
theorem rowGo_mem (t : Rat) : ∀ (f : Row) (rs : List Row), rowGo t f rs = f ∨ rowGo t f rs ∈ rs
  | f, [] => .inl rfl
  | f, r :: rs => by
    unfold rowGo
    split
    · exact .inl rfl
    · rcases rowGo_mem t r rs with h | h
      · rw [h]
        exact .inr List.mem_cons_self
      · exact .inr (List.mem_cons_of_mem _ h)
/-- whole laps and the rest, from a top and a bottom -/
theorem floor_of_uq {P L : Rat} {u T : Int} (hu : 0 < u) (e : Uq u P T) (hL : 0 < L) : (P / L).floor = (T * L.den) / (L.num * u) := by
  have n0 := pos_num hL
  have d0 : (0 : Int) < L.den := by have := den_pos L; omega
  have e1 := uq_div hu e
  have e2 : P / L = Rat.divInt (T * L.den) (L.num * u) := by
    rw [e1]
    conv => lhs; rw [show L = Rat.divInt L.num L.den from (Rat.num_divInt_den L).symm]
    rw [Rat.divInt_eq_div, Rat.divInt_eq_div, Rat.divInt_eq_div, Rat.intCast_mul, Rat.intCast_mul]
    have := cast_ne hu
    have := cast_ne d0
    have := cast_ne n0
    grind
  rw [e2, floor_divInt (Int.mul_pos n0 hu)]
theorem rem_of_uq {P L : Rat} {u T : Int} (hu : 0 < u) (e : Uq u P T) (hL : 0 < L) : rem P L = Rat.divInt ((T * L.den) % (L.num * u)) (u * L.den) := by
  have n0 := pos_num hL
  have d0 : (0 : Int) < L.den := by have := den_pos L; omega
  have f := floor_of_uq hu e hL
  unfold rem
  rw [f]
  have em := Int.mul_ediv_add_emod (T * L.den) (L.num * u)
  generalize (T * L.den) / (L.num * u) = z at em ⊢
  have er : (T * L.den) % (L.num * u) = T * L.den - L.num * u * z := by omega
  rw [er]
  have e1 := uq_div hu e
  rw [e1]
  conv => lhs; rw [show L = Rat.divInt L.num L.den from (Rat.num_divInt_den L).symm]
  rw [Rat.divInt_eq_div, Rat.divInt_eq_div, Rat.divInt_eq_div, Rat.intCast_sub, Rat.intCast_mul, Rat.intCast_mul, Rat.intCast_mul, Rat.intCast_mul]
  have := cast_ne hu
  have := cast_ne d0
  grind
/-! ### _line -/
/-- the three ints of a line, cut by their divisor -/
theorem line_of {b s P : Rat} {T u R B U g : Int} (hu : 0 < u) (e : Uq u P T) (eR : R = s.num * b.den * u) (eB : B = T * b.den * s.den - s.num * b.num * u) (eU : U = b.den * s.den * u) (eg : g = ((Nat.gcd (Nat.gcd R.natAbs B.natAbs) U.natAbs : Nat) : Int)) :
    0 < g ∧ 0 < U.fdiv g ∧ Nat.gcd (Nat.gcd (R.fdiv g).natAbs (B.fdiv g).natAbs) (U.fdiv g).natAbs = 1 ∧ Uq (U.fdiv g) s (R.fdiv g) ∧ Uq (U.fdiv g) (P - s * b) (B.fdiv g) := by
  have db : (0 : Int) < b.den := by have := den_pos b; omega
  have ds : (0 : Int) < s.den := by have := den_pos s; omega
  have U0 : 0 < U := by rw [eU]; exact Int.mul_pos (Int.mul_pos db ds) hu
  have g0 : 0 < g := by
    rw [eg]
    have := Nat.gcd_pos_of_pos_right (Nat.gcd R.natAbs B.natAbs) (show 0 < U.natAbs by omega)
    omega
  have gd := Nat.gcd_dvd_left (Nat.gcd R.natAbs B.natAbs) U.natAbs
  have g3 := Nat.gcd_dvd_right (Nat.gcd R.natAbs B.natAbs) U.natAbs
  have gR : g ∣ R := by
    rw [eg]
    exact Int.natAbs_dvd_natAbs.mp (by rw [Int.natAbs_natCast]; exact Nat.dvd_trans gd (Nat.gcd_dvd_left _ _))
  have gB : g ∣ B := by
    rw [eg]
    exact Int.natAbs_dvd_natAbs.mp (by rw [Int.natAbs_natCast]; exact Nat.dvd_trans gd (Nat.gcd_dvd_right _ _))
  have gU : g ∣ U := by
    rw [eg]
    exact Int.natAbs_dvd_natAbs.mp (by rw [Int.natAbs_natCast]; exact g3)
  have uR : Uq U s R := by
    have := uq_self s
    unfold Uq at *
    rw [eR, eU, Rat.intCast_mul, Rat.intCast_mul, Rat.intCast_mul, Rat.intCast_mul]
    grind
  have uB : Uq U (P - s * b) B := by
    have h1 := uq_self s
    have h2 := uq_self b
    unfold Uq at *
    rw [eB, eU, Rat.intCast_sub, Rat.intCast_mul, Rat.intCast_mul, Rat.intCast_mul, Rat.intCast_mul, Rat.intCast_mul, Rat.intCast_mul]
    grind
  have ng : g.natAbs = Nat.gcd (Nat.gcd R.natAbs B.natAbs) U.natAbs := by rw [eg, Int.natAbs_natCast]
  obtain ⟨r, er⟩ := gR
  obtain ⟨c, ec⟩ := gB
  obtain ⟨v, ev⟩ := gU
  have fd : ∀ z, (g * z).fdiv g = z := fun z => by rw [Int.fdiv_eq_ediv_of_nonneg _ (Int.le_of_lt g0), Int.mul_ediv_cancel_left _ (Int.ne_of_gt g0)]
  rw [er, ec, ev, fd, fd, fd]
  have v0 : 0 < v := by rw [ev] at U0; exact Int.pos_of_mul_pos_right U0 g0
  have cg := cast_ne g0
  refine ⟨g0, v0, ?_, ?_, ?_⟩
  · rw [er, ec, ev, Int.natAbs_mul, Int.natAbs_mul, Int.natAbs_mul, Nat.gcd_mul_left, Nat.gcd_mul_left] at ng
    have : 0 < g.natAbs := by omega
    exact (Nat.eq_of_mul_eq_mul_left this (by omega)).symm
  · unfold Uq at *
    rw [er, ev, Rat.intCast_mul, Rat.intCast_mul] at uR
    grind
  · unfold Uq at *
    rw [ec, ev, Rat.intCast_mul, Rat.intCast_mul] at uB
    grind
end LR
set_option linter.all false
set_option exponentiation.threshold 100000
/-! RM: rows as numbers: plain mathematics -/
namespace LR
structure LineZ (r : Row) (R B U : Int) : Prop where
  u0 : 0 < U
  g : Nat.gcd (Nat.gcd R.natAbs B.natAbs) U.natAbs = 1
  s : Uq U r.s R
  b : Uq U r.base B
/-- how great a row's numbers may be -/
structure RowZ (r : Row) : Prop where
  b : Sz 100 r.b
  s : Sz 100 r.s
  c : Sz 1400 r.base
section
variable {r : Row}
theorem LineZ.sizes {R B U : Int} (z : LineZ r R B U) (h : RowZ r) : U.natAbs < 2 ^ 1500 ∧ R.natAbs < 2 ^ 1600 ∧ B.natAbs < 2 ^ 2900 := by
  have h1 := unit_le z.u0 z.g z.s z.b
  have h2 : U.natAbs < 2 ^ 1500 := by
    have := mul_lt h.s.2 h.c.2
    have u0 := z.u0
    have e : ((r.s.den : Int) * r.base.den) = ((r.s.den * r.base.den : Nat) : Int) := by rw [Int.natCast_mul]
    rw [e] at h1
    omega
  exact ⟨h2, uq_abs z.u0 z.s h.s h2, uq_abs z.u0 z.b h.c h2⟩
end
theorem fmod_in {x m : Int} (hm : 0 < m) : 0 ≤ x.fmod m ∧ x.fmod m < m := by
  rw [Int.fmod_eq_emod_of_nonneg _ (Int.le_of_lt hm)]
  exact ⟨Int.emod_nonneg _ (Int.ne_of_gt hm), Int.emod_lt_of_pos _ hm⟩
theorem trackGo_len : ∀ (r : Row) (cs : List (Rat × Rat)), (trackGo r cs).length = cs.length + 1
  | _, [] => rfl
  | r, c :: cs => congrArg Nat.succ (trackGo_len (nextRow r c) cs)
theorem trackGo_zero : ∀ (r : Row) (cs : List (Rat × Rat)), (trackGo r cs)[0]? = some r
  | _, [] => rfl
  | _, _ :: _ => rfl
theorem trackGo_succ : ∀ {r : Row} {cs : List (Rat × Rat)} {i : Nat} {c : Rat × Rat} {x : Row}, cs[i]? = some c → (trackGo r cs)[i]? = some x → (trackGo r cs)[i + 1]? = some (nextRow x c)
  | r, [], i, c, x, h, _ => by simp at h
  | r, d :: cs, 0, c, x, h, h2 => by
    have e1 : d = c := by simpa using h
    have e2 : r = x := by simpa [trackGo] using h2
    subst e1 e2
    show (trackGo (nextRow r d) cs)[0]? = _
    exact trackGo_zero _ _
  | r, d :: cs, i + 1, c, x, h, h2 => by
    have h' : cs[i]? = some c := by simpa using h
    have h2' : (trackGo (nextRow r d) cs)[i]? = some x := by simpa [trackGo] using h2
    have := trackGo_succ h' h2'
    simpa [trackGo] using this
/-- a runner's track -/
def trk (s0 : Rat) : List (Rat × Rat) → List Row
  | [] => []
  | c :: cs => trackGo ⟨c.1, c.2, s0⟩ cs
/-- valid pieces, and rows that are not too great -/
structure PcsOk (s0 : Rat) (cs : List (Rat × Rat)) : Prop where
  ne : 0 < cs.length
  le : cs.length ≤ 20
  zero : (cs.map (·.1)).head? = some 0
  asc : (cs.map (·.1)).Pairwise (· < ·)
  sz : ∀ c ∈ cs, Sz 100 c.1 ∧ Sz 100 c.2
  rz : ∀ r ∈ trk s0 cs, RowZ r
/-! ### the three integers of a row -/
def rowU (r : Row) : Int := ((Nat.lcm r.s.den r.base.den : Nat) : Int)
def rowR (r : Row) : Int := r.s.num * (rowU r / r.s.den)
def rowB (r : Row) : Int := r.base.num * (rowU r / r.base.den)
theorem uq_dvd {u B : Int} {q : Rat} (h0 : 0 < u) (e : Uq u q B) : (q.den : Int) ∣ u ∧ B = q.num * (u / q.den) := by
  have e1 := uq_div h0 e
  have d0 : (0 : Int) < q.den := by have := den_pos q; omega
  have eq2 : B * q.den = q.num * u := by
    have h1 := uq_self q
    unfold Uq at e h1
    have : ((B * q.den : Int) : Rat) = ((q.num * u : Int) : Rat) := by
      rw [Rat.intCast_mul, Rat.intCast_mul, ← e, ← h1]
      grind
    exact Rat.intCast_inj.mp this
  have dv : (q.den : Int) ∣ q.num * u := ⟨B, by rw [← eq2, Int.mul_comm]⟩
  have co : Nat.gcd q.den q.num.natAbs = 1 := by rw [Nat.gcd_comm]; exact q.reduced
  have d1 : (q.den : Int) ∣ u := by
    have : q.den ∣ q.num.natAbs * u.natAbs := by
      have := Int.natAbs_dvd_natAbs.mpr dv
      rwa [Int.natAbs_mul, Int.natAbs_natCast] at this
    have := Nat.Coprime.dvd_of_dvd_mul_left co this
    exact Int.natAbs_dvd_natAbs.mp (by rw [Int.natAbs_natCast]; exact this)
  refine ⟨d1, ?_⟩
  obtain ⟨k, hk⟩ := d1
  rw [hk, Int.mul_ediv_cancel_left _ (Int.ne_of_gt d0)]
  rw [hk] at eq2
  have : (q.den : Int) * B = q.den * (q.num * k) := by
    rw [Int.mul_comm, eq2]
    rw [← Int.mul_assoc, ← Int.mul_assoc, Int.mul_comm q.num q.den]
  exact Int.eq_of_mul_eq_mul_left (Int.ne_of_gt d0) this
theorem line_uniq {r : Row} {R B U : Int} (z : LineZ r R B U) : R = rowR r ∧ B = rowB r ∧ U = rowU r := by
  obtain ⟨d1, eR⟩ := uq_dvd z.u0 z.s
  obtain ⟨d2, eB⟩ := uq_dvd z.u0 z.b
  have l0 : 0 < Nat.lcm r.s.den r.base.den := Nat.lcm_pos (den_pos _) (den_pos _)
  have ld : Nat.lcm r.s.den r.base.den ∣ U.natAbs := Nat.lcm_dvd (by have := Int.natAbs_dvd_natAbs.mpr d1; rwa [Int.natAbs_natCast] at this) (by have := Int.natAbs_dvd_natAbs.mpr d2; rwa [Int.natAbs_natCast] at this)
  obtain ⟨k, hk⟩ := ld
  have eU : U = rowU r * (k : Int) := by
    have : (U.natAbs : Int) = U := by have := z.u0; omega
    rw [← this, hk, Int.natCast_mul]
    rfl
  have s1 : (r.s.den : Int) ∣ rowU r := Int.ofNat_dvd.mpr (Nat.dvd_lcm_left _ _)
  have b1 : (r.base.den : Int) ∣ rowU r := Int.ofNat_dvd.mpr (Nat.dvd_lcm_right _ _)
  have eR2 : R = rowR r * (k : Int) := by
    rw [eR, eU, Int.mul_comm (rowU r), Int.mul_ediv_assoc _ s1]
    unfold rowR
    rw [Int.mul_comm (k : Int), Int.mul_assoc]
  have eB2 : B = rowB r * (k : Int) := by
    rw [eB, eU, Int.mul_comm (rowU r), Int.mul_ediv_assoc _ b1]
    unfold rowB
    rw [Int.mul_comm (k : Int), Int.mul_assoc]
  have k1 : k = 1 := by
    have g := z.g
    rw [eR2, eB2, eU, Int.natAbs_mul, Int.natAbs_mul, Int.natAbs_mul, Int.natAbs_natCast] at g
    have : k ∣ 1 := by
      rw [← g]
      exact Nat.dvd_gcd (Nat.dvd_gcd (Nat.dvd_mul_left _ _) (Nat.dvd_mul_left _ _)) (Nat.dvd_mul_left _ _)
    exact Nat.dvd_one.mp this
  rw [k1] at eR2 eB2 eU
  exact ⟨by simpa using eR2, by simpa using eB2, by simpa using eU⟩
theorem lineZ_row (r : Row) : LineZ r (rowR r) (rowB r) (rowU r) := by
  obtain ⟨_, U0, gg, e1, e2⟩ := line_of (b := 0) (s := r.s) (P := r.base) (show (0 : Int) < r.base.den by have := den_pos r.base; omega) (uq_self r.base) rfl rfl rfl rfl
  have e2' := e2
  rw [show r.base - r.s * (0 : Rat) = r.base by grind] at e2'
  have z : LineZ r _ _ _ := ⟨U0, gg, e1, e2'⟩
  have u := line_uniq z
  rw [← u.1, ← u.2.1, ← u.2.2]
  exact z
end LR
set_option Elab.async false
set_option linter.all false
set_option maxRecDepth 100000
set_option maxHeartbeats 4000000
set_option exponentiation.threshold 100000
namespace LR
open PySem PySem.Spec PyProof.Rows L2 DL
section
variable {P : Program} {w : World} {K : PySem.W.Frag} {mg : Str → Option Value} {base : Heap}
/-! ### rows as data -/
def rowD (r : Row) : DL.D := .tup [rD r.b, rD r.s, .int (rowR r), .int (rowB r), .int (rowU r)]
def trackD (rs : List Row) : DL.D := .tup (rs.map rowD)
def sdPin : SpD := fun as Q _ => match as with
  | [.d x, .d y] => ∃ (r : Row) (t : Rat), x = rowD r ∧ y = rD t ∧ RowZ r ∧ Sz 300 t ∧ ∀ T u : Int, 0 < u → Uq u (r.at_ t) T → T.natAbs < 2 ^ 3300 → u.natAbs < 2 ^ 1900 → Q (.tup [.int T, .int u])
  | _ => False
theorem sdPin_len  (as Q E) (h : sdPin  as Q E) : as.length = 2 := by
  unfold sdPin at h
  split at h
  · rfl
  · exact h.elim

theorem up_ {n a b : Nat} (h : n < 2 ^ a) (l : a ≤ b := by decide) : n < 2 ^ b := Nat.lt_of_lt_of_le h (Nat.pow_le_pow_right (by decide) l)
theorem ok_pin {f fd} (D : DefAt K mg "position_in" s_position_in ["row", "time"] f fd) : DefD P w K mg base "position_in" 1 sdPin :=
  .mk1 D (fnD D.F sc_position_in sdPin_len fun cdv A outer s H E c hr b => ⟨_, (dss_cons (d_asg (d_var (pv 1)) (dg_tup rfl (dgs_cons (dg_name (pg_name (i := 2) sc_position_in.nd rfl (.inl rfl))) (dgs_cons (dg_name (pg_name (i := 3) sc_position_in.nd rfl (.inl rfl))) dgs_nil))))
      (dss_cons (d_asg (d_var (pv 0)) (dg_tup rfl (dgs_cons (dg_name (pg_name (i := 4) sc_position_in.nd rfl (.inl rfl))) (dgs_cons (dg_name (pg_name (i := 4) sc_position_in.nd rfl (.inl rfl))) (dgs_cons (dg_name (pg_name (i := 5) sc_position_in.nd rfl (.inl rfl))) (dgs_cons (dg_name (pg_name (i := 6) sc_position_in.nd rfl (.inl rfl))) (dgs_cons (dg_name (pg_name (i := 7) sc_position_in.nd rfl (.inl rfl))) dgs_nil)))))))
      (dss_one (d_ret (d_tup (da_cons (d_op od_addA (d_op od_mulA (d_var (pv 5)) (d_var (pv 2))) (d_op od_mulA (d_var (pv 6)) (d_var (pv 3)))) (da_cons (d_op od_mulA (d_var (pv 7)) (d_var (pv 3))) da_nil))))))), fun as Qd Ed h => by
    unfold sdPin at h
    split at h
    · obtain ⟨r, t, rfl, rfl, rz, zt, q⟩ := h
      have z := lineZ_row r
      obtain ⟨z1, z2, z3⟩ := z.sizes rz
      have zd := absden zt
      have h1 := absmul z2 zt.1
      have h2 := absmul z3 zd
      refine ⟨mu z2 zt.1, mu z3 zd, mu z1 zd, ?_⟩
      refine q _ _ (Int.mul_pos z.u0 (den0 t)) ?_ (up_ (absadd (a := 3200) (up_ h1) h2)) (up_ (absmul z1 zd))
      have h1 := uq_self t
      have h2 := z.s
      have h3 := z.b
      rw [r.at_eq]
      unfold Uq at *
      rw [Rat.intCast_add, Rat.intCast_mul, Rat.intCast_mul, Rat.intCast_mul, ← h1, ← h2, ← h3]
      grind
    · exact h.elim⟩)
/-! ### _line -/
def sdLine : SpD := fun as Q _ => match as with
  | [.d x, .d y, .d (.int T), .d (.int u)] => ∃ b s p : Rat, x = rD b ∧ y = rD s ∧ 0 < u ∧ Uq u p T ∧ Sz 100 b ∧ Sz 100 s ∧ T.natAbs < 2 ^ 3300 ∧ u.natAbs < 2 ^ 1900 ∧ Q (.tup [.int (rowR ⟨b, s, p⟩), .int (rowB ⟨b, s, p⟩), .int (rowU ⟨b, s, p⟩)])
  | _ => False
theorem sdLine_len  (as Q E) (h : sdLine  as Q E) : as.length = 4 := by
  unfold sdLine at h
  split at h
  · rfl
  · exact h.elim

theorem ok_line {f fd} (D : DefAt K mg "_line" s_line ["begin", "speed", "top", "bottom"] f fd) (m_gcd : mg "gcd" = some (.builtin "math.gcd")) : DefD P w K mg base "_line" 1 sdLine :=
  .mk1 D (fnD D.F sc_line sdLine_len fun cdv A outer s H E c hr b => ⟨_, (dss_cons (d_asg (d_var (pv 0)) (dg_tup rfl (dgs_cons (dg_name (pg_name (i := 4) sc_line.nd rfl (.inl rfl))) (dgs_cons (dg_name (pg_name (i := 5) sc_line.nd rfl (.inl rfl))) dgs_nil))))
      (dss_cons (d_asg (d_var (pv 1)) (dg_tup rfl (dgs_cons (dg_name (pg_name (i := 6) sc_line.nd rfl (.inl rfl))) (dgs_cons (dg_name (pg_name (i := 7) sc_line.nd rfl (.inl rfl))) dgs_nil))))
      (dss_cons (d_asg (d_op od_mulA (d_op od_mulA (d_var (pv 6)) (d_var (pv 5))) (d_var (pv 3))) (dg_name (pg_name (i := 8) sc_line.nd rfl (.inl rfl))))
      (dss_cons (d_asg (d_op od_sub (d_op od_mulA (d_op od_mulA (d_var (pv 2)) (d_var (pv 5))) (d_var (pv 7))) (d_op od_mulA (d_op od_mulA (d_var (pv 6)) (d_var (pv 4))) (d_var (pv 3)))) (dg_name (pg_name (i := 9) sc_line.nd rfl (.inl rfl))))
      (dss_cons (d_asg (d_op od_mulA (d_op od_mulA (d_var (pv 5)) (d_var (pv 7))) (d_var (pv 3))) (dg_name (pg_name (i := 10) sc_line.nd rfl (.inl rfl))))
      (dss_cons (d_asg (d_callBfun cd_gcd3 m_gcd (da_name (pv 8) (da_name (pv 9) (da_name (pv 10) da_nil)))) (dg_name (pg_name (i := 11) sc_line.nd rfl (.inl rfl))))
      (dss_one (d_ret (d_tup (da_cons (d_op od_div (d_var (pv 8)) (d_var (pv 11))) (da_cons (d_op od_div (d_var (pv 9)) (d_var (pv 11))) (da_cons (d_op od_div (d_var (pv 10)) (d_var (pv 11))) da_nil)))))))))))), fun as Qd Ed h => by
    unfold sdLine at h
    split at h
    · rename_i x y T u
      obtain ⟨b, s, p, rfl, rfl, u0, eP, zb, zs, zT, zu, q⟩ := h
      have zbd := absden zb
      have zsd := absden zs
      obtain ⟨g0, U0, gg, e1, e2⟩ := line_of (b := b) (s := s) u0 eP rfl rfl rfl rfl
      have zU : ((b.den : Int) * s.den * u).natAbs < 2 ^ 2100 := absmul (absmul zbd zsd) zu
      have zg : (((Nat.gcd (Nat.gcd (s.num * b.den * u).natAbs (T * b.den * s.den - s.num * b.num * u).natAbs) ((b.den : Int) * s.den * u).natAbs : Nat) : Int)).natAbs < 2 ^ 2100 := by
        rw [Int.natAbs_natCast]
        refine Nat.lt_of_le_of_lt (Nat.gcd_le_right _ ?_) zU
        have := Int.mul_pos (Int.mul_pos (den0 b) (den0 s)) u0
        omega
      have lz : LineZ ⟨b, s, p⟩ _ _ _ := ⟨U0, gg, e1, e2⟩
      obtain ⟨u1, u2, u3⟩ := line_uniq lz
      rw [← u1, ← u2, ← u3] at q
      have cg := dv (show _ ≠ (0 : Int) by omega) zg
      refine ⟨mu zs.1 zbd, mu (absmul zs.1 zbd) zu, ?_⟩
      refine ⟨mu zT zbd, mu (absmul zT zbd) zsd, mu zs.1 zb.1, mu (absmul zs.1 zb.1) zu, ?_⟩
      refine ⟨mu zbd zsd, mu (absmul zbd zsd) zu, ?_⟩
      exact ⟨cg, cg, cg, q⟩
    · exact h.elim⟩)
/-! ### place_in, laps_in -/
def sdPlc : SpD := fun as Q _ => match as with
  | [.d x, .d y, .d z] => ∃ (r : Row) (t l : Rat), x = rowD r ∧ y = rD t ∧ z = rD l ∧ RowZ r ∧ Sz 300 t ∧ 0 < l ∧ Sz 100 l ∧ Q (rD (rem (r.at_ t) l))
  | _ => False
theorem sdPlc_len  (as Q E) (h : sdPlc  as Q E) : as.length = 3 := by
  unfold sdPlc at h
  split at h
  · rfl
  · exact h.elim

theorem ok_plc {f fd} (D : DefAt K mg "place_in" s_place_in ["row", "time", "length"] f fd) (Gposition_in : DefD P w K mg base "position_in" 1 sdPin) (Greduced : DefD P w K mg base "reduced" 1 sdRed) : DefD P w K mg base "place_in" 2 sdPlc :=
  .mk1 D (fnD D.F sc_place_in sdPlc_len fun cdv A outer s H E c hr b => ⟨_, (dss_cons (d_asg (d_cN Gposition_in (hr.mono (by decide)) (da_name (pv 0) (da_name (pv 1) da_nil))) (dg_tup rfl (dgs_cons (dg_name (pg_name (i := 3) sc_place_in.nd rfl (.inl rfl))) (dgs_cons (dg_name (pg_name (i := 4) sc_place_in.nd rfl (.inl rfl))) dgs_nil))))
      (dss_cons (d_asg (d_var (pv 2)) (dg_tup rfl (dgs_cons (dg_name (pg_name (i := 5) sc_place_in.nd rfl (.inl rfl))) (dgs_cons (dg_name (pg_name (i := 6) sc_place_in.nd rfl (.inl rfl))) dgs_nil))))
      (dss_one (d_ret (d_cN Greduced (hr.mono (by decide)) (da_cons (d_op od_mod (d_op od_mulA (d_var (pv 3)) (d_var (pv 6))) (d_op od_mulA (d_var (pv 5)) (d_var (pv 4)))) (da_cons (d_op od_mulA (d_var (pv 4)) (d_var (pv 6))) da_nil))))))), fun as Qd Ed h => by
    unfold sdPlc at h
    split at h
    · obtain ⟨r, t, l, rfl, rfl, rfl, rz, zt, l0, zl, q⟩ := h
      refine ⟨r, t, rfl, rfl, rz, zt, fun T u u0 eT zT zu => ?_⟩
      have n0 := pos_num l0
      have m0 : 0 < l.num * u := Int.mul_pos n0 u0
      have zld := absden zl
      have md := fmod_in (x := T * l.den) m0
      have zm : (l.num * u).natAbs < 2 ^ 2000 := absmul zl.1 zu
      refine ⟨mu zT zld, mu zl.1 zu, Int.ne_of_gt m0, ?_⟩
      refine ⟨mu zu zld, Int.mul_pos u0 (den0 l), lt8 (a := 2000) (show _ < _ by omega), lt8 (absmul zu zld), ?_⟩
      have e : (T * (l.den : Int)).fmod (l.num * u) = (T * (l.den : Int)) % (l.num * u) := Int.fmod_eq_emod_of_nonneg _ (Int.le_of_lt m0)
      rw [e, ← rem_of_uq u0 eT l0]
      exact q
    · exact h.elim⟩)
/-! ### row_at -/
def sdRA : SpD := fun as Q _ => match as with
  | [.d x, .d y] => ∃ (r0 : Row) (rs : List Row) (t : Rat), x = trackD (r0 :: rs) ∧ y = rD t ∧ (∀ r ∈ r0 :: rs, Sz 100 r.b) ∧ Sz 300 t ∧ rs.length < 60 ∧ Q (rowD (rowGo t r0 (r0 :: rs)))
  | _ => False
theorem sdRA_len  (as Q E) (h : sdRA  as Q E) : as.length = 2 := by
  unfold sdRA at h
  split at h
  · rfl
  · exact h.elim

theorem track_get {rs : List Row} {i : Nat} {d : DL.D} (h : (rs.map rowD)[i]? = some d) : ∃ r, rs[i]? = some r ∧ d = rowD r := by
  rw [List.getElem?_map] at h
  obtain ⟨r, a, b⟩ := Option.map_eq_some_iff.mp h
  exact ⟨r, a, b.symm⟩
theorem at0 {α : Type} (x : α) (xs : List α) : atI (x :: xs) (0 : Int) = some x := by
  simp [atI, ixN]
theorem last_at {α : Type} {xs : List α} {n : Nat} {v : α} (hl : xs.length = n + 1) (h : xs[n]? = some v) : atI xs (-1) = some v := by
  unfold atI ixN
  rw [if_neg (by decide), if_pos (by omega)]
  have e : (-1 + (xs.length : Int)).toNat = n := by omega
  rw [e]
  exact h
theorem ix0 {x : DL.D} {xs : List DL.D} {Q : QD} (h : Q x) : rIxDD (.tup (x :: xs)) (.int 0) Q := by
  show (match atI (x :: xs) (0 : Int) with
    | some d => Q d
    | none => False)
  rw [at0]
  exact h
theorem ixL {x : DL.D} {xs : List DL.D} {n : Nat} {Q : QD} (hl : xs.length = n + 1) (hx : xs[n]? = some x) (h : Q x) : rIxDD (.lst xs) (.int (-1)) Q := by
  show (match atI xs (-1 : Int) with
    | some d => Q d
    | none => False)
  rw [last_at hl hx]
  exact h
theorem ok_ra {f fd} (D : DefAt K mg "row_at" s_row_at ["track", "time"] f fd) : DefD P w K mg base "row_at" 1 sdRA :=
  .mk1 D (fnD D.F sc_row_at sdRA_len fun cdv A outer s H E c hr b => ⟨_, (dss_cons (d_asg (d_var (pv 1)) (dg_tup rfl (dgs_cons (dg_name (pg_name (i := 2) sc_row_at.nd rfl (.inl rfl))) (dgs_cons (dg_name (pg_name (i := 3) sc_row_at.nd rfl (.inl rfl))) dgs_nil))))
      (dss_cons (d_asg (d_ix ixd (d_var (pv 0)) d_int) (dg_name (pg_name (i := 4) sc_row_at.nd rfl (.inl rfl))))
      (dss_cons (d_for (passes_of rfl) rfl (di_seq (d_var (pv 0))) (dg_name (pg_name (i := 5) sc_row_at.nd rfl (.inl rfl)))
      (dss_cons (d_asg (d_ix ixd (d_var (pv 5)) d_int) (dg_tup rfl (dgs_cons (dg_name (pg_name (i := 6) sc_row_at.nd rfl (.inl rfl))) (dgs_cons (dg_name (pg_name (i := 7) sc_row_at.nd rfl (.inl rfl))) dgs_nil))))
      (dss_cons (d_ifS (dt_cmp od_gt (d_op od_mulA (d_var (pv 6)) (d_var (pv 3))) (d_op od_mulA (d_var (pv 2)) (d_var (pv 7))))
      (dss_one d_break)
      dss_nil)
      (dss_one (d_asg (d_var (pv 5)) (dg_name (pg_name (i := 4) sc_row_at.nd rfl (.inl rfl))))))))
      (dss_one (d_ret (d_var (pv 4))))))), fun as Qd Ed h => by
    unfold sdRA at h
    split at h
    · obtain ⟨r0, rs, t, rfl, rfl, hz, zt, few, q⟩ := h
      refine (ix0 (x := rowD r0) (xs := rs.map rowD) ?_ : rIxDD (.tup (rowD r0 :: rs.map rowD)) (.int 0) _)
      refine ⟨fun i ss => ∃ (g : Row) (o5 o6 o7 : Sl), ss = [.d (trackD (r0 :: rs)), .d (rD t), .d (.int t.num), .d (.int t.den), .d (rowD g), o5, o6, o7] ∧ rowGo t r0 (r0 :: rs) = rowGo t g ((r0 :: rs).drop i), ⟨r0, _, _, _, rfl, rfl⟩, ?_, ?_⟩
      · rintro i d _ hd ⟨g, o5, o6, o7, rfl, eg⟩
        obtain ⟨r, hr, rfl⟩ := track_get hd
        have zb := hz r (List.mem_of_getElem? hr)
        have hdrop : (r0 :: rs).drop i = r :: (r0 :: rs).drop (i + 1) := List.drop_eq_getElem?_toList_append ▸ by rw [hr]; rfl
        rw [hdrop] at eg
        refine ⟨mu zb.1 (absden zt), mu zt.1 (absden zb), ifD (fun c => ?_) (fun c => ?_)⟩
        · have lt : t < r.b := (lt_iff t r.b).mpr c
          have e2 : rowGo t g (r :: (r0 :: rs).drop (i + 1)) = g := by
            show (if t < r.b then g else _) = g
            rw [if_pos lt]
          rw [eg, e2] at q
          exact q
        · have nlt : ¬ t < r.b := fun z => c ((lt_iff t r.b).mp z)
          have e2 : rowGo t g (r :: (r0 :: rs).drop (i + 1)) = rowGo t r ((r0 :: rs).drop (i + 1)) := by
            show (if t < r.b then g else _) = _
            rw [if_neg nlt]
          exact ⟨r, _, _, _, rfl, eg.trans e2⟩
      · rintro _ ⟨g, o5, o6, o7, rfl, eg⟩
        rw [List.length_map, List.drop_length] at eg
        rw [eg] at q
        exact q
    · exact h.elim⟩)
/-! ### track_of -/
def pieceD (c : Rat × Rat) : DL.D := .tup [rD c.1, rD c.2]
def sdTo : SpD := fun as Q _ => match as with
  | [.d x, .d (.lst ds)] => ∃ (s0 : Rat) (c : Rat × Rat) (cs : List (Rat × Rat)), x = rD s0 ∧ ds = (c :: cs).map pieceD ∧ Sz 300 s0 ∧ (∀ r ∈ trackGo ⟨c.1, c.2, s0⟩ cs, RowZ r) ∧ cs.length < 60 ∧ (∀ d ∈ cs, Sz 300 d.1) ∧ Q (trackD (trackGo ⟨c.1, c.2, s0⟩ cs))
  | _ => False
theorem sdTo_len  (as Q E) (h : sdTo  as Q E) : as.length = 2 := by
  unfold sdTo at h
  split at h
  · rfl
  · exact h.elim

theorem ok_to {f fd} (D : DefAt K mg "track_of" s_track_of ["start", "pieces"] f fd) (m_tuple : mg "tuple" = none) (Gposition_in : DefD P w K mg base "position_in" 1 sdPin) (G_line : DefD P w K mg base "_line" 1 sdLine) : DefD P w K mg base "track_of" 2 sdTo :=
  .mk1 D (fnD D.F sc_track_of sdTo_len fun cdv A outer s H E c hr b => ⟨_, (dss_cons (d_asg (d_var (pv 0)) (dg_tup rfl (dgs_cons (dg_name (pg_name (i := 2) sc_track_of.nd rfl (.inl rfl))) (dgs_cons (dg_name (pg_name (i := 3) sc_track_of.nd rfl (.inl rfl))) dgs_nil))))
      (dss_cons (d_setO (i := 4) sc_track_of.nd rfl (.inl rfl) (do_lst da_nil))
      (dss_cons (d_for (passes_of rfl) rfl (di_seq (d_var (pv 1))) (dg_tup rfl (dgs_cons (dg_name (pg_name (i := 5) sc_track_of.nd rfl (.inl rfl))) (dgs_cons (dg_name (pg_name (i := 6) sc_track_of.nd rfl (.inl rfl))) dgs_nil)))
      (dss_cut (d_ifS (dt_own (pv 4))
      (dss_one (d_asg (d_cN Gposition_in (hr.mono (by decide)) (da_cons (d_ixOwn (pv 4) (d_un ud_neg d_int)) (da_name (pv 5) da_nil))) (dg_tup rfl (dgs_cons (dg_name (pg_name (i := 2) sc_track_of.nd rfl (.inl rfl))) (dgs_cons (dg_name (pg_name (i := 3) sc_track_of.nd rfl (.inl rfl))) dgs_nil)))))
      dss_nil)
      (dss_one (d_append (pv 4) (d_tup (da_name (pv 5) (da_name (pv 6) (da_star (d_cN G_line (hr.mono (by decide)) (da_name (pv 5) (da_name (pv 6) (da_name (pv 2) (da_name (pv 3) da_nil))))) da_nil))))))))
      (dss_pub 4 (dss_one (d_ret (d_callTy cd_tuple m_tuple (da_name (pv 4) da_nil)))))))), fun as Qd Ed h => by
    unfold sdTo at h
    split at h
    · obtain ⟨s0, c, cs, rfl, rfl, z0, hz, few, hb, q⟩ := h
      intro p
      refine ⟨fun i ss => ∃ (T u : Int) (o5 o6 : Sl), ss = [.d (rD s0), .d (.lst ((c :: cs).map pieceD)), .d (.int T), .d (.int u), .own p (((trackGo ⟨c.1, c.2, s0⟩ cs).take i).map rowD), o5, o6] ∧ (i = 0 → T = s0.num ∧ u = s0.den), ⟨s0.num, s0.den, _, _, rfl, fun _ => ⟨rfl, rfl⟩⟩, ?_, ?_⟩
      · rintro i d _ hd ⟨T, u, o5, o6, rfl, first⟩
        obtain ⟨d, hc, rfl⟩ : ∃ e, (c :: cs)[i]? = some e ∧ d = pieceD e := by
          rw [List.getElem?_map] at hd
          obtain ⟨e, a, b⟩ := Option.map_eq_some_iff.mp hd
          exact ⟨e, a, b.symm⟩
        have il : i < cs.length + 1 := by have := (List.getElem?_eq_some_iff.mp hc).1; simpa using this
        -- the row that is made now
        obtain ⟨r, hr', eb, es⟩ : ∃ r, (trackGo ⟨c.1, c.2, s0⟩ cs)[i]? = some r ∧ r.b = d.1 ∧ r.s = d.2 := by
          cases i with
          | zero =>
            have : c = d := by simpa using hc
            subst this
            exact ⟨_, trackGo_zero _ _, rfl, rfl⟩
          | succ i =>
            have hd' : cs[i]? = some d := by simpa using hc
            have hi : i < (trackGo ⟨c.1, c.2, s0⟩ cs).length := by
              rw [trackGo_len]
              have := (List.getElem?_eq_some_iff.mp hd').1
              omega
            exact ⟨_, trackGo_succ hd' (List.getElem?_eq_getElem hi), rfl, rfl⟩
        have rz := hz r (List.mem_of_getElem? hr')
        have take1 : (trackGo ⟨c.1, c.2, s0⟩ cs).take (i + 1) = (trackGo ⟨c.1, c.2, s0⟩ cs).take i ++ [r] := by rw [List.take_add_one, hr']; rfl
        refine ⟨fun ss => ∃ T u : Int, ss = [.d (rD s0), .d (.lst ((c :: cs).map pieceD)), .d (.int T), .d (.int u), .own p (((trackGo ⟨c.1, c.2, s0⟩ cs).take i).map rowD), .d (rD d.1), .d (rD d.2)] ∧ 0 < u ∧ Uq u r.p T ∧ T.natAbs < 2 ^ 3300 ∧ u.natAbs < 2 ^ 1900, ?_, ?_⟩
        · cases i with
          | zero =>
            obtain ⟨rfl, rfl⟩ := first rfl
            have e2 : r = ⟨c.1, c.2, s0⟩ := by
              rw [trackGo_zero] at hr'
              exact (Option.some.inj hr').symm
            refine ⟨s0.num, (s0.den : Int), rfl, den0 s0, ?_, up_ z0.1, ?_⟩
            · rw [e2]
              exact uq_self s0
            · rw [Int.natAbs_natCast]
              exact up_ z0.2
          | succ i =>
            have hi : i < (trackGo ⟨c.1, c.2, s0⟩ cs).length := by
              have := (List.getElem?_eq_some_iff.mp hr').1
              omega
            have hprev := List.getElem?_eq_getElem hi
            have hd' : cs[i]? = some d := by simpa using hc
            have er : r = nextRow (trackGo ⟨c.1, c.2, s0⟩ cs)[i] d := Option.some.inj (hr'.symm.trans (trackGo_succ hd' hprev))
            have ll : (((trackGo ⟨c.1, c.2, s0⟩ cs).take (i + 1)).map rowD).length = i + 1 := by
              rw [List.length_map, List.length_take]
              omega
            have lx : (((trackGo ⟨c.1, c.2, s0⟩ cs).take (i + 1)).map rowD)[i]? = some (rowD (trackGo ⟨c.1, c.2, s0⟩ cs)[i]) := by
              rw [List.getElem?_map, List.getElem?_take_of_lt (by omega), hprev]
              rfl
            refine ifB (fun _ => ?_) (fun z => ?_)
            · refine (ixL ll lx ?_ : rIxDD (.lst (((trackGo ⟨c.1, c.2, s0⟩ cs).take (i + 1)).map rowD)) (.int (-1)) _)
              refine ⟨(trackGo ⟨c.1, c.2, s0⟩ cs)[i], d.1, rfl, rfl, hz _ (List.getElem_mem hi), ?_, fun T u u0 eT zT zu => ⟨T, u, rfl, u0, ?_, zT, zu⟩⟩
              · have := rz.b
                rw [eb] at this
                exact this.mono (by decide)
              · rw [er]
                exact eT
            · exfalso
              generalize (((trackGo ⟨c.1, c.2, s0⟩ cs).take (i + 1)).map rowD) = l at ll z
              cases l with
              | nil => cases ll
              | cons _ _ => cases z
        · rintro _ ⟨T, u, rfl, u0, eP, zT, zu⟩
          have er : (⟨d.1, d.2, r.p⟩ : Row) = r := by rw [← eb, ← es]
          have zb := rz.b
          have zs := rz.s
          rw [eb] at zb
          rw [es] at zs
          refine ⟨d.1, d.2, r.p, rfl, rfl, u0, eP, zb, zs, zT, zu, ?_⟩
          refine ⟨?_, T, u, .d (rD d.1), .d (rD d.2), ?_, fun z => by omega⟩
          · rw [List.length_map, List.length_take]
            have : 64 < sizeLine := by decide
            omega
          · have e3 : rowD ⟨d.1, d.2, r.p⟩ = rowD r := by rw [er]
            rw [take1, List.map_append]
            show _ = [_, _, _, _, Sl.own p (_ ++ [rowD r]), _, _]
            rw [← e3]
            rfl
      · rintro _ ⟨T, u, o5, o6, rfl, _⟩
        have e : ((trackGo ⟨c.1, c.2, s0⟩ cs).take ((c :: cs).map pieceD).length) = trackGo ⟨c.1, c.2, s0⟩ cs := List.take_of_length_le (by rw [trackGo_len, List.length_map]; exact Nat.le_refl _)
        show Qd (.tup (((trackGo ⟨c.1, c.2, s0⟩ cs).take ((c :: cs).map pieceD).length).map rowD))
        rw [e]
        exact q
    · exact h.elim⟩)
end
end LR
set_option Elab.async false
set_option linter.all false
set_option maxRecDepth 100000
set_option maxHeartbeats 4000000
set_option exponentiation.threshold 100000
namespace LR
open PySem PySem.Spec PyProof.Rows L2 DL
section
variable {P : Program} {w : World} {K : PySem.W.Frag} {mg : Str → Option Value} {base : Heap}
/-! ### names -/
structure NameOk (z : Str) : Prop where
  l1 : 1 ≤ z.length
  l8 : z.length ≤ 8
  as : Txt.isascii z = true
  an : Txt.isalnum z = true
  lo : Txt.islower z = true
  al : ∃ c, z.cps.toList[0]? = some c ∧ Txt.isalpha ⟨#[c]⟩ = true
def sdNam : SpD := fun as Q _ => match as with
  | [.d (.str z)] => NameOk z ∧ Q (.bl true)
  | _ => False
theorem sdNam_len  (as Q E) (h : sdNam  as Q E) : as.length = 1 := by
  unfold sdNam at h
  split at h
  · rfl
  · exact h.elim

theorem ok_nam {f fd tm} (D : DefAt K mg "is_name" s_is_name ["value"] f fd) (m_MOST_LETTERS : mg "MOST_LETTERS" = some (.int 8 tm)) (m_isinstance : mg "isinstance" = none) (m_str : mg "str" = none) (m_len : mg "len" = none) : DefD P w K mg base "is_name" 1 sdNam :=
  .mk1 D (fnD D.F sc_is_name sdNam_len fun cdv A outer s H E c hr b => ⟨_, (dss_cons (d_ifS (PW.pt (dw_or (dt_not (dt_val (d_callB cd_isi m_isinstance (da_name (pv 0) (da_cons (d_ty .str m_str) da_nil))))) (dw_or1 (dt_not (dt_chain od_le od_le d_int (d_callB cd_len m_len (da_name (pv 0) da_nil)) (d_gint m_MOST_LETTERS))))))
      (dss_one (d_ret d_bl))
      dss_nil)
      (dss_one (d_ret (d_and (d_strM (g := Txt.isascii) PySem.F.slot_str_isascii PySem.F.type_str_isascii mt_isascii (d_var (pv 0))) (d_and (d_strM (g := Txt.isalnum) PySem.F.slot_str_isalnum PySem.F.type_str_isalnum mt_isalnum (d_var (pv 0))) (d_and (d_strM (g := Txt.islower) PySem.F.slot_str_islower PySem.F.type_str_islower mt_islower (d_var (pv 0))) (d_one (d_strM (g := Txt.isalpha) PySem.F.slot_str_isalpha PySem.F.type_str_isalpha mt_isalpha (d_ix ixS (d_var (pv 0)) d_int))))))))), fun as Qd Ed h => by
    unfold sdNam at h
    split at h
    · rename_i z
      obtain ⟨⟨l1, l8, as, an, lo, ch, hc, al⟩, q⟩ := h
      have zs : z.length ≤ sizeLine := Nat.le_trans l8 (by decide)
      refine ⟨zs, ?_⟩
      have c1 : decide ((1 : Int) ≤ (z.length : Int)) = true := decide_eq_true (by omega)
      have c2 : decide ((z.length : Int) ≤ 8) = true := decide_eq_true (by omega)
      refine ifB (fun _ => ?_) (fun e => nomatch e.symm.trans c1)
      refine ifB (fun e => nomatch e.symm.trans (congrArg not c2)) (fun _ => ?_)
      refine ifB (fun _ => ?_) (fun e => nomatch e.symm.trans as)
      refine ifB (fun _ => ?_) (fun e => nomatch e.symm.trans an)
      refine ifB (fun _ => ?_) (fun e => nomatch e.symm.trans lo)
      refine ⟨zs, ch, ?_, ?_⟩
      · show atI z.cps.toList ((0 : Nat) : Int) = some ch
        exact atI_nat hc
      · show Qd (.bl (Txt.isalpha ⟨#[ch]⟩))
        rw [al]
        exact q
    · exact h.elim⟩)
/-! ### all of what is true -/
theorem bools_true : ∀ l : List DL.D, boolL (l.flatMap fun _ => [.bl true]) = some (List.replicate l.length true)
  | [] => rfl
  | d :: l => by
    show boolL (.bl true :: l.flatMap fun _ => [DL.D.bl true]) = _
    have ih := bools_true l
    simp only [boolL, ih]
    rfl
theorem all_true {Q : QD} {l : List DL.D} (q : Q (.bl true)) : rAllD (fun ns => ns.all id) [.lst (l.flatMap fun _ => [.bl true])] Q := by
  refine ⟨_, bools_true l, ?_⟩
  have e : (List.replicate l.length true).all id = true := by simp
  show Q (.bl ((List.replicate l.length true).all id))
  rw [e]
  exact q
/-! ### _is_runner -/
def sdIsRn : SpD := fun as Q _ => match as with
  | [.d (.tup [q, .lst ps])] => 1 ≤ ps.length ∧ ps.length ≤ 20 ∧ (∀ d ∈ ps, ∃ a b, d = .tup [a, b]) ∧ Q (.bl true)
  | _ => False
theorem sdIsRn_len  (as Q E) (h : sdIsRn  as Q E) : as.length = 1 := by
  unfold sdIsRn at h
  split at h
  · rfl
  · exact h.elim

theorem ok_isrn {f fd tm} (D : DefAt K mg "_is_runner" s_is_runner ["value"] f fd) (m_MOST_PIECES : mg "MOST_PIECES" = some (.int 20 tm)) (m_isinstance : mg "isinstance" = none) (m_tuple : mg "tuple" = none) (m_list : mg "list" = none) (m_len : mg "len" = none) (m_all : mg "all" = none) : DefD P w K mg base "_is_runner" 1 sdIsRn :=
  .mk1 D (fnD D.F sc_is_runner sdIsRn_len fun cdv A outer s H E c hr b => ⟨_, (dss_cons (d_ifS (PW.pt (dw_or (dt_not (dt_val (d_callB cd_isi m_isinstance (da_name (pv 0) (da_cons (d_ty .tup m_tuple) da_nil))))) (dw_or1 (dt_cmp (od_ne hr.units) (d_callB cd_len m_len (da_name (pv 0) da_nil)) d_int))))
      (dss_one (d_ret d_bl))
      dss_nil)
      (dss_cons (d_asg (d_ix ixd (d_var (pv 0)) d_int) (dg_name (pg_name (i := 1) sc_is_runner.nd rfl (.inl rfl))))
      (dss_cons (d_ifS (PW.pt (dw_or (dt_not (dt_val (d_isiT m_isinstance (d_var (pv 1)) (.cons (n := .lst) (pe_bltn (v := .ty (Ty7.name .lst)) (by rfl) m_list (by decide +kernel) rfl) (.cons (n := .tup) (pe_bltn (v := .ty (Ty7.name .tup)) (by rfl) m_tuple (by decide +kernel) rfl) .nil rfl) rfl)))) (dw_or1 (dt_not (dt_chain od_le od_le d_int (d_callB cd_len m_len (da_name (pv 1) da_nil)) (d_gint m_MOST_PIECES))))))
      (dss_one (d_ret d_bl))
      dss_nil)
      (dss_one (d_ret (d_callB (cd_all rfl) m_all (da_cons (d_ofO (do_lc (own := [("piece", 2)]) (p := .n 2) rfl sc_is_runner.nd (di_seq (d_var (pv 1))) (blkOk_by (N := N_is_runner) (sc := defScope s_is_runner) (by decide +kernel)) (fun _ _ _ _ _ => (dg_name (pg_name (i := 2) sc_is_runner.nd rfl (.inl rfl)))) (fun _ _ _ _ _ => dts_nil) (fun _ _ _ _ _ => (d_and (d_callB cd_isi m_isinstance (da_name (pv 2) (da_cons (d_ty .tup m_tuple) da_nil))) (d_one (d_cmp (od_eq hr.units) (d_callB cd_len m_len (da_name (pv 2) da_nil)) d_int)))))) da_nil))))))), fun as Qd Ed h => by
    unfold sdIsRn at h
    split at h
    · rename_i q0 ps
      obtain ⟨l1, l2, two, q⟩ := h
      have c1 : decide ((1 : Int) ≤ (ps.length : Int)) = true := decide_eq_true (by omega)
      have c2 : decide ((ps.length : Int) ≤ 20) = true := decide_eq_true (by omega)
      refine ifB (fun _ => ?_) (fun e => nomatch e.symm.trans c1)
      refine ifB (fun e => nomatch e.symm.trans (congrArg not c2)) (fun _ => ?_)
      refine lc_by (fun _ => [.bl true]) (by omega) (fun d hd acc J j => ?_) (all_true q)
      obtain ⟨x, y, rfl⟩ := two d hd
      exact j
    · exact h.elim⟩)
/-! ### _are_ascending -/
def sdAsc : SpD := fun as Q _ => match as with
  | [.d (.lst ds)] => ∃ (t : Rat) (ts : List Rat), ds = (t :: ts).map rD ∧ t = 0 ∧ (t :: ts).Pairwise (· < ·) ∧ ts.length < 60 ∧ (∀ z ∈ t :: ts, Sz 100 z) ∧ Q (.bl true)
  | _ => False
theorem sdAsc_len  (as Q E) (h : sdAsc  as Q E) : as.length = 1 := by
  unfold sdAsc at h
  split at h
  · rfl
  · exact h.elim

theorem ok_asc {f fd} (D : DefAt K mg "_are_ascending" s_are_ascending ["begins"] f fd) (m_all : mg "all" = none) (m_zip : mg "zip" = none) : DefD P w K mg base "_are_ascending" 1 sdAsc :=
  .mk1 D (fnD D.F sc_are_ascending sdAsc_len fun cdv A outer s H E c hr b => ⟨_, (dss_cons (d_ifS (dt_cmp (od_ne hr.units) (d_ix ixd (d_var (pv 0)) d_int) (d_tup (da_cons d_int (da_cons d_int da_nil))))
      (dss_one (d_ret d_bl))
      dss_nil)
      (dss_one (d_ret (d_callB (cd_all rfl) m_all (da_cons (d_ofO (do_lc (own := [("one", 1), ("two", 2)]) (p := .t [.n 1, .n 2]) rfl sc_are_ascending.nd (di_zipM m_zip (da_name (pv 0) (da_cons (d_slice (d_var (pv 0)) (dp_some d_int) dp_none) da_nil))) (blkOk_by (N := N_are_ascending) (sc := defScope s_are_ascending) (by decide +kernel)) (fun _ _ _ _ _ => (dg_tup rfl (dgs_cons (dg_name (pg_name (i := 1) sc_are_ascending.nd rfl (.inl rfl))) (dgs_cons (dg_name (pg_name (i := 2) sc_are_ascending.nd rfl (.inl rfl))) dgs_nil)))) (fun _ _ _ _ _ => dts_nil) (fun _ _ _ _ _ => (d_cmp od_lt (d_op od_mulA (d_ix ixd (d_var (pv 1)) d_int) (d_ix ixd (d_var (pv 2)) d_int)) (d_op od_mulA (d_ix ixd (d_var (pv 2)) d_int) (d_ix ixd (d_var (pv 1)) d_int)))))) da_nil))))), fun as Qd Ed h => by
    unfold sdAsc at h
    split at h
    · obtain ⟨t, ts, rfl, rfl, pw, hl, hz, q⟩ := h
      have ct : DL.cutD (((0 : Rat) :: ts).map rD) (some 1) none = ts.map rD := by
        have e : HT.sIx (((0 : Rat) :: ts).map rD).length 0 (some 1) = 1 := by
          rw [show (some 1 : Option Int) = some ((1 : Nat) : Int) from rfl, HT.sIx_nat]
          simp
        unfold DL.cutD
        rw [e, HT.sIx_none]
        simp
        exact List.take_of_length_le (by simp)
      refine (ix0 (x := rD 0) (xs := ts.map rD) ?_ : rIxDD (.lst (rD 0 :: ts.map rD)) (.int 0) _)
      refine ⟨_, _, rfl, rfl, by rfl, by rfl, ?_⟩
      refine ifB (fun e => nomatch e) (fun _ => ?_)
      refine lc_by (fun _ => [.bl true]) ?_ (fun d hd acc J j => ?_) (all_true q)
      · rw [ct, zipD_len, List.length_map, List.length_map]
        have := Nat.min_le_right ((0 : Rat) :: ts).length ts.length
        omega
      · rw [ct] at hd
        obtain ⟨i, hi⟩ := List.getElem?_of_mem hd
        obtain ⟨x, y, hx, hy, rfl⟩ := zipD_get hi
        rw [List.getElem?_map] at hx hy
        obtain ⟨p1, h1, rfl⟩ := Option.map_eq_some_iff.mp hx
        obtain ⟨p2, h2, rfl⟩ := Option.map_eq_some_iff.mp hy
        have h2' : ((0 : Rat) :: ts)[i + 1]? = some p2 := by simpa using h2
        have lt : p1 < p2 := by
          obtain ⟨l1, e1⟩ := List.getElem?_eq_some_iff.mp h1
          obtain ⟨l2, e2⟩ := List.getElem?_eq_some_iff.mp h2'
          rw [← e1, ← e2]
          exact List.pairwise_iff_getElem.mp pw i (i + 1) l1 l2 (Nat.lt_succ_self i)
        have z1 := hz p1 (List.mem_of_getElem? h1)
        have z2 := hz p2 (List.mem_of_getElem? h2')
        refine ⟨mu z1.1 (absden z2), mu z2.1 (absden z1), ?_⟩
        have e : decide (p1.num * (p2.den : Int) < p2.num * (p1.den : Int)) = true := decide_eq_true ((lt_iff p1 p2).mp lt)
        show J (acc ++ [.bl (decide (p1.num * (p2.den : Int) < p2.num * (p1.den : Int)))])
        rw [e]
        exact j
    · exact h.elim⟩)
end
end LR
set_option Elab.async false
set_option linter.all false
set_option maxRecDepth 100000
set_option maxHeartbeats 4000000
set_option exponentiation.threshold 100000
namespace LR
open PySem PySem.Spec PyProof.Rows L2 DL
section
variable {P : Program} {w : World} {K : PySem.W.Frag} {mg : Str → Option Value} {base : Heap}
def A2 {α β : Type} (R : α → β → Prop) : List α → List β → Prop
  | [], [] => True
  | x :: xs, y :: ys => R x y ∧ A2 R xs ys
  | _, _ => False
theorem A2.len {α β : Type} {R : α → β → Prop} : ∀ {xs : List α} {ys : List β}, A2 R xs ys → xs.length = ys.length
  | [], [], _ => rfl
  | _ :: _, _ :: _, h => congrArg Nat.succ (A2.len h.2)
  | [], _ :: _, h => h.elim
  | _ :: _, [], h => h.elim
theorem A2.mem {α β : Type} {R : α → β → Prop} : ∀ {xs : List α} {ys : List β} {x : α}, A2 R xs ys → x ∈ xs → ∃ y ∈ ys, R x y
  | x :: xs, y :: ys, z, h, m => by
    rcases List.mem_cons.mp m with rfl | m
    · exact ⟨y, List.mem_cons_self, h.1⟩
    · obtain ⟨u, a, b⟩ := A2.mem h.2 m
      exact ⟨u, List.mem_cons_of_mem _ a, b⟩
  | [], _, _, _, m => by cases m
  | _ :: _, [], _, h, _ => h.elim
theorem A2.get {α β : Type} {R : α → β → Prop} : ∀ {xs : List α} {ys : List β} {i : Nat} {x : α}, A2 R xs ys → xs[i]? = some x → ∃ y, ys[i]? = some y ∧ R x y
  | x :: xs, y :: ys, 0, z, h, m => by
    have : x = z := by simpa using m
    exact ⟨y, rfl, this ▸ h.1⟩
  | x :: xs, y :: ys, i + 1, z, h, m => by
    obtain ⟨u, a, b⟩ := A2.get (i := i) (x := z) h.2 (by simpa using m)
    exact ⟨u, by simpa using a, b⟩
  | [], _, _, _, _, m => by simp at m
  | _ :: _, [], _, _, h, _ => h.elim
theorem A2.map {α β γ : Type} {R : α → β → Prop} {f : α → γ} {g : β → γ} (e : ∀ x y, R x y → f x = g y) : ∀ {xs : List α} {ys : List β}, A2 R xs ys → xs.map f = ys.map g
  | [], [], _ => rfl
  | x :: xs, y :: ys, h => by rw [List.map_cons, List.map_cons, e x y h.1, A2.map e h.2]
  | [], _ :: _, h => h.elim
  | _ :: _, [], h => h.elim
/-! ### runners as data -/
def PcD (d : DL.D) (c : Rat × Rat) : Prop := ∃ t s, d = .tup [t, s] ∧ KN t ∧ KN s ∧ ratD t = some c.1 ∧ ratD s = some c.2
def RunD (x : DL.D) (q : Rat) (cs : List (Rat × Rat)) : Prop := ∃ qd ps, x = .tup [qd, .lst ps] ∧ KN qd ∧ ratD qd = some q ∧ A2 PcD ps cs
def pcF : DL.D → DL.D
  | .tup [t, s] => .tup [rD ((ratD t).getD 0), rD ((ratD s).getD 0)]
  | _ => .non
theorem pcF_eq {d : DL.D} {c : Rat × Rat} (h : PcD d c) : pcF d = pieceD c := by
  obtain ⟨t, s, rfl, _, _, e1, e2⟩ := h
  show DL.D.tup [rD ((ratD t).getD 0), rD ((ratD s).getD 0)] = _
  rw [e1, e2]
  rfl
def fstF : DL.D → DL.D
  | .tup [t, _] => t
  | _ => .non
theorem flat_map {f : DL.D → DL.D} : ∀ (l : List DL.D), (l.flatMap fun d => [f d]) = l.map f
  | [] => rfl
  | d :: l => congrArg (f d :: ·) (flat_map l)
/-! ### _track -/
def sdTrk : SpD := fun as Q _ => match as with
  | [.d (.str z), .d x, .d l] => ∃ (q L0 : Rat) (cs : List (Rat × Rat)), NameOk z ∧ RunD x q cs ∧ KN l ∧ ratD l = some L0 ∧ 0 < L0 ∧ Sz 100 L0 ∧ Sz 300 q ∧ Sz 300 (rem q L0) ∧ PcsOk (rem q L0) cs ∧ Q (trackD (trk (rem q L0) cs))
  | _ => False
theorem sdTrk_len  (as Q E) (h : sdTrk  as Q E) : as.length = 3 := by
  unfold sdTrk at h
  split at h
  · rfl
  · exact h.elim

theorem ok_trk {f fd CN CZ} (D : DefAt K mg "_track" s_track ["name", "runner", "length"] f fd) (Gis_name : DefD P w K mg base "is_name" 1 sdNam) (G_is_runner : DefD P w K mg base "_is_runner" 1 sdIsRn) (Gremainder : DefD P w K mg base "remainder" 4 (sd_remainder CN CZ)) (Gas_ratio : DefD P w K mg base "as_ratio" 3 (sdAsR CN)) (G_are_ascending : DefD P w K mg base "_are_ascending" 1 sdAsc) (Gtrack_of : DefD P w K mg base "track_of" 2 sdTo) : DefD P w K mg base "_track" 5 sdTrk :=
  .mk1 D (fnD D.F sc_track sdTrk_len fun cdv A outer s H E c hr b => ⟨_, (dss_cons (d_ifS (PW.pt (dw_or (dt_not (dt_val (d_cN Gis_name (hr.mono (by decide)) (da_name (pv 0) da_nil)))) (dw_or1 (dt_not (dt_val (d_cN G_is_runner (hr.mono (by decide)) (da_name (pv 1) da_nil)))))))
      (dss_one d_dead)
      dss_nil)
      (dss_cons (d_tryThru (dss_cons (d_asg (d_cN Gremainder (hr.mono (by decide)) (da_cons (d_ix ixd (d_var (pv 1)) d_int) (da_name (pv 2) da_nil))) (dg_name (pg_name (i := 3) sc_track.nd rfl (.inl rfl))))
      (dss_one (d_setLc (i := 4) (own := [("time", 5), ("speed", 6)]) (p := .t [.n 5, .n 6]) rfl sc_track.nd rfl rfl (sw_true rfl rfl rfl (by decide +kernel)) (di_seq (d_ix ixd (d_var (pv 1)) d_int)) (blkOk_by (N := N_track) (sc := defScope s_track) (by decide +kernel)) (fun _ _ _ _ _ => (dg_tup rfl (dgs_cons (dg_name (pg_name (i := 5) sc_track.nd rfl (.inl rfl))) (dgs_cons (dg_name (pg_name (i := 6) sc_track.nd rfl (.inl rfl))) dgs_nil)))) (fun _ _ _ _ _ => dts_nil) (fun _ _ _ _ _ => (d_tup (da_cons (d_cN Gas_ratio (hr.mono (by decide)) (da_name (pv 5) da_nil)) (da_cons (d_cN Gas_ratio (hr.mono (by decide)) (da_name (pv 6) da_nil)) da_nil))))))))
      (dss_cons (d_ifS (dt_not (dt_val (d_cN G_are_ascending (hr.mono (by decide)) (da_cons (d_ofO (do_lc (own := [("time", 5), ("_", 7)]) (p := .t [.n 5, .n 7]) rfl sc_track.nd (di_seq (d_var (pv 4))) (blkOk_by (N := N_track) (sc := defScope s_track) (by decide +kernel)) (fun _ _ _ _ _ => (dg_tup rfl (dgs_cons (dg_name (pg_name (i := 5) sc_track.nd rfl (.inl rfl))) (dgs_cons (dg_name (pg_name (i := 7) sc_track.nd rfl (.inl rfl))) dgs_nil)))) (fun _ _ _ _ _ => dts_nil) (fun _ _ _ _ _ => (d_var (pv 5))))) da_nil))))
      (dss_one d_dead)
      dss_nil)
      (dss_one (d_ret (d_cN Gtrack_of (hr.mono (by decide)) (da_name (pv 3) (da_name (pv 4) da_nil)))))))), fun as Qd Ed h => by
    unfold sdTrk at h
    split at h
    · rename_i z x l
      obtain ⟨q0, L0, cs, nm, ⟨qd, ps, rfl, kq, eq, hA⟩, kl, el, L0p, zL, zq, zr, ok, q⟩ := h
      have lenA := hA.len
      have cl := ok.le
      have ne := ok.ne
      refine ⟨nm, ?_⟩
      refine ⟨by omega, by omega, fun d hd => ?_, ?_⟩
      · obtain ⟨c, _, t, s, rfl, _⟩ := hA.mem hd
        exact ⟨t, s, rfl⟩
      refine ⟨kq, fun e => by (rw [eq] at e; cases e), fun p e => ?_⟩
      rw [eq] at e
      cases e
      refine ⟨kl, fun e => by (rw [el] at e; cases e), fun p e => ?_⟩
      rw [el] at e
      cases e
      refine ⟨zq.mono (by decide), zL.mono (by decide), fun z => absurd L0p (Rat.not_lt.mpr z), fun _ => ?_⟩
      refine lc_by (fun d => [pcF d]) (by omega) (fun d hd acc J j => ?_) ?_
      · obtain ⟨c, _, pc⟩ := hA.mem hd
        rw [pcF_eq pc] at j
        obtain ⟨t, s, rfl, k1, k2, e1, e2⟩ := pc
        refine ⟨k1, fun e => by (rw [e1] at e; cases e), fun p e => ?_⟩
        rw [e1] at e
        cases e
        refine ⟨k2, fun e => by (rw [e2] at e; cases e), fun p e => ?_⟩
        rw [e2] at e
        cases e
        exact j
      rw [flat_map, hA.map (fun _ _ h => pcF_eq h)]
      refine lc_by (fun d => [fstF d]) (by rw [List.length_map]; omega) (fun d hd acc J j => ?_) ?_
      · obtain ⟨c, _, rfl⟩ := List.mem_map.mp hd
        exact j
      rw [flat_map, List.map_map]
      cases cs with
      | nil => exact absurd ne (Nat.lt_irrefl 0)
      | cons c cs =>
        have c0 : c.1 = 0 := by have := ok.zero; simpa using this
        refine ⟨c.1, cs.map (fun c : Rat × Rat => c.1), by rw [List.map_cons, List.map_cons, List.map_map]; rfl, c0, ok.asc, ?_, ?_, ?_⟩
        · rw [List.length_map]
          have : cs.length + 1 ≤ 20 := cl
          omega
        · intro z hz
          rcases List.mem_cons.mp hz with rfl | hz
          · exact (ok.sz c List.mem_cons_self).1
          · obtain ⟨d, hd, rfl⟩ := List.mem_map.mp hz
            exact (ok.sz d (List.mem_cons_of_mem _ hd)).1
        · refine ⟨rem q0 L0, c, cs, rfl, rfl, zr, ok.rz, ?_, fun d hd => (ok.sz d (List.mem_cons_of_mem _ hd)).1.mono (by decide), q⟩
          have : cs.length + 1 ≤ 20 := cl
          omega
    · exact h.elim⟩)
/-! ### a dict comprehension with keys that differ -/
theorem dc_by {items : List DL.D} {ks' : List Key} {vs' : List DL.D} {p : Pat} {vs : List Nat} {ss : List Sl} {tt : TTD} {tk tv : TD} {Ed : QE} {Q : List Key → List DL.D → Prop} (hk : ks'.length = items.length) (hv : vs'.length = items.length) (nd : ks'.Nodup) (small : items.length < 1000)
    (turn : ∀ (i : Nat) (d : DL.D) (k : Key) (v : DL.D), items[i]? = some d → ks'[i]? = some k → vs'[i]? = some v → ∀ (J : DL.D → DL.D → Prop) (B : Prop), (∀ y, keyD y = some k → J y v) → p.gd d (wipeD ss vs) fun ss2 => tt ss2 (fun b => if b = true then tk ss2 (fun y => tv ss2 (fun z => J y z) Ed) Ed else B) Ed) (fin : Q ks' vs') :
    items.length < 1000 ∧ ∃ I : Nat → List Key → List DL.D → Prop, I 0 [] [] ∧
  (∀ i d ks ds, items[i]? = some d → I i ks ds → ks.length ≤ i → p.gd d (wipeD ss vs) fun ss2 => tt ss2 (fun b => if b = true then tk ss2 (fun y => tv ss2 (fun z => ∃ k, keyD y = some k ∧ k ∉ ks ∧ I (i + 1) (ks ++ [k]) (ds ++ [z])) Ed) Ed else I (i + 1) ks ds) Ed) ∧ ∀ ks ds, I items.length ks ds → Q ks ds := by
  refine ⟨small, fun i ks ds => ks = ks'.take i ∧ ds = vs'.take i, ⟨rfl, rfl⟩, ?_, ?_⟩
  · rintro i d ks ds hd ⟨rfl, rfl⟩ _
    have il := (List.getElem?_eq_some_iff.mp hd).1
    have h1 : ks'[i]? = some ks'[i] := List.getElem?_eq_getElem (by omega)
    have h2 : vs'[i]? = some vs'[i] := List.getElem?_eq_getElem (by omega)
    refine turn i d _ _ hd h1 h2 (fun y z => ∃ k, keyD y = some k ∧ k ∉ ks'.take i ∧ ks'.take i ++ [k] = ks'.take (i + 1) ∧ vs'.take i ++ [z] = vs'.take (i + 1)) _ fun y hy => ⟨_, hy, ?_, ?_, ?_⟩
    · intro m
      obtain ⟨j, hj⟩ := List.getElem?_of_mem m
      have jl := (List.getElem?_eq_some_iff.mp hj).1
      rw [List.length_take] at jl
      rw [List.getElem?_take_of_lt (by omega)] at hj
      have := (List.getElem?_inj (i := j) (j := i) (by omega) nd).mp (hj.trans h1.symm)
      omega
    · rw [List.take_add_one, h1]
      rfl
    · rw [List.take_add_one, h2]
      rfl
  · rintro ks ds ⟨rfl, rfl⟩
    rw [List.take_of_length_le (by omega), List.take_of_length_le (by omega)]
    exact fin
theorem perm_lift {α β : Type} {f : α → β} {ys zs : List β} (h : ys.Perm zs) : ∀ {l : List α}, zs = l.map f → ∃ l' : List α, l'.Perm l ∧ l'.map f = ys := by
  induction h with
  | nil => exact fun {l} e => ⟨l, List.Perm.refl l, e.symm⟩
  | cons y p ih =>
    intro l e
    cases l with
    | nil => cases e
    | cons x l =>
      rw [List.map_cons] at e
      obtain ⟨e1, e2⟩ := List.cons.inj e
      obtain ⟨l', a, b⟩ := ih e2
      exact ⟨x :: l', a.cons x, by rw [List.map_cons, b, e1]⟩
  | swap y z l0 =>
    intro l e
    rcases l with _ | ⟨a, _ | ⟨b, l⟩⟩
    · cases e
    · cases e
    · rw [List.map_cons, List.map_cons] at e
      obtain ⟨e1, e2⟩ := List.cons.inj e
      obtain ⟨e2, e3⟩ := List.cons.inj e2
      exact ⟨b :: a :: l, .swap a b l, by rw [List.map_cons, List.map_cons, e1, e2, e3]⟩
  | trans p1 p2 ih1 ih2 =>
    intro l e
    obtain ⟨l1, a, b⟩ := ih2 e
    obtain ⟨l2, c, d⟩ := ih1 b.symm
    exact ⟨l2, c.trans a, d⟩
/-! ### a race as data -/
abbrev Rnr := Str × Rat × List (Rat × Rat)
abbrev NS : List Str := ["_length", "_tracks"]
def trF (L0 : Rat) (r : Rnr) : DL.D := trackD (trk (rem r.2.1 L0) r.2.2)
abbrev keyR (r : Rnr) : Key := Sum.inr r.1
def tracksD (L0 : Rat) (rn : List Rnr) : DL.D := .dct (rn.map keyR) (rn.map (trF L0))
def raceD (C : Addr) (L0 : Rat) (rn : List Rnr) : DL.D := .obj C NS [rD L0, tracksD L0 rn]
structure RunnerOk (L0 : Rat) (r : Rnr) : Prop where
  nm : NameOk r.1
  zq : Sz 300 r.2.1
  zr : Sz 300 (rem r.2.1 L0)
  pc : PcsOk (rem r.2.1 L0) r.2.2
structure RaceOk (L0 : Rat) (rn : List Rnr) : Prop where
  L0p : 0 < L0
  zL : Sz 100 L0
  nd : (rn.map (·.1)).Nodup
  ne : 1 ≤ rn.length
  le : rn.length ≤ 12
  ok : ∀ r ∈ rn, RunnerOk L0 r
theorem RaceOk.perm {L0 : Rat} {rn rs : List Rnr} (h : RaceOk L0 rn) (p : rs.Perm rn) : RaceOk L0 rs where
  L0p := h.L0p
  zL := h.zL
  nd := (p.map (·.1)).nodup_iff.mpr h.nd
  ne := by rw [p.length_eq]; exact h.ne
  le := by rw [p.length_eq]; exact h.le
  ok := fun r m => h.ok r (p.mem_iff.mp m)
theorem keys_nd {rn : List Rnr} (h : (rn.map (·.1)).Nodup) : (rn.map keyR).Nodup := by
  have e : rn.map keyR = (rn.map (·.1)).map Sum.inr := by rw [List.map_map]; rfl
  rw [e]
  exact List.Pairwise.map _ (fun a b ne e => ne (Sum.inr.inj e)) h
theorem look_map {f : Rnr → DL.D} : ∀ {rn : List Rnr} {r : Rnr}, (rn.map keyR).Nodup → r ∈ rn → lookD (rn.map keyR) (rn.map f) (keyR r) = some (f r)
  | x :: rn, r, nd, m => by
    rw [List.map_cons] at nd
    obtain ⟨n1, n2⟩ := List.nodup_cons.mp nd
    show (if keyR x = keyR r then some (f x) else lookD (rn.map keyR) (rn.map f) (keyR r)) = _
    rcases List.mem_cons.mp m with rfl | m
    · rw [if_pos rfl]
    · rw [if_neg (fun e => n1 (by rw [e]; exact List.mem_map_of_mem m)), look_map n2 m]
theorem look_out {f : Rnr → DL.D} : ∀ {rn : List Rnr} {k : Key}, k ∉ rn.map keyR → lookD (rn.map keyR) (rn.map f) k = none
  | [], _, _ => rfl
  | x :: rn, k, n => by
    show (if keyR x = k then some (f x) else lookD (rn.map keyR) (rn.map f) k) = none
    rw [if_neg (fun e => n (by rw [← e]; exact List.mem_map_of_mem List.mem_cons_self)), look_out (fun m => n (List.mem_cons_of_mem _ m))]
def sdInit : SpI := fun as Qm _ => match as with
  | [.d l, .d (.dct ks xs)] => ∃ (L0 : Rat) (rn : List Rnr), KN l ∧ ratD l = some L0 ∧ RaceOk L0 rn ∧ ks = rn.map keyR ∧ A2 (fun x r => RunD x r.2.1 r.2.2) xs rn ∧ ∀ rs : List Rnr, rs.Perm rn → sortedS (rs.map (·.1)) = true → Qm NS [rD L0, tracksD L0 rs]
  | _ => False
theorem sdInit_len (as Q E) (h : sdInit as Q E) : as.length + 1 = 3 := by
  unfold sdInit at h
  split at h
  · rfl
  · exact h.elim
theorem ok_raceInit {f fd CN CR tm} (F : Fun K "__init__" "Race.__init__" s_Race_init f fd) (cl_Race_length : ∀ (a dx : Addr) (fs : List (Str × V)) (H : Hp), H a = some (.ins CR dx fs) → Cls K CR ∧ NoAttr K CR "_length") (cl_Race_tracks : ∀ (a dx : Addr) (fs : List (Str × V)) (H : Hp), H a = some (.ins CR dx fs) → Cls K CR ∧ NoAttr K CR "_tracks")
    (m_MOST_RUNNERS : mg "MOST_RUNNERS" = some (.int 12 tm)) (m_isinstance : mg "isinstance" = none) (m_dict : mg "dict" = none) (m_len : mg "len" = none) (m_sorted : mg "sorted" = none) (Gis_positive : DefD P w K mg base "is_positive" 4 sdPos) (Gas_ratio : DefD P w K mg base "as_ratio" 3 (sdAsR CN)) (G_track : DefD P w K mg base "_track" 5 sdTrk) : FnOk P w K mg base (L2.CX P w) 6 f fd ["self", "length", "runners"] (spI K CR sdInit) :=
  fnI F sc_Race_init sdInit_len fun cdv A outer s H E c hr b => ⟨_, (dss_cons (d_ifS (dt_not (dt_val (d_cN Gis_positive (hr.mono (by decide)) (da_name (pv 1) da_nil))))
      (dss_one d_dead)
      dss_nil)
      (dss_cons (d_ifS (PW.pt (dw_or (dt_not (dt_val (d_callB cd_isi m_isinstance (da_name (pv 2) (da_cons (d_ty .dct m_dict) da_nil))))) (dw_or1 (dt_not (dt_chain od_le od_le d_int (d_callB cd_lenD m_len (da_name (pv 2) da_nil)) (d_gint m_MOST_RUNNERS))))))
      (dss_one d_dead)
      dss_nil)
      (dss_cons (d_fldSet (cl_Race_length) (pv 0) (d_cN Gas_ratio (hr.mono (by decide)) (da_name (pv 1) da_nil)))
      (dss_cons (d_asg (d_ofM (do_dc (own := [("name", 4), ("runner", 5)]) (p := .t [.n 4, .n 5]) rfl sc_Race_init.nd (di_items (d_var (pv 2))) (blkOk_by (N := N_Race_init) (sc := defScope s_Race_init) (by decide +kernel)) (fun _ _ _ _ _ => (dg_tup rfl (dgs_cons (dg_name (pg_name (i := 4) sc_Race_init.nd rfl (.inl rfl))) (dgs_cons (dg_name (pg_name (i := 5) sc_Race_init.nd rfl (.inl rfl))) dgs_nil)))) (fun _ _ _ _ _ => dts_nil) (fun _ _ _ _ _ => (d_var (pv 4))) (fun _ _ _ _ _ => (d_cN G_track (hr.mono (by decide)) (da_name (pv 4) (da_name (pv 5) (da_name (pv 1) da_nil))))))) (dg_name (pg_name (i := 3) sc_Race_init.nd rfl (.inr rfl))))
      (dss_one (d_fldSet (cl_Race_tracks) (pv 0) (d_ofM (do_dc (own := [("name", 4)]) (p := .n 4) rfl sc_Race_init.nd (di_seq (d_callB (cd_sortedD rfl) m_sorted (da_name (pv 3) da_nil))) (blkOk_by (N := N_Race_init) (sc := defScope s_Race_init) (by decide +kernel)) (fun _ _ _ _ _ => (dg_name (pg_name (i := 4) sc_Race_init.nd rfl (.inl rfl)))) (fun _ _ _ _ _ => dts_nil) (fun _ _ _ _ _ => (d_var (pv 4))) (fun _ _ _ _ _ => (d_dget (hu_of hr) (d_var (pv 3)) (d_var (pv 4)))))))))))), fun p as Qm Ed h => by
    unfold sdInit at h
    split at h
    · rename_i l ks xs
      obtain ⟨L0, rn, kl, el, ok, rfl, hA, q⟩ := h
      have lenA := hA.len
      have c0 : posB l = true := by
        unfold posB
        rw [el]
        exact decide_eq_true ok.L0p
      have n1 := ok.ne
      have n2 := ok.le
      have c1 : decide ((1 : Int) ≤ ((rn.map keyR).length : Int)) = true := decide_eq_true (by rw [List.length_map]; omega)
      have c2 : decide (((rn.map keyR).length : Int) ≤ 12) = true := decide_eq_true (by rw [List.length_map]; omega)
      have il : (itemsDD (rn.map keyR) xs).length = rn.length := by
        unfold itemsDD
        rw [List.length_map, List.length_zip, List.length_map, lenA, Nat.min_self]
      have nd := keys_nd ok.nd
      refine ⟨kl, ?_⟩
      refine ifB (fun e => nomatch e.symm.trans (congrArg not c0)) (fun _ => ?_)
      refine ifB (fun _ => ?_) (fun e => nomatch e.symm.trans c1)
      refine ifB (fun e => nomatch e.symm.trans (congrArg not c2)) (fun _ => ?_)
      refine ⟨⟨_, _, _, rfl⟩, kl, fun e => by (rw [el] at e; cases e), fun p1 e => ?_⟩
      rw [el] at e
      cases e
      refine ⟨by decide, by decide, ?_⟩
      refine dc_by (ks' := rn.map keyR) (vs' := rn.map (trF L0)) (by rw [il, List.length_map]) (by rw [il, List.length_map]) nd (by omega) (fun i d k v hd hk hv J B j => ?_) ?_
      · unfold itemsDD at hd
        rw [List.getElem?_map] at hd hk hv
        obtain ⟨⟨k0, x⟩, hz, rfl⟩ := Option.map_eq_some_iff.mp hd
        obtain ⟨r, hr, rfl⟩ := Option.map_eq_some_iff.mp hk
        rw [hr] at hv
        cases hv
        obtain ⟨z1, z2⟩ := List.getElem?_zip_eq_some.mp hz
        rw [List.getElem?_map, hr] at z1
        cases z1
        obtain ⟨r', hr', rd⟩ := hA.get z2
        rw [hr] at hr'
        cases hr'
        have ro := ok.ok r (List.mem_of_getElem? hr)
        refine ⟨r.2.1, L0, r.2.2, ro.nm, rd, kl, el, ok.L0p, ok.zL, ro.zq, ro.zr, ro.pc, ?_⟩
        exact j (.str r.1) rfl
      refine ⟨rfl, ?_⟩
      refine ⟨⟨_, _, _, rfl⟩, ?_⟩
      refine ⟨rn.map (·.1), by rw [List.map_map]; rfl, by rw [List.length_map]; omega, fun ys pm so => ?_⟩
      obtain ⟨rs, prs, rfl⟩ := perm_lift pm rfl
      have ok' := ok.perm prs
      have lr : rs.length = rn.length := prs.length_eq
      refine dc_by (ks' := rs.map keyR) (vs' := rs.map (trF L0)) (by rw [List.length_map, List.length_map, List.length_map]) (by rw [List.length_map, List.length_map, List.length_map]) (keys_nd ok'.nd) (by rw [List.length_map, List.length_map]; omega) (fun i d k v hd hk hv J B j => ?_) ?_
      · rw [List.getElem?_map] at hd hk hv
        obtain ⟨r, hr, rfl⟩ := Option.map_eq_some_iff.mp hk
        rw [hr] at hv
        cases hv
        rw [List.getElem?_map, hr] at hd
        cases hd
        have e := look_map (f := trF L0) nd (prs.mem_iff.mp (List.mem_of_getElem? hr))
        have e2 : getDD (.dct (rn.map keyR) (rn.map (trF L0))) (.str r.1) = some (some (trF L0 r)) := congrArg some e
        show match getDD (.dct (rn.map keyR) (rn.map (trF L0))) (.str r.1) with
          | some (some d) => _
          | _ => False
        rw [e2]
        exact j (.str r.1) rfl
      refine ⟨rfl, ?_⟩
      refine ⟨by decide, by decide, NS, _, rfl, ?_⟩
      exact q rs prs so
    · exact h.elim⟩
end
end LR
set_option Elab.async false
set_option linter.all false
set_option maxRecDepth 100000
set_option maxHeartbeats 4000000
set_option exponentiation.threshold 100000
namespace LR
open PySem PySem.Spec PyProof.Rows L2 DL
section
variable {P : Program} {w : World} {K : PySem.W.Frag} {mg : Str → Option Value} {base : Heap}
/-! ### name in race -/
def nameIn (ks : List Key) : DL.D → Bool
  | .str z => ks.any fun k => decide (k = Sum.inr z)
  | _ => false
def sdHas (CR : Addr) : SpD := fun as Q _ => match as with
  | [.d x, .d y] => ∃ (L0 : Rat) (rn : List Rnr), x = raceD CR L0 rn ∧ (kindD y).isSome = true ∧ Q (.bl (nameIn (rn.map keyR) y))
  | _ => False
theorem sdHas_len (CR : Addr) (as Q E) (h : sdHas CR as Q E) : as.length = 2 := by
  unfold sdHas at h
  split at h
  · rfl
  · exact h.elim

theorem look_some {f : Rnr → DL.D} {k : Key} : ∀ {rn : List Rnr}, (lookD (rn.map keyR) (rn.map f) k).isSome = (rn.map keyR).any fun j => decide (j = k)
  | [] => rfl
  | x :: rn => by
    show (if keyR x = k then some (f x) else lookD (rn.map keyR) (rn.map f) k).isSome = (decide (keyR x = k) || (rn.map keyR).any fun j => decide (j = k))
    by_cases e : keyR x = k
    · rw [if_pos e, decide_eq_true e]
      rfl
    · rw [if_neg e, look_some, decide_eq_false e, Bool.false_or]
theorem ok_has {f fd CR} (F : Fun K "__contains__" "Race.__contains__" s_Race_contains f fd) (cC_Race : Cls K CR) (na_Race_tracks : NoAttr K CR "_tracks") (m_isinstance : mg "isinstance" = none) (m_str : mg "str" = none) : FnOk P w K mg base (L2.CX P w) 1 f fd ["self", "name"] (spD K (sdHas CR)) :=
  fnD F sc_Race_contains (sdHas_len CR) fun cdv A outer s H E c hr b => ⟨_, (dss_one (d_ret (d_and (d_callB cd_isi m_isinstance (da_name (pv 1) (da_cons (d_ty .str m_str) da_nil))) (d_one (d_din (hu_of hr) (d_var (pv 1)) (d_attr cC_Race na_Race_tracks (d_var (pv 0)))))))), fun as Qd Ed h => by
    unfold sdHas at h
    split at h
    · rename_i x y
      obtain ⟨L0, rn, rfl, ky, q⟩ := h
      by_cases st : ∃ z, y = .str z
      · obtain ⟨z, rfl⟩ := st
        refine ⟨rfl, _, rfl, ?_⟩
        have e2 : getDD (tracksD L0 rn) (.str z) = some (lookD (rn.map keyR) (rn.map (trF L0)) (Sum.inr z)) := rfl
        show match getDD (tracksD L0 rn) (.str z) with
          | some o => Qd (.bl (o.isSome != false))
          | none => False
        rw [e2]
        show Qd (.bl ((lookD (rn.map keyR) (rn.map (trF L0)) (Sum.inr z)).isSome != false))
        rw [look_some]
        have e3 : ∀ t : Bool, (t != false) = t := fun t => by cases t <;> rfl
        rw [e3]
        exact q
      · have e : nameIn (rn.map keyR) y = false := by
          cases y <;> first | rfl | exact absurd ⟨_, rfl⟩ st
        rw [e] at q
        cases y <;> first | exact absurd ⟨_, rfl⟩ st | exact q | cases ky
    · exact h.elim⟩
/-! ### track -/
def sdTrack (CR CU : Addr) : SpD := fun as Q Ed => match as with
  | [.d x, .d y] => ∃ (L0 : Rat) (rn : List Rnr), x = raceD CR L0 rn ∧ (rn.map keyR).Nodup ∧ (kindD y).isSome = true ∧ nameIn (rn.map keyR) y = true ∧ ∀ r ∈ rn, y = .str r.1 → Q (trF L0 r)
  | _ => False
theorem sdTrack_len (CR CU : Addr) (as Q E) (h : sdTrack CR CU as Q E) : as.length = 2 := by
  unfold sdTrack at h
  split at h
  · rfl
  · exact h.elim

theorem nameIn_mem {rn : List Rnr} {y : DL.D} (h : nameIn (rn.map keyR) y = true) : ∃ r ∈ rn, y = .str r.1 := by
  cases y <;> first | cases h | skip
  rename_i z
  obtain ⟨k, m, e⟩ := List.any_eq_true.mp (show (rn.map keyR).any (fun k => decide (k = Sum.inr z)) = true from h)
  obtain ⟨r, hr, rfl⟩ := List.mem_map.mp m
  have e := of_decide_eq_true e
  exact ⟨r, hr, by rw [← Sum.inr.inj e]⟩
theorem ok_track {f fd CR CU} (F : Fun K "track" "Race.track" s_Race_track f fd) (cC_Race : Cls K CR) (na_Race_tracks : NoAttr K CR "_tracks") (M_Race_contains : DefM P w K mg base CR NS "__contains__" 1 (sdHas CR)) : FnOk P w K mg base (L2.CX P w) 3 f fd ["self", "name"] (spD K (sdTrack CR CU)) :=
  fnD F sc_Race_track (sdTrack_len CR CU) fun cdv A outer s H E c hr b => ⟨_, (dss_cons (d_ifS (dt_cmp (od_notinOwn M_Race_contains (hr.mono (by decide))) (d_var (pv 1)) (d_var (pv 0)))
      (dss_one d_dead)
      dss_nil)
      (dss_one (d_ret (d_dget (hu_of hr) (d_attr cC_Race na_Race_tracks (d_var (pv 0))) (d_var (pv 1)))))), fun as Qd Ed h => by
    unfold sdTrack at h
    split at h
    · rename_i x y
      obtain ⟨L0, rn, rfl, nd, ky, q1, q2⟩ := h
      refine ⟨rfl, rfl, L0, rn, rfl, ky, ?_⟩
      cases e : nameIn (rn.map keyR) y with
      | false => exact absurd (e.symm.trans q1) (by decide)
      | true =>
        obtain ⟨r, hr, rfl⟩ := nameIn_mem e
        refine ⟨rfl, _, rfl, ?_⟩
        have e1 := look_map (f := trF L0) nd hr
        have e2 : getDD (tracksD L0 rn) (.str r.1) = some (some (trF L0 r)) := congrArg some e1
        show match getDD (tracksD L0 rn) (.str r.1) with
          | some (some d) => _
          | _ => False
        rw [e2]
        exact q2 r hr rfl
    · exact h.elim⟩
/-! ### what stands at a time -/
def posn (s0 : Rat) (cs : List (Rat × Rat)) (t : Rat) : Rat := match trk s0 cs with
  | r0 :: rs => (rowGo t r0 (r0 :: rs)).at_ t
  | [] => 0
theorem trk_cons {s0 : Rat} {cs : List (Rat × Rat)} (ok : PcsOk s0 cs) : ∃ r0 rs, trk s0 cs = r0 :: rs ∧ rs.length < 60 := by
  have hn := ok.ne
  have hl := ok.le
  cases cs with
  | nil => exact absurd hn (Nat.lt_irrefl 0)
  | cons c cs =>
    show ∃ r0 rs, trackGo ⟨c.1, c.2, s0⟩ cs = r0 :: rs ∧ rs.length < 60
    have l := trackGo_len ⟨c.1, c.2, s0⟩ cs
    cases e : trackGo ⟨c.1, c.2, s0⟩ cs with
    | nil => rw [e] at l; cases l
    | cons r0 rs =>
      rw [e] at l
      have l : rs.length + 1 = cs.length + 1 := l
      have hl : cs.length + 1 ≤ 20 := hl
      exact ⟨r0, rs, rfl, by omega⟩
/-! ### place -/
def sdPlace (CR CU CT : Addr) : SpD := fun as Q Ed => match as with
  | [.d x, .d y, .d t] => ∃ (L0 : Rat) (rn : List Rnr), x = raceD CR L0 rn ∧ RaceOk L0 rn ∧ (kindD y).isSome = true ∧ nameIn (rn.map keyR) y = true ∧ ∀ r ∈ rn, y = .str r.1 → KN t ∧ (ratD t = none → Ed (.e0 CT)) ∧ ∀ q, ratD t = some q → (q < 0 → Ed (.e0 CT)) ∧ (0 ≤ q → Sz 300 q ∧ Q (rD (rem (posn (rem r.2.1 L0) r.2.2 q) L0)))
  | _ => False
theorem sdPlace_len (CR CU CT : Addr) (as Q E) (h : sdPlace CR CU CT as Q E) : as.length = 3 := by
  unfold sdPlace at h
  split at h
  · rfl
  · exact h.elim

theorem ok_place {f fd CR CU CT} (F : Fun K "place" "Race.place" s_Race_place f fd) (cC_Race : Cls K CR) (na_Race_length : NoAttr K CR "_length") (M_Race_track : DefM P w K mg base CR NS "track" 3 (sdTrack CR CU)) (Gas_time : DefD P w K mg base "as_time" 4 (sdTime CT)) (Grow_at : DefD P w K mg base "row_at" 1 sdRA) (Gplace_in : DefD P w K mg base "place_in" 2 sdPlc) : FnOk P w K mg base (L2.CX P w) 5 f fd ["self", "name", "time"] (spD K (sdPlace CR CU CT)) :=
  fnD F sc_Race_place (sdPlace_len CR CU CT) fun cdv A outer s H E c hr b => ⟨_, (dss_cons (d_par2 (i := 3) (j := 4) rfl sc_Race_place.nd rfl rfl (by decide) rfl rfl (d_mE M_Race_track (hr.mono (by decide)) b (d_var (pv 0)) (da_name (pv 1) da_nil)) (d_cE Gas_time (hr.mono (by decide)) b (da_name (pv 2) da_nil)))
      (dss_one (d_ret (d_cN Gplace_in (hr.mono (by decide)) (da_cons (d_cN Grow_at (hr.mono (by decide)) (da_name (pv 3) (da_name (pv 4) da_nil))) (da_name (pv 4) (da_cons (d_attr cC_Race na_Race_length (d_var (pv 0))) da_nil))))))), fun as Qd Ed h => by
    unfold sdPlace at h
    split at h
    · rename_i x y t
      obtain ⟨L0, rn, rfl, ok, ky, q1, q2⟩ := h
      refine ⟨rfl, rfl, L0, rn, rfl, keys_nd ok.nd, ky, q1, fun r hr e => ?_⟩
      obtain ⟨kt, t1, t2⟩ := q2 r hr e
      refine ⟨kt, t1, fun q eq => ?_⟩
      obtain ⟨t3, t4⟩ := t2 q eq
      refine ⟨t3, fun hq => ?_⟩
      obtain ⟨zq, g⟩ := t4 hq
      have pc := (ok.ok r hr).pc
      obtain ⟨r0, rs, er, few⟩ := trk_cons pc
      have rz := pc.rz
      unfold posn at g
      rw [er] at g rz
      have et : trF L0 r = trackD (r0 :: rs) := by unfold trF; rw [er]
      rw [et]
      refine ⟨r0, rs, q, rfl, rfl, fun z hz => (rz z hz).b, zq, few, ?_⟩
      refine ⟨rfl, _, rfl, ?_⟩
      refine ⟨_, q, L0, rfl, rfl, rfl, ?_, zq, ok.L0p, ok.zL, g⟩
      rcases rowGo_mem q r0 (r0 :: rs) with e | m
      · rw [e]
        exact rz r0 List.mem_cons_self
      · exact rz _ m
    · exact h.elim⟩
end
end LR
set_option Elab.async false
set_option linter.all false
set_option maxRecDepth 100000
set_option maxHeartbeats 4000000
set_option exponentiation.threshold 100000
namespace LR
open PySem PySem.Spec PyProof.Rows L2 DL
section
variable {P : Program} {w : World} {K : PySem.W.Frag} {mg : Str → Option Value} {base : Heap}
/-! ### names, length, tracks -/
def sdNames (CR : Addr) : SpF := fun as Q _ => match as with
  | [.d x] => ∃ (L0 : Rat) (rn : List Rnr), x = raceD CR L0 rn ∧ Q (rn.map fun r => .str r.1)
  | _ => False
theorem sdNames_len (CR : Addr) (as Q E) (h : sdNames CR as Q E) : as.length = 1 := by
  unfold sdNames at h
  split at h
  · rfl
  · exact h.elim

theorem ok_names {f fd CR} (F : Fun K "names" "Race.names" s_Race_names f fd) (cC_Race : Cls K CR) (na_Race_tracks : NoAttr K CR "_tracks") (m_list : mg "list" = none) : FnOk P w K mg base (L2.CX P w) 1 f fd ["self"] (spF K (sdNames CR)) :=
  fnF F sc_Race_names (sdNames_len CR) fun cdv A outer s H E c hr b => ⟨_, (dss_one (d_retO (do_listD rfl m_list (d_attr cC_Race na_Race_tracks (d_var (pv 0)))))), fun as Qd Ed h => by
    unfold sdNames at h
    split at h
    · obtain ⟨L0, rn, rfl, q⟩ := h
      refine ⟨rfl, _, rfl, ?_⟩
      have e : rn.map (fun r => DL.D.str r.1) = (rn.map keyR).map kvD := by rw [List.map_map]; rfl
      rw [e] at q
      exact q
    · exact h.elim⟩
def sdLength (CR : Addr) : SpD := fun as Q _ => match as with
  | [.d x] => ∃ (L0 : Rat) (rn : List Rnr), x = raceD CR L0 rn ∧ Q (rD L0)
  | _ => False
theorem sdLength_len (CR : Addr) (as Q E) (h : sdLength CR as Q E) : as.length = 1 := by
  unfold sdLength at h
  split at h
  · rfl
  · exact h.elim

theorem ok_length {f fd CR} (F : Fun K "length" "Race.length" s_Race_length f fd) (cC_Race : Cls K CR) (na_Race_length : NoAttr K CR "_length") : FnOk P w K mg base (L2.CX P w) 1 f fd ["self"] (spD K (sdLength CR)) :=
  fnD F sc_Race_length (sdLength_len CR) fun cdv A outer s H E c hr b => ⟨_, (dss_one (d_ret (d_attr cC_Race na_Race_length (d_var (pv 0))))), fun as Qd Ed h => by
    unfold sdLength at h
    split at h
    · obtain ⟨L0, rn, rfl, q⟩ := h
      exact ⟨rfl, _, rfl, q⟩
    · exact h.elim⟩
def sdTracks (CR : Addr) : SpMu := fun as Q _ => match as with
  | [.d x] => ∃ (L0 : Rat) (rn : List Rnr), x = raceD CR L0 rn ∧ Q (.dic (rn.map keyR) (rn.map (trF L0)))
  | _ => False
theorem sdTracks_len (CR : Addr) (as Q E) (h : sdTracks CR as Q E) : as.length = 1 := by
  unfold sdTracks at h
  split at h
  · rfl
  · exact h.elim

theorem ok_tracks {f fd CR} (F : Fun K "tracks" "Race.tracks" s_Race_tracks f fd) (cC_Race : Cls K CR) (na_Race_tracks : NoAttr K CR "_tracks") (m_dict : mg "dict" = none) : FnOk P w K mg base (L2.CX P w) 1 f fd ["self"] (spMu K (sdTracks CR)) :=
  fnMu F sc_Race_tracks (sdTracks_len CR) fun cdv A outer s H E c hr b => ⟨_, (dss_one (d_retM (do_dictD m_dict (d_attr cC_Race na_Race_tracks (d_var (pv 0)))))), fun as Qd Ed h => by
    unfold sdTracks at h
    split at h
    · obtain ⟨L0, rn, rfl, q⟩ := h
      exact ⟨rfl, _, rfl, q⟩
    · exact h.elim⟩
/-! ### start -/
theorem first_row {s0 : Rat} {cs : List (Rat × Rat)} (ok : PcsOk s0 cs) : ∃ r0 rs, trk s0 cs = r0 :: rs ∧ r0.base = s0 ∧ r0.p = s0 ∧ RowZ r0 := by
  obtain ⟨r0, rs, e, _⟩ := trk_cons ok
  have rz := ok.rz r0 (by rw [e]; exact List.mem_cons_self)
  refine ⟨r0, rs, e, ?_⟩
  have z := ok.zero
  cases cs with
  | nil => cases e
  | cons c cs =>
    have c0 : c.1 = 0 := by simpa using z
    have h : (trackGo ⟨c.1, c.2, s0⟩ cs)[0]? = some r0 := by
      show (trk s0 (c :: cs))[0]? = some r0
      rw [e]
      rfl
    rw [trackGo_zero] at h
    have h := Option.some.inj h
    subst h
    refine ⟨?_, rfl, rz⟩
    unfold Row.base
    rw [show (⟨c.1, c.2, s0⟩ : Row).b = 0 from c0]
    show s0 - c.2 * 0 = s0
    grind
def sdStart (CR : Addr) : SpD := fun as Q _ => match as with
  | [.d x, .d (.str z)] => ∃ (L0 : Rat) (rn : List Rnr) (r : Rnr), x = raceD CR L0 rn ∧ RaceOk L0 rn ∧ r ∈ rn ∧ r.1 = z ∧ Q (rD (rem r.2.1 L0))
  | _ => False
theorem sdStart_len (CR : Addr) (as Q E) (h : sdStart CR as Q E) : as.length = 2 := by
  unfold sdStart at h
  split at h
  · rfl
  · exact h.elim

theorem name_of {rn : List Rnr} {r : Rnr} (h : r ∈ rn) : nameIn (rn.map keyR) (.str r.1) = true := List.any_eq_true.mpr ⟨keyR r, List.mem_map_of_mem h, decide_eq_true rfl⟩
theorem name_one {rn : List Rnr} {L0 : Rat} (ok : RaceOk L0 rn) {r r' : Rnr} (h : r ∈ rn) (h' : r' ∈ rn) (e : r.1 = r'.1) : r = r' := by
  have nd := ok.nd
  clear ok
  induction rn with
  | nil => cases h
  | cons x rn ih =>
    rw [List.map_cons, List.nodup_cons] at nd
    rcases List.mem_cons.mp h with rfl | hm
    · rcases List.mem_cons.mp h' with rfl | hm'
      · rfl
      · exact absurd (show r.1 ∈ rn.map (·.1) from by rw [e]; exact List.mem_map_of_mem hm') nd.1
    · rcases List.mem_cons.mp h' with rfl | hm'
      · exact absurd (show r'.1 ∈ rn.map (·.1) from by rw [← e]; exact List.mem_map_of_mem hm) nd.1
      · exact ih hm hm' nd.2
theorem ok_start {f fd CR CU} (F : Fun K "start" "Race.start" s_Race_start f fd) (cC_Race : Cls K CR) (M_Race_track : DefM P w K mg base CR NS "track" 3 (sdTrack CR CU)) (Greduced : DefD P w K mg base "reduced" 1 sdRed) : FnOk P w K mg base (L2.CX P w) 4 f fd ["self", "name"] (spD K (sdStart CR)) :=
  fnD F sc_Race_start (sdStart_len CR) fun cdv A outer s H E c hr b => ⟨_, (dss_cons (d_asg (d_ix ixd (d_mN M_Race_track (hr.mono (by decide)) (d_var (pv 0)) (da_name (pv 1) da_nil)) d_int) (dg_tup rfl (dgs_cons (dg_name (pg_name (i := 2) sc_Race_start.nd rfl (.inl rfl))) (dgs_cons (dg_name (pg_name (i := 2) sc_Race_start.nd rfl (.inl rfl))) (dgs_cons (dg_name (pg_name (i := 2) sc_Race_start.nd rfl (.inl rfl))) (dgs_cons (dg_name (pg_name (i := 3) sc_Race_start.nd rfl (.inl rfl))) (dgs_cons (dg_name (pg_name (i := 4) sc_Race_start.nd rfl (.inl rfl))) dgs_nil)))))))
      (dss_one (d_ret (d_cN Greduced (hr.mono (by decide)) (da_name (pv 3) (da_name (pv 4) da_nil)))))), fun as Qd Ed h => by
    unfold sdStart at h
    split at h
    · obtain ⟨L0, rn, r, rfl, ok, hr, rfl, q⟩ := h
      refine ⟨rfl, rfl, L0, rn, rfl, keys_nd ok.nd, rfl, name_of hr, fun r' hr' e => ?_⟩
      have er : r = r' := name_one ok hr hr' (by have := DL.D.str.inj e; exact this)
      subst er
      obtain ⟨r0, rs, et, eb, _, rz⟩ := first_row (ok.ok r hr).pc
      have e2 : trF L0 r = .tup (rowD r0 :: rs.map rowD) := by unfold trF trackD; rw [et]; rfl
      rw [e2]
      refine (ix0 (x := rowD r0) (xs := rs.map rowD) ?_ : rIxDD (.tup (rowD r0 :: rs.map rowD)) (.int 0) _)
      have z := lineZ_row r0
      obtain ⟨z1, z2, z3⟩ := z.sizes rz
      refine ⟨z.u0, lt8 z3, lt8 z1, ?_⟩
      rw [← uq_div z.u0 z.b, eb]
      exact q
    · exact h.elim⟩
/-! ### pieces -/
theorem pcs_rows : ∀ (r : Row) (cs : List (Rat × Rat)), (trackGo r cs).map (fun x => (x.b, x.s)) = (r.b, r.s) :: cs
  | r, [] => rfl
  | r, c :: cs => by
    show (r.b, r.s) :: (trackGo (nextRow r c) cs).map (fun x => (x.b, x.s)) = _
    rw [pcs_rows]
    rfl
theorem pcs_trk {s0 : Rat} : ∀ (cs : List (Rat × Rat)), (trk s0 cs).map (fun x => (x.b, x.s)) = cs
  | [] => rfl
  | c :: cs => pcs_rows _ _
def sdPieces (CR : Addr) : SpF := fun as Q _ => match as with
  | [.d x, .d (.str z)] => ∃ (L0 : Rat) (rn : List Rnr) (r : Rnr), x = raceD CR L0 rn ∧ RaceOk L0 rn ∧ r ∈ rn ∧ r.1 = z ∧ Q (r.2.2.map pieceD)
  | _ => False
theorem sdPieces_len (CR : Addr) (as Q E) (h : sdPieces CR as Q E) : as.length = 2 := by
  unfold sdPieces at h
  split at h
  · rfl
  · exact h.elim

def bsF : DL.D → DL.D
  | .tup (b :: s :: _) => .tup [b, s]
  | _ => .non
theorem ok_pieces {f fd CR CU} (F : Fun K "pieces" "Race.pieces" s_Race_pieces f fd) (cC_Race : Cls K CR) (M_Race_track : DefM P w K mg base CR NS "track" 3 (sdTrack CR CU)) : FnOk P w K mg base (L2.CX P w) 4 f fd ["self", "name"] (spF K (sdPieces CR)) :=
  fnF F sc_Race_pieces (sdPieces_len CR) fun cdv A outer s H E c hr b => ⟨_, (dss_one (d_retO (do_lc (own := [("row", 2)]) (p := .n 2) rfl sc_Race_pieces.nd (di_seq (d_mN M_Race_track (hr.mono (by decide)) (d_var (pv 0)) (da_name (pv 1) da_nil))) (blkOk_by (N := N_Race_pieces) (sc := defScope s_Race_pieces) (by decide +kernel)) (fun _ _ _ _ _ => (dg_name (pg_name (i := 2) sc_Race_pieces.nd rfl (.inl rfl)))) (fun _ _ _ _ _ => dts_nil) (fun _ _ _ _ _ => (d_tup (da_cons (d_ix ixd (d_var (pv 2)) d_int) (da_cons (d_ix ixd (d_var (pv 2)) d_int) da_nil))))))), fun as Qd Ed h => by
    unfold sdPieces at h
    split at h
    · obtain ⟨L0, rn, r, rfl, ok, hr, rfl, q⟩ := h
      refine ⟨rfl, rfl, L0, rn, rfl, keys_nd ok.nd, rfl, name_of hr, fun r' hr' e => ?_⟩
      have er : r = r' := name_one ok hr hr' (by have := DL.D.str.inj e; exact this)
      subst er
      obtain ⟨r0, rs, et, few⟩ := trk_cons (ok.ok r hr).pc
      refine lc_by (fun d => [bsF d]) ?_ (fun d hd acc J j => ?_) ?_
      · rw [List.length_map, et]
        show rs.length + 1 ≤ 1000
        omega
      · obtain ⟨x, _, rfl⟩ := List.mem_map.mp hd
        exact j
      · rw [flat_map, List.map_map]
        have e : (trk (rem r.2.1 L0) r.2.2).map (bsF ∘ rowD) = r.2.2.map pieceD := by
          conv => rhs; rw [← pcs_trk (s0 := rem r.2.1 L0) r.2.2]
          rw [List.map_map]
          rfl
        rw [e]
        exact q
    · exact h.elim⟩
/-! ### speed, position -/
def rowT (t : Rat) : List Row → Row
  | r0 :: rs => rowGo t r0 (r0 :: rs)
  | [] => ⟨0, 0, 0⟩
def sdSpeed (CR CT : Addr) : SpD := fun as Q Ed => match as with
  | [.d x, .d (.str z), .d t] => ∃ (L0 : Rat) (rn : List Rnr) (r : Rnr), x = raceD CR L0 rn ∧ RaceOk L0 rn ∧ r ∈ rn ∧ r.1 = z ∧ KN t ∧ (ratD t = none → Ed (.e0 CT)) ∧ ∀ q, ratD t = some q → (q < 0 → Ed (.e0 CT)) ∧ (0 ≤ q → Sz 300 q ∧ Q (rD (rowT q (trk (rem r.2.1 L0) r.2.2)).s))
  | _ => False
theorem sdSpeed_len (CR CT : Addr) (as Q E) (h : sdSpeed CR CT as Q E) : as.length = 3 := by
  unfold sdSpeed at h
  split at h
  · rfl
  · exact h.elim

theorem ok_speed {f fd CR CU CT} (F : Fun K "speed" "Race.speed" s_Race_speed f fd) (cC_Race : Cls K CR) (M_Race_track : DefM P w K mg base CR NS "track" 3 (sdTrack CR CU)) (Gas_time : DefD P w K mg base "as_time" 4 (sdTime CT)) (Grow_at : DefD P w K mg base "row_at" 1 sdRA) : FnOk P w K mg base (L2.CX P w) 5 f fd ["self", "name", "time"] (spD K (sdSpeed CR CT)) :=
  fnD F sc_Race_speed (sdSpeed_len CR CT) fun cdv A outer s H E c hr b => ⟨_, (dss_cons (d_par2 (i := 3) (j := 4) rfl sc_Race_speed.nd rfl rfl (by decide) rfl rfl (d_mE M_Race_track (hr.mono (by decide)) b (d_var (pv 0)) (da_name (pv 1) da_nil)) (d_cE Gas_time (hr.mono (by decide)) b (da_name (pv 2) da_nil)))
      (dss_one (d_ret (d_ix ixd (d_cN Grow_at (hr.mono (by decide)) (da_name (pv 3) (da_name (pv 4) da_nil))) d_int)))), fun as Qd Ed h => by
    unfold sdSpeed at h
    split at h
    · rename_i x z t
      obtain ⟨L0, rn, r, rfl, ok, hr, rfl, kt, t1, t2⟩ := h
      refine ⟨rfl, rfl, L0, rn, rfl, keys_nd ok.nd, rfl, name_of hr, fun r' hr' e => ?_⟩
      have er : r = r' := name_one ok hr hr' (by have := DL.D.str.inj e; exact this)
      subst er
      refine ⟨kt, t1, fun q eq => ?_⟩
      obtain ⟨t3, t4⟩ := t2 q eq
      refine ⟨t3, fun hq => ?_⟩
      obtain ⟨zq, g⟩ := t4 hq
      have pc := (ok.ok r hr).pc
      obtain ⟨r0, rs, er, few⟩ := trk_cons pc
      have rz := pc.rz
      rw [er] at g rz
      have et : trF L0 r = trackD (r0 :: rs) := by unfold trF; rw [er]
      rw [et]
      have rm : RowZ (rowGo q r0 (r0 :: rs)) := by
        rcases rowGo_mem q r0 (r0 :: rs) with e | m
        · rw [e]
          exact rz r0 List.mem_cons_self
        · exact rz _ m
      exact ⟨r0, rs, q, rfl, rfl, fun z hz => (rz z hz).b, zq, few, g⟩
    · exact h.elim⟩
def sdPosition (CR CT : Addr) : SpD := fun as Q Ed => match as with
  | [.d x, .d (.str z), .d t] => ∃ (L0 : Rat) (rn : List Rnr) (r : Rnr), x = raceD CR L0 rn ∧ RaceOk L0 rn ∧ r ∈ rn ∧ r.1 = z ∧ KN t ∧ (ratD t = none → Ed (.e0 CT)) ∧ ∀ q, ratD t = some q → (q < 0 → Ed (.e0 CT)) ∧ (0 ≤ q → Sz 300 q ∧ Q (rD ((rowT q (trk (rem r.2.1 L0) r.2.2)).at_ q)))
  | _ => False
theorem sdPosition_len (CR CT : Addr) (as Q E) (h : sdPosition CR CT as Q E) : as.length = 3 := by
  unfold sdPosition at h
  split at h
  · rfl
  · exact h.elim

theorem ok_position {f fd CR CU CT} (F : Fun K "position" "Race.position" s_Race_position f fd) (cC_Race : Cls K CR) (M_Race_track : DefM P w K mg base CR NS "track" 3 (sdTrack CR CU)) (Gas_time : DefD P w K mg base "as_time" 4 (sdTime CT)) (Grow_at : DefD P w K mg base "row_at" 1 sdRA) (Gposition_in : DefD P w K mg base "position_in" 1 sdPin) (Greduced : DefD P w K mg base "reduced" 1 sdRed) : FnOk P w K mg base (L2.CX P w) 5 f fd ["self", "name", "time"] (spD K (sdPosition CR CT)) :=
  fnD F sc_Race_position (sdPosition_len CR CT) fun cdv A outer s H E c hr b => ⟨_, (dss_cons (d_par2 (i := 3) (j := 4) rfl sc_Race_position.nd rfl rfl (by decide) rfl rfl (d_mE M_Race_track (hr.mono (by decide)) b (d_var (pv 0)) (da_name (pv 1) da_nil)) (d_cE Gas_time (hr.mono (by decide)) b (da_name (pv 2) da_nil)))
      (dss_cons (d_asg (d_cN Gposition_in (hr.mono (by decide)) (da_cons (d_cN Grow_at (hr.mono (by decide)) (da_name (pv 3) (da_name (pv 4) da_nil))) (da_name (pv 4) da_nil))) (dg_tup rfl (dgs_cons (dg_name (pg_name (i := 5) sc_Race_position.nd rfl (.inl rfl))) (dgs_cons (dg_name (pg_name (i := 6) sc_Race_position.nd rfl (.inl rfl))) dgs_nil))))
      (dss_one (d_ret (d_cN Greduced (hr.mono (by decide)) (da_name (pv 5) (da_name (pv 6) da_nil))))))), fun as Qd Ed h => by
    unfold sdPosition at h
    split at h
    · rename_i x z t
      obtain ⟨L0, rn, r, rfl, ok, hr, rfl, kt, t1, t2⟩ := h
      refine ⟨rfl, rfl, L0, rn, rfl, keys_nd ok.nd, rfl, name_of hr, fun r' hr' e => ?_⟩
      have er : r = r' := name_one ok hr hr' (by have := DL.D.str.inj e; exact this)
      subst er
      refine ⟨kt, t1, fun q eq => ?_⟩
      obtain ⟨t3, t4⟩ := t2 q eq
      refine ⟨t3, fun hq => ?_⟩
      obtain ⟨zq, g⟩ := t4 hq
      have pc := (ok.ok r hr).pc
      obtain ⟨r0, rs, er, few⟩ := trk_cons pc
      have rz := pc.rz
      rw [er] at g rz
      have et : trF L0 r = trackD (r0 :: rs) := by unfold trF; rw [er]
      rw [et]
      have rm : RowZ (rowGo q r0 (r0 :: rs)) := by
        rcases rowGo_mem q r0 (r0 :: rs) with e | m
        · rw [e]
          exact rz r0 List.mem_cons_self
        · exact rz _ m
      refine ⟨r0, rs, q, rfl, rfl, fun z hz => (rz z hz).b, zq, few, ?_⟩
      refine ⟨_, q, rfl, rfl, rm, zq, fun T u u0 eT zT zu => ?_⟩
      refine ⟨u0, lt8 zT, lt8 zu, ?_⟩
      rw [← uq_div u0 eT]
      exact g
    · exact h.elim⟩
end
end LR
/-! LOrd: ranks of exact numbers by scaled floors; lists in order. Core Lean alone. -/
namespace LR
/-- the whole part of q * 2 ^ (2 * m) -/
def rank (m : Nat) (q : Rat) : Int := (q.num * 2 ^ (2 * m)) / (q.den : Int)
theorem rank_lt {m : Nat} {p q : Rat} (hp : p.den < 2 ^ m) (hq : q.den < 2 ^ m) (h : p < q) : rank m p < rank m q := by
  unfold rank
  have d1 : (0 : Int) < p.den := by have := den_pos p; omega
  have d2 : (0 : Int) < q.den := by have := den_pos q; omega
  have hl := (Rat.lt_iff p q).mp h
  have hD : (p.den : Int) * q.den ≤ 2 ^ (2 * m) := by
    have e : (2 : Int) ^ (2 * m) = ((2 ^ m * 2 ^ m : Nat) : Int) := by
      rw [← Nat.pow_add, show m + m = 2 * m by omega, Int.natCast_pow]
      rfl
    rw [e, ← Int.natCast_mul]
    exact Int.ofNat_le.mpr (Nat.mul_le_mul (Nat.le_of_lt hp) (Nat.le_of_lt hq))
  generalize (2 : Int) ^ (2 * m) = D at hD
  have hD0 : 0 < D := Int.lt_of_lt_of_le (Int.mul_pos d1 d2) hD
  have hx : p.num * D / p.den * p.den ≤ p.num * D := Int.ediv_mul_le _ (Int.ne_of_gt d1)
  generalize p.num * D / (p.den : Int) = x at hx ⊢
  have key : (x + 1) * q.den ≤ q.num * D := by
    refine Int.le_of_mul_le_mul_right (a := (p.den : Int)) ?_ d1
    have e1 : (x + 1) * q.den * p.den = x * p.den * q.den + p.den * q.den := by
      rw [Int.add_mul, Int.add_mul, Int.one_mul, Int.mul_right_comm, Int.mul_comm (q.den : Int) p.den]
    have e2 : x * p.den * q.den ≤ p.num * D * q.den := Int.mul_le_mul_of_nonneg_right hx (Int.le_of_lt d2)
    have e3 : p.num * q.den + 1 ≤ q.num * p.den := hl
    have e4 : (p.num * q.den + 1) * D ≤ q.num * p.den * D := Int.mul_le_mul_of_nonneg_right e3 (Int.le_of_lt hD0)
    rw [Int.add_mul, Int.one_mul] at e4
    have e5 : p.num * D * q.den = p.num * q.den * D := Int.mul_right_comm _ _ _
    have e6 : q.num * D * p.den = q.num * p.den * D := Int.mul_right_comm _ _ _
    omega
  have := (Int.le_ediv_iff_mul_le d2).mpr key
  omega
theorem rank_inj {m : Nat} {p q : Rat} (hp : p.den < 2 ^ m) (hq : q.den < 2 ^ m) (h : rank m p = rank m q) : p = q := by
  by_cases c : p < q
  · have := rank_lt hp hq c
    omega
  · by_cases d : q < p
    · have := rank_lt hq hp d
      omega
    · exact Rat.le_antisymm (Rat.not_lt.mp d) (Rat.not_lt.mp c)
theorem rank_le {m : Nat} {p q : Rat} (hp : p.den < 2 ^ m) (hq : q.den < 2 ^ m) (h : rank m p ≤ rank m q) : p ≤ q := by
  rw [← Rat.not_lt]
  intro c
  have := rank_lt hq hp c
  omega
theorem rank_abs {m b : Nat} {q : Rat} (h : q.num.natAbs < 2 ^ b) : (q.num * 2 ^ (2 * m)).natAbs < 2 ^ (b + 2 * m) := by
  rw [Int.natAbs_mul, Nat.pow_add, Int.natAbs_pow]
  exact Nat.mul_lt_mul_of_pos_right h (Nat.pow_pos (by decide))
theorem perm_map_inv {α β : Type} {f : α → β} : ∀ {l : List β} {m : List α}, l.Perm (m.map f) → ∃ m' : List α, l = m'.map f ∧ m'.Perm m
  | [], m, h => by
    have : m.map f = [] := (List.nil_perm.mp h)
    exact ⟨[], rfl, by rw [List.map_eq_nil_iff.mp this]⟩
  | x :: l, m, h => by
    have hx : x ∈ m.map f := h.mem_iff.mp List.mem_cons_self
    obtain ⟨a, ha, rfl⟩ := List.mem_map.mp hx
    obtain ⟨s, t, rfl⟩ := List.append_of_mem ha
    have h2 : l.Perm ((s ++ t).map f) := by
      rw [List.map_append, List.map_cons] at h
      have h3 := h.trans List.perm_middle
      rw [List.map_append]
      exact h3.cons_inv
    obtain ⟨m', e, p⟩ := perm_map_inv h2
    exact ⟨a :: m', by rw [List.map_cons, e], (p.cons a).trans List.perm_middle.symm⟩
/-- a list of numbers in order, without duplicates, of the members of another -/
def InOrder (qs rs : List Rat) : Prop := rs.Pairwise (· < ·) ∧ ∀ r, r ∈ rs ↔ r ∈ qs
theorem nodup_one {α β : Type} {f : α → β} : ∀ {l : List α}, (l.map f).Nodup → ∀ x ∈ l, ∀ y ∈ l, f x = f y → x = y
  | [], _, _, h, _, _, _ => by cases h
  | a :: l, hn, x, hx, y, hy, e => by
    obtain ⟨h1, h2⟩ := List.nodup_cons.mp hn
    by_cases ex : x = a
    · by_cases ey : y = a
      · rw [ex, ey]
      · have hy' : y ∈ l := (List.mem_cons.mp hy).resolve_left ey
        exact absurd (List.mem_map.mpr ⟨y, hy', by rw [← e, ex]⟩) h1
    · have hx' : x ∈ l := (List.mem_cons.mp hx).resolve_left ex
      by_cases ey : y = a
      · exact absurd (List.mem_map.mpr ⟨x, hx', by rw [e, ey]⟩) h1
      · exact nodup_one h2 x hx' y ((List.mem_cons.mp hy).resolve_left ey) e
end LR
namespace LR
theorem gcd_step {a b : Int} (hb : 0 ≤ b) (hb0 : b ≠ 0) : Nat.gcd b.natAbs (a % b).natAbs = Nat.gcd a.natAbs b.natAbs := by
  have d := Int.emod_add_mul_ediv a b
  refine Nat.dvd_antisymm (Nat.dvd_gcd ?_ (Nat.gcd_dvd_left _ _)) (Nat.dvd_gcd (Nat.gcd_dvd_right _ _) ?_)
  · have h1 : ((Nat.gcd b.natAbs (a % b).natAbs : Nat) : Int) ∣ b := Int.ofNat_dvd_left.mpr (Nat.gcd_dvd_left _ _)
    have h2 : ((Nat.gcd b.natAbs (a % b).natAbs : Nat) : Int) ∣ a % b := Int.ofNat_dvd_left.mpr (Nat.gcd_dvd_right _ _)
    have h3 := Int.dvd_add h2 (Int.dvd_trans h1 (Int.dvd_mul_right b (a / b)))
    rw [d] at h3
    exact Int.ofNat_dvd_left.mp h3
  · have h1 : ((Nat.gcd a.natAbs b.natAbs : Nat) : Int) ∣ b := Int.ofNat_dvd_left.mpr (Nat.gcd_dvd_right _ _)
    have h2 : ((Nat.gcd a.natAbs b.natAbs : Nat) : Int) ∣ a := Int.ofNat_dvd_left.mpr (Nat.gcd_dvd_left _ _)
    have h3 := Int.dvd_sub h2 (Int.dvd_trans h1 (Int.dvd_mul_right b (a / b)))
    rw [show a - b * (a / b) = a % b by omega] at h3
    exact Int.ofNat_dvd_left.mp h3
end LR
set_option linter.all false
/-! RO: a number put into a list in order: plain mathematics -/
namespace LR
def Above (q : Rat) (rs : List Rat) (k : Nat) : Prop := ∀ j r, k ≤ j → rs[j]? = some r → q < r
theorem pw_get {rs : List Rat} (h : rs.Pairwise (· < ·)) : ∀ {i j : Nat} {a b : Rat}, i < j → rs[i]? = some a → rs[j]? = some b → a < b := by
  intro i j a b ij h1 h2
  have hj := (List.getElem?_eq_some_iff.mp h2)
  have hi := (List.getElem?_eq_some_iff.mp h1)
  obtain ⟨j1, e2⟩ := hj
  obtain ⟨i1, e1⟩ := hi
  rw [← e1, ← e2]
  exact List.pairwise_iff_getElem.mp h i j i1 j1 ij
/-- put at k -/
theorem put_order {qs rs : List Rat} {q : Rat} {k : Nat} (o : InOrder qs rs) (hk : k ≤ rs.length) (ab : Above q rs k) (be : ∀ j r, j < k → rs[j]? = some r → r < q) : InOrder (qs ++ [q]) (rs.take k ++ [q] ++ rs.drop k) := by
  obtain ⟨pw, mem⟩ := o
  refine ⟨?_, fun r => ?_⟩
  · have h1 : ∀ x ∈ rs.take k, x < q := fun x hx => by
      obtain ⟨i, hi, e⟩ := List.mem_iff_getElem.mp hx
      rw [List.length_take] at hi
      exact be i x (by omega) (by rw [List.getElem?_eq_getElem (by omega)]; rw [List.getElem_take] at e; rw [e])
    have h2 : ∀ x ∈ rs.drop k, q < x := fun x hx => by
      obtain ⟨i, hi, e⟩ := List.mem_iff_getElem.mp hx
      rw [List.length_drop] at hi
      exact ab (k + i) x (by omega) (by rw [List.getElem?_eq_getElem (by omega)]; rw [List.getElem_drop] at e; rw [e])
    have pt : (rs.take k).Pairwise (· < ·) := pw.sublist (List.take_sublist _ _)
    have pd : (rs.drop k).Pairwise (· < ·) := pw.sublist (List.drop_sublist _ _)
    rw [List.append_assoc]
    refine List.pairwise_append.mpr ⟨pt, List.pairwise_cons.mpr ⟨h2, pd⟩, fun a ha b hb => ?_⟩
    rcases List.mem_cons.mp hb with e | hb
    · rw [e]
      exact h1 a ha
    · have := h1 a ha
      have := h2 b hb
      grind
  · rw [List.append_assoc, List.mem_append, List.mem_append, List.mem_append, List.mem_singleton]
    have e := mem r
    have t : r ∈ rs ↔ r ∈ rs.take k ∨ r ∈ rs.drop k := by
      rw [← List.mem_append, List.take_append_drop]
    constructor
    · rintro (h | h | h)
      · exact .inl (e.mp (t.mpr (.inl h)))
      · exact .inr h
      · exact .inl (e.mp (t.mpr (.inr h)))
    · rintro (h | h)
      · rcases t.mp (e.mpr h) with h | h
        · exact .inl h
        · exact .inr (.inr h)
      · exact .inr (.inl h)
theorem same_order {qs rs : List Rat} {q : Rat} (o : InOrder qs rs) (h : q ∈ rs) : InOrder (qs ++ [q]) rs := by
  refine ⟨o.1, fun r => ?_⟩
  rw [List.mem_append, List.mem_singleton, o.2 r]
  exact ⟨.inl, fun z => z.elim id fun e => by rw [e]; exact (o.2 q).mp h⟩
end LR
set_option Elab.async false
set_option linter.all false
set_option maxRecDepth 100000
set_option maxHeartbeats 4000000
set_option exponentiation.threshold 100000
namespace LR
open PySem PySem.Spec PyProof.Rows L2 DL
section
variable {P : Program} {w : World} {K : PySem.W.Frag} {mg : Str → Option Value} {base : Heap}
/-! ### _inserted -/
def sdInsd : SpD := fun as Q _ => match as with
  | [.d (.lst ds)] => ∃ qs : List Rat, ds = qs.map rD ∧ qs.length ≤ 63 ∧ (∀ q ∈ qs, Sz 3900 q) ∧ ∀ rs, InOrder qs rs → Q (.lst (rs.map rD))
  | _ => False
theorem sdInsd_len  (as Q E) (h : sdInsd  as Q E) : as.length = 1 := by
  unfold sdInsd at h
  split at h
  · rfl
  · exact h.elim

theorem ixO {x : DL.D} {xs : List DL.D} {k : Nat} {Q : QD} (hx : xs[k]? = some x) (h : Q x) : (match atI xs ((k : Nat) : Int) with
    | some d => Q d
    | none => False) := by
  rw [atI_nat hx]
  exact h
theorem ixE {x : DL.D} {xs : List DL.D} {k : Nat} {e : Int} {Q : QD} (he : e = (k : Int)) (hx : xs[k]? = some x) (h : Q x) : (match atI xs e with
    | some d => Q d
    | none => False) := by
  rw [he, atI_nat hx]
  exact h
theorem rD_eq {p q : Rat} : eqD (rD p) (rD q) = decide (p = q) := by
  show (p.num == q.num && ((p.den : Int) == q.den && true)) = decide (p = q)
  rw [Bool.and_true, Bool.eq_iff_iff, Bool.and_eq_true, beq_iff_eq, beq_iff_eq, decide_eq_true_eq]
  constructor
  · rintro ⟨a, b⟩
    have b : p.den = q.den := by omega
    cases p
    cases q
    simp_all
  · rintro rfl
    exact ⟨rfl, rfl⟩
theorem ok_insd {f fd} (D : DefAt K mg "_inserted" s_inserted ["rows"] f fd) (m_len : mg "len" = none) : DefD P w K mg base "_inserted" 1 sdInsd :=
  .mk1 D (fnD D.F sc_inserted sdInsd_len fun cdv A outer s H E c hr b => ⟨_, (dss_cons (d_setO (i := 1) sc_inserted.nd rfl (.inl rfl) (do_lst da_nil))
      (dss_cons (d_for (passes_of rfl) rfl (di_seq (d_var (pv 0))) (dg_name (pg_name (i := 2) sc_inserted.nd rfl (.inl rfl)))
      (dss_cons (d_asg (d_var (pv 2)) (dg_tup rfl (dgs_cons (dg_name (pg_name (i := 3) sc_inserted.nd rfl (.inl rfl))) (dgs_cons (dg_name (pg_name (i := 4) sc_inserted.nd rfl (.inl rfl))) dgs_nil))))
      (dss_cons (d_asg (d_lenOwn m_len (pv 1)) (dg_name (pg_name (i := 5) sc_inserted.nd rfl (.inl rfl))))
      (dss_cons (d_while (passes_of rfl) (PW.pt (dw_and (dt_truth (d_var (pv 5))) (dw_and1 (dt_cmp od_lt (d_op od_mulA (d_var (pv 3)) (d_ix ixd (d_ixOwn (pv 1) (d_op od_sub (d_var (pv 5)) d_int)) d_int)) (d_op od_mulA (d_ix ixd (d_ixOwn (pv 1) (d_op od_sub (d_var (pv 5)) d_int)) d_int) (d_var (pv 4)))))))
      (dss_one (d_aug (i := 5) sc_inserted.nd rfl (.inl rfl) d_int ipd_sub)))
      (dss_one (d_ifS (PW.pt (dw_or (dt_not (dt_truth (d_var (pv 5)))) (dw_or1 (dt_cmp (od_ne hr.units) (d_ixOwn (pv 1) (d_op od_sub (d_var (pv 5)) d_int)) (d_var (pv 2))))))
      (dss_one (d_insert (pv 1) (d_var (pv 5)) (d_var (pv 2))))
      dss_nil))))))
      (dss_pub 1 (dss_one (d_ret (d_var (pv 1))))))), fun as Qd Ed h => by
    unfold sdInsd at h
    split at h
    · obtain ⟨qs, rfl, hlen, hz, q⟩ := h
      intro p
      refine ⟨fun i ss => ∃ (rs : List Rat) (o2 o3 o4 o5 : Sl), ss = [.d (.lst (qs.map rD)), .own p (rs.map rD), o2, o3, o4, o5] ∧ InOrder (qs.take i) rs ∧ rs.length ≤ i, ⟨[], _, _, _, _, rfl, ⟨.nil, fun r => by simp⟩, Nat.le_refl _⟩, ?_, ?_⟩
      · rintro i d _ hd ⟨rs, o2, o3, o4, o5, rfl, ord, rl⟩
        rw [List.getElem?_map] at hd
        obtain ⟨x, hx, rfl⟩ := Option.map_eq_some_iff.mp hd
        have il : i < qs.length := (List.getElem?_eq_some_iff.mp hx).1
        have zx := hz x (List.mem_of_getElem? hx)
        have rsz : ∀ r ∈ rs, Sz 3900 r := fun r hr => hz r (List.mem_of_mem_take ((ord.2 r).mp hr))
        have tq : qs.take (i + 1) = qs.take i ++ [x] := by rw [List.take_add_one, hx]; rfl
        refine ⟨fun m ss => ∃ k : Nat, ss = [.d (.lst (qs.map rD)), .own p (rs.map rD), .d (rD x), .d (.int x.num), .d (.int x.den), .d (.int (k : Int))] ∧ k ≤ rs.length ∧ Above x rs k ∧ k = m, ⟨_, (rs.map rD).length, rfl, by rw [List.length_map]; exact Nat.le_refl _, (fun j r hj e => absurd (List.getElem?_eq_some_iff.mp e).1 (by rw [List.length_map] at hj; omega)), rfl⟩, ?_⟩
        rintro m _ ⟨k, rfl, kl, ab, hm⟩
        have put : ∀ k : Nat, k ≤ rs.length → Above x rs k → (∀ j r, j < k → rs[j]? = some r → r < x) → ∃ (rs' : List Rat) (o2 o3 o4 o5 : Sl), [Sl.d (.lst (qs.map rD)), .own p ((rs.map rD).take (k : Int).toNat ++ [rD x] ++ (rs.map rD).drop (k : Int).toNat), .d (rD x), .d (.int x.num), .d (.int x.den), .d (.int (k : Int))] = [Sl.d (.lst (qs.map rD)), .own p (rs'.map rD), o2, o3, o4, o5] ∧ InOrder (qs.take (i + 1)) rs' ∧ rs'.length ≤ i + 1 := fun k kl ab be => by
          refine ⟨rs.take k ++ [x] ++ rs.drop k, _, _, _, _, by rw [Int.toNat_natCast, List.map_append, List.map_append, List.map_take, List.map_drop]; rfl, by rw [tq]; exact put_order ord kl ab be, ?_⟩
          rw [List.length_append, List.length_append, List.length_take, List.length_drop, List.length_singleton]
          omega
        have big : (rs.map rD).length < sizeLine := by rw [List.length_map]; exact Nat.lt_of_lt_of_le (show rs.length < 64 by omega) (by decide)
        cases k with
        | zero => exact ⟨by decide, by decide, big, put 0 kl ab (fun j r hj => absurd hj (Nat.not_lt_zero _))⟩
        | succ j =>
          have hr : rs[j]? = some (rs[j]'(by omega)) := List.getElem?_eq_getElem (by omega)
          generalize (rs[j]'(by omega)) = r at hr
          have zr := rsz r (List.mem_of_getElem? hr)
          have hrD : (rs.map rD)[j]? = some (rD r) := by rw [List.getElem?_map, hr]; rfl
          have ej : ((j + 1 : Nat) : Int) - 1 = (j : Int) := by omega
          have kt : (((j + 1 : Nat) : Int) != 0) = true := by simp; omega
          refine ixE ej hrD ?_
          refine ⟨mu zx.1 (absden zr), ?_⟩
          refine ixE ej hrD ?_
          refine ⟨mu zr.1 (absden zx), ?_⟩
          refine ifD (fun c => ?_) (fun c => ?_)
          · have lt : x < r := (lt_iff x r).mpr c
            refine ⟨j, by omega, j, ?_, by omega, fun j' t hj e => ?_, rfl⟩
            · rw [← ej]
              rfl
            · by_cases e2 : j' = j
              · subst e2
                rw [hr] at e
                cases e
                exact lt
              · exact ab j' t (by omega) e
          · have nlt : ¬ x < r := fun z => c ((lt_iff x r).mp z)
            refine ixE ej hrD ?_
            refine ⟨_, _, rfl, rfl, by rfl, by rfl, ?_⟩
            have ep := eqD_py (show py (rD r) = some (.tuple [.int r.num, .int r.den]) from rfl) (show py (rD x) = some (.tuple [.int x.num, .int x.den]) from rfl)
            rw [rD_eq] at ep
            refine ifB (fun c => ?_) (fun c => ?_)
            · have ne : r ≠ x := fun e => by
                have c : (!PyData.eqv (.tuple [.int r.num, .int r.den]) (.tuple [.int x.num, .int x.den])) = true := c
                rw [ep, decide_eq_true e] at c
                cases c
              have rx : r < x := by grind
              exact ⟨by omega, by omega, big, put (j + 1) kl ab (fun j' t hj et => by
                by_cases e2 : j' = j
                · subst e2
                  rw [hr] at et
                  cases et
                  exact rx
                · have := pw_get ord.1 (show j' < j by omega) et hr
                  grind)⟩
            · have e : r = x := by
                have c : (!PyData.eqv (.tuple [.int r.num, .int r.den]) (.tuple [.int x.num, .int x.den])) = false := c
                rw [ep] at c
                by_cases e : r = x
                · exact e
                · rw [decide_eq_false e] at c
                  cases c
              refine ⟨rs, _, _, _, _, rfl, ?_, by omega⟩
              rw [tq]
              exact same_order ord (e ▸ List.mem_of_getElem? hr)
      · rintro _ ⟨rs, o2, o3, o4, o5, rfl, ord, rl⟩
        have e : qs.take (qs.map rD).length = qs := List.take_of_length_le (by rw [List.length_map]; exact Nat.le_refl _)
        rw [e] at ord
        exact q rs ord
    · exact h.elim⟩)
end
end LR
set_option Elab.async false
set_option linter.all false
set_option maxRecDepth 100000
set_option maxHeartbeats 4000000
/-! C2: list comprehensions of two clauses over data -/
namespace DL
open PySem PySem.Spec PyProof.Rows L2
/-- a list that no slot holds, and that was not there at the entry, is changed -/
theorem Abs.other {K c O Hs H σ ss} (A : Abs K c O Hs H σ ss) {D : Addr} {o : HO} (oD : O D = none) (c0 : c.H D = none) (nD : Hs D = none) : Abs K c O Hs (upd H D o) σ ss where
  ext := {
    fz := A.ext.fz
    sub := fun b u e => by rw [upd_ne (ne_of_none e nD)]; exact A.ext.sub b u e
    keep := fun b u z e => by rw [upd_ne (ne_of_none e c0)]; exact A.ext.keep b u z e
    live := fun b e => by
      by_cases hb : b = D
      · subst hb; exact absurd c0 e
      · rw [upd_ne hb]; exact A.ext.live b e
    new := A.ext.new
    nt := fun b e => by
      by_cases hb : b = D
      · subst hb; exact absurd c0 e.ne
      · rw [upd_ne hb]; exact A.ext.nt b e
    pool := fun b l z q => by
      obtain ⟨xs, h1, h2⟩ := A.ext.pool b l z q
      have hb : b ≠ D := by rintro rfl; have := A.z b z; rw [oD] at this; cases this
      exact ⟨xs, by rw [upd_ne hb]; exact h1, h2⟩ }
  fz := A.fz
  live := fun a h => by
    have hb : a ≠ D := by rintro rfl; exact h oD
    rw [upd_ne hb]; exact A.live a h
  own0 := A.own0
  z := A.z
  len := A.len
  sl := fun i => by
    have q := A.sl i
    revert q
    cases nth ss i with
    | un => exact fun _ => trivial
    | d x => exact fun q => q
    | own p ds =>
      rintro ⟨xs, h1, h2, h3, h4⟩
      have hb : p ≠ D := by rintro rfl; rw [oD] at h2; cases h2
      exact ⟨xs, h1, h2, by rw [upd_ne hb]; exact h3, h4⟩
    | pool =>
      rintro ⟨p, h1, h2, l, hk, xs, h3, h4⟩
      have hb : p ≠ D := by rintro rfl; rw [oD] at h2; cases h2
      exact ⟨p, h1, h2, l, hk, xs, by rw [upd_ne hb]; exact h3, h4⟩
    | mu p m =>
      rintro ⟨u, h1, h2, h3, h4⟩
      have hb : p ≠ D := by rintro rfl; rw [oD] at h2; cases h2
      exact ⟨u, h1, h2, by rw [upd_ne hb]; exact h3, h4⟩
section
variable {X : Cx} {c : Cn} {tg tg1 : Expr}
/-- I, I1: what holds of the new list ahead of each turn of the first, of the second clause -/
def toLc2 (ti : TID) (p : Pat) (tt : TTD) (ti1 : TID) (p1 : Pat) (tt1 : TTD) (te : TD) (vs vs1 : List Nat) : TOD := fun ss Q Ed => ti ss (fun items => ∃ I : Nat → List D → Prop, I 0 [] ∧
  (∀ i d acc, items[i]? = some d → I i acc → p.gd d (wipeD ss vs) fun ss2 => tt ss2 (fun b => if b = true then ti1 ss2 (fun items1 => ∃ I1 : Nat → List D → Prop, I1 0 acc ∧
    (∀ j d1 acc1, items1[j]? = some d1 → I1 j acc1 → p1.gd d1 (wipeD ss2 vs1) fun ss3 => tt1 ss3 (fun b => if b = true then te ss3 (fun y => acc1.length < 1000 ∧ I1 (j + 1) (acc1 ++ [y])) Ed else I1 (j + 1) acc1) Ed) ∧
    ∀ acc1, I1 items1.length acc1 → I (i + 1) acc1) Ed else I (i + 1) acc) Ed) ∧ ∀ acc, I items.length acc → Q acc) Ed
section
variable {elt iter iter1 : Expr} {ifs ifs1 : List Expr} {scope : Scope} {own : List (Str × Nat)} {vs1 : List Nat} {pos : Pos} {ti ti1 : TID} {p p1 : Pat} {tt tt1 : TTD} {te : TD}
theorem lc2_run (hsub : ∀ j ∈ p.vs, j ∈ own.map (·.2)) (hsub1 : ∀ j ∈ p1.vs, j ∈ vs1) : ∀ σ H Q, liftO c X.K (toLc2 ti p tt ti1 p1 tt1 te (own.map (·.2)) vs1) σ H Q → tLc2 (liftI c X.K ti) (p.tg X.K) (liftT c X.K tt) (liftI c X.K ti1) (p1.tg X.K) (liftT c X.K tt1) (lift c X.K te) (own.map (·.2)) vs1 σ H Q := by
  intro σ H Q q
  obtain ⟨O, Hs, ss, Qd, Ed, A, h, er, gc⟩ := q
  refine ⟨O, Hs, ss, _, Ed, A, h, er, fun items J Hs1 H1 x1 hJ q1 => ?_⟩
  obtain ⟨I, i0, turn, fin⟩ := q1
  intro D nD
  have A1 := A.next x1
  have nD1 : Hs1 D = none := none_sub A1.sub nD
  have oD : O D = none := by
    cases z : O D with
    | none => rfl
    | some k => exact absurd nD (A1.live D (by rw [z]; exact fun z => nomatch z)).ne
  have c0 : c.H D = none := A1.fresh nD
  have nzD : ¬ Z0 O D := fun z => by have z : O D = some 0 := z; rw [oD] at z; cases z
  refine ⟨fun i m H2 => m = items.length - i ∧ i ≤ items.length ∧ ∃ Hs2 xs acc, Ext (Z0 O) Hs1 H1 Hs2 H2 ∧ Hs2 D = none ∧ H2 D = some (.lst xs) ∧ IsA X.K Hs2 acc xs ∧ I i acc, ⟨_, rfl, Nat.zero_le _, Hs1, [], [], Ext.grow x1.sub nD, nD1, upd_same, rfl, i0⟩, ?_⟩
  rintro i m H2 ⟨rfl, hi, Hs2, xs, acc, x2, n2, h2, h3, q2⟩
  by_cases hlt : i < items.length
  · have hd : items[i]? = some items[i] := List.getElem?_eq_getElem hlt
    refine .inr ⟨hJ.go i Hs2 H2 x2.fz x2.sub hlt, fun H5 => ∃ Hs5 xs5 acc5, Ext (Z0 O) Hs1 H1 Hs5 H5 ∧ Hs5 D = none ∧ H5 D = some (.lst xs5) ∧ IsA X.K Hs5 acc5 xs5 ∧ I (i + 1) acc5, fun H5 z => ⟨items.length - (i + 1), by omega, rfl, hlt, z⟩, fun v H3 hy => ?_⟩
    obtain ⟨Hs3, x3, is3⟩ := hJ.yld i Hs2 H2 v H3 _ x2.fz x2.sub hy hd
    have x13 := x2.trans (x3 (Z0 O))
    have A3 := (A1.next x13).wipe (own.map (·.2))
    have D3 : H3 D = some (.lst xs) := (x3 (Z0 O)).keep D _ nzD h2
    have n3 : Hs3 D = none := (x3 (Z0 O)).new D n2 (by rw [h2]; trivial)
    refine p.conn A3 is3 (turn i _ acc hd q2) fun σ4 ss4 A4 k4 q4 => ⟨?_, ?_⟩
    · have l0 : (L2.wipe σ (own.map (·.2))).length = σ.length := wipe_length _ _
      have e1 : L2.wipe σ4 (own.map (·.2)) = L2.wipe (L2.wipe σ (own.map (·.2))) (own.map (·.2)) := wipe_eq k4.1 fun j hj => k4.2 j fun m => hj (hsub j m)
      have e2 : L2.wipe (L2.wipe σ (own.map (·.2))) (own.map (·.2)) = L2.wipe σ (own.map (·.2)) := wipe_eq l0 fun j hj => wipe_out hj
      exact e1.trans e2
    · refine ⟨O, Hs3, ss4, _, Ed, A4, q4, er, fun b Hs5 H5 x5 q5 => ?_⟩
      have x15 := x13.trans x5
      have D5 : H5 D = some (.lst xs) := x5.keep D _ nzD D3
      have n5 : Hs5 D = none := x5.new D n3 (by rw [D3]; trivial)
      have h5 := h3.same (((x3 (Z0 O)).trans x5).fz)
      cases b with
      | false =>
        simp only [Bool.false_eq_true, if_false] at q5
        exact iteF ⟨Hs5, xs, acc, x15, n5, D5, h5, q5⟩
      | true =>
        simp only [if_true] at q5
        refine iteT ⟨O, Hs5, ss4, _, Ed, A4.next x5, q5, er, fun items1 J1 Hs6 H6 x6 hJ1 q6 => ?_⟩
        obtain ⟨I1, j0, turn1, fin1⟩ := q6
        have D6 : H6 D = some (.lst xs) := x6.keep D _ nzD D5
        have n6 : Hs6 D = none := x6.new D n5 (by rw [D5]; trivial)
        refine ⟨fun j k H7 => k = items1.length - j ∧ j ≤ items1.length ∧ ∃ Hs7 xs7 acc7, Ext (Z0 O) Hs1 H1 Hs7 H7 ∧ Same Hs6 Hs7 ∧ Abs X.K c O Hs7 H7 σ4 ss4 ∧ Hs7 D = none ∧ H7 D = some (.lst xs7) ∧ IsA X.K Hs7 acc7 xs7 ∧ I1 j acc7, ⟨_, rfl, Nat.zero_le _, Hs6, xs, acc, x15.trans x6, .refl _, (A4.next x5).next x6, n6, D6, h5.same x6.fz, j0⟩, ?_⟩
        rintro j k H7 ⟨rfl, hj, Hs7, xs7, acc7, x17, s67, A7, n7, D7, h7, q7⟩
        by_cases hlt1 : j < items1.length
        · have hd1 : items1[j]? = some items1[j] := List.getElem?_eq_getElem hlt1
          refine .inr ⟨hJ1.go j Hs7 H7 s67 A7.sub hlt1, fun H9 => ∃ Hs9 xs9 acc9, Ext (Z0 O) Hs1 H1 Hs9 H9 ∧ Same Hs6 Hs9 ∧ Abs X.K c O Hs9 H9 σ4 ss4 ∧ Hs9 D = none ∧ H9 D = some (.lst xs9) ∧ IsA X.K Hs9 acc9 xs9 ∧ I1 (j + 1) acc9, fun H9 z => ⟨items1.length - (j + 1), by omega, rfl, hlt1, z⟩, fun v H8 hy1 => ?_⟩
          obtain ⟨Hs8, x8, is8⟩ := hJ1.yld j Hs7 H7 v H8 _ s67 A7.sub hy1 hd1
          have A8 := A7.next (x8 (Z0 O))
          have D8 : H8 D = some (.lst xs7) := (x8 (Z0 O)).keep D _ nzD D7
          have n8 : Hs8 D = none := (x8 (Z0 O)).new D n7 (by rw [D7]; trivial)
          refine p1.conn (A8.wipe vs1) is8 (turn1 j _ acc7 hd1 q7) fun σ9 ss9 A9 k9 q9 => ⟨?_, ?_⟩
          · have l0 : (L2.wipe σ4 vs1).length = σ4.length := wipe_length _ _
            have e1 : L2.wipe σ9 vs1 = L2.wipe (L2.wipe σ4 vs1) vs1 := wipe_eq k9.1 fun j hj => k9.2 j fun m => hj (hsub1 j m)
            have e2 : L2.wipe (L2.wipe σ4 vs1) vs1 = L2.wipe σ4 vs1 := wipe_eq l0 fun j hj => wipe_out hj
            exact e1.trans e2
          · refine ⟨O, Hs8, ss9, _, Ed, A9, q9, er, fun b Hs10 H10 x10 q10 => ?_⟩
            have D10 : H10 D = some (.lst xs7) := x10.keep D _ nzD D8
            have n10 : Hs10 D = none := x10.new D n8 (by rw [D8]; trivial)
            have x110 := (x17.trans (x8 (Z0 O))).trans x10
            have s610 : Same Hs6 Hs10 := s67.trans ((x8 (Z0 O)).trans x10).fz
            have h10 := h7.same (((x8 (Z0 O)).trans x10).fz)
            cases b with
            | false =>
              simp only [Bool.false_eq_true, if_false] at q10
              exact iteF ⟨Hs10, xs7, acc7, x110, s610, A8.next x10, n10, D10, h10, q10⟩
            | true =>
              simp only [if_true] at q10
              refine iteT ⟨O, Hs10, ss9, _, Ed, A9.next x10, q10, er, fun y w Hs11 H11 x11 i11 q11 => ?_⟩
              obtain ⟨small, q11⟩ := q11
              have D11 : H11 D = some (.lst xs7) := x11.keep D _ nzD D10
              have n11 : Hs11 D = none := x11.new D n10 (by rw [D10]; trivial)
              exact ⟨xs7, D11, by rw [h7.len]; exact Nat.lt_of_lt_of_le small (by decide), Hs11, _, _, (x110.trans x11).put nD n11, s610.trans x11.fz, ((A8.next x10).next x11).other oD c0 n11, n11, upd_same, (h10.same x11.fz).app (.one i11), q11⟩
        · have e : j = items1.length := by omega
          subst e
          exact .inl ⟨hJ1.stop _ Hs7 H7 s67 A7.sub rfl, Hs7, xs7, acc7, x17, n7, D7, h7, fin1 acc7 q7⟩
  · have e : i = items.length := by omega
    subst e
    have n0 : H D = none := by
      cases z : H D with
      | none => rfl
      | some u => exact absurd nD (x1.live D (by rw [z]; exact fun z => nomatch z))
    exact .inl ⟨hJ.stop _ Hs2 H2 x2.fz x2.sub rfl, gc acc D xs Hs2 H2 (x1.trans x2) n0 n2 h2 h3 (fin acc q2)⟩
theorem do_lc2 (hc : X.calm = true) (hN : X.N.Nodup) (hi : DI X c tg iter ti) (ok : BlkOk X.N X.env.scope scope own) (hv : ∀ i ∈ vs1, i ∈ own.map (·.2))
    (hg : ∀ (s : Shared) (H : Hp) (C : Addr) (cl : List (Str × Addr)) (fp : List Addr), DG (X.blk s H scope (compEnvC scope cl C X.env) fp) tg p) (ht : ∀ (s : Shared) (H : Hp) (C : Addr) (cl : List (Str × Addr)) (fp : List Addr), DTs (X.blk s H scope (compEnvC scope cl C X.env) fp) c ifs tt)
    (hi1 : ∀ (s : Shared) (H : Hp) (C : Addr) (cl : List (Str × Addr)) (fp : List Addr), DI (X.blk s H scope (compEnvC scope cl C X.env) fp) c tg1 iter1 ti1)
    (hg1 : ∀ (s : Shared) (H : Hp) (C : Addr) (cl : List (Str × Addr)) (fp : List Addr), DG (X.blk s H scope (compEnvC scope cl C X.env) fp) tg1 p1) (ht1 : ∀ (s : Shared) (H : Hp) (C : Addr) (cl : List (Str × Addr)) (fp : List Addr), DTs (X.blk s H scope (compEnvC scope cl C X.env) fp) c ifs1 tt1)
    (he : ∀ (s : Shared) (H : Hp) (C : Addr) (cl : List (Str × Addr)) (fp : List Addr), DE (X.blk s H scope (compEnvC scope cl C X.env) fp) c elt te) (hsub : ∀ j ∈ p.vs, j ∈ own.map (·.2) := by decide) (hsub1 : ∀ j ∈ p1.vs, j ∈ vs1 := by decide) (hs : ∀ x, foldedSetIterable iter X.env x = pure x := by intro _; rfl) (hs1 : ∀ env x, foldedSetIterable iter1 env x = pure x := by intro _ _; rfl) :
    DO X c (.ListComp elt [⟨tg, iter, ifs, 0⟩, ⟨tg1, iter1, ifs1, 0⟩] scope pos) (toLc2 ti p tt ti1 p1 tt1 te (own.map (·.2)) vs1) := pe_imp (pe_lc2 hc hN hi ok hv hg ht hi1 hg1 ht1 he hs hs1) (lc2_run hsub hsub1)
end
end
/-- .. if .., none or one of each item of each turn's list: g d, and of it f d e -/
theorem lc2_by {items : List D} (g : D → List D) {p p1 : Pat} {vs vs1 : List Nat} {ss : List Sl} {tt tt1 : TTD} {ti1 : TID} {te : TD} {Ed : QE} {Q : List D → Prop} (small : (items.flatMap g).length ≤ 900)
    (turn : ∀ d, d ∈ items → ∀ (acc : List D) (J : List D → Prop), acc.length + (g d).length ≤ 900 → J (acc ++ g d) → p.gd d (wipeD ss vs) fun ss2 => tt ss2 (fun b => if b = true then ti1 ss2 (fun items1 => ∃ I1 : Nat → List D → Prop, I1 0 acc ∧
    (∀ j d1 acc1, items1[j]? = some d1 → I1 j acc1 → p1.gd d1 (wipeD ss2 vs1) fun ss3 => tt1 ss3 (fun b => if b = true then te ss3 (fun y => acc1.length < 1000 ∧ I1 (j + 1) (acc1 ++ [y])) Ed else I1 (j + 1) acc1) Ed) ∧
    ∀ acc1, I1 items1.length acc1 → J acc1) Ed else J acc) Ed) (fin : Q (items.flatMap g)) :
    ∃ I : Nat → List D → Prop, I 0 [] ∧
  (∀ i d acc, items[i]? = some d → I i acc → p.gd d (wipeD ss vs) fun ss2 => tt ss2 (fun b => if b = true then ti1 ss2 (fun items1 => ∃ I1 : Nat → List D → Prop, I1 0 acc ∧
    (∀ j d1 acc1, items1[j]? = some d1 → I1 j acc1 → p1.gd d1 (wipeD ss2 vs1) fun ss3 => tt1 ss3 (fun b => if b = true then te ss3 (fun y => acc1.length < 1000 ∧ I1 (j + 1) (acc1 ++ [y])) Ed else I1 (j + 1) acc1) Ed) ∧
    ∀ acc1, I1 items1.length acc1 → I (i + 1) acc1) Ed else I (i + 1) acc) Ed) ∧ ∀ acc, I items.length acc → Q acc := by
  refine ⟨fun i acc => acc = (items.take i).flatMap g, rfl, ?_, ?_⟩
  · rintro i d acc hd rfl
    have e : (items.take (i + 1)).flatMap g = (items.take i).flatMap g ++ g d := by
      rw [List.take_add_one, hd, List.flatMap_append]
      simp
    have l : ((items.take (i + 1)).flatMap g).length ≤ 900 := by
      refine Nat.le_trans ?_ small
      conv => rhs; rw [← List.take_append_drop (i + 1) items]
      rw [List.flatMap_append, List.length_append]
      exact Nat.le_add_right _ _
    refine turn d (List.mem_of_getElem? hd) _ (fun acc => acc = (items.take (i + 1)).flatMap g) ?_ e.symm
    rw [e, List.length_append] at l
    exact l
  · rintro acc rfl
    rw [List.take_length]
    exact fin
/-- the inner turns: each item gives one -/
theorem lc2_in {items1 : List D} (f : D → D) {p1 : Pat} {vs1 : List Nat} {ss2 : List Sl} {tt1 : TTD} {te : TD} {Ed : QE} {acc : List D} {J : List D → Prop} (small : acc.length + items1.length ≤ 900) (fin : J (acc ++ items1.map f))
    (turn : ∀ d, d ∈ items1 → ∀ R : D → Prop, R (f d) → ∀ N : Prop, p1.gd d (wipeD ss2 vs1) fun ss3 => tt1 ss3 (fun b => if b = true then te ss3 R Ed else N) Ed) :
    ∃ I1 : Nat → List D → Prop, I1 0 acc ∧
    (∀ j d1 acc1, items1[j]? = some d1 → I1 j acc1 → p1.gd d1 (wipeD ss2 vs1) fun ss3 => tt1 ss3 (fun b => if b = true then te ss3 (fun y => acc1.length < 1000 ∧ I1 (j + 1) (acc1 ++ [y])) Ed else I1 (j + 1) acc1) Ed) ∧
    ∀ acc1, I1 items1.length acc1 → J acc1 := by
  refine ⟨fun j acc1 => acc1 = acc ++ (items1.take j).map f, by simp, ?_, ?_⟩
  · rintro j d acc1 hd rfl
    have jl := (List.getElem?_eq_some_iff.mp hd).1
    refine turn d (List.mem_of_getElem? hd) (fun y => (acc ++ (items1.take j).map f).length < 1000 ∧ acc ++ (items1.take j).map f ++ [y] = acc ++ (items1.take (j + 1)).map f) ⟨?_, ?_⟩ _
    · rw [List.length_append, List.length_map, List.length_take]
      omega
    · rw [List.take_add_one, hd, List.map_append, List.append_assoc]
      rfl
  · rintro acc1 rfl
    rw [List.take_length]
    exact fin
end DL
set_option Elab.async false
set_option linter.all false
set_option maxRecDepth 100000
set_option maxHeartbeats 4000000
/-! ED: == of dicts over data -/
namespace DL
open PySem PySem.Spec PyProof.Rows L2
/-- the pairs of one dict looked up in another one, in order -/
inductive HitsV (K : PySem.W.Frag) (H : Hp) (ls : List (Key × V)) : List (Key × V) → Bool → Prop where
  | nil : HitsV K H ls [] true
  | miss {k v r} : valV ls k = none → HitsV K H ls ((k, v) :: r) false
  | hit {k v u r d e b} : valV ls k = some u → Dp K H v d → Dp K H u e → SeqAt.shaped d = true → SeqAt.shaped e = true → HitsV K H ls r b → HitsV K H ls ((k, v) :: r) (PyData.eqv d e && b)
def rEqDctV (K : PySem.W.Frag) : R2 := fun x y H Q => ∃ (a b : Addr) (ks ls : List (Key × V)) (r : Bool), x = .ref a ∧ y = .ref b ∧ Rd H a (.dK ks) ∧ Rd H b (.dK ls) ∧ HitsV K H ls ks r ∧ Q (.bl (ks.length == ls.length && r)) H
section
variable {X : Cx} {pins : List (Addr × Obj)} {σ : L2.St} {H : Hp} {s : Shared}
theorem hitsV_run (I : Inv X pins σ H s) {A : Around} (hu : A.units + 64 < cLine) {ls : List (Key × V)} {vb : List (Key × Value)} (rb : KV ls vb) {ks : List (Key × V)} {r : Bool} (h : HitsV X.K H ls ks r) : ∀ {va : List (Key × Value)}, KV ks va → PySem.W.KeqHitsP X.prog X.w A s vb va r := by
  induction h with
  | nil =>
    intro va ra
    cases ra
    exact .nil
  | @miss k v rest hn =>
    intro va ra
    cases ra with
    | cons h t =>
      rename_i q qs
      obtain ⟨key, vv⟩ := q
      obtain ⟨h1, h2⟩ := h
      have h1 : k = key := h1
      subst h1
      have rr : RelO (valV ls k) (valueAt vb k) := rb.val k
      rw [hn] at rr
      cases e : valueAt vb k with
      | none => exact .miss e
      | some y => rw [e] at rr; exact rr.elim
  | @hit k v u rest d e b hv hd he sd se _ ih =>
    intro va ra
    cases ra with
    | cons h t =>
      rename_i q qs
      obtain ⟨key, vv⟩ := q
      obtain ⟨h1, h2⟩ := h
      have h1 : k = key := h1
      subst h1
      have h2 : RelV v vv := h2
      have rr : RelO (some u) (valueAt vb k) := by rw [← hv]; exact rb.val k
      obtain ⟨y, hy, ry⟩ := rr.some_of
      obtain ⟨as, r1⟩ := Dp.reads I d v vv hd h2
      obtain ⟨bs, r2⟩ := Dp.reads I e u y he ry
      exact .hit hy (SeqAt.eqAt_reads d e A s vv y as bs r1 r2 (SeqAt.canLay_of_shaped sd) (SeqAt.canLay_of_shaped se) (SeqAt.room_of_shaped sd hu)).eqP (ih t)
theorem eqDct_run (I : Inv X pins σ H s) {x y : V} {v u : Value} {Q : VK} (hu : X.A.units + 65 < cLine) (rx : RelV x v) (ry : RelV y u) (h : rEqDctV X.K x y H Q) (E Q' : Value → Shared → Prop) (g : ∀ b, Q (.bl b) H → Q' (.bool b) s) : wpAny (model X.prog X.w) X.A (richCompare .Eq v u) Q' E s := by
  obtain ⟨a, b, ks, ls, r, rfl, rfl, ha, hb, hh, q⟩ := h
  cases (show v = Value.ref a from rx)
  cases (show u = Value.ref b from ry)
  obtain ⟨_, ya, va, ra, da⟩ := (show ObjOk X.prog X.w H s.heap a (.dK ks) from ha.ok I.hok)
  obtain ⟨_, yb, vb, rb, db⟩ := (show ObjOk X.prog X.w H s.heap b (.dK ls) from hb.ok I.hok)
  refine PySem.W.rcP_dicts (knd := mixKind X.prog X.w) (r := r) ya yb da db (by omega) (fun _ => hitsV_run I (by show X.A.units + 1 + 64 < cLine; omega) rb hh ra) E Q' ?_
  have e1 := ra.length
  have e2 := rb.length
  rw [← e1, ← e2]
  exact g _ q
end
section
variable {X : Cx} {c : Cn}
theorem op_eqDct (hu : X.A.units + 65 < cLine) : OpR X (compareOp .Eq) (rEqDctV X.K) := by
  intro pins s σ H x y v u Q I rx ry h
  exact eqDct_run I hu rx ry h _ _ fun b q => ⟨.bl b, H, I, rfl, q⟩
/-- each pair of a dict in another one -/
def hitsD (ls : List Key) (es : List D) : List Key → List D → Bool
  | k :: ks, d :: ds => (match lookD ls es k with
    | some e => eqD d e && hitsD ls es ks ds
    | none => false)
  | _, _ => true
def eqDct (ks : List Key) (ds : List D) (ls : List Key) (es : List D) : Bool := ks.length == ls.length && hitsD ls es ks ds
theorem hits_is {K : PySem.W.Frag} {H : Hp} {ls : List Key} {es : List D} {ys : List V} (l2 : ls.length = es.length) (h2 : IsA K H es ys) (s2 : ∀ e ∈ es, shD 60 e = true) : ∀ {ks : List Key} {ds : List D} {xs : List V}, ks.length = ds.length → IsA K H ds xs → (∀ d ∈ ds, shD 60 d = true) → HitsV K H (zipV ls ys) (zipV ks xs) (hitsD ls es ks ds)
  | [], [], _, _, h, _ => by cases h; exact .nil
  | [], _ :: _, _, h, _, _ => by cases h
  | _ :: _, [], _, h, _, _ => by cases h
  | k :: ks, d :: ds, _, h, ⟨x, xs, e, i1, i2⟩, sh => by
    subst e
    show HitsV K H (zipV ls ys) ((k, x) :: zipV ks xs) (match lookD ls es k with
      | some e => eqD d e && hitsD ls es ks ds
      | none => false)
    cases q : lookD ls es k with
    | none => exact .miss (look_none l2 h2 q)
    | some e =>
      obtain ⟨u, hv, iu⟩ := look_some l2 h2 q
      obtain ⟨d1, pd, sd⟩ := shaped_of (sh d List.mem_cons_self)
      have em : e ∈ es := by
        clear iu hv h2 s2 sd pd d1 i1 i2 sh h
        induction ls generalizing es with
        | nil => simp [lookD] at q
        | cons l ls ih =>
          cases es with
          | nil => simp [lookD] at q
          | cons e0 es =>
            unfold lookD at q
            by_cases cc : l = k
            · rw [if_pos cc] at q
              cases q
              exact List.mem_cons_self
            · rw [if_neg cc] at q
              exact List.mem_cons_of_mem _ (ih (Nat.succ.inj l2) q)
      obtain ⟨e1, pe, se⟩ := shaped_of (s2 e em)
      have k1 := py_dp i1 pd
      have k2 := py_dp iu pe
      show HitsV K H (zipV ls ys) ((k, x) :: zipV ks xs) (eqD d e && hitsD ls es ks ds)
      rw [← eqD_py pd pe]
      exact .hit hv k1 k2 sd se (hits_is l2 h2 s2 (Nat.succ.inj h) i2 fun d hd => sh d (List.mem_cons_of_mem _ hd))
/-- x == y, dicts of plain data -/
def rEqDctD : RD2 := fun x y Q => match x, y with
  | .dct ks ds, .dct ls es => (∀ d ∈ ds, shD 60 d = true) ∧ (∀ e ∈ es, shD 60 e = true) ∧ Q (.bl (eqDct ks ds ls es))
  | _, _ => False
theorem od_eqDct (hu : X.A.units + 65 < cLine) : OpD X (compareOp .Eq) rEqDctD := ⟨_, op_eqDct hu, fun Z Hs H x y v u Qd Q s i1 i2 q cn => by
  unfold rEqDctD at q
  split at q
  · rename_i ks ds ls es
    obtain ⟨a, od, xs, rfl, ha, l1, ia⟩ := i1
    obtain ⟨b, od2, ys, rfl, hb, l2, ib⟩ := i2
    obtain ⟨s1, s2, q⟩ := q
    have lx := l1.trans ia.len.symm
    have ly := l2.trans ib.len.symm
    refine ⟨a, b, _, _, _, rfl, rfl, .inr ⟨od, s _ _ ha⟩, .inr ⟨od2, s _ _ hb⟩, hits_is l2 (ib.same s) s2 l1 (ia.same s) s1, ?_⟩
    rw [List.length_zip, List.length_zip, ← lx, ← ly, Nat.min_self, Nat.min_self]
    exact cn (.bl _) _ Hs H (.refl s) rfl q
  · exact q.elim⟩
theorem hitsD_self {ks : List Key} {ds : List D} (h : ∀ d ∈ ds, eqD d d = true) (l : ks.length = ds.length) (nd : ks.Nodup) : hitsD ks ds ks ds = true := by
  have gen : ∀ (as bs : List Key) (xs ys : List D), as.length = xs.length → (as ++ bs) = ks → (xs ++ ys) = ds → bs.length = ys.length → hitsD ks ds bs ys = true := by
    intro as bs
    induction bs generalizing as with
    | nil =>
      intro xs ys _ _ _ l2
      cases ys with
      | nil => rfl
      | cons _ _ => cases l2
    | cons k bs ih =>
      intro xs ys l1 e1 e2 l2
      cases ys with
      | nil => cases l2
      | cons y ys =>
        have lk : lookD ks ds k = some y := by
          rw [← e1, ← e2]
          rw [← e1] at nd
          clear ih e1 e2 l2 h
          induction as generalizing xs with
          | nil =>
            cases xs with
            | nil =>
              show (if k = k then some y else _) = some y
              rw [if_pos rfl]
            | cons _ _ => cases l1
          | cons a as iha =>
            cases xs with
            | nil => cases l1
            | cons x xs =>
              obtain ⟨n1, n2⟩ := List.nodup_cons.mp nd
              show (if a = k then some x else lookD (as ++ k :: bs) (xs ++ y :: ys) k) = some y
              rw [if_neg (fun e => n1 (by rw [e]; simp)), iha n2 xs (Nat.succ.inj l1)]
        have hy : eqD y y = true := h y (by rw [← e2]; simp)
        show (match lookD ks ds k with
          | some e => eqD y e && hitsD ks ds bs ys
          | none => false) = true
        rw [lk]
        show (eqD y y && hitsD ks ds bs ys) = true
        rw [hy, Bool.true_and]
        exact ih (as ++ [k]) (xs ++ [y]) ys (by simp [l1]) (by rw [← e1]; simp) (by rw [← e2]; simp) (Nat.succ.inj l2)
  exact gen [] ks [] ds rfl rfl rfl l
theorem eqDct_self {ks : List Key} {ds : List D} (h : ∀ d ∈ ds, eqD d d = true) (l : ks.length = ds.length) (nd : ks.Nodup) : eqDct ks ds ks ds = true := by
  unfold eqDct
  rw [hitsD_self h l nd, Bool.and_true]
  exact beq_self_eq_true _
end
end DL
set_option Elab.async false
set_option linter.all false
set_option maxRecDepth 100000
set_option maxHeartbeats 4000000
/-! LO: len(x) where x is an object of a class with its own __len__; dict(pairs) -/
namespace OL
open PySem PySem.Spec PyProof.Rows L2
theorem len_fn {P : Program} {w : World} {A : Around} {s : Shared} {K : PySem.W.Frag} {x C f : Addr} {E : Value → Shared → Prop} {ox : Obj} {od : Option Obj} {Q : Value → Shared → Prop} (X : K.In s.heap) (I : PySem.W.InstAt s.heap x ox C od)
    (hs : PySem.W.findIn K (.ref C) "__len__" = some (some (.ref f))) (hf : PySem.W.typeIn K (.ref f) = some (.type "function")) (h : wpAny (model P w) A.in1 (call (.ref f) [.ref x]) (fun r s' => ∃ (n : Nat) (t : Tok), r = Value.int n t ∧ n < 2 ^ 62 ∧ ∀ t' tk, Q (.int n t') { s' with toks := tk }) E s) :
    wpAny (model P w) A (call (.builtin "len") [.ref x]) Q E s := by
  have sp : ∀ {A' : Around} {Q' : Option Value → Shared → Prop}, Q' (some (.ref f)) s → wpAny (model P w) A' (specialOf (.ref x) "__len__") Q' E s := fun q => wpAny_bind (I.type.here ((PySem.W.looks_findIn X hs).here q))
  refine Calls.call_function_entry kind_len plain_len entry_len (args_len1 _) ?_
  unfold Builtin.«len»
  refine wpAny_bind (m := oneArg "len" _) (wpAny_pure ?_)
  refine wpAny_bind (m := callSpecial? (.ref x) (PySem.Str.ofString "__len__")) ?_
  unfold callSpecial?
  refine wpAny_bind (sp (wpAny_holding (wpAny_bind ((PySem.W.bind_fn X _ hf).here ?_))))
  refine wpAny_bind (wpAny_mono h (fun r s' z => ?_) fun _ _ z => z)
  obtain ⟨n, t, rfl, hn, q⟩ := z
  refine wpAny_pure ?_
  refine wpAny_bind (wpAny_holding (wpAny_pure ?_))
  refine wpAny_bind (wpAny_letGo ?_)
  show wpAny _ _ (if ((n : Nat) : Int) < 0 then _ else _) _ _ _
  rw [if_neg (by omega)]
  show wpAny _ _ (if ((n : Nat) : Int) ≥ 2 ^ 63 then _ else _) _ _ _
  rw [if_neg (by omega)]
  exact wpAny_bind (wpAny_mkInt (wpAny_pure ⟨_, rfl, q _ _⟩))
section
variable {X : Cx} {CX : CXT} {k : Nat} {C g : Addr} {fd : FuncData} {ps : List Str} {sp : Sp} {E : XK}
def rOwnLen (C : Addr) (sp : Sp) (E : XK) : List V → Hp → VK → Prop := fun xs H Q => ∃ a dx fs, xs = [.ref a] ∧ H a = some (.ins C dx fs) ∧ sp [.ref a] H (fun z H' => ∃ n : Nat, z = .int n ∧ n < 2 ^ 62 ∧ Q (.int n) H') E
theorem cr_lenOwn (hm : Meth X.K C "__len__" g) (F : FnOk X.prog X.w X.K X.mg X.base CX k g fd ps sp) (hr : Room (k + 1) X.A) (hb : Binds X.K fd ps []) (hx : Passes CX X E) : CallR X (.builtin "len") (rOwnLen C sp E) := by
  intro pins s σ H xs us Q I r h
  obtain ⟨a, dx, fs, rfl, ea, q⟩ := h
  obtain rfl := Vals.ref1 r
  obtain ⟨mA, O, _⟩ := ins_get I.hok ea
  obtain ⟨od, J, _⟩ := O.look
  refine len_fn I.kIn J hm.at_ (beq_iff_eq.mp hm.fn) (wpAny_mono (wpAny_call (OC.run_at (us := [.ref a]) (vs := [.ref a]) F hr.in1 I.env0.in1 hb hx I (.cons rfl .nil) q)) (fun r t z => ?_) fun _ _ z => z)
  obtain ⟨z', H', I', rz, n, rfl, hn, qb⟩ := z
  obtain ⟨tk, rfl⟩ := rz
  exact ⟨n, tk, rfl, hn, fun t' tk' => ⟨.int n, H', I'.tok _, ⟨t', rfl⟩, qb⟩⟩
end
end OL
namespace DL
open PySem PySem.Spec PyProof.Rows L2
section
variable {X : Cx} {c : Cn} {C : Addr} {ns : List Str} {k : Nat}
def rLenOwnD (C : Addr) (ns : List Str) (sp : SpD) : List D → QD → Prop := fun ds Q => match ds with
  | [.obj C' ns' xs] => C' = C ∧ ns' = ns ∧ sp [.d (.obj C ns xs)] (fun z => match z with
    | .int i => ∃ n : Nat, i = (n : Int) ∧ n < 2 ^ 62 ∧ Q (.int i)
    | _ => False) fun _ => False
  | _ => False
theorem cd_lenOwn {sp : SpD} (G : DefM X.prog X.w X.K X.mg X.base C ns "__len__" k sp) (hr : Room (k + 1) X.A) : CallD X (.builtin "len") (rLenOwnD C ns sp) := by
  obtain ⟨⟨f, fd, ps, F, cl, hm, hb⟩, no⟩ := G
  refine ⟨_, OL.cr_lenOwn hm F hr hb pass0D, fun Z Hs H ds vs Qd Q s i q cn => ?_⟩
  unfold rLenOwnD at q
  split at q
  · obtain ⟨rfl, rfl, q⟩ := q
    obtain ⟨v, e, i1⟩ := isA1 i
    subst e
    obtain ⟨a, dx, xs, rfl, ha, l, ia⟩ := id i1
    refine ⟨a, dx, _, rfl, s _ _ ha, sp_out (as := [_]) s ⟨_, _, rfl, i1, rfl⟩ q fun z w Hs' H' x iz qz => ?_⟩
    split at qz
    · obtain ⟨n, rfl, hn, qz⟩ := qz
      exact ⟨n, iz, hn, cn (.int n) (.int n) Hs' H' (x Z) rfl qz⟩
    · exact qz.elim
  · exact q.elim
/-! ### dict(a list of pairs) -/
theorem pairs_at {K : PySem.W.Frag} {H : Hp} : ∀ {ks : List Key} {ds : List D} {xs : List V}, ks.length = ds.length → IsA K H (itemsDD ks ds) xs → ∃ (ps : List Addr) (vs : List V), xs = ps.map V.ref ∧ Paired (fun p kv => SqT K H p [kV kv.1, kv.2]) ps (zipV ks vs) ∧ IsA K H ds vs
  | [], [], _, _, h => by cases h; exact ⟨[], [], rfl, .nil, rfl⟩
  | [], _ :: _, _, l, _ => by cases l
  | _ :: _, [], _, l, _ => by cases l
  | k :: ks, d :: ds, _, l, ⟨x, ys, e, h1, h2⟩ => by
    subst e
    obtain ⟨a, zs, rfl, ha, iz⟩ := h1
    obtain ⟨y, r, e1, i1, y2, r2, e2, i2, e3⟩ := iz
    cases e3
    subst e2
    subst e1
    have ek := keyD_is i1 (keyD_kv k)
    subst ek
    obtain ⟨ps, vs, rfl, pr, iv⟩ := pairs_at (Nat.succ.inj l) h2
    exact ⟨a :: ps, y2 :: vs, rfl, .cons (.inl (.inl ha)) pr, y2, vs, rfl, i2, iv⟩
theorem sqt_up {K : PySem.W.Frag} {H H' : Hp} (s : Same H H') : ∀ {ps : List Addr} {kvs : List (Key × V)}, Paired (fun p kv => SqT K H p [kV kv.1, kv.2]) ps kvs → Paired (fun p kv => SqT K H' p [kV kv.1, kv.2]) ps kvs
  | _, _, .nil => .nil
  | _, _, .cons h t => .cons (same_sqtK s h) (sqt_up s t)
def toDictP (te : TD) : TMD := fun ss Q Ed => te ss (fun x => match x with
  | .lst ps => ∃ ks ds, ks.length = ds.length ∧ ps = itemsDD ks ds ∧ ks.Nodup ∧ Q (.dic ks ds)
  | _ => False) Ed
theorem do_dictP {p pos : Pos} {e : Expr} {te : TD} (hc : X.calm = true) (hm : X.mg "dict" = none) (he : DE X c e te) (hg : Gl X "dict" := by rfl) (hs1 : starEach [e] X.env = (false, eval e X.env) :: starEach [] X.env := by rfl) : DOM X c (.Call (.Name "dict" p) [e] [] pos) (toDictP te) := by
  refine pe_imp (pe_callTy (call_dictP hc) hg hm (by decide +kernel) (pa_cons he pa_nil hs1) (by decide) (by decide) hs1 rfl) fun σ H Q q => ?_
  obtain ⟨O, Hs, ss, Qd, Ed, A, h, er, g⟩ := q
  refine ⟨O, Hs, ss, _, Ed, A, h, er, fun d v Hs1 H1 e1 i1 q1 => ?_⟩
  split at q1
  · obtain ⟨ks, ds, l, rfl, nd, q1⟩ := q1
    obtain ⟨a, xs, rfl, ha, ia⟩ := i1
    obtain ⟨ps, vs, rfl, pr, iv⟩ := pairs_at l ia
    have lv : ks.length = vs.length := l.trans iv.len.symm
    obtain ⟨z1, z2⟩ := zipV_keys lv
    have pr' := sqt_up e1.sub pr
    refine ⟨a, ps, zipV ks vs, rfl, .inl (.inl (e1.sub _ _ ha)), pr', fun p np => ?_⟩
    rw [merge_new _ [] (by rw [z1]; exact nd), List.nil_append]
    have n0 : H p = none := by
      cases z : H p with
      | none => rfl
      | some u => exact absurd np (e1.live p (by rw [z]; exact fun z => nomatch z))
    exact g (.dic ks ds) p _ Hs1 _ (e1.trans (.grow e1.sub np)) n0 (none_sub e1.sub np) upd_same ⟨vs, rfl, l, iv⟩ q1
  · exact q1.elim
end
end DL
set_option linter.all false
set_option exponentiation.threshold 100000
/-! RB: pieces of small numbers: plain mathematics -/
namespace LR
structure PcsB (cs : List (Rat × Rat)) : Prop where
  ne : 0 < cs.length
  le : cs.length ≤ 20
  zero : (cs.map (·.1)).head? = some 0
  asc : (cs.map (·.1)).Pairwise (· < ·)
  sz : ∀ c ∈ cs, Sz 12 c.1 ∧ Sz 12 c.2
theorem trackGo_sz : ∀ {r : Row} {cs : List (Rat × Rat)} {m i : Nat} {x : Row}, Sz 12 r.b → Sz 12 r.s → Sz m r.p → (∀ c ∈ cs, Sz 12 c.1 ∧ Sz 12 c.2) → (trackGo r cs)[i]? = some x → Sz 12 x.b ∧ Sz 12 x.s ∧ Sz (m + 38 * i) x.p
  | r, [], m, 0, x, h1, h2, h3, _, h => by
    have e : r = x := by simpa [trackGo] using h
    subst e
    exact ⟨h1, h2, h3⟩
  | r, [], m, i + 1, x, _, _, _, _, h => by simp [trackGo] at h
  | r, c :: cs, m, 0, x, h1, h2, h3, _, h => by
    have e : r = x := by simpa [trackGo] using h
    subst e
    exact ⟨h1, h2, h3⟩
  | r, c :: cs, m, i + 1, x, h1, h2, h3, hc, h => by
    have h' : (trackGo (nextRow r c) cs)[i]? = some x := by simpa [trackGo] using h
    obtain ⟨c1, c2⟩ := hc c List.mem_cons_self
    have hp : Sz (m + 38) (nextRow r c).p := (h3.add (h2.mul (c1.sub h1))).mono (by omega)
    obtain ⟨a1, a2, a3⟩ := trackGo_sz (r := nextRow r c) (m := m + 38) c1 c2 hp (fun d hd => hc d (List.mem_cons_of_mem _ hd)) h'
    exact ⟨a1, a2, a3.mono (by omega)⟩
/-- rows of small pieces are not too great -/
theorem PcsB.ok {s0 : Rat} {cs : List (Rat × Rat)} (h : PcsB cs) (z : Sz 300 s0) : PcsOk s0 cs := by
  refine ⟨h.ne, h.le, h.zero, h.asc, fun c hc => ⟨(h.sz c hc).1.mono (by decide), (h.sz c hc).2.mono (by decide)⟩, fun r hr => ?_⟩
  match cs, h, hr with
  | [], h, _ => exact absurd h.ne (by decide)
  | c :: cs, h, hr =>
    obtain ⟨i, hi⟩ := List.mem_iff_getElem?.mp (show r ∈ trackGo ⟨c.1, c.2, s0⟩ cs from hr)
    obtain ⟨c1, c2⟩ := h.sz c List.mem_cons_self
    have il : i < 20 := by
      have := (List.getElem?_eq_some_iff.mp hi).1
      rw [trackGo_len] at this
      have := h.le
      simp at this
      omega
    obtain ⟨z1, z2, z3⟩ := trackGo_sz (r := ⟨c.1, c.2, s0⟩) c1 c2 z (fun d hd => h.sz d (List.mem_cons_of_mem _ hd)) hi
    exact ⟨z1.mono (by decide), z2.mono (by decide), (z3.sub (z2.mul z1)).mono (by omega)⟩
theorem sz_small {n d : Int} (hd : 0 < d) (h1 : n.natAbs < 2 ^ 12) (h2 : d.natAbs < 2 ^ 12) : Sz 12 (Rat.divInt n d) := sz_divInt (by omega) h1 h2
theorem divInt_nn {n d : Int} (hd : 0 < d) (hn : 0 ≤ n) : 0 ≤ Rat.divInt n d := by
  rw [Rat.divInt_nonneg_iff_of_pos_right hd]
  exact hn
end LR
set_option linter.all false
set_option exponentiation.threshold 100000
/-! RP: distances run, and races that are changed: plain mathematics -/
namespace LR
/-- the distance that pieces have run at a time -/
def dist : List (Rat × Rat) → Rat → Rat
  | [], _ => 0
  | [c], t => c.2 * (t - c.1)
  | c :: d :: cs, t => if t < d.1 then c.2 * (t - c.1) else c.2 * (d.1 - c.1) + dist (d :: cs) t
theorem go_dist (t : Rat) : ∀ (cs : List (Rat × Rat)) (f r : Row), r.b ≤ t → (rowGo t f (trackGo r cs)).at_ t = r.p + dist ((r.b, r.s) :: cs) t
  | [], f, r, h => by
    show (if t < r.b then f else r).at_ t = r.p + r.s * (t - r.b)
    rw [if_neg (Rat.not_lt.mpr h)]
    rfl
  | d :: cs, f, r, h => by
    show (if t < r.b then f else rowGo t r (trackGo (nextRow r d) cs)).at_ t = r.p + (if t < d.1 then r.s * (t - r.b) else r.s * (d.1 - r.b) + dist (d :: cs) t)
    rw [if_neg (Rat.not_lt.mpr h)]
    by_cases c : t < d.1
    · rw [if_pos c]
      have e : rowGo t r (trackGo (nextRow r d) cs) = r := by
        cases cs with
        | nil =>
          show (if t < (nextRow r d).b then r else nextRow r d) = r
          exact if_pos c
        | cons d2 cs =>
          show (if t < (nextRow r d).b then r else _) = r
          exact if_pos c
      rw [e]
      rfl
    · rw [if_neg c, go_dist t cs r (nextRow r d) (Rat.not_lt.mp c)]
      show r.p + r.s * (d.1 - r.b) + dist ((d.1, d.2) :: cs) t = _
      grind
/-- where a runner is -/
def rowH (t : Rat) : List Row → Row
  | r0 :: rs => rowGo t r0 (r0 :: rs)
  | [] => ⟨0, 0, 0⟩
theorem at_dist {s0 t : Rat} {cs : List (Rat × Rat)} (h0 : (cs.map (·.1)).head? = some 0) (ht : 0 ≤ t) : (rowH t (trk s0 cs)).at_ t = s0 + dist cs t := by
  cases cs with
  | nil => cases h0
  | cons c cs =>
    have c0 : c.1 = 0 := Option.some.inj h0
    have g := fun f => go_dist t cs f ⟨c.1, c.2, s0⟩ (by show c.1 ≤ t; rw [c0]; exact ht)
    show (rowH t (trackGo ⟨c.1, c.2, s0⟩ cs)).at_ t = s0 + dist ((c.1, c.2) :: cs) t
    cases cs with
    | nil => exact g ⟨c.1, c.2, s0⟩
    | cons d cs => exact g ⟨c.1, c.2, s0⟩
/-! ### speeds turned about -/
def negP (cs : List (Rat × Rat)) : List (Rat × Rat) := cs.map fun c => (c.1, 0 - c.2)
theorem dist_neg : ∀ (cs : List (Rat × Rat)) (t : Rat), dist (negP cs) t = - dist cs t
  | [], t => by
    show (0 : Rat) = - 0
    grind
  | [c], t => by
    show (0 - c.2) * (t - c.1) = -(c.2 * (t - c.1))
    grind
  | c :: d :: cs, t => by
    have ih := dist_neg (d :: cs) t
    show (if t < d.1 then (0 - c.2) * (t - c.1) else (0 - c.2) * (d.1 - c.1) + dist (negP (d :: cs)) t) = -(if t < d.1 then c.2 * (t - c.1) else c.2 * (d.1 - c.1) + dist (d :: cs) t)
    rw [ih]
    split <;> grind
/-! ### slower -/
def slowP (f : Rat) (cs : List (Rat × Rat)) : List (Rat × Rat) := cs.map fun c => (c.1 * f, c.2 / f)
theorem mul_lt_iff {a b f : Rat} (hf : 0 < f) : a * f < b * f ↔ a < b := by
  constructor
  · intro h
    by_cases c : a < b
    · exact c
    · have := Rat.mul_le_mul_of_nonneg_right (Rat.not_lt.mp c) (Rat.le_of_lt hf)
      exact absurd h (Rat.not_lt.mpr this)
  · intro h
    exact Rat.mul_lt_mul_of_pos_right h hf
theorem dist_slow {f : Rat} (hf : 0 < f) : ∀ (cs : List (Rat × Rat)) (t : Rat), dist (slowP f cs) (t * f) = dist cs t
  | [], _ => rfl
  | [c], t => by
    have f0 : f ≠ 0 := by grind
    show c.2 / f * (t * f - c.1 * f) = c.2 * (t - c.1)
    grind
  | c :: d :: cs, t => by
    have ih := dist_slow hf (d :: cs) t
    have f0 : f ≠ 0 := by grind
    have m := mul_lt_iff (a := t) (b := d.1) hf
    show (if t * f < d.1 * f then c.2 / f * (t * f - c.1 * f) else c.2 / f * (d.1 * f - c.1 * f) + dist (slowP f (d :: cs)) (t * f)) = (if t < d.1 then c.2 * (t - c.1) else c.2 * (d.1 - c.1) + dist (d :: cs) t)
    rw [ih]
    by_cases h : t < d.1
    · rw [if_pos h, if_pos (m.mpr h)]
      grind
    · rw [if_neg h, if_neg (fun z => h (m.mp z))]
      grind
theorem slow_back {f : Rat} (hf : 0 < f) (cs : List (Rat × Rat)) : slowP (1 / f) (slowP f cs) = cs := by
  have f0 : f ≠ 0 := by grind
  unfold slowP
  rw [List.map_map]
  conv => rhs; rw [← List.map_id cs]
  apply List.map_congr_left
  intro c _
  show (c.1 * f * (1 / f), c.2 / f / (1 / f)) = c
  have e1 : c.1 * f * (1 / f) = c.1 := by grind
  have e2 : c.2 / f / (1 / f) = c.2 := by grind
  rw [e1, e2]
theorem neg_back (cs : List (Rat × Rat)) : negP (negP cs) = cs := by
  unfold negP
  rw [List.map_map]
  conv => rhs; rw [← List.map_id cs]
  apply List.map_congr_left
  intro c _
  show (c.1, 0 - (0 - c.2)) = c
  have e2 : 0 - (0 - c.2) = c.2 := by grind
  rw [e2]
/-! ### another speed from a time on -/
def cutP (m s : Rat) (cs : List (Rat × Rat)) : List (Rat × Rat) := (cs.filter fun c => decide (c.1 < m)) ++ [(m, s)]
theorem dist_first {d : Rat × Rat} {cs : List (Rat × Rat)} (h : ((d :: cs).map (·.1)).Pairwise (· < ·)) : dist (d :: cs) d.1 = 0 := by
  cases cs with
  | nil =>
    show d.2 * (d.1 - d.1) = 0
    grind
  | cons e cs =>
    have : d.1 < e.1 := (List.pairwise_cons.mp h).1 e.1 (by simp)
    show (if d.1 < e.1 then d.2 * (d.1 - d.1) else _) = 0
    rw [if_pos this]
    grind
theorem cut_none {m : Rat} {cs : List (Rat × Rat)} (h : ∀ c ∈ cs, ¬ c.1 < m) : (cs.filter fun c => decide (c.1 < m)) = [] := by
  rw [List.filter_eq_nil_iff]
  intro c hc e
  exact h c hc (of_decide_eq_true e)
theorem dist_cut {m s : Rat} : ∀ (c : Rat × Rat) (cs : List (Rat × Rat)) (t : Rat), ((c :: cs).map (·.1)).Pairwise (· < ·) → c.1 < m → dist (cutP m s (c :: cs)) t = if t < m then dist (c :: cs) t else dist (c :: cs) m + s * (t - m)
  | c, [], t, _, h => by
    have e : cutP m s [c] = [c, (m, s)] := by
      unfold cutP
      rw [List.filter_cons, if_pos (decide_eq_true h)]
      rfl
    rw [e]
    rfl
  | c, d :: cs, t, hp, h => by
    obtain ⟨h1, h2⟩ := List.pairwise_cons.mp hp
    have cd : c.1 < d.1 := h1 d.1 (by simp)
    by_cases hd : d.1 < m
    · have ih := dist_cut (s := s) d cs t h2 hd
      have e : cutP m s (c :: d :: cs) = c :: cutP m s (d :: cs) := by
        unfold cutP
        rw [List.filter_cons, if_pos (decide_eq_true h)]
        rfl
      have e2 : cutP m s (d :: cs) = d :: cutP m s cs := by
        unfold cutP
        rw [List.filter_cons, if_pos (decide_eq_true hd)]
        rfl
      rw [e, e2]
      show (if t < d.1 then c.2 * (t - c.1) else c.2 * (d.1 - c.1) + dist (d :: cutP m s cs) t) = if t < m then (if t < d.1 then c.2 * (t - c.1) else c.2 * (d.1 - c.1) + dist (d :: cs) t) else (if m < d.1 then c.2 * (m - c.1) else c.2 * (d.1 - c.1) + dist (d :: cs) m) + s * (t - m)
      rw [← e2, ih, if_neg (show ¬ m < d.1 by grind)]
      by_cases k1 : t < d.1
      · rw [if_pos k1, if_pos (show t < m by grind), if_pos k1]
      · rw [if_neg k1]
        by_cases k2 : t < m
        · rw [if_pos k2, if_pos k2, if_neg k1]
        · rw [if_neg k2, if_neg k2]
          grind
    · have all : ∀ x ∈ d :: cs, ¬ x.1 < m := fun x hx => by
        rcases List.mem_cons.mp hx with rfl | hx
        · exact hd
        · have := (List.pairwise_cons.mp h2).1 x.1 (List.mem_map_of_mem hx)
          grind
      have e : cutP m s (c :: d :: cs) = [c, (m, s)] := by
        unfold cutP
        rw [List.filter_cons, if_pos (decide_eq_true h), cut_none all]
        rfl
      rw [e]
      show (if t < m then c.2 * (t - c.1) else c.2 * (m - c.1) + s * (t - m)) = if t < m then (if t < d.1 then c.2 * (t - c.1) else c.2 * (d.1 - c.1) + dist (d :: cs) t) else (if m < d.1 then c.2 * (m - c.1) else c.2 * (d.1 - c.1) + dist (d :: cs) m) + s * (t - m)
      by_cases k : t < m
      · rw [if_pos k, if_pos k, if_pos (show t < d.1 by grind)]
      · rw [if_neg k, if_neg k]
        by_cases k2 : m < d.1
        · rw [if_pos k2]
        · rw [if_neg k2]
          have em : m = d.1 := by grind
          rw [em, dist_first h2]
          grind
/-- what the changed runner has run -/
theorem dist_changed {m s t : Rat} {cs : List (Rat × Rat)} (h0 : (cs.map (·.1)).head? = some 0) (asc : (cs.map (·.1)).Pairwise (· < ·)) (hm : 0 ≤ m) (ht : 0 ≤ t) : dist (cutP m s cs) t = if m < t then dist cs m + s * (t - m) else dist cs t := by
  cases cs with
  | nil => cases h0
  | cons c cs =>
    have c0 : c.1 = 0 := Option.some.inj h0
    by_cases h : c.1 < m
    · rw [dist_cut c cs t asc h]
      by_cases k : t < m
      · rw [if_pos k, if_neg (show ¬ m < t by grind)]
      · rw [if_neg k]
        by_cases k2 : m < t
        · rw [if_pos k2]
        · rw [if_neg k2]
          have e : t = m := by grind
          rw [e]
          grind
    · have m0 : m = 0 := by grind
      have all : ∀ x ∈ c :: cs, ¬ x.1 < m := fun x hx => by
        rcases List.mem_cons.mp hx with rfl | hx
        · exact h
        · have := (List.pairwise_cons.mp asc).1 x.1 (List.mem_map_of_mem hx)
          grind
      have e : cutP m s (c :: cs) = [(m, s)] := by
        unfold cutP
        rw [cut_none all]
        rfl
      have z := dist_first asc
      rw [c0] at z
      rw [e]
      show s * (t - m) = _
      by_cases k : m < t
      · rw [if_pos k, m0, z]
        grind
      · rw [if_neg k]
        have e : t = 0 := by grind
        rw [e, m0, z]
        grind
/-! ### pieces of middling size -/
structure PcsM (cs : List (Rat × Rat)) : Prop where
  ne : 0 < cs.length
  le : cs.length ≤ 6
  zero : (cs.map (·.1)).head? = some 0
  asc : (cs.map (·.1)).Pairwise (· < ·)
  sz : ∀ c ∈ cs, Sz 40 c.1 ∧ Sz 40 c.2
theorem trackGo_szM : ∀ {r : Row} {cs : List (Rat × Rat)} {m i : Nat} {x : Row}, Sz 40 r.b → Sz 40 r.s → Sz m r.p → (∀ c ∈ cs, Sz 40 c.1 ∧ Sz 40 c.2) → (trackGo r cs)[i]? = some x → Sz 40 x.b ∧ Sz 40 x.s ∧ Sz (m + 122 * i) x.p
  | r, [], m, 0, x, h1, h2, h3, _, h => by
    have e : r = x := by simpa [trackGo] using h
    subst e
    exact ⟨h1, h2, h3⟩
  | r, [], m, i + 1, x, _, _, _, _, h => by simp [trackGo] at h
  | r, c :: cs, m, 0, x, h1, h2, h3, _, h => by
    have e : r = x := by simpa [trackGo] using h
    subst e
    exact ⟨h1, h2, h3⟩
  | r, c :: cs, m, i + 1, x, h1, h2, h3, hc, h => by
    have h' : (trackGo (nextRow r c) cs)[i]? = some x := by simpa [trackGo] using h
    obtain ⟨c1, c2⟩ := hc c List.mem_cons_self
    have hp : Sz (m + 122) (nextRow r c).p := (h3.add (h2.mul (c1.sub h1))).mono (by omega)
    obtain ⟨a1, a2, a3⟩ := trackGo_szM (r := nextRow r c) (m := m + 122) c1 c2 hp (fun d hd => hc d (List.mem_cons_of_mem _ hd)) h'
    exact ⟨a1, a2, a3.mono (by omega)⟩
theorem PcsM.ok {s0 : Rat} {cs : List (Rat × Rat)} (h : PcsM cs) (z : Sz 300 s0) : PcsOk s0 cs := by
  refine ⟨h.ne, Nat.le_trans h.le (by decide), h.zero, h.asc, fun c hc => ⟨(h.sz c hc).1.mono (by decide), (h.sz c hc).2.mono (by decide)⟩, fun r hr => ?_⟩
  match cs, h, hr with
  | [], h, _ => exact absurd h.ne (by decide)
  | c :: cs, h, hr =>
    obtain ⟨i, hi⟩ := List.mem_iff_getElem?.mp (show r ∈ trackGo ⟨c.1, c.2, s0⟩ cs from hr)
    obtain ⟨c1, c2⟩ := h.sz c List.mem_cons_self
    have il : i < 6 := by
      have := (List.getElem?_eq_some_iff.mp hi).1
      rw [trackGo_len] at this
      have := h.le
      simp at this
      omega
    obtain ⟨z1, z2, z3⟩ := trackGo_szM (r := ⟨c.1, c.2, s0⟩) c1 c2 z (fun d hd => h.sz d (List.mem_cons_of_mem _ hd)) hi
    exact ⟨z1.mono (by decide), z2.mono (by decide), (z3.sub (z2.mul z1)).mono (by omega)⟩
theorem PcsM.neg {cs : List (Rat × Rat)} (h : PcsM cs) : PcsM (negP cs) where
  ne := by unfold negP; rw [List.length_map]; exact h.ne
  le := by unfold negP; rw [List.length_map]; exact h.le
  zero := by unfold negP; rw [List.map_map]; exact h.zero
  asc := by unfold negP; rw [List.map_map]; exact h.asc
  sz := fun c hc => by
    obtain ⟨d, hd, rfl⟩ := List.mem_map.mp hc
    have := h.sz d hd
    refine ⟨this.1, ?_⟩
    show Sz 40 (0 - d.2)
    rw [show 0 - d.2 = -d.2 by grind]
    exact this.2.neg
theorem PcsM.slow {f : Rat} {cs : List (Rat × Rat)} (h : PcsM cs) (hf : 0 < f) (sz : ∀ c ∈ cs, Sz 40 (c.1 * f) ∧ Sz 40 (c.2 / f)) : PcsM (slowP f cs) where
  ne := by unfold slowP; rw [List.length_map]; exact h.ne
  le := by unfold slowP; rw [List.length_map]; exact h.le
  zero := by
    have := h.zero
    cases cs with
    | nil => cases this
    | cons c cs =>
      have c0 : c.1 = 0 := Option.some.inj this
      show some (c.1 * f) = some 0
      rw [c0]
      congr 1
      grind
  asc := by
    unfold slowP
    rw [List.map_map]
    have := h.asc
    rw [List.pairwise_map] at this ⊢
    exact this.imp fun {a b} l => (mul_lt_iff hf).mpr l
  sz := fun c hc => by
    obtain ⟨d, hd, rfl⟩ := List.mem_map.mp hc
    exact sz d hd
theorem PcsM.cut {m s : Rat} {cs : List (Rat × Rat)} (h : PcsM cs) (l5 : cs.length ≤ 5) (hm : 0 ≤ m) (zm : Sz 40 m) (zs : Sz 40 s) : PcsM (cutP m s cs) where
  ne := by unfold cutP; rw [List.length_append]; exact Nat.succ_pos _
  le := by
    unfold cutP
    rw [List.length_append]
    have := List.length_filter_le (fun c : Rat × Rat => decide (c.1 < m)) cs
    show _ + 1 ≤ 6
    omega
  zero := by
    cases cs with
    | nil => exact absurd h.ne (by decide)
    | cons c cs =>
      have c0 : c.1 = 0 := Option.some.inj h.zero
      unfold cutP
      by_cases k : c.1 < m
      · rw [List.filter_cons, if_pos (decide_eq_true k)]
        exact congrArg some c0
      · have m0 : m = 0 := by grind
        have all : ∀ x ∈ c :: cs, ¬ x.1 < m := fun x hx => by
          rcases List.mem_cons.mp hx with rfl | hx
          · exact k
          · have := (List.pairwise_cons.mp h.asc).1 x.1 (List.mem_map_of_mem hx)
            grind
        rw [cut_none all]
        exact congrArg some m0
  asc := by
    unfold cutP
    rw [List.map_append, List.pairwise_append]
    refine ⟨?_, List.pairwise_singleton _ _, fun x hx y hy => ?_⟩
    · exact List.Pairwise.sublist (List.Sublist.map _ List.filter_sublist) h.asc
    · obtain ⟨c, hc, rfl⟩ := List.mem_map.mp hx
      have : c.1 < m := of_decide_eq_true (List.mem_filter.mp hc).2
      rw [List.mem_singleton.mp hy]
      exact this
  sz := fun c hc => by
    rcases List.mem_append.mp hc with hc | hc
    · exact h.sz c (List.mem_filter.mp hc).1
    · rw [List.mem_singleton.mp hc]
      exact ⟨zm, zs⟩
theorem PcsB.m {cs : List (Rat × Rat)} (h : PcsB cs) (l : cs.length ≤ 6) : PcsM cs := ⟨h.ne, l, h.zero, h.asc, fun c hc => ⟨(h.sz c hc).1.mono (by decide), (h.sz c hc).2.mono (by decide)⟩⟩
/-! ### lists in order -/
theorem inOrder_uniq : ∀ {as bs : List Rat}, as.Pairwise (· < ·) → bs.Pairwise (· < ·) → (∀ r, r ∈ as ↔ r ∈ bs) → as = bs
  | [], [], _, _, _ => rfl
  | [], b :: bs, _, _, h => by have := (h b).mpr List.mem_cons_self; cases this
  | a :: as, [], _, _, h => by have := (h a).mp List.mem_cons_self; cases this
  | a :: as, b :: bs, pa, pb, h => by
    obtain ⟨a1, a2⟩ := List.pairwise_cons.mp pa
    obtain ⟨b1, b2⟩ := List.pairwise_cons.mp pb
    have e : a = b := by
      rcases List.mem_cons.mp ((h a).mp List.mem_cons_self) with e | m
      · exact e
      · rcases List.mem_cons.mp ((h b).mpr List.mem_cons_self) with e | m2
        · exact e.symm
        · have := b1 a m
          have := a1 b m2
          grind
    subst e
    rw [inOrder_uniq a2 b2 fun r => ?_]
    constructor
    · intro m
      rcases List.mem_cons.mp ((h r).mp (List.mem_cons_of_mem _ m)) with e | m2
      · subst e
        have := a1 r m
        grind
      · exact m2
    · intro m
      rcases List.mem_cons.mp ((h r).mpr (List.mem_cons_of_mem _ m)) with e | m2
      · subst e
        have := b1 r m
        grind
      · exact m2
theorem InOrder.uniq {qs as bs : List Rat} (h : InOrder qs as) (g : InOrder qs bs) : as = bs := inOrder_uniq h.1 g.1 fun r => (h.2 r).trans (g.2 r).symm
theorem InOrder.scale {qs rs : List Rat} {f : Rat} (hf : 0 < f) (h : InOrder qs rs) : InOrder (qs.map (· * f)) (rs.map (· * f)) := by
  refine ⟨?_, fun r => ?_⟩
  · rw [List.pairwise_map]
    exact h.1.imp fun {a b} l => (mul_lt_iff hf).mpr l
  · rw [List.mem_map, List.mem_map]
    constructor
    · rintro ⟨x, hx, e⟩
      exact ⟨x, (h.2 x).mp hx, e⟩
    · rintro ⟨x, hx, e⟩
      exact ⟨x, (h.2 x).mpr hx, e⟩
/-! ### remainders -/
theorem rem_shift {p q m : Rat} (hm : 0 < m) (k : Int) (e : p = q + m * (k : Rat)) : rem p m = rem q m := by
  have m0 : m ≠ 0 := by grind
  unfold rem
  have e2 : p / m = q / m + (k : Rat) := by rw [e]; grind
  have e3 : (p / m).floor = (q / m).floor + k := by
    rw [e2]
    apply Int.le_antisymm
    · have h1 := Rat.lt_floor_add_one (q / m)
      have h2 := Rat.floor_le (q / m + (k : Rat))
      have : (((q / m + (k : Rat)).floor : Int) : Rat) < (((q / m).floor + 1 + k : Int) : Rat) := by
        rw [Rat.intCast_add, Rat.intCast_add]
        have : (((1 : Int)) : Rat) = 1 := rfl
        grind
      have := Rat.intCast_lt_intCast.mp this
      omega
    · rw [Rat.le_floor_iff, Rat.intCast_add]
      have := Rat.floor_le (q / m)
      grind
  rw [e3, Rat.intCast_add]
  grind
theorem rem_eq (p m : Rat) : ∃ k : Int, rem p m = p + m * (k : Rat) := ⟨-(p / m).floor, by
  unfold rem
  rw [Rat.intCast_neg]
  grind⟩
/-- a remainder within a sum, or a difference, may be taken or left -/
theorem rem_add_rem {p q m : Rat} (hm : 0 < m) : rem (rem p m + q) m = rem (p + q) m := by
  obtain ⟨k, e⟩ := rem_eq p m
  exact rem_shift hm k (by rw [e]; grind)
theorem rem_sub_rem {p q m : Rat} (hm : 0 < m) : rem (q - rem p m) m = rem (q - p) m := by
  obtain ⟨k, e⟩ := rem_eq p m
  exact rem_shift hm (-k) (by rw [e, Rat.intCast_neg]; grind)
theorem rem_rem {p m : Rat} (hm : 0 < m) : rem (rem p m) m = rem p m := by
  obtain ⟨k, e⟩ := rem_eq p m
  exact rem_shift hm k e
end LR
set_option Elab.async false
set_option linter.all false
set_option maxRecDepth 100000
set_option maxHeartbeats 4000000
set_option exponentiation.threshold 100000
namespace LR
open PySem PySem.Spec PyProof.Rows L2 DL
section
variable {P : Program} {w : World} {K : PySem.W.Frag} {mg : Str → Option Value} {base : Heap}
/-! ### ascending, in_order -/
def sdNo : SpD := fun _ _ _ => False
theorem ok_rank {f fd} (D : DefAt K mg "_ranked" s_ranked ["rows"] f fd) : DefD P w K mg base "_ranked" 1 sdNo :=
  .mk1 D (fnD D.F sc_ranked (fun _ _ _ h => h.elim) fun cdv A outer s H E c hr b => ⟨_, dss_cons d_dead (dss_cons d_dead (dss_one d_dead)), fun as Qd Ed h => h.elim⟩)
def sdAscd : SpD := fun as Q _ => match as with
  | [.d (.lst ds)] => ∃ qs : List Rat, ds = qs.map rD ∧ qs.length ≤ 8 ∧ (∀ q ∈ qs, Sz 3900 q) ∧ ∀ rs, InOrder qs rs → Q (.lst (rs.map rD))
  | _ => False
theorem sdAscd_len  (as Q E) (h : sdAscd  as Q E) : as.length = 1 := by
  unfold sdAscd at h
  split at h
  · rfl
  · exact h.elim

theorem ok_ascd {f fd t8} (D : DefAt K mg "ascending" s_ascending ["rows"] f fd) (m_len : mg "len" = none) (m_FEW : mg "FEW" = some (.int 8 t8)) (G_ranked : DefD P w K mg base "_ranked" 1 sdNo) (G_inserted : DefD P w K mg base "_inserted" 1 sdInsd) : DefD P w K mg base "ascending" 2 sdAscd :=
  .mk1 D (fnD D.F sc_ascending sdAscd_len fun cdv A outer s H E c hr b => ⟨_, (dss_one (d_ret (d_if (dt_cmp od_gt (d_callB cd_len m_len (da_name (pv 0) da_nil)) (d_gint m_FEW)) (d_cN G_ranked (hr.mono (by decide)) (da_name (pv 0) da_nil)) (d_cN G_inserted (hr.mono (by decide)) (da_name (pv 0) da_nil))))), fun as Qd Ed h => by
    unfold sdAscd at h
    split at h
    · obtain ⟨qs, rfl, few, hz, q⟩ := h
      refine ifD (fun c => ?_) (fun c => ⟨qs, rfl, by omega, hz, q⟩)
      have c : (8 : Int) < ((qs.map rD).length : Int) := c
      rw [List.length_map] at c
      omega
    · exact h.elim⟩)
/-- a list of few numbers -/
def sdOrd : SpD := fun as Q _ => match as with
  | [.d (.lst ds)] => ∃ qs : List Rat, A2 (fun d q => KN d ∧ ratD d = some q) ds qs ∧ qs.length ≤ 8 ∧ (∀ q ∈ qs, Sz 3900 q) ∧ ∀ rs, InOrder qs rs → Q (.lst (rs.map rD))
  | _ => False
theorem sdOrd_len  (as Q E) (h : sdOrd  as Q E) : as.length = 1 := by
  unfold sdOrd at h
  split at h
  · rfl
  · exact h.elim

def rOf (d : DL.D) : DL.D := rD ((ratD d).getD 0)
theorem KN.kk {x : DL.D} (h : KN x) : ∃ k, kindD x = some k ∧ k ≠ .dct := by
  unfold KN at h
  split at h
  · exact ⟨_, rfl, by decide⟩
  · exact h
theorem ok_ord {f fd CN} (D : DefAt K mg "in_order" s_in_order ["values"] f fd) (m_isinstance : mg "isinstance" = none) (m_list : mg "list" = none) (m_type : mg "type" = none) (m_int : mg "int" = none) (Gas_ratio : DefD P w K mg base "as_ratio" 3 (sdAsR CN)) (Gascending : DefD P w K mg base "ascending" 2 sdAscd) : DefD P w K mg base "in_order" 4 sdOrd :=
  .mk1 D (fnD D.F sc_in_order sdOrd_len fun cdv A outer s H E c hr b => ⟨_, (dss_cons (d_ifS (dt_not (dt_val (d_callB cd_isi m_isinstance (da_name (pv 0) (da_cons (d_ty .lst m_list) da_nil)))))
      (dss_one d_dead)
      dss_nil)
      (dss_one (d_ret (d_cN Gascending (hr.mono (by decide)) (da_cons (d_ofO (do_lc (own := [("value", 1)]) (p := .n 1) rfl sc_in_order.nd (di_seq (d_var (pv 0))) (blkOk_by (N := N_in_order) (sc := defScope s_in_order) (by decide +kernel)) (fun _ _ _ _ _ => (dg_name (pg_name (i := 1) sc_in_order.nd rfl (.inl rfl)))) (fun _ _ _ _ _ => dts_nil) (fun _ _ _ _ _ => (d_if (dt_cmp od_isTy (d_callTy cd_type m_type (da_name (pv 1) da_nil)) (d_ty .int m_int)) (d_tup (da_name (pv 1) (da_cons d_int da_nil))) (d_cN Gas_ratio (hr.mono (by decide)) (da_name (pv 1) da_nil)))))) da_nil))))), fun as Qd Ed h => by
    unfold sdOrd at h
    split at h
    · rename_i ds
      obtain ⟨qs, hA, few, hz, q⟩ := h
      have le := hA.len
      refine lc_by (fun d => [rOf d]) (by omega) (fun d hd acc J j => ?_) ?_
      · obtain ⟨p, _, kn, e⟩ := hA.mem hd
        have er : rOf d = rD p := by unfold rOf; rw [e]; rfl
        rw [er] at j
        obtain ⟨k, hk, nk⟩ := kn.kk
        have go : ∀ (u : DL.D), u = d → (match kindD d with
          | some .dct => False
          | some k => True
          | none => False) := fun u e => by rw [hk]; cases k <;> first | trivial | exact nk rfl
        cases d <;> first | (cases e; done) | skip
        · rename_i i
          have e : ((i : Int) : Rat) = p := Option.some.inj e
          rw [← e] at j
          exact j
        · exact ⟨kn, fun z => by (rw [e] at z; cases z), fun p' z => by
            rw [e] at z
            cases z
            exact j⟩
      · have eq : ds.map rOf = qs.map rD := hA.map fun x y h => by unfold rOf; rw [h.2]; rfl
        rw [flat_map, eq]
        exact ⟨qs, rfl, few, hz, q⟩
    · exact h.elim⟩)
/-! ### change_times -/
theorem cut_from (xs : List DL.D) (m : Nat) : DL.cutD xs (some (m : Int)) none = xs.drop m := by
  unfold DL.cutD
  rw [HT.sIx_none, HT.sIx_nat]
  by_cases h : m ≤ xs.length
  · rw [Nat.min_eq_left h, List.take_of_length_le (by rw [List.length_drop]; exact Nat.le_refl _)]
  · rw [Nat.min_eq_right (by omega), List.drop_of_length_le (by omega), List.drop_of_length_le (by omega)]
    simp
def begD : DL.D → DL.D
  | .tup (b :: _) => b
  | _ => .non
theorem beg_trk {s0 : Rat} (cs : List (Rat × Rat)) : (((trk s0 cs).map rowD).drop 1).map begD = (cs.drop 1).map fun c => rD c.1 := by
  conv => rhs; rw [← pcs_trk (s0 := s0) cs]
  rw [← List.map_drop, ← List.map_drop, List.map_map, List.map_map]
  rfl
theorem get_name {L0 : Rat} {rn : List Rnr} {r : Rnr} (ok : RaceOk L0 rn) (hr : r ∈ rn) : getDD (tracksD L0 rn) (.str r.1) = some (some (trF L0 r)) := congrArg some (look_map (f := trF L0) (keys_nd ok.nd) hr)
def sdChT (CR : Addr) : SpD := fun as Q _ => match as with
  | [.d x] => ∃ (L0 : Rat) (rn : List Rnr), x = raceD CR L0 rn ∧ RaceOk L0 rn ∧ (rn.flatMap fun r => (r.2.2.drop 1).map (·.1)).length ≤ 8 ∧ ∀ rs, InOrder (rn.flatMap fun r => (r.2.2.drop 1).map (·.1)) rs → Q (.lst (rs.map rD))
  | _ => False
theorem sdChT_len (CR : Addr) (as Q E) (h : sdChT CR as Q E) : as.length = 1 := by
  unfold sdChT at h
  split at h
  · rfl
  · exact h.elim

theorem ok_cht {f fd CR} (F : Fun K "change_times" "Race.change_times" s_Race_change_times f fd) (cC_Race : Cls K CR) (na_Race_tracks : NoAttr K CR "_tracks") (Gin_order : DefD P w K mg base "in_order" 4 sdOrd) : FnOk P w K mg base (L2.CX P w) 5 f fd ["self"] (spD K (sdChT CR)) :=
  fnD F sc_Race_change_times (sdChT_len CR) fun cdv A outer s H E c hr b => ⟨_, (dss_one (d_ret (d_cN Gin_order (hr.mono (by decide)) (da_cons (d_ofO (do_lc2 (own := [("name", 1), ("row", 2)]) (vs1 := [2]) (p := .n 1) (p1 := .n 2) rfl sc_Race_change_times.nd (di_keys (d_attr cC_Race na_Race_tracks (d_var (pv 0)))) (blkOk_by (N := N_Race_change_times) (sc := defScope s_Race_change_times) (by decide +kernel)) (by decide) (fun _ _ _ _ _ => (dg_name (pg_name (i := 1) sc_Race_change_times.nd rfl (.inl rfl)))) (fun _ _ _ _ _ => dts_nil) (fun _ _ _ _ _ => (di_seq (d_slice (d_dget (hu_of hr) (d_attr cC_Race na_Race_tracks (d_var (pv 0))) (d_var (pv 1))) (dp_some d_int) dp_none))) (fun _ _ _ _ _ => (dg_name (pg_name (i := 2) sc_Race_change_times.nd rfl (.inl rfl)))) (fun _ _ _ _ _ => dts_nil) (fun _ _ _ _ _ => (d_ix ixd (d_var (pv 2)) d_int)))) da_nil)))), fun as Qd Ed h => by
    unfold sdChT at h
    split at h
    · obtain ⟨L0, rn, rfl, ok, few, q⟩ := h
      have name : ∀ i d, (((rn.map keyR).map kvD))[i]? = some d → ∃ r : Rnr, rn[i]? = some r ∧ d = DL.D.str r.1 := fun i d hd => by
        rw [List.map_map, List.getElem?_map] at hd
        obtain ⟨r, hr, rfl⟩ := Option.map_eq_some_iff.mp hd
        exact ⟨r, hr, rfl⟩
      refine ⟨rfl, _, rfl, fun i acc => acc = (rn.take i).flatMap fun r => (r.2.2.drop 1).map fun c => rD c.1, rfl, ?_, ?_⟩
      · rintro i d acc hd rfl
        obtain ⟨r, hr, rfl⟩ := name i d hd
        refine ⟨rfl, _, rfl, ?_⟩
        show match getDD (tracksD L0 rn) (.str r.1) with
          | some (some d) => _
          | _ => False
        rw [get_name ok (List.mem_of_getElem? hr)]
        have lr : (r.2.2.drop 1).length ≤ 8 := by
          have m : List.Sublist ((r.2.2.drop 1).map (·.1)) (rn.flatMap fun r => (r.2.2.drop 1).map (·.1)) := by
            obtain ⟨l1, l2, e⟩ := List.append_of_mem (List.mem_of_getElem? hr)
            rw [e, List.flatMap_append, List.flatMap_cons]
            exact (List.sublist_append_left _ _).trans (List.sublist_append_right _ _)
          have := m.length_le
          rw [List.length_map] at this
          omega
        have la : ((rn.take i).flatMap fun r => (r.2.2.drop 1).map fun c => rD c.1).length ≤ 8 := by
          have m : ((rn.take i).flatMap fun r => (r.2.2.drop 1).map (·.1)).length ≤ (rn.flatMap fun r => (r.2.2.drop 1).map (·.1)).length := by
            conv => rhs; rw [← List.take_append_drop i rn, List.flatMap_append, List.length_append]
            exact Nat.le_add_right _ _
          have e : ((rn.take i).flatMap fun r => (r.2.2.drop 1).map fun c => rD c.1).length = ((rn.take i).flatMap fun r => (r.2.2.drop 1).map (·.1)).length := by
            rw [List.length_flatMap, List.length_flatMap]
            simp
          omega
        have lt : (((trk (rem r.2.1 L0) r.2.2).map rowD).drop 1).length = (r.2.2.drop 1).length := by
          have := congrArg List.length (beg_trk (s0 := rem r.2.1 L0) r.2.2)
          rw [List.length_map, List.length_map] at this
          exact this
        have ec : DL.cutD ((trk (rem r.2.1 L0) r.2.2).map rowD) (some (1 : Int)) none = ((trk (rem r.2.1 L0) r.2.2).map rowD).drop 1 := cut_from _ 1
        have go : ∀ Q : List DL.D → Prop, Q (((trk (rem r.2.1 L0) r.2.2).map rowD).drop 1) → rSlD (trF L0 r) (some 1) none fun x => itemsD x Q := fun Q h => by
          show Q (DL.cutD ((trk (rem r.2.1 L0) r.2.2).map rowD) (some (1 : Int)) none)
          rw [ec]
          exact h
        dsimp only [tdPt, tdC, tdNoPt]
        refine go _ ?_
        refine lc2_in begD (by omega) ?_ (fun d hd R hR N => ?_)
        · rw [beg_trk, List.take_add_one, hr]
          simp
        · obtain ⟨x, _, rfl⟩ := List.mem_map.mp (List.mem_of_mem_drop hd)
          exact hR
      · rintro _ rfl
        rw [List.take_of_length_le (by rw [List.length_map, List.length_map]; exact Nat.le_refl _)]
        refine ⟨rn.flatMap fun r => (r.2.2.drop 1).map (·.1), ?_, few, fun p hp => ?_, q⟩
        · have e : (rn.flatMap fun r => (r.2.2.drop 1).map fun c => rD c.1) = (rn.flatMap fun r => (r.2.2.drop 1).map (·.1)).map rD := by
            rw [List.map_flatMap]
            simp [List.map_map, Function.comp_def]
          rw [e]
          generalize (rn.flatMap fun r => (r.2.2.drop 1).map (·.1)) = qs
          clear few q name
          induction qs with
          | nil => trivial
          | cons x xs ih => exact ⟨⟨KN_rD x, ratD_rD x⟩, ih⟩
        · obtain ⟨r, hr, hp⟩ := List.mem_flatMap.mp hp
          obtain ⟨c, hc, rfl⟩ := List.mem_map.mp hp
          exact (((ok.ok r hr).pc.sz c (List.mem_of_mem_drop hc)).1).mono (by decide)
    · exact h.elim⟩
/-! ### len(race) -/
def sdRLen (CR : Addr) : SpD := fun as Q _ => match as with
  | [.d x] => ∃ (L0 : Rat) (rn : List Rnr), x = raceD CR L0 rn ∧ Q (.int (rn.length : Nat))
  | _ => False
theorem sdRLen_len (CR : Addr) (as Q E) (h : sdRLen CR as Q E) : as.length = 1 := by
  unfold sdRLen at h
  split at h
  · rfl
  · exact h.elim

theorem ok_rlen {f fd CR} (F : Fun K "__len__" "Race.__len__" s_Race_len f fd) (cC_Race : Cls K CR) (na_Race_tracks : NoAttr K CR "_tracks") (m_len : mg "len" = none) : FnOk P w K mg base (L2.CX P w) 1 f fd ["self"] (spD K (sdRLen CR)) :=
  fnD F sc_Race_len (sdRLen_len CR) fun cdv A outer s H E c hr b => ⟨_, (dss_one (d_ret (d_callB cd_lenD m_len (da_cons (d_attr cC_Race na_Race_tracks (d_var (pv 0))) da_nil)))), fun as Qd Ed h => by
    unfold sdRLen at h
    split at h
    · obtain ⟨L0, rn, rfl, q⟩ := h
      refine ⟨rfl, _, rfl, ?_⟩
      have e : (rn.length : Int) = ((rn.map keyR).length : Int) := by rw [List.length_map]
      rw [e] at q
      exact q
    · exact h.elim⟩
/-! ### race == race -/
def sdREq (CR : Addr) : SpD := fun as Q _ => match as with
  | [.d x, .d y] => ∃ (L0 : Rat) (rn : List Rnr) (L1 : Rat) (rm : List Rnr), x = raceD CR L0 rn ∧ y = raceD CR L1 rm ∧ Q (.bl (decide (L0 = L1) && eqDct (rn.map keyR) (rn.map (trF L0)) (rm.map keyR) (rm.map (trF L1))))
  | _ => False
theorem sdREq_len (CR : Addr) (as Q E) (h : sdREq CR as Q E) : as.length = 2 := by
  unfold sdREq at h
  split at h
  · rfl
  · exact h.elim

theorem shD_row (r : Row) : shD 59 (rowD r) = true := rfl
theorem shD_trk (L0 : Rat) (r : Rnr) : shD 60 (trF L0 r) = true := by
  show ((trk (rem r.2.1 L0) r.2.2).map rowD).all (shD 59) = true
  rw [List.all_map, List.all_eq_true]
  exact fun x _ => shD_row x
theorem shD_trks (L0 : Rat) (rn : List Rnr) : ∀ d ∈ rn.map (trF L0), shD 60 d = true := fun d hd => by
  obtain ⟨r, _, rfl⟩ := List.mem_map.mp hd
  exact shD_trk L0 r
theorem ok_req {f fd CR} (F : Fun K "__eq__" "Race.__eq__" s_Race_eq f fd) (cC_Race : Cls K CR) (na_Race_length : NoAttr K CR "_length") (na_Race_tracks : NoAttr K CR "_tracks") (m_isinstance : mg "isinstance" = none) (g_Race : mg "Race" = some (.ref CR)) (T_Race : OwnC K CR) : FnOk P w K mg base (L2.CX P w) 2 f fd ["self", "other"] (spD K (sdREq CR)) :=
  fnD F sc_Race_eq (sdREq_len CR) fun cdv A outer s H E c hr b => ⟨_, (dss_one (d_ret (d_and (d_callB (cd_isiOwn T_Race) m_isinstance (da_name (pv 1) (da_cons (d_cls g_Race) da_nil))) (d_and (d_cmp (od_eq hr.units) (d_attr cC_Race na_Race_length (d_var (pv 0))) (d_attr cC_Race na_Race_length (d_var (pv 1)))) (d_one (d_cmp (od_eqDct hr.in1.units) (d_attr cC_Race na_Race_tracks (d_var (pv 0))) (d_attr cC_Race na_Race_tracks (d_var (pv 1))))))))), fun as Qd Ed h => by
    unfold sdREq at h
    split at h
    · obtain ⟨L0, rn, L1, rm, rfl, rfl, q⟩ := h
      refine ⟨rfl, rfl, ?_⟩
      refine ⟨rfl, _, rfl, rfl, _, rfl, ?_⟩
      refine ⟨_, _, rfl, rfl, by rfl, by rfl, ?_⟩
      have ep := eqD_py (show py (rD L0) = some (.tuple [.int L0.num, .int L0.den]) from rfl) (show py (rD L1) = some (.tuple [.int L1.num, .int L1.den]) from rfl)
      rw [rD_eq] at ep
      rw [ep]
      by_cases e : L0 = L1
      · rw [decide_eq_true e] at q ⊢
        exact ⟨rfl, _, rfl, rfl, _, rfl, shD_trks L0 rn, shD_trks L1 rm, q⟩
      · rw [decide_eq_false e] at q ⊢
        exact q
    · exact h.elim⟩
theorem eqD_rD (q : Rat) : eqD (rD q) (rD q) = true := by rw [rD_eq]; exact decide_eq_true rfl
theorem eqDA_self : ∀ {xs : List DL.D}, (∀ x ∈ xs, eqD x x = true) → eqDA xs xs = true
  | [], _ => rfl
  | x :: xs, h => by
    show (eqD x x && eqDA xs xs) = true
    rw [h x List.mem_cons_self, eqDA_self fun y hy => h y (List.mem_cons_of_mem _ hy)]
    rfl
theorem eqD_int (i : Int) : eqD (.int i) (.int i) = true := beq_self_eq_true i
theorem eqD_row (r : Row) : eqD (rowD r) (rowD r) = true := by
  show eqDA _ _ = true
  exact eqDA_self fun x hx => by
    simp only [List.mem_cons, List.not_mem_nil, or_false] at hx
    rcases hx with rfl | rfl | rfl | rfl | rfl
    · exact eqD_rD _
    · exact eqD_rD _
    · exact eqD_int _
    · exact eqD_int _
    · exact eqD_int _
theorem eqD_trk (L0 : Rat) (r : Rnr) : eqD (trF L0 r) (trF L0 r) = true := by
  show eqDA _ _ = true
  exact eqDA_self fun x hx => by
    obtain ⟨y, _, rfl⟩ := List.mem_map.mp hx
    exact eqD_row y
theorem race_self {L0 : Rat} {rn : List Rnr} (nd : (rn.map (·.1)).Nodup) : (decide (L0 = L0) && eqDct (rn.map keyR) (rn.map (trF L0)) (rn.map keyR) (rn.map (trF L0))) = true := by
  rw [decide_eq_true rfl, Bool.true_and]
  exact eqDct_self (fun d hd => by
    obtain ⟨r, _, rfl⟩ := List.mem_map.mp hd
    exact eqD_trk L0 r) (by rw [List.length_map, List.length_map]) (keys_nd nd)
/-! ### _runners -/
def rnD (L0 : Rat) (r : Rnr) : DL.D := .tup [rD (rem r.2.1 L0), .lst (r.2.2.map pieceD)]
def sdRnrs (CR : Addr) : SpMu := fun as Q _ => match as with
  | [.d x] => ∃ (L0 : Rat) (rn : List Rnr), x = raceD CR L0 rn ∧ RaceOk L0 rn ∧ Q (.dic (rn.map keyR) (rn.map (rnD L0)))
  | _ => False
theorem sdRnrs_len (CR : Addr) (as Q E) (h : sdRnrs CR as Q E) : as.length = 1 := by
  unfold sdRnrs at h
  split at h
  · rfl
  · exact h.elim

theorem ok_rnrs {f fd CR} (F : Fun K "_runners" "Race._runners" s_Race_runners f fd) (cC_Race : Cls K CR) (na_Race_tracks : NoAttr K CR "_tracks") (M_Race_start : DefM P w K mg base CR NS "start" 4 (sdStart CR)) (M_Race_pieces : DefMF P w K mg base CR NS "pieces" 4 (sdPieces CR)) : FnOk P w K mg base (L2.CX P w) 5 f fd ["self"] (spMu K (sdRnrs CR)) :=
  fnMu F sc_Race_runners (sdRnrs_len CR) fun cdv A outer s H E c hr b => ⟨_, (dss_one (d_retM (do_dc (own := [("name", 1)]) (p := .n 1) rfl sc_Race_runners.nd (di_keys (d_attr cC_Race na_Race_tracks (d_var (pv 0)))) (blkOk_by (N := N_Race_runners) (sc := defScope s_Race_runners) (by decide +kernel)) (fun _ _ _ _ _ => (dg_name (pg_name (i := 1) sc_Race_runners.nd rfl (.inl rfl)))) (fun _ _ _ _ _ => dts_nil) (fun _ _ _ _ _ => (d_var (pv 1))) (fun _ _ _ _ _ => (d_tup (da_cons (d_mN M_Race_start (hr.mono (by decide)) (d_var (pv 0)) (da_name (pv 1) da_nil)) (da_cons (d_mN M_Race_pieces.toM (hr.mono (by decide)) (d_var (pv 0)) (da_name (pv 1) da_nil)) da_nil))))))), fun as Qd Ed h => by
    unfold sdRnrs at h
    split at h
    · obtain ⟨L0, rn, rfl, ok, q⟩ := h
      have l1 := ok.le
      refine ⟨rfl, _, rfl, ?_⟩
      refine dc_by (ks' := rn.map keyR) (vs' := rn.map (rnD L0)) (by rw [List.length_map, List.length_map, List.length_map]) (by rw [List.length_map, List.length_map, List.length_map]) (keys_nd ok.nd) (by rw [List.length_map, List.length_map]; omega) (fun i d k v hd hk hv J B j => ?_) q
      rw [List.map_map, List.getElem?_map] at hd
      rw [List.getElem?_map] at hk hv
      obtain ⟨r, hr, rfl⟩ := Option.map_eq_some_iff.mp hd
      rw [hr] at hk hv
      cases hk
      cases hv
      have hm := List.mem_of_getElem? hr
      refine ⟨rfl, rfl, L0, rn, r, rfl, ok, hm, rfl, ?_⟩
      refine ⟨rfl, rfl, L0, rn, r, rfl, ok, hm, rfl, ?_⟩
      exact j (.str r.1) rfl
    · exact h.elim⟩
end
end LR
set_option Elab.async false
set_option linter.all false
set_option maxRecDepth 100000
set_option maxHeartbeats 4000000
/-! ST: del d[k], list(d.values()), sorted of texts, a, b, c = x, y, z -/
namespace DL
open PySem PySem.Spec PyProof.Rows L2
section
variable {X : Cx} {c : Cn}
/-! ### del d[k], d a slot's own -/
def delKs {κ : Type} [DecidableEq κ] : List κ → κ → List κ
  | [], _ => []
  | k :: ks, j => if k = j then delKs ks j else k :: delKs ks j
def delDs {κ : Type} [DecidableEq κ] {α : Type} : List κ → List α → κ → List α
  | k :: ks, d :: ds, j => if k = j then delDs ks ds j else d :: delDs ks ds j
  | _, _, _ => []
theorem del_zip {j : Key} : ∀ {ks : List Key} {xs : List V}, ks.length = xs.length → dropK (zipV ks xs) j = zipV (delKs ks j) (delDs ks xs j)
  | [], [], _ => rfl
  | [], _ :: _, h => by cases h
  | _ :: _, [], h => by cases h
  | k :: ks, x :: xs, h => by
    have ih := del_zip (j := j) (Nat.succ.inj h)
    unfold dropK at ih ⊢
    show ((k, x) :: zipV ks xs).filter _ = zipV (if k = j then delKs ks j else k :: delKs ks j) (if k = j then delDs ks xs j else x :: delDs ks xs j)
    rw [List.filter_cons]
    by_cases e : k = j
    · rw [if_neg (by simp [e]), if_pos e, if_pos e]
      exact ih
    · rw [if_pos (by simp [e]), if_neg e, if_neg e, ih]
      rfl
theorem del_isA {K : PySem.W.Frag} {H : Hp} {j : Key} : ∀ {ks : List Key} {ds : List D} {xs : List V}, ks.length = ds.length → IsA K H ds xs → IsA K H (delDs ks ds j) (delDs ks xs j)
  | [], [], _, _, h => by cases h; rfl
  | [], _ :: _, _, l, _ => by cases l
  | _ :: _, [], _, l, _ => by cases l
  | k :: ks, d :: ds, _, l, ⟨x, ys, e, h1, h2⟩ => by
    subst e
    unfold delDs
    by_cases e : k = j
    · rw [if_pos e, if_pos e]
      exact del_isA (Nat.succ.inj l) h2
    · rw [if_neg e, if_neg e]
      exact ⟨x, _, rfl, h1, del_isA (Nat.succ.inj l) h2⟩
theorem del_len {α : Type} {j : Key} : ∀ {ks : List Key} {ds : List α}, ks.length = ds.length → (delKs ks j).length = (delDs ks ds j).length
  | [], [], _ => rfl
  | [], _ :: _, h => by cases h
  | _ :: _, [], h => by cases h
  | k :: ks, x :: xs, h => by
    unfold delKs delDs
    by_cases e : k = j
    · rw [if_pos e, if_pos e]
      exact del_len (Nat.succ.inj h)
    · rw [if_neg e, if_neg e]
      exact congrArg Nat.succ (del_len (Nat.succ.inj h))
def tdDDel (i : Nat) (tk : TD) : TSD := fun En ss Ed => match nth ss i with
  | .mu p (.dic ks ds) => tk ss (fun y => ∃ k, keyD y = some k ∧ (lookD ks ds k).isSome = true ∧ En.nx (put ss i (.mu p (.dic (delKs ks k) (delDs ks ds k))))) Ed
  | _ => False
theorem d_ddel {o k : Expr} {i : Nat} {tpos pos : Pos} {tk : TD} (ho : PE X o (tVar i)) (hk : DE X c k tk) : DS X c (.Delete [.Subscript o k tpos] pos) (tdDDel i tk) := by
  refine ps_imp (ps_ddel ho hk) fun Dn σ H q => ?_
  obtain ⟨O, Hs, ss, En, Ed, A, h, er, g⟩ := q
  unfold tdDDel at h
  split at h
  · rename_i p ks ds hm
    obtain ⟨u0, f1, own, _⟩ := mu_facts A hm
    refine ⟨.ref p, f1, O, Hs, ss, _, Ed, A, h, er, fun y w Hs2 H2 e2 i2 q2 => ?_⟩
    obtain ⟨kk, hkk, hl, q2⟩ := q2
    have A2 := A.next e2
    obtain ⟨u, _, _, hu2, mi, _⟩ := mu_facts A2 hm
    obtain ⟨xs, rfl, l, ia⟩ := mi
    have ek := keyD_is i2 hkk
    subst ek
    have lx : ks.length = xs.length := l.trans ia.len.symm
    refine ⟨p, _, kk, rfl, hu2, rfl, ?_, ?_⟩
    · cases q : lookD ks ds kk with
      | none => rw [q] at hl; cases hl
      | some d =>
        obtain ⟨v, hv, _⟩ := look_some l ia q
        rw [hv]
        rfl
    · rw [del_zip lx]
      exact g.nx σ O Hs2 _ _ e2.fz (A2.writeM (m := .dic _ _) f1 own ⟨_, rfl, del_len l, del_isA l ia⟩) q2
  · exact h.elim
/-! ### list(d.values()) -/
def rValsL : V → Hp → VK → Prop := fun x H Q => ∃ (d : Addr) (kvs : List (Key × V)), x = .ref d ∧ Rd H d (.dK kvs) ∧ ∀ p, H p = none → Q (.ref p) (upd H p (.lst (kvs.map (·.2))))
def tListVals (te : TE) : TE := fun σ H Q => te σ H fun x H1 => rValsL x H1 Q
theorem kv_vals : ∀ {kvs : List (Key × V)} {vs : List (Key × Value)}, KV kvs vs → Vals (kvs.map (·.2)) (vs.map (·.2))
  | _, _, .nil => .nil
  | _, _, .cons h t => .cons h.2 (kv_vals t)
theorem pe_listVals {e : Expr} {te : TE} {p apos cpos pos : Pos} (hc : X.calm = true) (he : PE X e te) (hm : X.mg "list" = none) (hg : Gl X "list" := by rfl) (hv : bootBuiltins "list" = some (.type "list") := by decide +kernel) (hbase : attributeBase e "values" X.env (eval e X.env) = eval e X.env := by rfl) (hline : (apos.endLine == cpos.line) = true := by rfl)
    (hs : starEach [.Call (.Attribute e "values" apos) [] [] cpos] X.env = (false, eval (.Call (.Attribute e "values" apos) [] [] cpos) X.env) :: starEach [] X.env := by rfl) :
    PE X (.Call (.Name "list" p) [.Call (.Attribute e "values" apos) [] [] cpos] [] pos) (tListVals te) := ⟨fun pins s σ H Q I hq => by
  refine wpAny_Call_Name_kw (ld_blt I hg hm hv ?_)
  refine PyProof.Rows.callWith_type1 ?_ hs rfl
  rw [hs]
  show wpAny _ _ (spliced ((false, eval (.Call (.Attribute e "values" apos) [] [] cpos) X.env) :: backTo pos (starEach [] X.env))) _ _ s
  refine Calls.spliced_cons ?_
  refine wpAny_Call_method (T := "dict") (id := "dict.values") hbase rfl hline F.plainAttrs_dict F.slot_dict_values F.type_dict_values (thn (he.run pins s σ H _ I hq) fun u s1 ⟨x, H1, I1, rx, d, kvs, ex, hd, q⟩ => ?_)
  subst ex
  obtain rfl : u = Value.ref d := rx
  obtain ⟨hz, hs0, vs, kv, hdo⟩ := hd.ok I1.hok
  obtain ⟨ep, hat⟩ := hdo.dictAt
  have lk : kvs.length = vs.length := Paired.length kv
  have I2 : Inv X pins σ H1 { s1 with heap := s1.heap.push { cls := .type "dict_values", data := .fields #[.ref d] } } := I1.kept (t' := s1.toks) fun b ob q => Heap.get?_push_of_some _ q
  refine ⟨hdo.typeIs, hdo.mapOf.noDict, ?_⟩
  show wpAny _ _ (callWith cpos (.builtin "dict.values") [.ref d] [] []) _ X.xe s1
  refine method_meetsIn F.slot_dict_values F.entry_dict_values rfl (PySem.evalArgs_none ⟨rfl, hdo.typeIs, F.args_dict_values_1 _, _, meets_dict_values (mixKind X.prog X.w) d hs0, ⟨vs, hdo⟩, ?_⟩)
  refine Calls.spliced_nil ?_
  refine PySem.W.kdl_call (PySem.W.kdl_values (knd := mixKind X.prog X.w) (kvs := vs) (ep := ep)) (I1.ok.hd hc) ⟨⟨_, Heap.get?_push_size _ rfl, rfl, rfl⟩, hat.push _⟩ (by omega) fun h' tk acc cc hk hS hacc => ?_
  have ev : acc.toList = vs.map (·.2) := PySem.W.kdl_vals_eq _ (by rw [Array.length_toList]; exact hacc.1) fun j v e => hacc.2 j v (by rw [← Array.getElem?_toList]; exact e)
  have n0 := I2.hok.fresh (Nat.le_refl _)
  exact ⟨.ref _, _, I2.laid (o := .lst (kvs.map (·.2))) hk (Nat.le_refl _) ⟨by rw [List.length_map]; exact hz, acc.toList, cc, by rw [ev]; exact kv_vals kv, by rw [Array.toArray_toList]; exact hS⟩, rfl, q _ n0⟩⟩
def toListVals (te : TD) : TOD := fun ss Q Ed => te ss (fun x => match x with
  | .dct _ ds => Q ds
  | _ => False) Ed
theorem do_listVals {e : Expr} {te : TD} {p apos cpos pos : Pos} (hc : X.calm = true) (hm : X.mg "list" = none) (he : DE X c e te) (hg : Gl X "list" := by rfl) (hbase : attributeBase e "values" X.env (eval e X.env) = eval e X.env := by rfl) (hline : (apos.endLine == cpos.line) = true := by rfl)
    (hs : starEach [.Call (.Attribute e "values" apos) [] [] cpos] X.env = (false, eval (.Call (.Attribute e "values" apos) [] [] cpos) X.env) :: starEach [] X.env := by rfl) :
    DO X c (.Call (.Name "list" p) [.Call (.Attribute e "values" apos) [] [] cpos] [] pos) (toListVals te) := by
  refine pe_imp (pe_listVals hc he hm hg (by decide +kernel) hbase hline hs) fun σ H Q q => ?_
  obtain ⟨O, Hs, ss, Qd, Ed, A, h, er, g⟩ := q
  refine ⟨O, Hs, ss, _, Ed, A, h, er, fun d v Hs1 H1 e1 i1 q1 => ?_⟩
  split at q1
  · obtain ⟨a, od, xs, rfl, ha, l, ia⟩ := i1
    refine ⟨a, _, rfl, .inr ⟨od, e1.sub _ _ ha⟩, fun p np => ?_⟩
    have n0 : H p = none := by
      cases z : H p with
      | none => rfl
      | some u => exact absurd np (e1.live p (by rw [z]; exact fun z => nomatch z))
    refine g _ p _ Hs1 _ (e1.trans (.grow e1.sub np)) n0 (none_sub e1.sub np) upd_same ?_ q1
    rw [List.map_snd_zip (by rw [ia.len, l]; exact Nat.le_refl _)]
    exact ia
  · exact q1.elim
/-! ### sorted(a list of texts) -/
def strL : List D → Option (List Str)
  | [] => some []
  | .str x :: ds => (strL ds).map (x :: ·)
  | _ :: _ => none
theorem strL_map : ∀ ys : List Str, strL (ys.map .str) = some ys
  | [] => rfl
  | y :: ys => by
    show (strL (ys.map D.str)).map (y :: ·) = _
    rw [strL_map ys]
    rfl
theorem strs_of {K : PySem.W.Frag} {H : Hp} : ∀ {ys : List Str} {xs : List V}, IsA K H (ys.map D.str) xs → xs = ys.map V.str
  | [], _, h => by cases h; rfl
  | y :: ys, _, ⟨x, xs, e, h1, h2⟩ => by subst e; cases h1; rw [strs_of h2]; rfl
def rSortS : List D → QD → Prop := fun ds Q => match ds with
  | [.lst xs] => ∃ ns : List Str, xs = ns.map .str ∧ ns.length < 64 ∧ ∀ ys : List Str, ys.Perm ns → sortedS ys = true → Q (.lst (ys.map .str))
  | _ => False
theorem cd_sortedS : CallD X (.builtin "sorted") rSortS := ⟨_, cr_sortedS, fun Z Hs H ds vs Qd Q s i q cn => by
  unfold rSortS at q
  split at q
  · obtain ⟨x, e, a, xs, e2, h1, h2⟩ := isA1 i
    subst e2; subst e
    obtain ⟨ns, rfl, few, q⟩ := q
    have e := strs_of h2
    subst e
    exact ⟨a, ns, rfl, .inl (.inl (s _ _ h1)), few, fun ys p pm so np => cn (.lst _) _ (upd Hs p (.lst (ys.map V.str))) _ (.laid s np) ⟨p, _, rfl, upd_same, strs_is ys⟩ (q ys pm so)⟩
  · exact q.elim⟩
/-! ### a, b, c = x, y, z -/
def tdPar3 (i j l : Nat) (ta tb tc : TD) : TSD := fun En ss Ed => ta ss (fun x => tb ss (fun y => tc ss (fun z => En.nx (put (put (put ss i (.d x)) j (.d y)) l (.d z))) Ed) Ed) Ed
theorem d_par3 {i j l : Nat} {x y z : Str} {a b d : Expr} {ta tb tc : TD} {px py pz pt pos : Pos} {kt k2 pt2} (hc : X.calm = true) (hN : X.N.Nodup) (hi : X.N[i]? = some x) (hj : X.N[j]? = some y) (hl : X.N[l]? = some z) (hij : i ≠ j) (hil : i ≠ l) (hjl : j ≠ l)
    (hx : X.env.scope.names.lookup x = some .local) (hy : X.env.scope.names.lookup y = some .local) (hz : X.env.scope.names.lookup z = some .local) (ha : DE X c a ta) (hb : DE X c b tb) (hd : DE X c d tc)
    (hw : swappedStores [.Tuple [.Name x px, .Name y py, .Name z pz] kt pt] (.Tuple [a, b, d] k2 pt2) X.env = pure (some [x, y, z]) := by rfl)
    (hs : swapsWithSole [.Tuple [.Name x px, .Name y py, .Name z pz] kt pt] (.Tuple [a, b, d] k2 pt2) pos.line X.env = pure false := by rfl)
    (h1 : starEach [a, b, d] X.env = (false, eval a X.env) :: starEach [b, d] X.env := by rfl) (h2 : starEach [b, d] X.env = (false, eval b X.env) :: starEach [d] X.env := by rfl) (h3 : starEach [d] X.env = (false, eval d X.env) :: starEach [] X.env := by rfl) :
    DS X c (.Assign [.Tuple [.Name x px, .Name y py, .Name z pz] kt pt] (.Tuple [a, b, d] k2 pt2) pos) (tdPar3 i j l ta tb tc) := by
  refine ps_imp (ps_par3 hc hN hi hj hl hij hil hjl hx hy hz (pa_cons ha (pa_cons hb (pa_cons hd pa_nil h3) h2) h1) hw hs) fun Dn σ H q => ?_
  obtain ⟨O, Hs, ss, En, Ed, A, h, er, gc⟩ := q
  refine ⟨O, Hs, ss, _, Ed, A, h, er, fun d1 v1 Hs1 H1 e1 i1 q1 => ?_⟩
  refine ⟨O, Hs1, ss, _, Ed, A.next e1, q1, er, fun d2 v2 Hs2 H2 e2 i2 q2 => ?_⟩
  refine ⟨O, Hs2, ss, _, Ed, (A.next e1).next e2, q2, er, fun d3 v3 Hs3 H3 e3 i3 q3 => ?_⟩
  exact ⟨v1, v2, v3, rfl, gc.nx _ O Hs3 H3 _ ((e1.fz.trans e2.fz).trans e3.fz) ((((((A.next e1).next e2).next e3).set ((i1.same e2.fz).same e3.fz)).set (i2.same e3.fz)).set i3) q3⟩
end
end DL
set_option Elab.async false
set_option linter.all false
set_option maxRecDepth 100000
set_option maxHeartbeats 4000000
/-! LS: len(set(xs)), xs a list of texts -/
namespace DL
open PySem PySem.Spec PyProof.Rows L2
def addS (ks : List Str) (x : Str) : List Str := if x ∈ ks then ks else ks ++ [x]
def diffsTo (ns : List Str) : Nat → List Str
  | 0 => []
  | i + 1 => match ns[i]? with
    | some x => addS (diffsTo ns i) x
    | none => diffsTo ns i
theorem addS_mem {ks : List Str} {x y : Str} : y ∈ addS ks x ↔ y ∈ ks ∨ y = x := by
  unfold addS
  split
  · rename_i h
    constructor
    · exact .inl
    · rintro (h2 | rfl)
      · exact h2
      · exact h
  · simp
theorem addS_nd {ks : List Str} {x : Str} (h : ks.Nodup) : (addS ks x).Nodup := by
  unfold addS
  split
  · exact h
  · rename_i n
    exact List.nodup_append.mpr ⟨h, by simp, fun a ha b hb e => n (by rw [List.mem_singleton.mp hb] at e; rw [← e]; exact ha)⟩
theorem diffsTo_nd (ns : List Str) : ∀ i, (diffsTo ns i).Nodup
  | 0 => List.nodup_nil
  | i + 1 => by
    unfold diffsTo
    cases ns[i]? with
    | none => exact diffsTo_nd ns i
    | some x => exact addS_nd (diffsTo_nd ns i)
theorem diffsTo_mem (ns : List Str) : ∀ i, i ≤ ns.length → ∀ y, y ∈ diffsTo ns i ↔ y ∈ ns.take i
  | 0, _, y => by simp [diffsTo]
  | i + 1, h, y => by
    have hi : ns[i]? = some (ns[i]'(by omega)) := List.getElem?_eq_getElem (by omega)
    unfold diffsTo
    rw [hi]
    show y ∈ addS (diffsTo ns i) _ ↔ _
    rw [addS_mem, diffsTo_mem ns i (by omega) y, List.take_add_one, hi, List.mem_append]
    show _ ↔ _ ∨ y ∈ [ns[i]'(by omega)]
    rw [List.mem_singleton]
theorem diffsTo_le (ns : List Str) : ∀ i, (diffsTo ns i).length ≤ i
  | 0 => Nat.le_refl 0
  | i + 1 => by
    have ih := diffsTo_le ns i
    unfold diffsTo
    cases ns[i]? with
    | none => exact Nat.le_succ_of_le ih
    | some x =>
      show (addS (diffsTo ns i) x).length ≤ i + 1
      unfold addS
      split
      · omega
      · rw [List.length_append]
        exact Nat.succ_le_succ ih
section
variable {P : Program} {w : World} {A : Around} {E : Value → Shared → Prop} {s : Shared} {l : Addr} {items : Array Value} {ns : List Str}
abbrev SetS (P : Program) (w : World) (h : Heap) (a : Addr) (ks : List Str) : Prop := h.SetOf (mixKind P w) a (fun j => decide (∃ x ∈ ks, j = Sum.inr x)) ks.length
theorem setS_up {h h' : Heap} {a : Addr} {ks : List Str} (r : SetS P w h a ks) (k : ∀ o, h.get? a = some o → h'.get? a = some o) : SetS P w h' a ks := setOf_at r k
theorem setS_add {h : Heap} {a : Addr} {ks : List Str} {x : Str} (r : h.SetOf (mixKind P w) a (fun j => decide (∃ y ∈ ks, j = Sum.inr y) || decide (j = Sum.inr x)) (if (decide (∃ y ∈ ks, (Sum.inr x : L2.Key) = Sum.inr y)) = true then ks.length else ks.length + 1)) : SetS P w h a (addS ks x) := by
  have e1 : (fun j => decide (∃ y ∈ ks, j = Sum.inr y) || decide (j = Sum.inr x)) = fun j : L2.Key => decide (∃ y ∈ addS ks x, j = Sum.inr y) := by
    funext j
    rw [Bool.eq_iff_iff, Bool.or_eq_true, decide_eq_true_eq, decide_eq_true_eq, decide_eq_true_eq]
    constructor
    · rintro (⟨y, hy, rfl⟩ | rfl)
      · exact ⟨y, addS_mem.mpr (.inl hy), rfl⟩
      · exact ⟨x, addS_mem.mpr (.inr rfl), rfl⟩
    · rintro ⟨y, hy, rfl⟩
      rcases addS_mem.mp hy with h | rfl
      · exact .inl ⟨y, h, rfl⟩
      · exact .inr rfl
  have e2 : (if (decide (∃ y ∈ ks, (Sum.inr x : L2.Key) = Sum.inr y)) = true then ks.length else ks.length + 1) = (addS ks x).length := by
    unfold addS
    by_cases c : x ∈ ks
    · rw [if_pos c, if_pos (decide_eq_true ⟨x, c, rfl⟩)]
    · rw [if_neg c, if_neg (fun z => c (by obtain ⟨y, hy, e⟩ := of_decide_eq_true z; rw [Sum.inr.inj e]; exact hy)), List.length_append]
      rfl
  rw [e1, e2] at r
  exact r
/-- the loop of set.update over texts -/
theorem upd_strs {I : Addr} {fp wr : List Addr} {G : Array GenState → Array GenState → Prop} {m : Nat} {Pv : Nat → Value → Prop} {St : Nat → Shared → Prop} {R : Result → Shared → Prop}
    (W : WalksS P w A.in1 I fp wr G m Pv St) (S : Addr) (nf : S ∉ fp) (hm : m = ns.length) (few : ns.length + 1 < scanBound) (val : ∀ i v, Pv i v → ∃ k t, ns[i]? = some k ∧ v = .str k t) :
    ∀ (left i : Nat) (s0 : Shared), m - i = left → i ≤ m → St i s0 → SetS P w s0.heap S (diffsTo ns i) →
      (∀ s1, Moved (S :: wr) G s0 s1 → SetS P w s1.heap S (diffsTo ns m) → R (.ok (.ret .none)) s1) →
      codeAny (model P w) A (.builtin "set.update.loop" ⟨[.ref S, .ref I], []⟩) R s0 := by
  have nw : S ∉ wr := fun z => nf (W.sub _ z)
  have up : ∀ b ∈ wr, b ∈ S :: wr := fun b z => List.mem_cons_of_mem _ z
  intro left
  induction left with
  | zero =>
    intro i s0 hl hi st hS fin
    have e : i = m := by omega
    subst e
    refine codeAny_builtin F.entry_set_update_loop ?_
    rw [Around.under_plainId F.plain_set_update_loop _]
    show wpAny _ A.in1 (pyNext (.ref I) >>= _) _ _ s0
    refine wpAny_bind (W.done s0 _ _ st fun s1 mv => ?_)
    exact wpAny_pure (fin s1 (mv.mono up) (setS_up hS fun o e => mv.heap S o nw e))
  | succ left ih =>
    intro i s0 hl hi st hS fin
    have lt : i < m := by omega
    refine codeAny_builtin F.entry_set_update_loop ?_
    rw [Around.under_plainId F.plain_set_update_loop _]
    show wpAny _ A.in1 (pyNext (.ref I) >>= _) _ _ s0
    refine wpAny_bind (W.item i s0 _ _ lt st fun v s1 hP st1 mv => ?_)
    obtain ⟨x, t, hx, rfl⟩ := val i v hP
    have hS1 : SetS P w s1.heap S (diffsTo ns i) := setS_up hS fun o e => mv.heap S o nw e
    have ed : diffsTo ns (i + 1) = addS (diffsTo ns i) x := by
      show (match ns[i]? with
        | some x => addS (diffsTo ns i) x
        | none => diffsTo ns i) = _
      rw [hx]
    have le := diffsTo_le ns i
    show wpAny _ A.in1 (holding [Value.str x t] (setAdd S (.str x t)) >>= _) _ _ s1
    refine wpAny_bind (wpAny_holding ?_)
    unfold setAdd
    refine wpAny_holding (wpAny_bind ((mixKind P w).pyHash (k := Sum.inr x) (mixKind_str P w x t) ?_))
    refine wpAny_setAddHashed_of (s := { s1 with toks := s1.toks + 1 }) (mixKind_str P w x t) rfl hS1 (by omega) fun g sb hS2 => ?_
    have hS3 : SetS P w g S (diffsTo ns (i + 1)) := by
      rw [ed]
      exact setS_add hS2
    refine wpAny_pure ⟨plainId_quiet F.plain_set_update_loop _, ih (i + 1) _ (by omega) lt (W.frame _ s1 _ _ st1 (Nat.le_succ _) fun b hb o e => ?_) hS3 fun s2 mv2 hS4 => ?_⟩
    · rw [sb.2 b (fun z => nf (by rw [← z]; exact hb))]
      exact e
    · refine fin s2 (Moved.trans W.gtrans ((mv.mono up).then_heap (Nat.le_succ _) fun b o nb e => ?_) mv2) hS4
      rw [sb.2 b (fun z => nb (by rw [z]; exact List.mem_cons_self))]
      exact e
def SMade (P : Program) (w : World) (s : Shared) (ns : List Str) (s2 : Shared) : Prop := ∃ hp tk, s2 = { s with heap := hp, toks := tk } ∧ SetS P w hp s.heap.objs.size (diffsTo ns ns.length) ∧ ∀ b x, s.heap.get? b = some x → hp.get? b = some x
set_option maxHeartbeats 8000000 in
theorem sinit (hh : A.handled = none) (hl : s.heap.IsList l items) (size : items.size = ns.length) (value : ∀ (i : Nat) (v : Value), items[i]? = some v → ∃ k t, ns[i]? = some k ∧ v = .str k t) (few : ns.length + 1 < scanBound) :
    codeAny (model P w) A (.call (.builtin "set.__init__") ⟨[.ref s.heap.objs.size, .ref l], []⟩) (wants (fun r s2 => r = .none ∧ SMade P w s ns s2) E) { s with heap := s.heap.push (newSet w) } := by
  have atS : (s.heap.push (newSet w)).get? s.heap.objs.size = some (newSet w) := Heap.get?_push_size _ rfl
  have sz1 : (s.heap.push (newSet w)).objs.size = s.heap.objs.size + 1 := Heap.size_push ..
  have ty : Shared.TypeIs { s with heap := s.heap.push (newSet w) } (.ref s.heap.objs.size) "set" := ⟨_, atS, rfl⟩
  have ll : l < s.heap.objs.size := by obtain ⟨_, z, _⟩ := hl; exact Heap.lt_size z
  refine codeAny_call_builtin F.called_set.init.plain F.entry_set_init (check_set_init_1 ty ?_)
  obtain ⟨⟨lc, ld, lt, lx⟩, lo, e1, m, e2⟩ := hl
  cases (show lc = Value.type "list" from e1)
  cases (show lt = Data.seq items m from e2)
  have lo2 : (s.heap.push (newSet w)).get? l = some ⟨.type "list", ld, .seq items m, lx⟩ := Heap.get?_push_of_some _ lo
  have il : (s.heap.push (newSet w)).IsList l items := ⟨_, lo2, rfl, m, rfl⟩
  have k1 := F.sub_list_set
  have k2 := F.sub_list_frozenset
  have k3 : (Value.type "list" == Value.type "dict") = false := by decide
  unfold Builtin.«set.__init__» noKeywords Builtin.Frozenset.updateFrom
  generalize hit : pyIter = it
  wp_walk
  subst hit
  refine wpAny_pyIter_list il (wpAny_bind (wpAny_runValue ?_))
  have nI : l ≠ (s.heap.push (newSet w)).objs.size := by rw [sz1]; exact Nat.ne_of_lt (Nat.lt_succ_of_lt ll)
  have nS : s.heap.objs.size ∉ [(s.heap.push (newSet w)).objs.size, l] := by
    rw [sz1]
    intro z
    rcases List.mem_cons.mp z with z | z
    · exact Nat.ne_of_lt (Nat.lt_succ_self _) z
    · exact Nat.ne_of_gt ll (List.mem_singleton.mp z)
  have start : SetS P w ((s.heap.push (newSet w)).push { cls := .type "list_iterator", data := .fields #[.ref l, .int 0 0] }) s.heap.objs.size (diffsTo ns 0) :=
    ⟨_, #[], 0, _, Heap.get?_push_of_some _ atS, ⟨rfl, rfl, rfl⟩, rfl, (fun e he => by simp at he), (fun k => by simp [diffsTo]), (by decide), (by rfl), rfl⟩
  have nohand : A.in1.in1.handled = none := by simp [hh]
  have WL := (Walks.list (prog := P) (w := w) nohand _ l nI items).toS
  refine upd_strs (P := P) (w := w) WL s.heap.objs.size nS size few value (items.size - 0) 0 _ (by omega) (Nat.zero_le _) ?_ start ?_
  · exact ⟨⟨_, Heap.get?_push_size _ rfl, rfl, rfl⟩, il.push _⟩
  intro s2 mv hS
  obtain ⟨hp, g2, d2, tk, o2⟩ := s2
  cases (show g2 = s.gens from mv.gens)
  cases (show d2 = s.drawn from mv.drawn)
  cases (show o2 = s.os from mv.os)
  show wpAny _ _ _ _ _ _
  refine wpAny_pure ?_
  show wpAny _ _ (ret Value.none) _ _ _
  rw [size] at hS
  refine wpAny_pure ⟨rfl, hp, tk, rfl, hS, fun b x e => ?_⟩
  have lb := Heap.lt_size e
  refine mv.heap b x (fun z => ?_) (Heap.get?_push_of_some _ (Heap.get?_push_of_some _ e))
  rcases List.mem_cons.mp z with z | z
  · exact Nat.ne_of_lt lb z
  · have z2 := List.mem_singleton.mp z
    rw [sz1] at z2
    exact Nat.ne_of_lt (Nat.lt_succ_of_lt lb) z2
set_option maxHeartbeats 8000000 in
theorem call_setS {Q : Value → Shared → Prop} (hh : A.handled = none) (hl : s.heap.IsList l items) (size : items.size = ns.length) (value : ∀ (i : Nat) (v : Value), items[i]? = some v → ∃ k t, ns[i]? = some k ∧ v = .str k t) (few : ns.length + 1 < scanBound) (hq : ∀ s2, SMade P w s ns s2 → Q (.ref s.heap.objs.size) s2) : wpAny (model P w) A (call (.type "set") [.ref l]) Q E s := by
  obtain ⟨bs, rest, mro⟩ := F.called_set.mro
  have c1 := F.called_set.made
  have c2 := F.called_set.sub
  have c3 := F.called_set.notType
  have c4 := F.called_set.canCreate
  have c5 := F.typeCall_set_1 (.ref l)
  refine wpAny_call (codeAny_of_tree ?_)
  show wpAny _ _ (callAny (.type "set") _) _ _ _
  refine wpAny_pure (And.intro (Code.quiet_builtin _ (by decide +kernel)) (codeAny_builtin F.entry_type_call ?_))
  rw [Around.under_plain (weight_type_call_type "set" [.ref l] []) rfl]
  repeat (any_goals (first | assumption | wp_step))
  refine codeAny_mono (code_set_led1 (.ref l) (E := E) (Q₁ := fun ob s1 => ob = .ref s.heap.objs.size ∧ s1 = { s with heap := s.heap.push (newSet w) }) ⟨rfl, rfl⟩) fun r s1 hr => ?_
  rcases r with e | fl
  · exact hr
  cases fl <;> first | exact hr.elim | skip
  obtain ⟨rfl, rfl⟩ := hr
  have ty : Shared.TypeIs { s with heap := s.heap.push (newSet w) } (.ref s.heap.objs.size) "set" := ⟨_, Heap.get?_push_size _ rfl, rfl⟩
  have i1 := F.called_set.init.lookup
  have i2 := F.called_set.init.bind (.ref s.heap.objs.size)
  repeat (any_goals (first | assumption | wp_step))
  refine codeAny_mono (sinit (E := E) (by simpa using hh) hl size value few) fun r s2 hr => ?_
  rcases r with e | fl
  · exact hr
  cases fl <;> first | exact hr.elim | skip
  obtain ⟨rfl, hr⟩ := hr
  have hr2 := hr
  obtain ⟨hp, tk, rfl, _⟩ := hr2
  repeat (any_goals (first | assumption | wp_step))
  exact hq _ hr
end
section
variable {X : Cx} {c : Cn}
abbrev strSet (ks : List Str) : L2.Key → Bool := fun j => decide (∃ x ∈ ks, j = Sum.inr x)
theorem cr_setS (hc : X.calm = true) : CallR X (.type "set") (fun vs H Q => ∃ (l : Addr) (ns : List Str), vs = [V.ref l] ∧ SqL X.K H l (ns.map V.str) ∧ ns.length ≤ 1000 ∧
    ∀ (p : Addr), H p = none → Q (.ref p) (upd H p (SetK X.prog X.w p (strSet (diffsTo ns ns.length)) (diffsTo ns ns.length).length))) := by
  intro pins s σ H vs us Q I r h
  obtain ⟨l, ns, rfl, hq, few, q⟩ := h
  rw [Vals.ref1 r]
  obtain ⟨its, rv, lp, _⟩ := I.list hq
  have len := rv.length
  rw [List.length_map] at len
  refine call_setS (ns := ns) (I.ok.hd hc) lp.isList (by rw [List.size_toArray, len]) (fun i v hv => ?_) (by unfold scanBound; omega) fun s2 ⟨hp, tk, e, R, kp⟩ => ?_
  · rw [List.getElem?_toArray] at hv
    have il : i < ns.length := by rw [len]; exact (List.getElem?_eq_some_iff.mp hv).1
    have hx : (ns.map V.str)[i]? = some (.str ns[i]) := by rw [List.getElem?_map, List.getElem?_eq_getElem il]; rfl
    obtain ⟨u, hu, ru⟩ := rv.get hx
    rw [hv] at hu
    cases hu
    obtain ⟨t, rfl⟩ := ru
    exact ⟨ns[i], t, List.getElem?_eq_getElem il, rfl⟩
  subst e
  have free := I.hok.fresh (Nat.le_refl s.heap.objs.size)
  exact ⟨.ref _, upd H s.heap.objs.size (SetK X.prog X.w s.heap.objs.size (strSet (diffsTo ns ns.length)) (diffsTo ns ns.length).length), I.laid kp (Nat.le_refl _) (setK_new R), rfl, q _ free⟩
theorem cr_lenK : CallR X (.builtin "len") (fun vs H Q => ∃ (a : Addr) (S : L2.Key → Bool) (n : Nat), vs = [V.ref a] ∧ H a = some (SetK X.prog X.w a S n) ∧ Q (.int n) H) := by
  intro pins s σ H vs us Q I r h
  obtain ⟨a, S, n, rfl, ha, q⟩ := h
  rw [Vals.ref1 r]
  obtain ⟨o, es, ep, t, ho, hex, hd, _, _, hb, hf, hn⟩ := setK_get I ha
  have fit : (es.size : Int) < 2 ^ 63 := by have : scanBound < 2 ^ 63 := by decide
                                            omega
  exact call_len_set ho hex hd hf fit ⟨.int n, H, I.tok _, ⟨_, by rw [hn]⟩, q⟩
/-- len(set(xs)), xs a list of texts -/
def tdLenSet (te : TD) : TD := fun ss Q Ed => te ss (fun x => match x with
  | .lst ds => ∃ ns : List Str, ds = ns.map .str ∧ ns.length ≤ 1000 ∧ Q (.int ((diffsTo ns ns.length).length : Nat))
  | _ => False) Ed
theorem strs_are {K : PySem.W.Frag} {H : Hp} : ∀ {ys : List Str} {xs : List V}, IsA K H (ys.map D.str) xs → xs = ys.map V.str
  | [], _, h => by cases h; rfl
  | y :: ys, _, ⟨x, xs, e, h1, h2⟩ => by subst e; cases h1; rw [strs_are h2]; rfl
theorem d_lenSet {p p2 pos pos2 : Pos} {a : Expr} {te : TD} (hc : X.calm = true) (m1 : X.mg "len" = none) (m2 : X.mg "set" = none) (ha : DE X c a te) (g1 : Gl X "len" := by rfl) (g2 : Gl X "set" := by rfl)
    (h1 : starEach [a] X.env = (false, eval a X.env) :: starEach [] X.env := by rfl) (h2 : starEach [.Call (.Name "set" p2) [a] [] pos2] X.env = (false, eval (.Call (.Name "set" p2) [a] [] pos2) X.env) :: starEach [] X.env := by rfl)
    (h3 : (backTo pos (starEach [] X.env)).any (·.1) = false := by rfl) (h4 : (backTo pos2 (starEach [] X.env)).any (·.1) = false := by rfl) : DE X c (.Call (.Name "len" p) [.Call (.Name "set" p2) [a] [] pos2] [] pos) (tdLenSet te) := by
  refine pe_imp (pe_callB cr_lenK g1 m1 (by decide +kernel) (pa_cons (pe_callTy (cr_setS hc) g2 m2 (by decide +kernel) (pa_cons ha pa_nil h1) (by decide) (by decide) h1 h4) pa_nil h2) (by decide) (by decide) h2 h3) fun σ H Q q => ?_
  obtain ⟨O, Hs, ss, Qd, Ed, A, h, er, g⟩ := q
  refine ⟨O, Hs, ss, _, Ed, A, h, er, fun d v Hs1 H1 e1 i1 q1 => ?_⟩
  split at q1
  · obtain ⟨ns, rfl, few, q1⟩ := q1
    obtain ⟨l, xs, rfl, hl, ia⟩ := i1
    have ex := strs_are ia
    subst ex
    refine ⟨l, ns, rfl, .inl (.inl (e1.sub _ _ hl)), few, fun a na => ?_⟩
    exact ⟨a, _, _, rfl, upd_same, g (.int _) _ Hs1 _ (e1.trans (.grow e1.sub na)) rfl q1⟩
  · exact q1.elim
theorem diffsTo_all {ns : List Str} (h : ns.Nodup) : (diffsTo ns ns.length).length = ns.length := by
  have p : (diffsTo ns ns.length).Perm ns := (List.perm_ext_iff_of_nodup (diffsTo_nd ns _) h).mpr fun y => by rw [diffsTo_mem ns _ (Nat.le_refl _) y, List.take_length]
  exact p.length_eq
end
end DL
set_option Elab.async false
set_option linter.all false
set_option maxRecDepth 100000
set_option maxHeartbeats 4000000
set_option exponentiation.threshold 100000
namespace LR
open PySem PySem.Spec PyProof.Rows L2 DL
section
variable {P : Program} {w : World} {K : PySem.W.Frag} {mg : Str → Option Value} {base : Heap}
/-! ### names in order are one list -/
theorem rise_all : ∀ {l : List Str} {p : Str}, PyProof.Rows.risingS p l = true → ∀ x ∈ l, p.cps.toList ≤ x.cps.toList
  | y :: l, p, h, x, hx => by
    have h2 : (!ltCps y.cps.toList p.cps.toList && PyProof.Rows.risingS y l) = true := h
    obtain ⟨h3, h4⟩ := Bool.and_eq_true_iff.mp h2
    have h5 : p.cps.toList ≤ y.cps.toList := by
      rw [PyProof.Rows.ltCps_eq] at h3
      intro z
      rw [decide_eq_true z] at h3
      cases h3
    rcases List.mem_cons.mp hx with e | hx
    · rw [e]; exact h5
    · exact List.le_trans h5 (rise_all h4 x hx)
theorem rise_sorted {l : List Str} {p : Str} (h : PyProof.Rows.risingS p l = true) : sortedS l = true := by
  cases l with
  | nil => rfl
  | cons y l =>
    have h2 : (!ltCps y.cps.toList p.cps.toList && PyProof.Rows.risingS y l) = true := h
    exact (Bool.and_eq_true_iff.mp h2).2
theorem sorted_pw : ∀ {l : List Str}, sortedS l = true → l.Pairwise fun x y => x.cps.toList ≤ y.cps.toList
  | [], _ => .nil
  | x :: l, h => .cons (rise_all h) (sorted_pw (rise_sorted h))
theorem pw_sorted : ∀ {l : List Str}, (l.Pairwise fun x y => x.cps.toList ≤ y.cps.toList) → sortedS l = true
  | [], _ => rfl
  | x :: [], _ => rfl
  | x :: y :: l, h => by
    obtain ⟨h1, h2⟩ := List.pairwise_cons.mp h
    have ih := pw_sorted h2
    show (!ltCps y.cps.toList x.cps.toList && PyProof.Rows.risingS y l) = true
    rw [Bool.and_eq_true_iff]
    refine ⟨?_, ih⟩
    rw [PyProof.Rows.ltCps_eq, decide_eq_false (h1 y List.mem_cons_self)]
    rfl
theorem str_le_antisymm {x y : Str} (h1 : x.cps.toList ≤ y.cps.toList) (h2 : y.cps.toList ≤ x.cps.toList) : x = y := by
  have e := List.le_antisymm h1 h2
  cases x
  cases y
  congr 1
  exact Array.toList_inj.mp e
theorem sorted_one : ∀ {l m : List Str}, sortedS l = true → sortedS m = true → l.Perm m → l = m := fun {l m} a b h => h.eq_of_pairwise (le := fun x y => x.cps.toList ≤ y.cps.toList) (fun x y _ _ => str_le_antisymm) (sorted_pw a) (sorted_pw b)
theorem perm_keys {α β : Type} {f : α → β} : ∀ {rs rn : List α}, rs.Perm rn → rs.map f = rn.map f → (rn.map f).Nodup → rs = rn
  | [], rn, p, _, _ => (List.nil_perm.mp p).symm
  | x :: rs, [], p, _, _ => by have := p.length_eq; simp at this
  | x :: rs, y :: rn, p, e, nd => by
    rw [List.map_cons, List.map_cons] at e
    obtain ⟨e1, e2⟩ := List.cons.inj e
    have xy : x = y := by
      have hx : x ∈ y :: rn := p.mem_iff.mp List.mem_cons_self
      exact nodup_one nd x hx y List.mem_cons_self e1
    subst xy
    rw [perm_keys ((List.perm_cons x).mp p) e2 (List.nodup_cons.mp (by rwa [List.map_cons] at nd)).2]
theorem runners_one {rs rn : List Rnr} (p : rs.Perm rn) (h1 : sortedS (rs.map (·.1)) = true) (h2 : sortedS (rn.map (·.1)) = true) (nd : (rn.map (·.1)).Nodup) : rs = rn := perm_keys p (sorted_one h1 h2 (p.map _)) nd
/-! ### dicts of runners -/
theorem pKs_new {k : Key} : ∀ {ks : List Key}, k ∉ ks → putKs ks k = ks ++ [k]
  | [], _ => rfl
  | j :: ks, h => by
    have h1 : j ≠ k := fun e => h (by rw [e]; exact List.mem_cons_self)
    have h2 := pKs_new (ks := ks) (k := k) fun m => h (List.mem_cons_of_mem _ m)
    simp only [putKs, if_neg h1, h2, List.cons_append]
theorem pDs_new {k : Key} {x : DL.D} : ∀ {ks : List Key} {ds : List DL.D}, k ∉ ks → ks.length = ds.length → putDs ks ds k x = ds ++ [x]
  | [], [], _, _ => rfl
  | [], _ :: _, _, e => by cases e
  | _ :: _, [], _, e => by cases e
  | j :: ks, d :: ds, h, e => by
    have h1 : j ≠ k := fun z => h (by rw [z]; exact List.mem_cons_self)
    have h2 := pDs_new (x := x) (ks := ks) (ds := ds) (k := k) (fun m => h (List.mem_cons_of_mem _ m)) (Nat.succ.inj e)
    simp only [putDs, if_neg h1, h2, List.cons_append]
abbrev RunsD : List DL.D → List Rnr → Prop := A2 fun x r => RunD x r.2.1 r.2.2
theorem RunsD.snoc {x : DL.D} {r : Rnr} (h : RunD x r.2.1 r.2.2) : ∀ {xs : List DL.D} {rs : List Rnr}, RunsD xs rs → RunsD (xs ++ [x]) (rs ++ [r])
  | [], [], _ => ⟨h, trivial⟩
  | _ :: _, _ :: _, g => ⟨g.1, RunsD.snoc h g.2⟩
  | [], _ :: _, g => g.elim
  | _ :: _, [], g => g.elim
/-- one more runner is put into the dict -/
theorem put_step {f : Rnr → Rnr} {rn : List Rnr} {i : Nat} {r : Rnr} {xs : List DL.D} {v : DL.D} (hf : ∀ r, (f r).1 = r.1) (nd : (rn.map (·.1)).Nodup) (le : rn.length ≤ 12) (hr : rn[i]? = some r) (hA : RunsD xs ((rn.take i).map f)) (hv : RunD v (f r).2.1 (f r).2.2) :
    fewMu (.dic ((rn.take i).map keyR) xs) ∧ putKs ((rn.take i).map keyR) (keyR r) = (rn.take (i + 1)).map keyR ∧ RunsD (putDs ((rn.take i).map keyR) xs (keyR r) v) ((rn.take (i + 1)).map f) := by
  have lx := hA.len
  rw [List.length_map, List.length_take] at lx
  have fr : keyR r ∉ (rn.take i).map keyR := fun h => by
    obtain ⟨r2, h2, e⟩ := List.mem_map.mp h
    obtain ⟨j, hj⟩ := List.getElem?_of_mem h2
    have jl := (List.getElem?_eq_some_iff.mp hj).1
    rw [List.length_take] at jl
    rw [List.getElem?_take_of_lt (by omega)] at hj
    have e1 : (rn.map (·.1))[j]? = some r2.1 := by rw [List.getElem?_map, hj]; rfl
    have e2 : (rn.map (·.1))[i]? = some r.1 := by rw [List.getElem?_map, hr]; rfl
    rw [show r2.1 = r.1 from Sum.inr.inj e] at e1
    have := (List.getElem?_inj (i := j) (j := i) (by rw [List.length_map]; omega) nd).mp (e1.trans e2.symm)
    omega
  have nk : ((rn.take i).map keyR).Nodup := (keys_nd nd).sublist (List.Sublist.map _ (List.take_sublist _ _))
  have tk : rn.take (i + 1) = rn.take i ++ [r] := by rw [List.take_add_one, hr]; rfl
  refine ⟨⟨nk, by rw [List.length_map, List.length_take]; omega⟩, ?_, ?_⟩
  · rw [pKs_new fr, tk, List.map_append]
    rfl
  · rw [pDs_new fr (by rw [List.length_map, List.length_take]; exact lx.symm), tk, List.map_append]
    exact RunsD.snoc hv hA
theorem item_at {L0 : Rat} {rn : List Rnr} {i : Nat} {d : DL.D} (h : (itemsDD (rn.map keyR) (rn.map (rnD L0)))[i]? = some d) : ∃ r, rn[i]? = some r ∧ d = .tup [.str r.1, rnD L0 r] := by
  obtain ⟨k, x, h1, h2, rfl⟩ := itemsDD_get h
  rw [List.getElem?_map] at h1 h2
  obtain ⟨r, hr, rfl⟩ := Option.map_eq_some_iff.mp h1
  rw [hr] at h2
  cases h2
  exact ⟨r, hr, rfl⟩
theorem pcs_data (cs : List (Rat × Rat)) : A2 PcD (cs.map pieceD) cs := by
  induction cs with
  | nil => trivial
  | cons c cs ih => exact ⟨⟨rD c.1, rD c.2, rfl, KN_rD _, KN_rD _, ratD_rD _, ratD_rD _⟩, ih⟩
theorem rnD_run (L0 : Rat) (r : Rnr) : RunD (rnD L0 r) (rem r.2.1 L0) r.2.2 := ⟨rD (rem r.2.1 L0), _, rfl, KN_rD _, ratD_rD _, pcs_data _⟩
theorem names_map {f : Rnr → Rnr} {rn : List Rnr} (hf : ∀ r, (f r).1 = r.1) : (rn.map f).map (·.1) = rn.map (·.1) := by
  rw [List.map_map]
  exact List.map_congr_left fun r _ => hf r
theorem keys_map {f : Rnr → Rnr} {rn : List Rnr} (hf : ∀ r, (f r).1 = r.1) : (rn.map f).map keyR = rn.map keyR := by
  rw [List.map_map]
  exact List.map_congr_left fun r _ => congrArg Sum.inr (hf r)
theorem items_all {L0 : Rat} {rn : List Rnr} : rn.take (itemsDD (rn.map keyR) (rn.map (rnD L0))).length = rn := by
  rw [itemsDD_len (by rw [List.length_map, List.length_map]), List.length_map, List.take_length]
/-- the race that is made of these runners -/
theorem make_race {CR : Addr} {L0 : Rat} {f : Rnr → Rnr} {rn : List Rnr} {xs : List DL.D} {Q : QD} {Ed : QE} (hf : ∀ r, (f r).1 = r.1) (so : sortedS (rn.map (·.1)) = true) (ok : RaceOk L0 (rn.map f)) (hA : RunsD xs (rn.map f)) (q : Q (raceD CR L0 (rn.map f))) :
    sdInit [.d (rD L0), .d (.dct (rn.map keyR) xs)] (fun ns ds => Q (.obj CR ns ds)) Ed := by
  refine ⟨L0, rn.map f, KN_rD _, ratD_rD _, ok, (keys_map hf).symm, hA, fun rs pm so' => ?_⟩
  rw [runners_one pm so' (by rw [names_map hf]; exact so) ok.nd]
  exact q
/-! ### turned -/
def tnR (L0 d : Rat) (r : Rnr) : Rnr := (r.1, rem r.2.1 L0 + d, r.2.2)
def sdTurn (CR CN : Addr) : SpD := fun as Q Ed => match as with
  | [.d x, .d s] => ∃ (L0 : Rat) (rn : List Rnr), x = raceD CR L0 rn ∧ RaceOk L0 rn ∧ sortedS (rn.map (·.1)) = true ∧ KN s ∧ (ratD s = none → Ed (.e0 CN)) ∧ ∀ d, ratD s = some d → Sz 300 d ∧ RaceOk L0 (rn.map (tnR L0 d)) ∧ Q (raceD CR L0 (rn.map (tnR L0 d)))
  | _ => False
theorem sdTurn_len (CR CN : Addr) (as Q E) (h : sdTurn CR CN as Q E) : as.length = 2 := by
  unfold sdTurn at h
  split at h
  · rfl
  · exact h.elim

theorem ok_turn {f fd CR CN} (F : Fun K "turned" "Race.turned" s_Race_turned f fd) (cC_Race : Cls K CR) (na_Race_length : NoAttr K CR "_length") (M_Race_runners : DefMM P w K mg base CR NS "_runners" 5 (sdRnrs CR)) (I_Race : DefI P w K mg base "Race" CR 6 sdInit) (Gas_ratio : DefD P w K mg base "as_ratio" 3 (sdAsR CN)) (Gplus : DefD P w K mg base "plus" 4 (sd_plus CN)) : FnOk P w K mg base (L2.CX P w) 9 f fd ["self", "shift"] (spD K (sdTurn CR CN)) :=
  fnD F sc_Race_turned (sdTurn_len CR CN) fun cdv A outer s H E c hr b => ⟨_, (dss_cons (d_asg (d_cE Gas_ratio (hr.mono (by decide)) b (da_name (pv 1) da_nil)) (dg_name (pg_name (i := 2) sc_Race_turned.nd rfl (.inl rfl))))
      (dss_cons (d_setM (i := 3) sc_Race_turned.nd rfl (.inl rfl) do_dnewK)
      (dss_cons (d_for (passes_of rfl) rfl (di_items (d_ofM (dm_m0 M_Race_runners (hr.mono (by decide)) (d_var (pv 0))))) (dg_tup rfl (dgs_cons (dg_name (pg_name (i := 4) sc_Race_turned.nd rfl (.inl rfl))) (dgs_cons (dg_tup rfl (dgs_cons (dg_name (pg_name (i := 5) sc_Race_turned.nd rfl (.inl rfl))) (dgs_cons (dg_name (pg_name (i := 6) sc_Race_turned.nd rfl (.inl rfl))) dgs_nil))) dgs_nil)))
      (dss_one (d_dput (hu_of hr) (d_tup (da_cons (d_cN Gplus (hr.mono (by decide)) (da_name (pv 5) (da_name (pv 2) da_nil))) (da_name (pv 6) da_nil))) (pv 3) (d_var (pv 4)))))
      (dss_pubM 3 (dss_one (d_ret (d_mkN I_Race (hr.mono (by decide)) (da_cons (d_attr cC_Race na_Race_length (d_var (pv 0))) (da_name (pv 3) da_nil))))))))), fun as Qd Ed h => by
    unfold sdTurn at h
    split at h
    · obtain ⟨L0, rn, rfl, ok, so, ks, h1, h2⟩ := h
      refine ⟨ks, h1, fun d ed => ?_⟩
      obtain ⟨zd, ok2, q⟩ := h2 d ed
      intro p
      refine ⟨rfl, rfl, L0, rn, rfl, ok, rfl, fun i ss => ∃ (ks : List Key) (xs : List DL.D) (o4 o5 o6 : Sl), ss = [.d (raceD CR L0 rn), .d _, .d (rD d), .mu p (.dic ks xs), o4, o5, o6] ∧ ks = (rn.take i).map keyR ∧ RunsD xs ((rn.take i).map (tnR L0 d)), ⟨[], [], _, _, _, rfl, rfl, trivial⟩, ?_, ?_⟩
      · rintro i _ _ hd ⟨ks, xs, o4, o5, o6, rfl, rfl, hA⟩
        obtain ⟨r, hr, rfl⟩ := item_at hd
        have zr := (ok.ok r (List.mem_of_getElem? hr)).zr
        have pc := (ok.ok r (List.mem_of_getElem? hr)).pc
        refine ⟨KN_rD _, fun e => by (rw [ratD_rD] at e; cases e), fun p1 e => ?_⟩
        rw [ratD_rD] at e
        cases e
        refine ⟨KN_rD _, fun e => by (rw [ratD_rD] at e; cases e), fun p2 e => ?_⟩
        rw [ratD_rD] at e
        cases e
        refine ⟨zr.mono (by decide), zd.mono (by decide), ?_⟩
        obtain ⟨pf, pk, pa⟩ := put_step (f := tnR L0 d) (v := .tup [rD (rem r.2.1 L0 + d), .lst (r.2.2.map pieceD)]) (fun _ => rfl) ok.nd ok.le hr hA ⟨_, _, rfl, KN_rD _, ratD_rD _, pcs_data _⟩
        exact ⟨pf, _, _, _, _, _, rfl, pk, pa⟩
      · rintro _ ⟨ks, xs, o4, o5, o6, rfl, ek, hA⟩
        rw [items_all] at ek hA
        subst ek
        refine ⟨rfl, rfl, _, rfl, ?_⟩
        exact make_race (f := tnR L0 d) (Ed := fun _ => False) (fun _ => rfl) so ok2 hA q
    · exact h.elim⟩
/-! ### reversed_ring -/
def ngR (L0 : Rat) (r : Rnr) : Rnr := (r.1, 0 - rem r.2.1 L0, negP r.2.2)
def ngD : DL.D → DL.D
  | .tup [t, s] => .tup [t, rD (0 - (ratD s).getD 0)]
  | _ => .non
theorem ngD_eq (c : Rat × Rat) : ngD (pieceD c) = pieceD (c.1, 0 - c.2) := by
  show DL.D.tup [rD c.1, rD (0 - (ratD (rD c.2)).getD 0)] = _
  rw [ratD_rD]
  rfl
def sdRev (CR : Addr) : SpD := fun as Q _ => match as with
  | [.d x] => ∃ (L0 : Rat) (rn : List Rnr), x = raceD CR L0 rn ∧ RaceOk L0 rn ∧ sortedS (rn.map (·.1)) = true ∧ RaceOk L0 (rn.map (ngR L0)) ∧ Q (raceD CR L0 (rn.map (ngR L0)))
  | _ => False
theorem sdRev_len (CR : Addr) (as Q E) (h : sdRev CR as Q E) : as.length = 1 := by
  unfold sdRev at h
  split at h
  · rfl
  · exact h.elim

theorem ok_rev {f fd CR CN} (F : Fun K "reversed_ring" "Race.reversed_ring" s_Race_reversed_ring f fd) (cC_Race : Cls K CR) (na_Race_length : NoAttr K CR "_length") (M_Race_runners : DefMM P w K mg base CR NS "_runners" 5 (sdRnrs CR)) (I_Race : DefI P w K mg base "Race" CR 6 sdInit) (Gminus : DefD P w K mg base "minus" 4 (sd_minus CN)) : FnOk P w K mg base (L2.CX P w) 9 f fd ["self"] (spD K (sdRev CR)) :=
  fnD F sc_Race_reversed_ring (sdRev_len CR) fun cdv A outer s H E c hr b => ⟨_, (dss_cons (d_setM (i := 1) sc_Race_reversed_ring.nd rfl (.inl rfl) do_dnewK)
      (dss_cons (d_for (passes_of rfl) rfl (di_items (d_ofM (dm_m0 M_Race_runners (hr.mono (by decide)) (d_var (pv 0))))) (dg_tup rfl (dgs_cons (dg_name (pg_name (i := 2) sc_Race_reversed_ring.nd rfl (.inl rfl))) (dgs_cons (dg_tup rfl (dgs_cons (dg_name (pg_name (i := 3) sc_Race_reversed_ring.nd rfl (.inl rfl))) (dgs_cons (dg_name (pg_name (i := 4) sc_Race_reversed_ring.nd rfl (.inl rfl))) dgs_nil))) dgs_nil)))
      (dss_cons (d_setLc (i := 5) (own := [("time", 6), ("speed", 7)]) (p := .t [.n 6, .n 7]) rfl sc_Race_reversed_ring.nd rfl rfl (sw_true rfl rfl rfl (by decide +kernel)) (di_seq (d_var (pv 4))) (blkOk_by (N := N_Race_reversed_ring) (sc := defScope s_Race_reversed_ring) (by decide +kernel)) (fun _ _ _ _ _ => (dg_tup rfl (dgs_cons (dg_name (pg_name (i := 6) sc_Race_reversed_ring.nd rfl (.inl rfl))) (dgs_cons (dg_name (pg_name (i := 7) sc_Race_reversed_ring.nd rfl (.inl rfl))) dgs_nil)))) (fun _ _ _ _ _ => dts_nil) (fun _ _ _ _ _ => (d_tup (da_name (pv 6) (da_cons (d_cN Gminus (hr.mono (by decide)) (da_cons d_int (da_name (pv 7) da_nil))) da_nil)))))
      (dss_one (d_dput (hu_of hr) (d_tup (da_cons (d_cN Gminus (hr.mono (by decide)) (da_cons d_int (da_name (pv 3) da_nil))) (da_name (pv 5) da_nil))) (pv 1) (d_var (pv 2))))))
      (dss_pubM 1 (dss_one (d_ret (d_mkN I_Race (hr.mono (by decide)) (da_cons (d_attr cC_Race na_Race_length (d_var (pv 0))) (da_name (pv 1) da_nil)))))))), fun as Qd Ed h => by
    unfold sdRev at h
    split at h
    · obtain ⟨L0, rn, rfl, ok, so, ok2, q⟩ := h
      have z0 : Sz 1 ((0 : Int) : Rat) := Sz.int (by decide) (by decide)
      intro p
      refine ⟨rfl, rfl, L0, rn, rfl, ok, rfl, fun i ss => ∃ (ks : List Key) (xs : List DL.D) (o4 o5 o6 o7 o8 o9 : Sl), ss = [.d (raceD CR L0 rn), .mu p (.dic ks xs), o4, o5, o6, o7, o8, o9] ∧ ks = (rn.take i).map keyR ∧ RunsD xs ((rn.take i).map (ngR L0)), ⟨[], [], _, _, _, _, _, _, rfl, rfl, trivial⟩, ?_, ?_⟩
      · rintro i _ _ hd ⟨ks, xs, o4, o5, o6, o7, o8, o9, rfl, rfl, hA⟩
        obtain ⟨r, hr, rfl⟩ := item_at hd
        have zr := (ok.ok r (List.mem_of_getElem? hr)).zr
        have pc := (ok.ok r (List.mem_of_getElem? hr)).pc
        have pl := pc.le
        refine lc_by (fun d => [ngD d]) (by rw [List.length_map]; omega) (fun d hd acc J j => ?_) ?_
        · obtain ⟨c0, hc, rfl⟩ := List.mem_map.mp hd
          rw [ngD_eq] at j
          refine ⟨KN_int 0, fun e => (by cases e), fun p1 e => ?_⟩
          cases e
          refine ⟨KN_rD _, fun e => by (rw [ratD_rD] at e; cases e), fun p2 e => ?_⟩
          rw [ratD_rD] at e
          cases e
          exact ⟨z0.mono (by decide), (pc.sz c0 hc).2.mono (by decide), j⟩
        refine ⟨KN_int 0, fun e => (by cases e), fun p1 e => ?_⟩
        cases e
        refine ⟨KN_rD _, fun e => by (rw [ratD_rD] at e; cases e), fun p2 e => ?_⟩
        rw [ratD_rD] at e
        cases e
        refine ⟨z0.mono (by decide), zr.mono (by decide), ?_⟩
        have em : (r.2.2.map pieceD).flatMap (fun d => [ngD d]) = (negP r.2.2).map pieceD := by
          rw [flat_map, List.map_map]
          unfold negP
          rw [List.map_map]
          exact List.map_congr_left fun c _ => ngD_eq c
        rw [em]
        obtain ⟨pf, pk, pa⟩ := put_step (f := ngR L0) (v := .tup [rD (0 - rem r.2.1 L0), .lst ((negP r.2.2).map pieceD)]) (fun _ => rfl) ok.nd ok.le hr hA ⟨_, _, rfl, KN_rD _, ratD_rD _, pcs_data _⟩
        exact ⟨pf, _, _, _, _, _, _, _, _, rfl, pk, pa⟩
      · rintro _ ⟨ks, xs, o4, o5, o6, o7, o8, o9, rfl, ek, hA⟩
        rw [items_all] at ek hA
        subst ek
        refine ⟨rfl, rfl, _, rfl, ?_⟩
        exact make_race (f := ngR L0) (Ed := fun _ => False) (fun _ => rfl) so ok2 hA q
    · exact h.elim⟩
/-! ### slowed -/
def slR (L0 f : Rat) (r : Rnr) : Rnr := (r.1, rem r.2.1 L0, slowP f r.2.2)
def slD (f : Rat) : DL.D → DL.D
  | .tup [t, s] => .tup [rD ((ratD t).getD 0 * f), rD ((ratD s).getD 0 / f)]
  | _ => .non
theorem slD_eq (f : Rat) (c : Rat × Rat) : slD f (pieceD c) = pieceD (c.1 * f, c.2 / f) := by
  show DL.D.tup [rD ((ratD (rD c.1)).getD 0 * f), rD ((ratD (rD c.2)).getD 0 / f)] = _
  rw [ratD_rD, ratD_rD]
  rfl
def sdSlow (CR : Addr) : SpD := fun as Q _ => match as with
  | [.d x, .d s] => ∃ (L0 : Rat) (rn : List Rnr) (f : Rat), x = raceD CR L0 rn ∧ RaceOk L0 rn ∧ sortedS (rn.map (·.1)) = true ∧ KN s ∧ ratD s = some f ∧ 0 < f ∧ Sz 300 f ∧ RaceOk L0 (rn.map (slR L0 f)) ∧ Q (raceD CR L0 (rn.map (slR L0 f)))
  | _ => False
theorem sdSlow_len (CR : Addr) (as Q E) (h : sdSlow CR as Q E) : as.length = 2 := by
  unfold sdSlow at h
  split at h
  · rfl
  · exact h.elim

theorem ok_slow {f fd CR CN CZ} (F : Fun K "slowed" "Race.slowed" s_Race_slowed f fd) (cC_Race : Cls K CR) (na_Race_length : NoAttr K CR "_length") (M_Race_runners : DefMM P w K mg base CR NS "_runners" 5 (sdRnrs CR)) (I_Race : DefI P w K mg base "Race" CR 6 sdInit) (Gis_positive : DefD P w K mg base "is_positive" 4 sdPos) (Gtimes : DefD P w K mg base "times" 4 (sd_times CN)) (Gdivided : DefD P w K mg base "divided" 4 (sd_divided CN CZ)) : FnOk P w K mg base (L2.CX P w) 9 f fd ["self", "factor"] (spD K (sdSlow CR)) :=
  fnD F sc_Race_slowed (sdSlow_len CR) fun cdv A outer s H E c hr b => ⟨_, (dss_cons (d_ifS (dt_not (dt_val (d_cN Gis_positive (hr.mono (by decide)) (da_name (pv 1) da_nil))))
      (dss_one d_dead)
      dss_nil)
      (dss_cons (d_setM (i := 2) sc_Race_slowed.nd rfl (.inl rfl) do_dnewK)
      (dss_cons (d_for (passes_of rfl) rfl (di_items (d_ofM (dm_m0 M_Race_runners (hr.mono (by decide)) (d_var (pv 0))))) (dg_tup rfl (dgs_cons (dg_name (pg_name (i := 3) sc_Race_slowed.nd rfl (.inl rfl))) (dgs_cons (dg_tup rfl (dgs_cons (dg_name (pg_name (i := 4) sc_Race_slowed.nd rfl (.inl rfl))) (dgs_cons (dg_name (pg_name (i := 5) sc_Race_slowed.nd rfl (.inl rfl))) dgs_nil))) dgs_nil)))
      (dss_cons (d_setLc (i := 6) (own := [("time", 7), ("speed", 8)]) (p := .t [.n 7, .n 8]) rfl sc_Race_slowed.nd rfl rfl (sw_true rfl rfl rfl (by decide +kernel)) (di_seq (d_var (pv 5))) (blkOk_by (N := N_Race_slowed) (sc := defScope s_Race_slowed) (by decide +kernel)) (fun _ _ _ _ _ => (dg_tup rfl (dgs_cons (dg_name (pg_name (i := 7) sc_Race_slowed.nd rfl (.inl rfl))) (dgs_cons (dg_name (pg_name (i := 8) sc_Race_slowed.nd rfl (.inl rfl))) dgs_nil)))) (fun _ _ _ _ _ => dts_nil) (fun _ _ _ _ _ => (d_tup (da_cons (d_cN Gtimes (hr.mono (by decide)) (da_name (pv 7) (da_name (pv 1) da_nil))) (da_cons (d_cN Gdivided (hr.mono (by decide)) (da_name (pv 8) (da_name (pv 1) da_nil))) da_nil)))))
      (dss_one (d_dput (hu_of hr) (d_tup (da_name (pv 4) (da_name (pv 6) da_nil))) (pv 2) (d_var (pv 3))))))
      (dss_pubM 2 (dss_one (d_ret (d_mkN I_Race (hr.mono (by decide)) (da_cons (d_attr cC_Race na_Race_length (d_var (pv 0))) (da_name (pv 2) da_nil))))))))), fun as Qd Ed h => by
    unfold sdSlow at h
    split at h
    · rename_i s
      obtain ⟨L0, rn, f, rfl, ok, so, ks, es, f0, zf, ok2, q⟩ := h
      have c0 : posB s = true := by
        unfold posB
        rw [es]
        exact decide_eq_true f0
      have fn : f ≠ 0 := by grind
      refine ⟨ks, ?_⟩
      refine ifB (fun e => nomatch e.symm.trans (congrArg not c0)) (fun _ => ?_)
      intro p
      refine ⟨rfl, rfl, L0, rn, rfl, ok, rfl, fun i ss => ∃ (ks : List Key) (xs : List DL.D) (o4 o5 o6 o7 o8 o9 : Sl), ss = [.d (raceD CR L0 rn), .d s, .mu p (.dic ks xs), o4, o5, o6, o7, o8, o9] ∧ ks = (rn.take i).map keyR ∧ RunsD xs ((rn.take i).map (slR L0 f)), ⟨[], [], _, _, _, _, _, _, rfl, rfl, trivial⟩, ?_, ?_⟩
      · rintro i _ _ hd ⟨ks, xs, o4, o5, o6, o7, o8, o9, rfl, rfl, hA⟩
        obtain ⟨r, hr, rfl⟩ := item_at hd
        have zr := (ok.ok r (List.mem_of_getElem? hr)).zr
        have pc := (ok.ok r (List.mem_of_getElem? hr)).pc
        have pl := pc.le
        refine lc_by (fun d => [slD f d]) (by rw [List.length_map]; omega) (fun d hd acc J j => ?_) ?_
        · obtain ⟨c0, hc, rfl⟩ := List.mem_map.mp hd
          rw [slD_eq] at j
          refine ⟨KN_rD _, fun e => by (rw [ratD_rD] at e; cases e), fun p1 e => ?_⟩
          rw [ratD_rD] at e
          cases e
          refine ⟨ks, fun e => by (rw [es] at e; cases e), fun p2 e => ?_⟩
          rw [es] at e
          cases e
          refine ⟨(pc.sz c0 hc).1.mono (by decide), zf.mono (by decide), ?_⟩
          refine ⟨KN_rD _, fun e => by (rw [ratD_rD] at e; cases e), fun p1 e => ?_⟩
          rw [ratD_rD] at e
          cases e
          refine ⟨ks, fun e => by (rw [es] at e; cases e), fun p2 e => ?_⟩
          rw [es] at e
          cases e
          exact ⟨(pc.sz c0 hc).2.mono (by decide), zf.mono (by decide), fun z => absurd z fn, fun _ => j⟩
        have em : (r.2.2.map pieceD).flatMap (fun d => [slD f d]) = (slowP f r.2.2).map pieceD := by
          rw [flat_map, List.map_map]
          unfold slowP
          rw [List.map_map]
          exact List.map_congr_left fun c _ => slD_eq f c
        rw [em]
        obtain ⟨pf, pk, pa⟩ := put_step (f := slR L0 f) (v := .tup [rD (rem r.2.1 L0), .lst ((slowP f r.2.2).map pieceD)]) (fun _ => rfl) ok.nd ok.le hr hA ⟨_, _, rfl, KN_rD _, ratD_rD _, pcs_data _⟩
        exact ⟨pf, _, _, _, _, _, _, _, _, rfl, pk, pa⟩
      · rintro _ ⟨ks, xs, o4, o5, o6, o7, o8, o9, rfl, ek, hA⟩
        rw [items_all] at ek hA
        subst ek
        refine ⟨rfl, rfl, _, rfl, ?_⟩
        exact make_race (f := slR L0 f) (Ed := fun _ => False) (fun _ => rfl) so ok2 hA q
    · exact h.elim⟩
/-! ### changed -/
theorem allD_star {x : DL.D} {Q : List DL.D → Prop} : ∀ {ds : List DL.D}, Q (ds ++ [x]) → allD (dats ds ++ [.d x]) Q
  | [], h => h
  | d :: ds, h => allD_star (Q := fun xs => Q (d :: xs)) (ds := ds) h
theorem few_of {ds : List DL.D} {P : Prop} (l : ds.length ≤ 63) (h : P) : few ds P := by
  have s : ∀ (n : Nat) (ds : List DL.D), ds.length ≤ n → short n ds = true := by
    intro n
    induction n with
    | zero => intro ds l; cases ds with
      | nil => rfl
      | cons _ _ => exact absurd l (by simp)
    | succ n ih => intro ds l; cases ds with
      | nil => rfl
      | cons _ ds => exact ih ds (Nat.le_of_succ_le_succ l)
  unfold few
  rw [s 63 ds l]
  exact h
theorem lst_star {x : DL.D} {Qn : List DL.D → Prop} {ds : List DL.D} (l : ds.length ≤ 62) (h : Qn (ds ++ [x])) : allD (dats ds ++ [.d x]) (fun es => few es (Qn es)) :=
  allD_star (Q := fun es => few es (Qn es)) (few_of (by rw [List.length_append]; exact Nat.succ_le_succ l) h)
def ctR (L0 : Rat) (z : Str) (m s : Rat) (r : Rnr) : Rnr := (r.1, rem r.2.1 L0, if r.1 = z then cutP m s r.2.2 else r.2.2)
theorem cmp_neg {p q : Rat} : decide (cmpR p q < 0) = decide (p < q) := by
  unfold cmpR
  by_cases h : p < q
  · rw [if_pos h, decide_eq_true h]
    rfl
  · rw [if_neg h, decide_eq_false h]
    split <;> rfl
theorem keep_pcs {m : Rat} {g : DL.D → List DL.D} (hg : ∀ c : Rat × Rat, g (pieceD c) = if c.1 < m then [pieceD c] else []) : ∀ cs : List (Rat × Rat), (cs.map pieceD).flatMap g = (cs.filter fun c => decide (c.1 < m)).map pieceD
  | [] => rfl
  | c :: cs => by
    rw [List.map_cons, List.flatMap_cons, hg, keep_pcs hg cs, List.filter_cons]
    by_cases h : c.1 < m
    · rw [if_pos h, if_pos (decide_eq_true h)]
      rfl
    · rw [if_neg h, if_neg (by simpa using h)]
      rfl
theorem put_have {F : Rnr → DL.D} {v : DL.D} : ∀ {rn : List Rnr} {r : Rnr}, (rn.map keyR).Nodup → r ∈ rn → putKs (rn.map keyR) (keyR r) = rn.map keyR ∧ putDs (rn.map keyR) (rn.map F) (keyR r) v = rn.map (fun x => if x.1 = r.1 then v else F x)
  | x :: rn, r, nd, m => by
    obtain ⟨n1, n2⟩ := List.nodup_cons.mp (show (keyR x :: rn.map keyR).Nodup from nd)
    show (if keyR x = keyR r then keyR x :: rn.map keyR else keyR x :: putKs (rn.map keyR) (keyR r)) = _ ∧ (if keyR x = keyR r then v :: rn.map F else F x :: putDs (rn.map keyR) (rn.map F) (keyR r) v) = _
    rcases List.mem_cons.mp m with rfl | m
    · refine ⟨if_pos rfl, (if_pos rfl).trans ?_⟩
      have e0 : (if r.1 = r.1 then v else F r) = v := if_pos rfl
      rw [List.map_cons, e0]
      congr 1
      exact List.map_congr_left fun y hy => by
        rw [if_neg]
        intro e
        exact n1 (List.mem_map.mpr ⟨y, hy, congrArg Sum.inr e⟩)
    · have ne : keyR x ≠ keyR r := fun e => n1 (by rw [e]; exact List.mem_map_of_mem m)
      obtain ⟨h1, h2⟩ := put_have (F := F) (v := v) n2 m
      refine ⟨(if_neg ne).trans (by rw [h1]; rfl), (if_neg ne).trans ?_⟩
      have e0 : (if x.1 = r.1 then v else F x) = F x := if_neg fun e => ne (congrArg Sum.inr e)
      rw [h2, List.map_cons, e0]
theorem runs_map {F : Rnr → DL.D} {G : Rnr → Rnr} : ∀ {rn : List Rnr}, (∀ x ∈ rn, RunD (F x) (G x).2.1 (G x).2.2) → RunsD (rn.map F) (rn.map G)
  | [], _ => trivial
  | x :: rn, h => ⟨h x List.mem_cons_self, runs_map fun y hy => h y (List.mem_cons_of_mem _ hy)⟩
def sdChg (CR : Addr) : SpD := fun as Q _ => match as with
  | [.d x, .d (.str z), .d t, .d v] => ∃ (L0 : Rat) (rn : List Rnr) (r : Rnr) (m s : Rat), x = raceD CR L0 rn ∧ RaceOk L0 rn ∧ sortedS (rn.map (·.1)) = true ∧ r ∈ rn ∧ r.1 = z ∧ KN t ∧ ratD t = some m ∧ 0 ≤ m ∧ Sz 300 m ∧ KN v ∧ ratD v = some s ∧ RaceOk L0 (rn.map (ctR L0 z m s)) ∧ Q (raceD CR L0 (rn.map (ctR L0 z m s)))
  | _ => False
theorem sdChg_len (CR : Addr) (as Q E) (h : sdChg CR as Q E) : as.length = 4 := by
  unfold sdChg at h
  split at h
  · rfl
  · exact h.elim

theorem ok_chg {f fd CR CN CT} (F : Fun K "changed" "Race.changed" s_Race_changed f fd) (cC_Race : Cls K CR) (na_Race_length : NoAttr K CR "_length") (M_Race_runners : DefMM P w K mg base CR NS "_runners" 5 (sdRnrs CR)) (I_Race : DefI P w K mg base "Race" CR 6 sdInit) (M_Race_pieces : DefMF P w K mg base CR NS "pieces" 4 (sdPieces CR)) (M_Race_start : DefM P w K mg base CR NS "start" 4 (sdStart CR)) (Gas_time : DefD P w K mg base "as_time" 4 (sdTime CT)) (Gas_ratio : DefD P w K mg base "as_ratio" 3 (sdAsR CN)) (Gcompare : DefD P w K mg base "compare" 4 (sd_compare CN)) : FnOk P w K mg base (L2.CX P w) 9 f fd ["self", "name", "time", "speed"] (spD K (sdChg CR)) :=
  fnD F sc_Race_changed (sdChg_len CR) fun cdv A outer s H E c hr b => ⟨_, (dss_cons (d_asg (d_mN M_Race_pieces.toM (hr.mono (by decide)) (d_var (pv 0)) (da_name (pv 1) da_nil)) (dg_name (pg_name (i := 4) sc_Race_changed.nd rfl (.inl rfl))))
      (dss_cons (d_asg (d_cN Gas_time (hr.mono (by decide)) (da_name (pv 2) da_nil)) (dg_name (pg_name (i := 5) sc_Race_changed.nd rfl (.inr rfl))))
      (dss_cons (d_asg (d_tup (da_name (pv 5) (da_cons (d_cN Gas_ratio (hr.mono (by decide)) (da_name (pv 3) da_nil)) da_nil))) (dg_name (pg_name (i := 6) sc_Race_changed.nd rfl (.inl rfl))))
      (dss_cons (d_setLc (i := 7) (own := [("piece", 9)]) (p := .n 9) rfl sc_Race_changed.nd rfl rfl (sw_true rfl rfl rfl (by decide +kernel)) (di_seq (d_var (pv 4))) (blkOk_by (N := N_Race_changed) (sc := defScope s_Race_changed) (by decide +kernel)) (fun _ _ _ _ _ => (dg_name (pg_name (i := 9) sc_Race_changed.nd rfl (.inl rfl)))) (fun _ _ _ _ _ => (dts_one (dt_cmp od_lt (d_cN Gcompare (hr.mono (by decide)) (da_cons (d_ix ixd (d_var (pv 9)) d_int) (da_name (pv 5) da_nil))) d_int))) (fun _ _ _ _ _ => (d_var (pv 9))))
      (dss_cons (d_setM (i := 8) sc_Race_changed.nd rfl (.inl rfl) (dm_m0 M_Race_runners (hr.mono (by decide)) (d_var (pv 0))))
      (dss_cons (d_dput (hu_of hr) (d_tup (da_cons (d_mN M_Race_start (hr.mono (by decide)) (d_var (pv 0)) (da_name (pv 1) da_nil)) (da_cons (d_lst (da_star (d_var (pv 7)) (da_name (pv 6) da_nil))) da_nil))) (pv 8) (d_var (pv 1)))
      (dss_pubM 8 (dss_one (d_ret (d_mkN I_Race (hr.mono (by decide)) (da_cons (d_attr cC_Race na_Race_length (d_var (pv 0))) (da_name (pv 8) da_nil)))))))))))), fun as Qd Ed h => by
    unfold sdChg at h
    split at h
    · rename_i x z t v
      obtain ⟨L0, rn, r, m, s, rfl, ok, so, hr, rfl, kt, et, m0, zm, kv, ev, ok2, q⟩ := h
      have pc := (ok.ok r hr).pc
      have pl := pc.le
      refine ⟨rfl, rfl, L0, rn, r, rfl, ok, hr, rfl, ?_⟩
      refine ⟨kt, fun e => (by rw [et] at e; cases e), fun p1 e => ?_⟩
      rw [et] at e
      cases e
      refine ⟨fun e => absurd e (Rat.not_lt.mpr m0), fun _ => ?_⟩
      refine ⟨kv, fun e => (by rw [ev] at e; cases e), fun p1 e => ?_⟩
      rw [ev] at e
      cases e
      refine lc_by (fun d => if (ratD (begD d)).getD 0 < m then [d] else []) (by rw [List.length_map]; omega) (fun d hd acc J j => ?_) ?_
      · obtain ⟨c0, hc, rfl⟩ := List.mem_map.mp hd
        rw [show (ratD (begD (pieceD c0))).getD 0 = c0.1 from by show (ratD (rD c0.1)).getD 0 = c0.1; rw [ratD_rD]; rfl] at j
        refine ⟨KN_rD _, fun e => (by rw [ratD_rD] at e; cases e), fun p1 e => ?_⟩
        rw [ratD_rD] at e
        cases e
        refine ⟨KN_rD _, fun e => (by rw [ratD_rD] at e; cases e), fun p1 e => ?_⟩
        rw [ratD_rD] at e
        cases e
        refine ⟨(pc.sz c0 hc).1.mono (by decide), zm.mono (by decide), ?_⟩
        show if decide (cmpR c0.1 m < 0) = true then J (acc ++ [pieceD c0]) else J acc
        rw [cmp_neg]
        refine ifD (fun c => ?_) (fun c => ?_)
        · rw [if_pos c] at j
          exact j
        · rw [if_neg c, List.append_nil] at j
          exact j
      · rw [keep_pcs (m := m) (fun c => by rw [show (ratD (begD (pieceD c))).getD 0 = c.1 from by show (ratD (rD c.1)).getD 0 = c.1; rw [ratD_rD]; rfl])]
        refine ⟨rfl, rfl, L0, rn, rfl, ok, fun p => ?_⟩
        refine ⟨rfl, rfl, L0, rn, r, rfl, ok, hr, rfl, ?_⟩
        have fl := List.length_filter_le (fun c : Rat × Rat => decide (c.1 < m)) r.2.2
        refine lst_star (x := .tup [rD m, rD s]) (ds := (r.2.2.filter fun c => decide (c.1 < m)).map pieceD) ?_ ?_
        · rw [List.length_map]
          omega
        refine ⟨⟨keys_nd ok.nd, by rw [List.length_map]; exact Nat.le_trans ok.le (by decide)⟩, ?_⟩
        obtain ⟨e1, e2⟩ := put_have (F := rnD L0) (v := .tup [rD (rem r.2.1 L0), .lst ((r.2.2.filter fun c => decide (c.1 < m)).map pieceD ++ [.tup [rD m, rD s]])]) (keys_nd ok.nd) hr
        refine ⟨rfl, rfl, _, rfl, ?_⟩
        show sdInit [.d (rD L0), .d (.dct (putKs (rn.map keyR) (keyR r)) (putDs (rn.map keyR) (rn.map (rnD L0)) (keyR r) (.tup [rD (rem r.2.1 L0), .lst ((r.2.2.filter fun c => decide (c.1 < m)).map pieceD ++ [.tup [rD m, rD s]])])))] (fun ns ds => Qd (.obj CR ns ds)) (fun _ => False)
        rw [e1, e2]
        refine make_race (f := ctR L0 r.1 m s) (fun _ => rfl) so ok2 (runs_map fun x hx => ?_) q
        by_cases e : x.1 = r.1
        · have ex : x = r := name_one ok hx hr e
          subst ex
          have e3 : (ctR L0 x.1 m s x).2.2 = cutP m s x.2.2 := if_pos rfl
          rw [if_pos rfl, e3]
          have e4 : (x.2.2.filter fun c => decide (c.1 < m)).map pieceD ++ [.tup [rD m, rD s]] = (cutP m s x.2.2).map pieceD := by
            unfold cutP
            rw [List.map_append]
            rfl
          rw [e4]
          exact ⟨_, _, rfl, KN_rD _, ratD_rD _, pcs_data _⟩
        · have e3 : (ctR L0 r.1 m s x).2.2 = x.2.2 := if_neg e
          rw [if_neg e, e3]
          exact rnD_run L0 x
    · exact h.elim⟩
/-! ### without -/
theorem del_map {F : Rnr → DL.D} {z : Str} : ∀ {rn : List Rnr}, delKs (rn.map keyR) (Sum.inr z) = (rn.filter fun x => decide (x.1 ≠ z)).map keyR ∧ delDs (rn.map keyR) (rn.map F) (Sum.inr z) = (rn.filter fun x => decide (x.1 ≠ z)).map F
  | [] => ⟨rfl, rfl⟩
  | x :: rn => by
    obtain ⟨h1, h2⟩ := del_map (F := F) (z := z) (rn := rn)
    show (if keyR x = Sum.inr z then delKs (rn.map keyR) (Sum.inr z) else keyR x :: delKs (rn.map keyR) (Sum.inr z)) = _ ∧ (if keyR x = Sum.inr z then delDs (rn.map keyR) (rn.map F) (Sum.inr z) else F x :: delDs (rn.map keyR) (rn.map F) (Sum.inr z)) = _
    rw [List.filter_cons]
    by_cases e : x.1 = z
    · rw [if_neg (show ¬ decide (x.1 ≠ z) = true by simp [e])]
      exact ⟨(if_pos (congrArg Sum.inr e)).trans h1, (if_pos (congrArg Sum.inr e)).trans h2⟩
    · rw [if_pos (show decide (x.1 ≠ z) = true by simp [e])]
      exact ⟨(if_neg (fun k => e (Sum.inr.inj k))).trans (by rw [h1]; rfl), (if_neg (fun k => e (Sum.inr.inj k))).trans (by rw [h2]; rfl)⟩
def bsR (L0 : Rat) (r : Rnr) : Rnr := (r.1, rem r.2.1 L0, r.2.2)
def lessR (z : Str) (rn : List Rnr) : List Rnr := rn.filter fun x => decide (x.1 ≠ z)
def sdLessR (CR : Addr) : SpD := fun as Q _ => match as with
  | [.d x, .d (.str z)] => ∃ (L0 : Rat) (rn : List Rnr) (r : Rnr), x = raceD CR L0 rn ∧ RaceOk L0 rn ∧ sortedS (rn.map (·.1)) = true ∧ r ∈ rn ∧ r.1 = z ∧ RaceOk L0 ((lessR z rn).map (bsR L0)) ∧ Q (raceD CR L0 ((lessR z rn).map (bsR L0)))
  | _ => False
theorem sdLessR_len (CR : Addr) (as Q E) (h : sdLessR CR as Q E) : as.length = 2 := by
  unfold sdLessR at h
  split at h
  · rfl
  · exact h.elim

theorem less_sorted {z : Str} {rn : List Rnr} (so : sortedS (rn.map (·.1)) = true) : sortedS ((lessR z rn).map (·.1)) = true := pw_sorted ((sorted_pw so).sublist (List.Sublist.map _ List.filter_sublist))
theorem ok_lessR {f fd CR} (F : Fun K "without" "Race.without" s_Race_without f fd) (cC_Race : Cls K CR) (na_Race_length : NoAttr K CR "_length") (M_Race_runners : DefMM P w K mg base CR NS "_runners" 5 (sdRnrs CR)) (I_Race : DefI P w K mg base "Race" CR 6 sdInit) (M_Race_contains : DefM P w K mg base CR NS "__contains__" 1 (sdHas CR)) : FnOk P w K mg base (L2.CX P w) 9 f fd ["self", "name"] (spD K (sdLessR CR)) :=
  fnD F sc_Race_without (sdLessR_len CR) fun cdv A outer s H E c hr b => ⟨_, (dss_cons (d_ifS (dt_cmp (od_notinOwn M_Race_contains (hr.mono (by decide))) (d_var (pv 1)) (d_var (pv 0)))
      (dss_one d_dead)
      dss_nil)
      (dss_cons (d_setM (i := 2) sc_Race_without.nd rfl (.inl rfl) (dm_m0 M_Race_runners (hr.mono (by decide)) (d_var (pv 0))))
      (dss_cons (d_ddel (pv 2) (d_var (pv 1)))
      (dss_pubM 2 (dss_one (d_ret (d_mkN I_Race (hr.mono (by decide)) (da_cons (d_attr cC_Race na_Race_length (d_var (pv 0))) (da_name (pv 2) da_nil))))))))), fun as Qd Ed h => by
    unfold sdLessR at h
    split at h
    · obtain ⟨L0, rn, r, rfl, ok, so, hr, rfl, ok2, q⟩ := h
      refine ⟨rfl, rfl, L0, rn, rfl, rfl, ?_⟩
      rw [name_of hr]
      refine ⟨rfl, rfl, L0, rn, rfl, ok, fun p => ?_⟩
      refine ⟨Sum.inr r.1, rfl, by rw [show (Sum.inr r.1 : Key) = keyR r from rfl, look_map (keys_nd ok.nd) hr]; rfl, ?_⟩
      refine ⟨rfl, rfl, _, rfl, ?_⟩
      obtain ⟨e1, e2⟩ := del_map (F := rnD L0) (z := r.1) (rn := rn)
      show sdInit [.d (rD L0), .d (.dct (delKs (rn.map keyR) (Sum.inr r.1)) (delDs (rn.map keyR) (rn.map (rnD L0)) (Sum.inr r.1)))] (fun ns ds => Qd (.obj CR ns ds)) (fun _ => False)
      rw [e1, e2]
      exact make_race (f := bsR L0) (fun _ => rfl) (less_sorted so) ok2 (runs_map fun x hx => rnD_run L0 x) q
    · exact h.elim⟩
/-! ### renamed -/
def sdNew (CR : Addr) : SpD := fun as Q _ => match as with
  | [.d x, .d (.dct ks xs)] => ∃ (L0 : Rat) (rn : List Rnr) (ns : List Str), x = raceD CR L0 rn ∧ rn.length ≤ 12 ∧ ks.length = rn.length ∧ (∀ k ∈ ks, ∃ r ∈ rn, k = keyR r) ∧ xs = ns.map .str ∧ ns.length = rn.length ∧ (∀ n ∈ ns, NameOk n) ∧ ns.Nodup ∧ Q (.bl true)
  | _ => False
theorem sdNew_len (CR : Addr) (as Q E) (h : sdNew CR as Q E) : as.length = 2 := by
  unfold sdNew at h
  split at h
  · rfl
  · exact h.elim

theorem all_rep : ∀ {n : Nat}, (List.replicate n true).all id = true
  | 0 => rfl
  | n + 1 => all_rep (n := n)
theorem boolL_rep : ∀ {α : Type} (l : List α), boolL (l.flatMap fun _ => [DL.D.bl true]) = some (List.replicate l.length true)
  | _, [] => rfl
  | _, x :: l => by
    show (boolL (l.flatMap fun _ => [DL.D.bl true])).map (true :: ·) = _
    rw [boolL_rep l]
    rfl
theorem ok_new {f fd CR} (D : DefAt K mg "_are_new_names" s_are_new_names ["race", "value"] f fd) (m_isinstance : mg "isinstance" = none) (m_dict : mg "dict" = none) (m_len : mg "len" = none) (m_list : mg "list" = none) (m_all : mg "all" = none) (m_set : mg "set" = none) (M_Race_len : DefM P w K mg base CR NS "__len__" 1 (sdRLen CR)) (M_Race_contains : DefM P w K mg base CR NS "__contains__" 1 (sdHas CR)) (Gis_name : DefD P w K mg base "is_name" 1 sdNam) : DefD P w K mg base "_are_new_names" 4 (sdNew CR) :=
  .mk1 D (fnD D.F sc_are_new_names (sdNew_len CR) fun cdv A outer s H E c hr b => ⟨_, (dss_cons (d_ifS (PW.pt (dw_or (dt_not (dt_val (d_callB cd_isi m_isinstance (da_name (pv 1) (da_cons (d_ty .dct m_dict) da_nil))))) (dw_or1 (dt_cmp (od_ne hr.units) (d_callB cd_lenD m_len (da_name (pv 1) da_nil)) (d_callB (cd_lenOwn M_Race_len (hr.mono (by decide))) m_len (da_name (pv 0) da_nil))))))
      (dss_one (d_ret d_bl))
      dss_nil)
      (dss_cons (d_asg (d_ofO (do_listVals rfl m_list (d_var (pv 1)))) (dg_name (pg_name (i := 2) sc_are_new_names.nd rfl (.inl rfl))))
      (dss_cons (d_ifS (PW.pt (dw_or (dt_not (dt_val (d_callB (cd_all rfl) m_all (da_cons (d_ofO (do_lc (own := [("name", 3)]) (p := .n 3) rfl sc_are_new_names.nd (di_keys (d_var (pv 1))) (blkOk_by (N := N_are_new_names) (sc := defScope s_are_new_names) (by decide +kernel)) (fun _ _ _ _ _ => (dg_name (pg_name (i := 3) sc_are_new_names.nd rfl (.inl rfl)))) (fun _ _ _ _ _ => dts_nil) (fun _ _ _ _ _ => (d_cmp (od_inOwn M_Race_contains (hr.mono (by decide))) (d_var (pv 3)) (d_var (pv 0)))))) da_nil)))) (dw_or1 (dt_not (dt_val (d_callB (cd_all rfl) m_all (da_cons (d_ofO (do_lc (own := [("name", 3)]) (p := .n 3) rfl sc_are_new_names.nd (di_seq (d_var (pv 2))) (blkOk_by (N := N_are_new_names) (sc := defScope s_are_new_names) (by decide +kernel)) (fun _ _ _ _ _ => (dg_name (pg_name (i := 3) sc_are_new_names.nd rfl (.inl rfl)))) (fun _ _ _ _ _ => dts_nil) (fun _ _ _ _ _ => (d_cN Gis_name (hr.mono (by decide)) (da_name (pv 3) da_nil))))) da_nil)))))))
      (dss_one (d_ret d_bl))
      dss_nil)
      (dss_one (d_ret (d_cmp (od_eq hr.units) (d_lenSet rfl m_len m_set (d_var (pv 2))) (d_callB cd_len m_len (da_name (pv 2) da_nil)))))))), fun as Qd Ed h => by
    unfold sdNew at h
    split at h
    · rename_i ks xs
      obtain ⟨L0, rn, ns, rfl, l12, lk, hk, rfl, ln, nm, nd, q⟩ := h
      refine ⟨rfl, rfl, L0, rn, rfl, rn.length, rfl, by omega, ?_⟩
      refine ifN (fun c => absurd (by rw [lk]) c) (fun _ => ?_)
      refine lc_by (fun _ => [.bl true]) (by rw [List.length_map]; omega) (fun d hd acc J j => ?_) ?_
      · obtain ⟨k, hk1, rfl⟩ := List.mem_map.mp hd
        obtain ⟨r, hr, rfl⟩ := hk k hk1
        refine ⟨rfl, rfl, L0, rn, rfl, rfl, ?_⟩
        show J (acc ++ [.bl (nameIn (rn.map keyR) (.str r.1) != false)])
        rw [name_of hr]
        exact j
      refine ⟨_, boolL_rep _, ?_⟩
      refine ifB (fun e => nomatch e.symm.trans (congrArg not all_rep)) (fun _ => ?_)
      refine lc_by (fun _ => [.bl true]) (by rw [List.length_map]; omega) (fun d hd acc J j => ?_) ?_
      · obtain ⟨n, hn, rfl⟩ := List.mem_map.mp hd
        exact ⟨nm n hn, j⟩
      refine ⟨_, boolL_rep _, ?_⟩
      refine ifB (fun e => nomatch e.symm.trans (congrArg not all_rep)) (fun _ => ?_)
      refine ⟨ns, rfl, by omega, ?_⟩
      have e : decide (((diffsTo ns ns.length).length : Int) = ((ns.map DL.D.str).length : Int)) = true := decide_eq_true (by rw [diffsTo_all nd, List.length_map])
      show Qd (.bl (decide (((diffsTo ns ns.length).length : Int) = ((ns.map DL.D.str).length : Int))))
      rw [e]
      exact q
    · exact h.elim⟩)
def rnmR (L0 : Rat) (g : Str → Str) (r : Rnr) : Rnr := (g r.1, rem r.2.1 L0, r.2.2)
def sdRnm (CR : Addr) : SpD := fun as Q _ => match as with
  | [.d x, .d (.dct ks xs)] => ∃ (L0 : Rat) (rn : List Rnr) (ns : List Str) (g : Str → Str), x = raceD CR L0 rn ∧ RaceOk L0 rn ∧ ks.length = rn.length ∧ (∀ k ∈ ks, ∃ r ∈ rn, k = keyR r) ∧ xs = ns.map .str ∧ ns.length = rn.length ∧ (∀ n ∈ ns, NameOk n) ∧ ns.Nodup ∧ (∀ r ∈ rn, lookD ks xs (keyR r) = some (.str (g r.1))) ∧ RaceOk L0 (rn.map (rnmR L0 g)) ∧
      ∀ rs, rs.Perm (rn.map (rnmR L0 g)) → sortedS (rs.map (·.1)) = true → Q (raceD CR L0 rs)
  | _ => False
theorem sdRnm_len (CR : Addr) (as Q E) (h : sdRnm CR as Q E) : as.length = 2 := by
  unfold sdRnm at h
  split at h
  · rfl
  · exact h.elim

theorem ok_rnm {f fd CR} (F : Fun K "renamed" "Race.renamed" s_Race_renamed f fd) (cC_Race : Cls K CR) (na_Race_length : NoAttr K CR "_length") (M_Race_runners : DefMM P w K mg base CR NS "_runners" 5 (sdRnrs CR)) (I_Race : DefI P w K mg base "Race" CR 6 sdInit) (G_are_new_names : DefD P w K mg base "_are_new_names" 4 (sdNew CR)) : FnOk P w K mg base (L2.CX P w) 9 f fd ["self", "names"] (spD K (sdRnm CR)) :=
  fnD F sc_Race_renamed (sdRnm_len CR) fun cdv A outer s H E c hr b => ⟨_, (dss_cons (d_ifS (dt_not (dt_val (d_cN G_are_new_names (hr.mono (by decide)) (da_name (pv 0) (da_name (pv 1) da_nil)))))
      (dss_one d_dead)
      dss_nil)
      (dss_cons (d_setM (i := 2) sc_Race_renamed.nd rfl (.inr rfl) (dm_m0 M_Race_runners (hr.mono (by decide)) (d_var (pv 0))))
      (dss_pubM 2 (dss_one (d_ret (d_mkN I_Race (hr.mono (by decide)) (da_cons (d_attr cC_Race na_Race_length (d_var (pv 0))) (da_cons (d_ofM (do_dc (own := [("name", 3)]) (p := .n 3) rfl sc_Race_renamed.nd (di_keys (d_var (pv 2))) (blkOk_by (N := N_Race_renamed) (sc := defScope s_Race_renamed) (by decide +kernel)) (fun _ _ _ _ _ => (dg_name (pg_name (i := 3) sc_Race_renamed.nd rfl (.inl rfl)))) (fun _ _ _ _ _ => dts_nil) (fun _ _ _ _ _ => (d_dget (hu_of hr) (d_var (pv 1)) (d_var (pv 3)))) (fun _ _ _ _ _ => (d_dget (hu_of hr) (d_var (pv 2)) (d_var (pv 3)))))) da_nil)))))))), fun as Qd Ed h => by
    unfold sdRnm at h
    split at h
    · rename_i ks xs
      obtain ⟨L0, rn, ns, g, rfl, ok, lk, hk, rfl, ln, nm, nd, lg, ok2, q⟩ := h
      refine ⟨L0, rn, ns, rfl, ok.le, lk, hk, rfl, ln, nm, nd, ?_⟩
      refine ⟨rfl, rfl, L0, rn, rfl, ok, fun p => ?_⟩
      refine ⟨rfl, rfl, _, rfl, ?_⟩
      have l12 := ok.le
      refine dc_by (ks' := (rn.map (rnmR L0 g)).map keyR) (vs' := rn.map (rnD L0)) (by simp) (by simp) (keys_nd ok2.nd) (by simp; omega) (fun i d k v hd hk hv J B j => ?_) ?_
      · rw [List.map_map, List.getElem?_map] at hd hk
        rw [List.getElem?_map] at hv
        obtain ⟨r, hr, rfl⟩ := Option.map_eq_some_iff.mp hd
        rw [hr] at hk hv
        cases hk
        cases hv
        have hm := List.mem_of_getElem? hr
        have e1 : getDD (.dct ks (ns.map DL.D.str)) (.str r.1) = some (some (.str (g r.1))) := congrArg some (lg r hm)
        have e2 : getDD (.dct (rn.map keyR) (rn.map (rnD L0))) (.str r.1) = some (some (rnD L0 r)) := congrArg some (look_map (f := rnD L0) (keys_nd ok.nd) hm)
        show match getDD (.dct ks (ns.map DL.D.str)) (.str r.1) with
          | some (some d) => _
          | _ => False
        rw [e1]
        show match getDD (.dct (rn.map keyR) (rn.map (rnD L0))) (.str r.1) with
          | some (some d) => _
          | _ => False
        rw [e2]
        exact j (.str (g r.1)) rfl
      · exact ⟨rfl, L0, rn.map (rnmR L0 g), KN_rD _, ratD_rD _, ok2, rfl, runs_map fun x hx => rnD_run L0 x, q⟩
    · exact h.elim⟩
end
end LR
set_option Elab.async false
set_option linter.all false
set_option maxRecDepth 100000
set_option maxHeartbeats 4000000
set_option exponentiation.threshold 100000
/-! DP2: the pool of a law (a cell, a seed) over data -/
namespace LR
open PySem PySem.Spec PyProof.Rows L2 DL
def But (p : Addr) (H H' : Hp) : Prop := ∀ x u, x ≠ p → H x = some u → H' x = some u
section
variable {H H1 H2 : Hp} {p : Addr} {o : HO}
theorem but_new : But p H (upd H p o) := fun x y n e => by rw [upd_ne n]; exact e
theorem but_upd (b : But p H H1) : But p H (upd H1 p o) := fun x y n e => by rw [upd_ne n]; exact b x y n e
theorem but_trans (a : But p H H1) (b : But p H1 H2) : But p H H2 := fun x y n e => b x y n (a x y n e)
theorem but_same (b : But p H H1) (s : Same H1 H2) : But p H H2 := fun x y n e => s _ _ (b x y n e)
end
/-- a pool stands at p -/
def PoolA (H : Hp) (p : Addr) : Prop := ∃ c s : Int, H p = some (.lst [.int c, .int s]) ∧ 0 ≤ s ∧ s < 2147483647
section
variable {P : Program} {w : World} {K : PySem.W.Frag} {mg : Str → Option Value} {base : Heap}
theorem mod_in {x m : Int} (hm : 0 < m) : 0 ≤ x.fmod m ∧ x.fmod m < m := by
  rw [Int.fmod_eq_emod_of_nonneg _ (Int.le_of_lt hm)]
  exact ⟨Int.emod_nonneg _ (Int.ne_of_gt hm), Int.emod_lt_of_pos _ hm⟩
def spPool2 (K : PySem.W.Frag) : Sp := fun vs H Q _ => ∃ (a : Addr) (ns : List Int) (k : Nat), vs = [.ref a, .int k] ∧ SqL K H a (ns.map V.int) ∧ k ≤ 63 ∧ ∀ p H', Same H H' → H p = none → PoolA H' p → Q (.ref p) H'
theorem ok_Pool2 {f : Addr} {fd : FuncData} (D : DefAt K mg "_law_pool" s_law_pool ["script", "k"] f fd) (ml : mg "len" = none) : FnOk P w K mg base (L2.CX P w) 1 f fd ["script", "k"] (spPool2 K) := by
  refine D.F.okX sc_law_pool (fun vs H Q E h => ?_) (fun cdv A outer s H vs Q E hr h => ?_)
  · obtain ⟨a, ns, k, rfl, _⟩ := h
    rfl
  · obtain ⟨a, ns, k, rfl, hS, hk, q⟩ := h
    refine ⟨_, pss_cons (ps_set (i := 2) sc_law_pool.nd rfl (.inl rfl) pe_int)
      (pss_cons (ps_if (pt_cmpR op_lt (pv 1) (pe_callB call_len_seq (by rfl) ml PySem.boot_len (pa_cons (pv 0) pa_nil)) (nomark _)) (pss_one (ps_set (i := 2) sc_law_pool.nd rfl (.inl rfl) (pe_ix ix_list (pv 0) (pv 1) (fun _ _ => rfl)))) pss_nil)
      (pss_cons (ps_set (i := 3) sc_law_pool.nd rfl (.inl rfl) (pe_op op_modN (pe_op op_pow (pe_op op_add (pe_op op_add (pe_op op_modN (pv 2) pe_int) (pe_op op_mul (pe_op op_mul pe_int (pv 1)) (pv 1))) pe_int) pe_int) pe_int))
      (pss_cons (ps_if (pt_cmpR op_lt (pv 2) (pe_op op_pow pe_int pe_int) (nomark _)) (pss_one (ps_set (i := 2) sc_law_pool.nd rfl (.inl rfl) pe_int)) pss_nil)
      (pss_one (ps_ret (pe_lst (pa_cons (pv 2) (pa_cons (pv 3) pa_nil)))))))), ?_⟩
    have fin : ∀ c s : Int, 0 ≤ s → s < 2147483647 → [V.int c, V.int s].length ≤ sizeLine ∧ ∀ p, H p = none → Q (.ref p) (upd H p (.lst [.int c, .int s])) := fun c s h1 h2 =>
      ⟨by show 2 ≤ sizeLine; decide, fun p np => q p _ (same_new np) np ⟨c, s, upd_same, h1, h2⟩⟩
    have rest : ∀ c : Int, (tSeq (tAsg (tOp (rI (fun _ j => j ≠ 0) fun i j => V.int (i.fmod j)) (tOp (rI CPow fun i j => V.int (i ^ j.toNat)) (tOp (rI0 fun i j => V.int (i + j)) (tOp (rI0 fun i j => V.int (i + j)) (tOp (rI (fun _ j => j ≠ 0) fun i j => V.int (i.fmod j)) (tVar 2) (tC (.int 2147483629))) (tOp (rI CMul fun i j => V.int (i * j)) (tOp (rI CMul fun i j => V.int (i * j)) (tC (.int 7919)) (tVar 1)) (tVar 1))) (tC (.int 31))) (tC (.int 3))) (tC (.int 2147483647))) (gName 3))
        (tSeq (tIfS (tTest (tOp (rI0 fun i j => V.bl (decide (i < j))) (tVar 2) (tOp (rI CPow fun i j => V.int (i ^ j.toNat)) (tC (.int 10)) (tC (.int 18))))) (tAsg (tC (.int 0)) (gName 2)) tNext) (tRet (tLst (tCons (tVar 2) (tCons (tVar 3) tNil)))))) { nx := fun _ H' => Q .non H', rt := Q } [some (.ref a), some (.int k), some (.int c), none] H := by
      intro c
      have m1 := mod_in (x := c) (m := 2147483629) (by decide)
      have kk : (k : Int) * 7919 ≤ 63 * 7919 := by omega
      have k2 : 7919 * (k : Int) * k ≤ 63 * 7919 * 63 := by
        have e : 7919 * (k : Int) * k = ((7919 * k * k : Nat) : Int) := by simp
        have : 7919 * k * k ≤ 7919 * 63 * 63 := Nat.mul_le_mul (Nat.mul_le_mul_left _ hk) hk
        omega
      have k0 : 0 ≤ 7919 * (k : Int) * k := by
        have e : 7919 * (k : Int) * k = ((7919 * k * k : Nat) : Int) := by simp
        omega
      refine ⟨_, rfl, c, 2147483629, rfl, rfl, show (2147483629 : Int) ≠ 0 by decide, _, rfl, 7919, (k : Int), rfl, rfl, .inl ⟨by decide, by decide⟩, _, rfl, _, (k : Int), rfl, rfl, .inr ⟨by omega, by omega⟩, _, _, rfl, rfl, _, 31, rfl, rfl, _, 3, rfl, rfl, ⟨by decide, by decide, by omega⟩, _, 2147483647, rfl, rfl, show (2147483647 : Int) ≠ 0 by decide, ?_⟩
      have m2 := mod_in (x := (c.fmod 2147483629 + 7919 * (k : Int) * k + 31) ^ (3 : Int).toNat) (m := 2147483647) (by decide)
      refine ⟨_, rfl, 10, 18, rfl, rfl, ⟨by decide, by decide, by decide⟩, c, _, rfl, rfl, _, rfl, ite2 (fun _ => ?_) (fun _ => ?_)⟩
      · exact ⟨_, rfl, _, rfl, fin _ _ m2.1 m2.2⟩
      · exact ⟨_, rfl, _, rfl, fin _ _ m2.1 m2.2⟩
    by_cases lt : (k : Int) < ((ns.map V.int).length : Int)
    · refine ⟨_, rfl, .ref a, rfl, a, _, rfl, .inl hS, (k : Int), _, rfl, rfl, _, rfl, ?_⟩
      have hi : k < ns.length := by rw [List.length_map] at lt; omega
      have g : (ns.map V.int)[k]? = some (.int ns[k]) := by rw [List.getElem?_map, List.getElem?_eq_getElem hi]; rfl
      refine ite2 (fun _ => ⟨.ref a, rfl, _, rfl, a, _, (k : Int), _, rfl, rfl, hS, atI_nat g, ?_⟩) (fun c => absurd (decide_eq_true lt) c)
      exact rest _
    · refine ⟨_, rfl, .ref a, rfl, a, _, rfl, .inl hS, (k : Int), _, rfl, rfl, _, rfl, ite2 (fun c => absurd (of_decide_eq_true c) lt) (fun _ => ?_)⟩
      exact rest _


/-! ### draws -/
structure Drew (p : Addr) (H H' : Hp) : Prop where
  but : But p H H'
  pool : PoolA H' p
theorem drew_upd {p : Addr} {H : Hp} {c s : Int} (h1 : 0 ≤ s) (h2 : s < 2147483647) : Drew p H (upd H p (.lst [.int c, .int s])) :=
  ⟨fun b o hb e => by rw [upd_ne hb]; exact e, c, s, upd_same, h1, h2⟩
def spDraw2 : Sp := fun vs H Q _ => ∃ (p : Addr) (m : Int), vs = [.ref p, .int m] ∧ PoolA H p ∧ 0 < m ∧ m.natAbs < 2 ^ 200 ∧ ∀ d H', 0 ≤ d → d < m → Drew p H H' → Q (.int d) H'
theorem ok_Draw2 {f : Addr} {fd : FuncData} (D : DefAt K mg "_law_draw" s_law_draw ["pool", "many"] f fd) : FnOk P w K mg base (L2.CX P w) 1 f fd ["pool", "many"] spDraw2 := by
  refine D.F.okX sc_law_draw (fun vs H Q E h => ?_) (fun cdv A outer s H vs Q E hr h => ?_)
  · obtain ⟨p, m, rfl, _⟩ := h
    rfl
  · obtain ⟨p, m, rfl, ⟨c, sd, hp, s0, s1⟩, m0, mb, q⟩ := h
    refine ⟨_, pss_cons (ps_if (pt_cmpR op_gt (pe_ix ix_list (pv 0) pe_int (fun _ _ => rfl)) pe_int (nomark _))
        (pss_cons (ps_set (i := 2) sc_law_draw.nd rfl (.inl rfl) (pe_op op_modN (pe_ix ix_list (pv 0) pe_int (fun _ _ => rfl)) (pv 1)))
        (pss_cons (ps_asg (pe_op DL.op_fdivA (pe_ix ix_list (pv 0) pe_int (fun _ _ => rfl)) (pv 1)) (pg_sub (pv 0) pe_int set_list))
        (pss_one (ps_ret (pv 2))))) pss_nil)
      (pss_cons (ps_asg (pe_op op_modN (pe_op op_add (pe_op op_mul (pe_ix ix_list (pv 0) pe_int (fun _ _ => rfl)) pe_int) pe_int) pe_int) (pg_sub (pv 0) pe_int set_list))
      (pss_one (ps_ret (pe_op op_modN (pe_op op_fdivN (pe_op op_modN (pe_op op_mul (pe_ix ix_list (pv 0) pe_int (fun _ _ => rfl)) (pe_ix ix_list (pv 0) pe_int (fun _ _ => rfl))) pe_int) pe_int) (pv 1))))), ?_⟩
    refine ⟨.ref p, rfl, p, _, 0, _, rfl, rfl, .of hp, atI_nat (j := 0) rfl, c, 0, rfl, rfl, _, rfl, ite2 (fun _ => ?_) (fun _ => ?_)⟩
    · have md := mod_in (x := c) m0
      refine ⟨.ref p, rfl, p, _, 0, _, rfl, rfl, .of hp, atI_nat (j := 0) rfl, _, rfl, c, m, rfl, rfl, show m ≠ 0 by omega, ?_⟩
      refine ⟨.ref p, rfl, p, _, 0, _, rfl, rfl, .of hp, atI_nat (j := 0) rfl, _, rfl, c, m, rfl, rfl, dv (b := 200) (by omega) mb (by decide) (by decide), ?_⟩
      refine ⟨.ref p, rfl, p, _, 0, 0, rfl, rfl, hp, rfl, ?_⟩
      refine ⟨_, rfl, ?_⟩
      exact q _ _ md.1 md.2 (drew_upd s0 s1)
    · refine ⟨.ref p, rfl, p, _, 1, _, rfl, rfl, .of hp, atI_nat (j := 1) rfl, sd, 48271, rfl, rfl, .inl ⟨by omega, by omega⟩, _, 11, rfl, rfl, _, 2147483647, rfl, rfl, show (2147483647 : Int) ≠ 0 by decide, ?_⟩
      have m2 := mod_in (x := sd * 48271 + 11) (m := 2147483647) (by decide)
      refine ⟨.ref p, rfl, p, _, 1, 1, rfl, rfl, hp, rfl, ?_⟩
      have hz : (upd H p (.lst [.int c, .int ((sd * 48271 + 11).fmod 2147483647)])) p = some (.lst [.int c, .int ((sd * 48271 + 11).fmod 2147483647)]) := upd_same
      have md := mod_in (x := (((sd * 48271 + 11).fmod 2147483647 * (sd * 48271 + 11).fmod 2147483647).fmod 2147483629).fdiv 64) m0
      refine ⟨.ref p, rfl, p, _, 1, _, rfl, rfl, .of hz, atI_nat (j := 1) rfl, .ref p, rfl, p, _, 1, _, rfl, rfl, .of hz, atI_nat (j := 1) rfl, _, _, rfl, rfl, .inl ⟨by omega, by omega⟩, _, 2147483629, rfl, rfl, show (2147483629 : Int) ≠ 0 by decide,
        _, 64, rfl, rfl, ⟨by decide, by decide⟩, _, rfl, _, m, rfl, rfl, show m ≠ 0 by omega, ?_⟩
      exact q _ _ md.1 md.2 (drew_upd m2.1 m2.2)

theorem ok_draw {f : Addr} {fd : FuncData} (D : DefAt K mg "_law_draw" s_law_draw ["pool", "many"] f fd) : DefD P w K mg base "_law_draw" 1 sdDraw :=
  .mk1 D ((ok_Draw2 D).imp fun vs H Q E h => by
    obtain ⟨Z, Hs, as, Qd, Ed, sub, hz, ai, hf, cv, _⟩ := h
    unfold sdDraw at hf
    split at hf
    · rename_i m
      obtain ⟨⟨m0, m1⟩, q⟩ := hf
      obtain ⟨p, ws, rfl, zp, ⟨l, hk, xs, h1, h2⟩, v, ws', rfl, rfl, rfl⟩ := ai
      have hl : l = none := by cases l with
        | none => rfl
        | some l => cases hk
      subst hl
      obtain ⟨a, b, rfl, b0, b1⟩ := h2
      refine ⟨p, m, rfl, ⟨a, b, h1, b0, b1⟩, m0, m1, fun d H' d0 d1 dr => cv (.int d) _ Hs H' ?_ rfl (q d d0 d1)⟩
      have np := (hz p zp).1
      obtain ⟨bu, c2, s2, k1, k2, k3⟩ := dr
      refine ⟨.refl _, fun x u e => bu x u (ne_of_none e np) (sub _ _ e), fun x u nz e => bu x u (fun z => nz (by rw [z]; exact zp)) e, fun x e => ?_, fun x e _ => e, fun x e => ?_, fun x l' zx hx => ?_⟩
      · by_cases z : x = p
        · rw [z, k1]; exact fun y => nomatch y
        · cases k : H x with
          | none => exact absurd k e
          | some u => rw [bu x u z k]; exact fun y => nomatch y
      · by_cases z : x = p
        · rw [z, k1]; trivial
        · cases k : H x with
          | none => exact absurd k e.ne
          | some u => rw [bu x u z k]; rw [k] at e; exact e
      · obtain ⟨xs2, j1, j2⟩ := hx
        by_cases z : x = p
        · subst z
          rw [h1] at j1
          cases j1
          refine ⟨_, k1, ?_⟩
          cases l' with
          | none => exact ⟨c2, s2, rfl, k2, k3⟩
          | some l' => obtain ⟨_, _, _, _, e, _⟩ := j2; cases e
        · exact ⟨xs2, bu _ _ z j1, j2⟩
    · exact hf.elim)
structure PoolDef (P : Program) (w : World) (K : PySem.W.Frag) (mg : Str → Option Value) (base : Heap) : Prop where
  ex : ∃ f fd ps, FnOk P w K mg base (L2.CX P w) 1 f fd ps (spPool2 K) ∧ mg "_law_pool" = some (.ref f) ∧ PySem.W.keepIn K (.ref f) = true ∧ Binds K fd ps []
theorem ok_pool {f : Addr} {fd : FuncData} (D : DefAt K mg "_law_pool" s_law_pool ["script", "k"] f fd) (ml : mg "len" = none) : PoolDef P w K mg base := ⟨f, fd, _, ok_Pool2 D ml, D.g, D.F.kp, D.b⟩
def isScr (K : PySem.W.Frag) (H : Hp) (v : V) : Prop := ∃ (a : Addr) (ns : List Int), v = .ref a ∧ SqL K H a (ns.map V.int) ∧ ns.length ≤ 63
theorem isScr.same {H H' : Hp} {v : V} (h : isScr K H v) (s : Same H H') : isScr K H' v := by
  obtain ⟨a, ns, e, h1, h2⟩ := h
  refine ⟨a, ns, e, ?_, h2⟩
  rcases h1 with (h | ⟨o, h⟩) | h
  · exact .inl (.inl (s _ _ h))
  · exact .inl (.inr ⟨o, s _ _ h⟩)
  · exact .inr h
end
section
variable {X : Cx} {c : Cn}
open Classical in
theorem abs_pool {K : PySem.W.Frag} {O : Addr → Option Nat} {Hs H H' : Hp} {σ : L2.St} {ss : List Sl} (A : Abs K c O Hs H σ ss) {i : Nat} {p : Addr} (s : Same H H') (np : H p = none) (pa : PoolA H' p) :
    ∃ O', Abs K c O' Hs H' (σ.set i (some (.ref p))) (put ss i .pool) := by
  obtain ⟨a, b, hp, b0, b1⟩ := pa
  have keep : ∀ x, H x ≠ none → H' x = H x := fun x e => by
    cases k : H x with
    | none => exact absurd k e
    | some u => exact s _ _ k
  have x2 : Ext (Z0 O) Hs H Hs H' := ⟨.refl _, fun x u e => s _ _ (A.sub _ _ e), fun x u _ e => s _ _ e, fun x e => by rw [keep x e]; exact e, fun x e _ => e, fun x e => by rw [keep x e.ne]; exact e, fun x l _ ⟨xs, h1, h2⟩ => ⟨xs, s _ _ h1, h2⟩⟩
  have A2 := A.next x2
  have Op : O p = none := by
    cases q : O p with
    | none => rfl
    | some k => exact absurd np (A.live p (by rw [q]; exact fun z => nomatch z)).ne
  have ns : Hs p = none := none_sub A.sub np
  have hO : ∀ a, a ≠ p → (if a = p then some 0 else O a) = O a := fun a h => if_neg h
  refine ⟨fun b => if b = p then some 0 else O b, A2.ext, fun a h => ?_, fun a h => ?_, fun a h => ?_, fun a h => ?_, by rw [put_len, List.length_set]; exact A.len, fun j => ?_⟩
  · by_cases e : a = p
    · subst e; exact ns
    · rw [hO a e] at h; exact A2.fz a h
  · by_cases e : a = p
    · subst e; rw [hp]; trivial
    · rw [hO a e] at h; exact A2.live a h
  · by_cases e : a = p
    · subst e; exact .inr (A.fresh np)
    · rw [hO a e] at h; exact A2.own0 a h
  · show (if a = p then some 0 else O a) = some 0
    by_cases e : a = p
    · rw [if_pos e]
    · rw [hO a e]; exact A2.z a h
  · by_cases e : j = i
    · subst e
      by_cases l : j < ss.length
      · rw [nth_put l, List.getElem?_set_self (by rw [A.len]; exact l)]
        exact ⟨p, rfl, if_pos rfl, none, rfl, _, hp, a, b, rfl, b0, b1⟩
      · rw [put_out (Nat.le_of_not_lt l), nth_out (Nat.le_of_not_lt l)]
        trivial
    · rw [nth_put_ne e, List.getElem?_set_ne (fun z => e z.symm)]
      have q := A2.sl j
      revert q
      cases nth ss j with
      | un => exact fun _ => trivial
      | d x => exact fun q => q
      | own p' es =>
        rintro ⟨xs', h1, h2, h3, h4⟩
        exact ⟨xs', h1, (hO p' (by rintro rfl; rw [Op] at h2; cases h2)).trans h2, h3, h4⟩
      | pool =>
        rintro ⟨p', h1, h2, h3⟩
        exact ⟨p', h1, (hO p' (by rintro rfl; rw [Op] at h2; cases h2)).trans h2, h3⟩
      | mu p' m =>
        rintro ⟨u, h1, h2, h3, h4⟩
        exact ⟨u, h1, (hO p' (by rintro rfl; rw [Op] at h2; cases h2)).trans h2, h3, h4⟩
/-- pool = _law_pool(script, k) -/
def tdNewPool (K : PySem.W.Frag) (i : Nat) (te tk : TD) : TSD := fun En ss Ed => te ss (fun x => match x with
  | .is R => R = isScr K ∧ tk ss (fun y => match y with
    | .int k => 0 ≤ k ∧ k ≤ 63 ∧ En.nx (put ss i .pool)
    | _ => False) Ed
  | _ => False) Ed
theorem d_newPool {i : Nat} {x : Str} {e e2 : Expr} {p pos pos' pos2 : Pos} {te tk : TD} (G : PoolDef X.prog X.w X.K X.mg X.base) (hr : Room 1 X.A) (he : DE X c e te) (he2 : DE X c e2 tk) (hN : X.N.Nodup) (hi : X.N[i]? = some x) (hx : Loc X.env.scope x) (hg : Gl X "_law_pool" := by rfl)
    (hs1 : starEach [e, e2] X.env = (false, eval e X.env) :: starEach [e2] X.env := by rfl) (hs2 : starEach [e2] X.env = (false, eval e2 X.env) :: starEach [] X.env := by rfl) (hpl : (backTo pos (starEach [e2] X.env)).any (·.1) = false := by rfl) (hs : swapsWith (.Call (.Name "_law_pool" p) [e, e2] [] pos) (some (.Name x pos')) pos2.line X.env = pure false := by rfl)
    (hf : X.fn x = true ∨ X.env.scope.names.lookup x = some .local := by first | exact .inl rfl | exact .inr rfl | assumption) : DS X c (.Assign [.Name x pos'] (.Call (.Name "_law_pool" p) [e, e2] [] pos) pos2) (tdNewPool X.K i te tk) := by
  obtain ⟨f, fd, ps, F, hm, hk, hb⟩ := G.ex
  refine ps_imp (ps_set hN hi hx (pe_call F hr hg hm hk hb .nil pass0D (pa_cons he (pa_cons he2 pa_nil hs2) hs1) (by decide) hs1 hpl) hs hf) fun Dn σ H q => ?_
  obtain ⟨O, Hs, ss, En, Ed, A, h, er, gc⟩ := q
  refine ⟨O, Hs, ss, _, Ed, A, h, er, fun d v Hs1 H1 x1 i1 q1 => ?_⟩
  split at q1
  · rename_i R
    obtain ⟨rfl, q1⟩ := q1
    refine ⟨O, Hs1, ss, _, Ed, A.next x1, q1, er, fun d2 v2 Hs2 H2 x2 i2 q2 => ?_⟩
    split at q2
    · rename_i k
      obtain ⟨k0, k1, q2⟩ := q2
      cases i2
      obtain ⟨a, ns, rfl, hS, hl⟩ := i1 H2 (x2.fz.trans x2.sub)
      refine ⟨a, ns, k.toNat, by rw [show ((k.toNat : Nat) : Int) = k by omega]; rfl, hS, by omega, fun p H' s np pa => ?_⟩
      obtain ⟨O', A'⟩ := abs_pool (i := i) ((A.next x1).next x2) s np pa
      exact gc.nx _ O' _ _ _ (x1.trans x2).fz A' q2
    · exact q2.elim
  · exact q1.elim
end
/-! ### the law -/
def spLaw (K : PySem.W.Frag) : Sp := fun vs H Q _ => ∃ (a : Addr) (ns : List Int), vs = [.ref a] ∧ SqL K H a (ns.map V.int) ∧ ns.length ≤ 63 ∧ ∀ H', Q (.bl true) H'
def sdLaw (K : PySem.W.Frag) : SpD := fun as Q _ => match as with
  | [.d (.is R)] => R = isScr K ∧ Q (.bl true)
  | _ => False
theorem sdLaw_len {K : PySem.W.Frag} (as Q E) (h : sdLaw K as Q E) : as.length = 1 := by
  unfold sdLaw at h
  split at h
  · rfl
  · exact h.elim
theorem law_of {K : PySem.W.Frag} (vs H Q E) (h : spLaw K vs H Q E) : spD K (sdLaw K) vs H Q E := by
  obtain ⟨a, ns, rfl, h1, h2, q⟩ := h
  refine ⟨fun _ => False, H, [.d (.is (isScr K))], fun d => d = .bl true, fun _ => False, .refl _, fun _ z => z.elim, ⟨_, _, rfl, fun H' s => isScr.same ⟨a, ns, rfl, h1, h2⟩ s, rfl⟩, ⟨rfl, rfl⟩, fun d v Hs' H' _ i e => ?_, fun _ _ _ _ z => z.elim⟩
  subst e
  cases i
  exact q H'
end LR
set_option Elab.async false
set_option linter.all false
set_option maxRecDepth 100000
set_option maxHeartbeats 4000000
set_option exponentiation.threshold 100000
namespace LR
open PySem PySem.Spec PyProof.Rows L2 DL
section
variable {P : Program} {w : World} {K : PySem.W.Frag} {mg : Str → Option Value} {base : Heap}
theorem drw {m : Int} {b : Nat} (h : 0 < m) (h2 : m.natAbs < 2 ^ b) (h3 : b ≤ 200 := by decide) : 0 < m ∧ m.natAbs < 2 ^ 200 := ⟨h, Nat.lt_of_lt_of_le h2 (Nat.pow_le_pow_right (by decide) h3)⟩
/-! ### _law_choose -/
def sdChoose : SpD := fun as Q _ => match as with
  | [.pool, .d (.lst xs)] => 0 < xs.length ∧ xs.length ≤ 1000 ∧ ∀ x ∈ xs, Q x
  | _ => False
theorem sdChoose_len  (as Q E) (h : sdChoose  as Q E) : as.length = 2 := by
  unfold sdChoose at h
  split at h
  · rfl
  · exact h.elim

theorem ixN_nat {x : DL.D} {xs : List DL.D} {i : Nat} {Q : QD} (hx : xs[i]? = some x) (h : Q x) : rIxDD (.lst xs) (.int (i : Int)) Q := by
  unfold rIxDD
  show (match atI xs ((i : Nat) : Int) with
    | some d => Q d
    | none => False)
  rw [atI_nat hx]
  exact h
theorem ok_choose {f fd} (D : DefAt K mg "_law_choose" s_law_choose ["pool", "items"] f fd) (m_len : mg "len" = none) (G_law_draw : DefD P w K mg base "_law_draw" 1 sdDraw) : DefD P w K mg base "_law_choose" 2 sdChoose :=
  .mk1 D (fnD D.F sc_law_choose sdChoose_len fun cdv A outer s H E c hr b => ⟨_, (dss_one (d_ret (d_ix ixd (d_var (pv 1)) (d_cN G_law_draw (hr.mono (by decide)) (da_name (pv 0) (da_cons (d_callB cd_len m_len (da_name (pv 1) da_nil)) da_nil)))))), fun as Qd Ed h => by
    unfold sdChoose at h
    split at h
    · rename_i xs
      obtain ⟨l0, l1, q⟩ := h
      refine ⟨drw (b := 20) (by omega) (by omega), fun d d0 d1 => ?_⟩
      obtain ⟨d, rfl⟩ := Int.eq_ofNat_of_zero_le d0
      have hd : d < xs.length := by omega
      exact ixN_nat (List.getElem?_eq_getElem hd) (q _ (List.getElem_mem hd))
    · exact h.elim⟩)
/-! ### _law_number -/
def sdNum : SpD := fun as Q _ => match as with
  | [.pool, .d (.int lo), .d (.int hi)] => lo ≤ hi ∧ -100 ≤ lo ∧ hi ≤ 100 ∧ ∀ (x : DL.D) (q : Rat), KN x → ratD x = some q → Sz 12 q → (0 ≤ lo → 0 ≤ q) → Q x
  | _ => False
theorem sdNum_len  (as Q E) (h : sdNum  as Q E) : as.length = 3 := by
  unfold sdNum at h
  split at h
  · rfl
  · exact h.elim

theorem ok_num {f fd} (D : DefAt K mg "_law_number" s_law_number ["pool", "low", "high"] f fd) (G_law_draw : DefD P w K mg base "_law_draw" 1 sdDraw) (Gratio : DefD P w K mg base "ratio" 2 sdRatio) : DefD P w K mg base "_law_number" 3 sdNum :=
  .mk1 D (fnD D.F sc_law_number sdNum_len fun cdv A outer s H E c hr b => ⟨_, (dss_cons (d_asg (d_op od_addA (d_var (pv 1)) (d_cN G_law_draw (hr.mono (by decide)) (da_name (pv 0) (da_cons (d_op od_addA (d_op od_sub (d_var (pv 2)) (d_var (pv 1))) d_int) da_nil)))) (dg_name (pg_name (i := 3) sc_law_number.nd rfl (.inl rfl))))
      (dss_cons (d_ifS (dt_cmp od_gt (d_cN G_law_draw (hr.mono (by decide)) (da_name (pv 0) (da_cons d_int da_nil))) d_int)
      (dss_one (d_ret (d_var (pv 3))))
      dss_nil)
      (dss_one (d_ret (d_cN Gratio (hr.mono (by decide)) (da_cons (d_op od_addA (d_op od_mulA (d_var (pv 3)) d_int) (d_cN G_law_draw (hr.mono (by decide)) (da_name (pv 0) (da_cons d_int da_nil)))) (da_cons (d_op od_addA d_int (d_cN G_law_draw (hr.mono (by decide)) (da_name (pv 0) (da_cons d_int da_nil)))) da_nil))))))), fun as Qd Ed h => by
    unfold sdNum at h
    split at h
    · rename_i lo hi
      obtain ⟨h0, h1, h2, q⟩ := h
      refine ⟨drw (b := 20) (by omega) (by omega), fun d d0 d1 => ?_⟩
      refine ⟨drw (b := 20) (by decide) (by decide), fun e e0 e1 => ?_⟩
      have p12 : (2 : Nat) ^ 12 < 2 ^ 3900 := by decide +kernel
      refine ifD (fun _ => ?_) (fun _ => ?_)
      · exact q (.int (lo + d)) ((lo + d : Int) : Rat) (KN_int _) rfl (Sz.int (by decide) (by omega)) (fun l => by exact_mod_cast (show (0 : Int) ≤ lo + d by omega))
      · refine ⟨mu (a := 20) (b := 20) (by omega) (by decide), drw (b := 20) (by decide) (by decide), fun g g0 g1 => ?_⟩
        refine ⟨drw (b := 20) (by decide) (by decide), fun k k0 k1 => ?_⟩
        refine ⟨show 2 + k ≠ 0 by omega, Nat.lt_trans (show ((lo + d) * 2 + g).natAbs < 2 ^ 12 by omega) p12, Nat.lt_trans (show (2 + k).natAbs < 2 ^ 12 by omega) p12, ?_⟩
        refine q (rD _) _ (KN_rD _) (ratD_rD _) (sz_small (by omega) (by omega) (by omega)) (fun l => divInt_nn (by omega) (by omega))
    · exact h.elim⟩)
/-! ### _law_pieces -/
def sdLPcs : SpD := fun as Q _ => match as with
  | [.pool] => ∀ (ps : List DL.D) (cs : List (Rat × Rat)), A2 PcD ps cs → PcsB cs → cs.length ≤ 3 → Q (.lst ps)
  | _ => False
theorem sdLPcs_len  (as Q E) (h : sdLPcs  as Q E) : as.length = 1 := by
  unfold sdLPcs at h
  split at h
  · rfl
  · exact h.elim

theorem A2.snoc {α β : Type} {R : α → β → Prop} {x : α} {y : β} (r : R x y) : ∀ {xs : List α} {ys : List β}, A2 R xs ys → A2 R (xs ++ [x]) (ys ++ [y])
  | [], [], _ => ⟨r, trivial⟩
  | _ :: _, _ :: _, h => ⟨h.1, A2.snoc r h.2⟩
  | [], _ :: _, h => h.elim
  | _ :: _, [], h => h.elim
theorem PcsB.snoc {cs : List (Rat × Rat)} {t q : Rat} (h : PcsB cs) (l : cs.length + 1 ≤ 20) (lt : ∀ c ∈ cs, c.1 < t) (zt : Sz 12 t) (zq : Sz 12 q) : PcsB (cs ++ [(t, q)]) where
  ne := by
    have := h.ne
    rw [List.length_append]
    omega
  le := by rw [List.length_append]; exact l
  zero := by
    have z := h.zero
    have n := h.ne
    cases cs with
    | nil => exact absurd n (Nat.lt_irrefl 0)
    | cons c cs => exact z
  asc := by
    rw [List.map_append, List.pairwise_append]
    refine ⟨h.asc, List.pairwise_singleton _ _, fun x hx y hy => ?_⟩
    obtain ⟨c, hc, rfl⟩ := List.mem_map.mp hx
    rw [List.mem_singleton.mp hy]
    exact lt c hc
  sz := fun c hc => by
    rcases List.mem_append.mp hc with hc | hc
    · exact h.sz c hc
    · rw [List.mem_singleton.mp hc]
      exact ⟨zt, zq⟩
theorem ok_lpcs {f fd CN} (D : DefAt K mg "_law_pieces" s_law_pieces ["pool"] f fd) (m_range : mg "range" = none) (G_law_number : DefD P w K mg base "_law_number" 3 sdNum) (G_law_draw : DefD P w K mg base "_law_draw" 1 sdDraw) (Gratio : DefD P w K mg base "ratio" 2 sdRatio) (Gplus : DefD P w K mg base "plus" 4 (sd_plus CN)) : DefD P w K mg base "_law_pieces" 5 sdLPcs :=
  .mk1 D (fnD D.F sc_law_pieces sdLPcs_len fun cdv A outer s H E c hr b => ⟨_, (dss_cons (d_par2O1 (i := 1) (j := 2) rfl sc_law_pieces.nd rfl rfl (by decide) rfl rfl (do_lst (da_cons (d_tup (da_cons d_int (da_cons (d_cN G_law_number (hr.mono (by decide)) (da_name (pv 0) (da_cons (d_un ud_neg d_int) (da_cons d_int da_nil)))) da_nil))) da_nil)) d_int)
      (dss_cons (d_for (passes_of rfl) rfl (di_rng1 m_range (da_cons (d_cN G_law_draw (hr.mono (by decide)) (da_name (pv 0) (da_cons d_int da_nil))) da_nil)) (dg_name (pg_name (i := 3) sc_law_pieces.nd rfl (.inl rfl)))
      (dss_cons (d_asg (d_cN Gplus (hr.mono (by decide)) (da_name (pv 2) (da_cons (d_cN Gratio (hr.mono (by decide)) (da_cons (d_op od_addA d_int (d_cN G_law_draw (hr.mono (by decide)) (da_name (pv 0) (da_cons d_int da_nil)))) (da_cons (d_op od_addA d_int (d_cN G_law_draw (hr.mono (by decide)) (da_name (pv 0) (da_cons d_int da_nil)))) da_nil))) da_nil))) (dg_name (pg_name (i := 2) sc_law_pieces.nd rfl (.inl rfl))))
      (dss_one (d_append (pv 1) (d_tup (da_name (pv 2) (da_cons (d_cN G_law_number (hr.mono (by decide)) (da_name (pv 0) (da_cons (d_un ud_neg d_int) (da_cons d_int da_nil)))) da_nil)))))))
      (dss_pub 1 (dss_one (d_ret (d_var (pv 1))))))), fun as Qd Ed h => by
    unfold sdLPcs at h
    split at h
    · refine ⟨by decide, by decide, by decide, fun x0 q0 k0 e0 z0 _ => ?_⟩
      intro p
      refine ⟨drw (b := 20) (by decide) (by decide), fun n n0 n1 => ⟨⟨by omega, by omega⟩, ?_⟩⟩
      refine ⟨fun i ss => ∃ (ps : List DL.D) (cs : List (Rat × Rat)) (tx : DL.D) (t : Rat) (o3 : Sl), ss = [.pool, .own p ps, .d tx, o3] ∧ A2 PcD ps cs ∧ PcsB cs ∧ cs.length = i + 1 ∧ KN tx ∧ ratD tx = some t ∧ (∀ c ∈ cs, c.1 ≤ t) ∧ Sz (1 + 4 * i) t, ⟨_, [(((0 : Int) : Rat), q0)], .int 0, ((0 : Int) : Rat), _, rfl, ⟨⟨.int 0, x0, rfl, KN_int 0, k0, rfl, e0⟩, trivial⟩, ?_, rfl, KN_int 0, rfl, ?_, Sz.int (by decide) (by decide)⟩, ?_, ?_⟩
      · exact ⟨by show 0 < 1; decide, by show 1 ≤ 20; decide, rfl, List.pairwise_singleton _ _, fun c hc => by
          rw [List.mem_singleton.mp hc]
          exact ⟨Sz.int (by decide) (by decide), z0⟩⟩
      · intro c hc
        rw [List.mem_singleton.mp hc]
        exact Rat.le_refl
      · rintro i d _ hd ⟨ps, cs, tx, t, o3, rfl, hA, ok, lc, kt, et, hle, zt⟩
        have i2 := (rngD_get hd).1
        refine ⟨drw (b := 20) (by decide) (by decide), fun a a0 a1 => ?_⟩
        refine ⟨drw (b := 20) (by decide) (by decide), fun g g0 g1 => ?_⟩
        have p12 : (2 : Nat) ^ 12 < 2 ^ 3900 := by decide +kernel
        refine ⟨show 1 + g ≠ 0 by omega, Nat.lt_trans (show (1 + a).natAbs < 2 ^ 12 by omega) p12, Nat.lt_trans (show (1 + g).natAbs < 2 ^ 12 by omega) p12, ?_⟩
        have zr : Sz 3 (Rat.divInt (1 + a) (1 + g)) := sz_divInt (by omega) (by show (1 + a).natAbs < 8; omega) (by show (1 + g).natAbs < 8; omega)
        have pr : 0 < Rat.divInt (1 + a) (1 + g) := by
          have hn : (0 : Rat) < ((1 + a : Int) : Rat) := Rat.intCast_pos.mpr (by omega)
          have hd : (0 : Rat) < ((1 + g : Int) : Rat) := Rat.intCast_pos.mpr (by omega)
          rw [Rat.divInt_eq_div, Rat.div_def]
          exact Rat.mul_pos hn (Rat.inv_pos.mpr hd)
        generalize Rat.divInt (1 + a) (1 + g) = ra at zr pr
        refine ⟨kt, fun e => by (rw [et] at e; cases e), fun p' e => ?_⟩
        rw [et] at e
        cases e
        refine ⟨KN_rD ra, fun e => by (rw [ratD_rD] at e; cases e), fun r' e => ?_⟩
        rw [ratD_rD] at e
        cases e
        refine ⟨zt.mono (by omega), zr.mono (by decide), ?_⟩
        refine ⟨by decide, by decide, by decide, fun x q kx ex zx _ => ?_⟩
        have zt' : Sz (1 + 4 * (i + 1)) (t + ra) := (zt.add zr).mono (by omega)
        have lt : ∀ c ∈ cs, c.1 < t + ra := fun c hc => by
          have := hle c hc
          grind
        refine ⟨?_, ps ++ [.tup [rD (t + ra), x]], cs ++ [(t + ra, q)], rD (t + ra), t + ra, .d d, rfl, hA.snoc ⟨_, _, rfl, KN_rD _, kx, ratD_rD _, ex⟩, ok.snoc (by omega) lt (zt'.mono (by omega)) zx, by rw [List.length_append, lc]; rfl, KN_rD _, ratD_rD _, fun c hc => ?_, zt'⟩
        · rw [hA.len, lc]
          exact Nat.lt_of_lt_of_le (show i + 1 < 19 by omega) (by decide)
        · rcases List.mem_append.mp hc with hc | hc
          · exact Rat.le_of_lt (lt c hc)
          · rw [List.mem_singleton.mp hc]
            exact Rat.le_refl
      · rintro _ ⟨ps, cs, tx, t, o3, rfl, hA, ok, lc, _⟩
        rw [rngD_len] at lc
        exact h ps cs hA ok (by omega)
    · exact h.elim⟩)
end
end LR
set_option Elab.async false
set_option linter.all false
set_option maxRecDepth 100000
set_option maxHeartbeats 4000000
set_option exponentiation.threshold 100000
namespace LR
open PySem PySem.Spec PyProof.Rows L2 DL
section
variable {P : Program} {w : World} {K : PySem.W.Frag} {mg : Str → Option Value} {base : Heap}
/-! ### _law_race -/
abbrev ns4 : List Str := ["a", "b", "c", "d"]
theorem ns4_ok : ∀ n ∈ ns4, NameOk n := by
  intro n hn
  simp only [List.mem_cons, List.not_mem_nil, or_false] at hn
  rcases hn with rfl | rfl | rfl | rfl
  · exact ⟨by decide +kernel, by decide +kernel, by decide +kernel, by decide +kernel, by decide +kernel, 97, by decide +kernel, by decide +kernel⟩
  · exact ⟨by decide +kernel, by decide +kernel, by decide +kernel, by decide +kernel, by decide +kernel, 98, by decide +kernel, by decide +kernel⟩
  · exact ⟨by decide +kernel, by decide +kernel, by decide +kernel, by decide +kernel, by decide +kernel, 99, by decide +kernel, by decide +kernel⟩
  · exact ⟨by decide +kernel, by decide +kernel, by decide +kernel, by decide +kernel, by decide +kernel, 100, by decide +kernel, by decide +kernel⟩
theorem ns4_nd : ns4.Nodup := by decide +kernel
/-- a runner of small numbers -/
structure RunB (r : Rnr) : Prop where
  nm : NameOk r.1
  zq : Sz 12 r.2.1
  pc : PcsB r.2.2
  le : r.2.2.length ≤ 3
def sdLRace (CR : Addr) : SpD := fun as Q _ => match as with
  | [.pool, .d (.int m)] => 1 ≤ m ∧ m ≤ 4 ∧ ∀ (L0 : Rat) (rn : List Rnr), RaceOk L0 rn → Sz 12 L0 → (∀ r ∈ rn, RunB r) → (rn.map (·.1)).Perm (ns4.take m.toNat) → sortedS (rn.map (·.1)) = true → Q (raceD CR L0 rn)
  | _ => False
theorem sdLRace_len (CR : Addr) (as Q E) (h : sdLRace CR as Q E) : as.length = 2 := by
  unfold sdLRace at h
  split at h
  · rfl
  · exact h.elim

theorem cut_to (xs : List DL.D) (m : Nat) : DL.cutD xs none (some (m : Int)) = xs.take m := by
  unfold DL.cutD
  rw [HT.sIx_none, HT.sIx_nat]
  simp
theorem putKs_new {k : Key} : ∀ {ks : List Key}, k ∉ ks → putKs ks k = ks ++ [k]
  | [], _ => rfl
  | j :: ks, h => by
    have h1 : j ≠ k := fun e => h (by rw [e]; exact List.mem_cons_self)
    have h2 := putKs_new (ks := ks) (k := k) fun m => h (List.mem_cons_of_mem _ m)
    simp only [putKs, if_neg h1, h2, List.cons_append]
theorem putDs_new {k : Key} {x : DL.D} : ∀ {ks : List Key} {ds : List DL.D}, k ∉ ks → ks.length = ds.length → putDs ks ds k x = ds ++ [x]
  | [], [], _, _ => rfl
  | [], _ :: _, _, e => by cases e
  | _ :: _, [], _, e => by cases e
  | j :: ks, d :: ds, h, e => by
    have h1 : j ≠ k := fun z => h (by rw [z]; exact List.mem_cons_self)
    have h2 := putDs_new (x := x) (ks := ks) (ds := ds) (k := k) (fun m => h (List.mem_cons_of_mem _ m)) (Nat.succ.inj e)
    simp only [putDs, if_neg h1, h2, List.cons_append]
theorem lens : ∀ x ∈ ([.int 10, .int 7, .int 1, .tup [.int 5, .int 2], .int 12, .int 3] : List DL.D), ∃ L0 : Rat, KN x ∧ ratD x = some L0 ∧ 0 < L0 ∧ Sz 12 L0 := by
  have it : ∀ i : Int, 0 < i → i < 100 → ∃ L0 : Rat, KN (.int i) ∧ ratD (.int i) = some L0 ∧ 0 < L0 ∧ Sz 12 L0 := fun i h1 h2 => ⟨(i : Rat), KN_int i, rfl, by exact_mod_cast h1, Sz.int (by decide) (by omega)⟩
  intro x hx
  simp only [List.mem_cons, List.not_mem_nil, or_false] at hx
  rcases hx with rfl | rfl | rfl | rfl | rfl | rfl
  · exact it 10 (by decide) (by decide)
  · exact it 7 (by decide) (by decide)
  · exact it 1 (by decide) (by decide)
  · refine ⟨Rat.divInt 5 2, ⟨⟨_, rfl, by decide⟩, ⟨_, rfl, by decide⟩⟩, by decide +kernel, ?_, sz_small (by decide) (by decide) (by decide)⟩
    rw [Rat.divInt_eq_div]
    decide +kernel
  · exact it 12 (by decide) (by decide)
  · exact it 3 (by decide) (by decide)
theorem ok_lrace {f fd CR} (D : DefAt K mg "_law_race" s_law_race ["pool", "many"] f fd) (G_law_number : DefD P w K mg base "_law_number" 3 sdNum) (G_law_pieces : DefD P w K mg base "_law_pieces" 5 sdLPcs) (G_law_choose : DefD P w K mg base "_law_choose" 2 sdChoose) (I_Race : DefI P w K mg base "Race" CR 6 sdInit) : DefD P w K mg base "_law_race" 9 (sdLRace CR) :=
  .mk1 D (fnD D.F sc_law_race (sdLRace_len CR) fun cdv A outer s H E c hr b => ⟨_, (dss_cons (d_setM (i := 2) sc_law_race.nd rfl (.inl rfl) do_dnewK)
      (dss_cons (d_for (passes_of rfl) rfl (di_seq (d_slice (d_lst (da_cons d_str (da_cons d_str (da_cons d_str (da_cons d_str da_nil))))) dp_none (dp_some (d_var (pv 1))))) (dg_name (pg_name (i := 3) sc_law_race.nd rfl (.inl rfl)))
      (dss_one (d_dput (hu_of hr) (d_tup (da_cons (d_cN G_law_number (hr.mono (by decide)) (da_name (pv 0) (da_cons (d_un ud_neg d_int) (da_cons d_int da_nil)))) (da_cons (d_cN G_law_pieces (hr.mono (by decide)) (da_name (pv 0) da_nil)) da_nil))) (pv 2) (d_var (pv 3)))))
      (dss_pubM 2 (dss_one (d_ret (d_mkN I_Race (hr.mono (by decide)) (da_cons (d_cN G_law_choose (hr.mono (by decide)) (da_name (pv 0) (da_cons (d_lst (da_cons d_int (da_cons d_int (da_cons d_int (da_cons (d_tup (da_cons d_int (da_cons d_int da_nil))) (da_cons d_int (da_cons d_int da_nil))))))) da_nil))) (da_name (pv 2) da_nil)))))))), fun as Qd Ed h => by
    unfold sdLRace at h
    split at h
    · rename_i m
      obtain ⟨m1, m4, q⟩ := h
      obtain ⟨m, rfl⟩ := Int.eq_ofNat_of_zero_le (show 0 ≤ m by omega)
      intro p
      have ct : DL.cutD ([.str "a", .str "b", .str "c", .str "d"] : List DL.D) none (some (m : Int)) = (ns4.take m).map .str := by
        rw [cut_to, List.map_take]
        rfl
      have lm : (ns4.take m).length = m := by rw [List.length_take]; show min m 4 = m; omega
      refine ⟨fun i ss => ∃ (rn : List Rnr) (xs : List DL.D) (o3 : Sl), ss = [.pool, .d (.int (m : Int)), .mu p (.dic (rn.map keyR) xs), o3] ∧ rn.map (·.1) = (ns4.take m).take i ∧ A2 (fun x r => RunD x r.2.1 r.2.2) xs rn ∧ ∀ r ∈ rn, RunB r, ⟨[], [], _, rfl, rfl, trivial, (fun _ h => nomatch h)⟩, ?_, ?_⟩
      · rintro i d _ hd ⟨rn, xs, o3, rfl, hn, hA, hB⟩
        rw [ct, List.getElem?_map] at hd
        obtain ⟨z, hz, rfl⟩ := Option.map_eq_some_iff.mp hd
        have im := (List.getElem?_eq_some_iff.mp hz).1
        have nd : (ns4.take m).Nodup := List.Nodup.sublist (List.take_sublist _ _) ns4_nd
        have ln : rn.length = i := by
          have := congrArg List.length hn
          rw [List.length_map, List.length_take] at this
          omega
        have ndr : (rn.map (·.1)).Nodup := by rw [hn]; exact List.Nodup.sublist (List.take_sublist _ _) nd
        have fr : (Sum.inr z : Key) ∉ rn.map keyR := fun h => by
          obtain ⟨r, hr, e⟩ := List.mem_map.mp h
          have hm : z ∈ (ns4.take m).take i := by rw [← hn, ← Sum.inr.inj e]; exact List.mem_map_of_mem hr
          obtain ⟨j, hj⟩ := List.getElem?_of_mem hm
          have jl := (List.getElem?_eq_some_iff.mp hj).1
          rw [List.length_take] at jl
          rw [List.getElem?_take_of_lt (by omega)] at hj
          have := (List.getElem?_inj (i := j) (j := i) (by omega) nd).mp (hj.trans hz.symm)
          omega
        refine ⟨by decide, by decide, by decide, fun x qs kx ex zx _ => fun ps cs hP ok le => ?_⟩
        refine ⟨⟨keys_nd ndr, by rw [List.length_map]; omega⟩, ?_⟩
        have e2 : Sl.mu p (Mu.dic ((rn ++ [(z, qs, cs)]).map keyR) (xs ++ [.tup [x, .lst ps]])) = Sl.mu p (Mu.dic (putKs (rn.map keyR) (Sum.inr z)) (putDs (rn.map keyR) xs (Sum.inr z) (.tup [x, .lst ps]))) := by
          rw [List.map_append, putKs_new fr, putDs_new fr (by rw [List.length_map, hA.len])]
          rfl
        refine ⟨rn ++ [(z, qs, cs)], xs ++ [.tup [x, .lst ps]], .d (.str z), by rw [e2]; rfl, ?_, hA.snoc ⟨x, ps, rfl, kx, ex, hP⟩, fun r hr => ?_⟩
        · rw [List.map_append, hn, List.take_add_one, hz]
          rfl
        · rcases List.mem_append.mp hr with hr | hr
          · exact hB r hr
          · rw [List.mem_singleton.mp hr]
            exact ⟨ns4_ok z (List.mem_of_mem_take (List.mem_of_getElem? hz)), zx, ok, le⟩
      · rintro _ ⟨rn, xs, o3, rfl, hn, hA, hB⟩
        rw [ct, List.length_map, lm] at hn
        have hn' : rn.map (·.1) = ns4.take m := by rw [hn, List.take_of_length_le (by omega)]
        have lr : rn.length = m := by
          have := congrArg List.length hn'
          rw [List.length_map] at this
          omega
        refine ⟨rfl, ?_⟩
        refine ⟨by decide, by decide, fun x hx => ?_⟩
        obtain ⟨L0, kx, ex, L0p, zL⟩ := lens x hx
        have rok : RaceOk L0 rn := ⟨L0p, zL.mono (by decide), by rw [hn']; exact List.Nodup.sublist (List.take_sublist _ _) ns4_nd, by omega, by omega, fun r hr => by
          have rb := hB r hr
          have zr : Sz 300 (rem r.2.1 L0) := (rb.zq.rem zL L0p).mono (by decide)
          exact ⟨rb.nm, rb.zq.mono (by decide), zr, rb.pc.ok zr⟩⟩
        refine ⟨L0, rn, kx, ex, rok, rfl, hA, fun rs prs so => ?_⟩
        refine q L0 rs (rok.perm prs) zL (fun r hr => hB r (prs.mem_iff.mp hr)) ?_ so
        have := prs.map (·.1)
        rw [hn'] at this
        exact this
    · exact h.elim⟩)
end
end LR
set_option Elab.async false
set_option linter.all false
set_option maxRecDepth 100000
set_option maxHeartbeats 4000000
set_option exponentiation.threshold 100000
namespace LR
open PySem PySem.Spec PyProof.Rows L2 DL
section
variable {P : Program} {w : World} {K : PySem.W.Frag} {mg : Str → Option Value} {base : Heap}
/-! ### small races -/
structure RaceB (L0 : Rat) (rn : List Rnr) : Prop where
  ok : RaceOk L0 rn
  zL : Sz 12 L0
  rb : ∀ r ∈ rn, RunB r
  so : sortedS (rn.map (·.1)) = true
  le4 : rn.length ≤ 4
/-- times to look at -/
structure TimeD (d : DL.D) (q : Rat) : Prop where
  kn : KN d
  e : ratD d = some q
  q0 : 0 ≤ q
  z : Sz 40 q
theorem rowT_H (t : Rat) : ∀ rs : List Row, rowT t rs = rowH t rs
  | [] => rfl
  | _ :: _ => rfl
theorem pos_at {s0 t : Rat} {cs : List (Rat × Rat)} (pc : PcsOk s0 cs) (ht : 0 ≤ t) : (rowT t (trk s0 cs)).at_ t = s0 + dist cs t := by
  rw [rowT_H]
  exact at_dist pc.zero ht
theorem at_sz {s0 t : Rat} {cs : List (Rat × Rat)} (pc : PcsOk s0 cs) (zt : Sz 300 t) : Sz 1801 ((rowT t (trk s0 cs)).at_ t) := by
  obtain ⟨r0, rs, e, _⟩ := trk_cons pc
  have rz := pc.rz
  rw [e] at rz ⊢
  have rm : RowZ (rowGo t r0 (r0 :: rs)) := by
    rcases rowGo_mem t r0 (r0 :: rs) with e | m
    · rw [e]
      exact rz r0 List.mem_cons_self
    · exact rz _ m
  show Sz 1801 ((rowGo t r0 (r0 :: rs)).at_ t)
  rw [Row.at_eq]
  exact ((rm.s.mul zt).add rm.c).mono (by decide)
theorem RaceB.map {L0 : Rat} {rn : List Rnr} {f : Rnr → Rnr} (h : RaceB L0 rn) (hf : ∀ r, (f r).1 = r.1) (hq : ∀ r ∈ rn, Sz 200 (f r).2.1) (hp : ∀ r ∈ rn, PcsM (f r).2.2) : RaceOk L0 (rn.map f) where
  L0p := h.ok.L0p
  zL := h.ok.zL
  nd := by rw [names_map hf]; exact h.ok.nd
  ne := by rw [List.length_map]; exact h.ok.ne
  le := by rw [List.length_map]; exact h.ok.le
  ok := fun r' hr' => by
    obtain ⟨r, hr, rfl⟩ := List.mem_map.mp hr'
    have zr : Sz 300 (rem (f r).2.1 L0) := ((hq r hr).rem h.zL h.ok.L0p).mono (by decide)
    exact ⟨by rw [hf]; exact (h.rb r hr).nm, (hq r hr).mono (by decide), zr, (hp r hr).ok zr⟩
theorem RaceB.zr {L0 : Rat} {rn : List Rnr} {r : Rnr} (h : RaceB L0 rn) (hr : r ∈ rn) : Sz 24 (rem r.2.1 L0) := ((h.rb r hr).zq.rem h.zL h.ok.L0p)
theorem RaceB.pc {L0 : Rat} {rn : List Rnr} {r : Rnr} (h : RaceB L0 rn) (hr : r ∈ rn) : PcsM r.2.2 := (h.rb r hr).pc.m (Nat.le_trans (h.rb r hr).le (by decide))
theorem cmp_pos {p q : Rat} : 0 < cmpR p q ↔ q < p := by
  unfold cmpR
  by_cases h : p < q
  · rw [if_pos h]
    constructor
    · intro z
      exact absurd z (by decide)
    · intro z
      grind
  · rw [if_neg h]
    by_cases h2 : q < p
    · rw [if_pos h2]
      exact ⟨fun _ => h2, fun _ => by decide⟩
    · rw [if_neg h2]
      exact ⟨fun z => absurd z (by decide), fun z => absurd z h2⟩
theorem eqv_rD (p : Rat) : PyData.eqv (.tuple [.int p.num, .int p.den]) (.tuple [.int p.num, .int p.den]) = true := by
  have ep := eqD_py (show py (rD p) = some (.tuple [.int p.num, .int p.den]) from rfl) (show py (rD p) = some (.tuple [.int p.num, .int p.den]) from rfl)
  rw [ep]
  exact eqD_rD p
theorem sh_pcs (cs : List (Rat × Rat)) : shD 60 (.lst (cs.map pieceD)) = true := by
  show (cs.map pieceD).all (shD 59) = true
  rw [List.all_map, List.all_eq_true]
  exact fun x _ => rfl
theorem eqD_pcs (cs : List (Rat × Rat)) : eqD (.lst (cs.map pieceD)) (.lst (cs.map pieceD)) = true := by
  show eqDA _ _ = true
  exact eqDA_self fun x hx => by
    obtain ⟨c, _, rfl⟩ := List.mem_map.mp hx
    show eqDA _ _ = true
    exact eqDA_self fun x hx => by
      simp only [List.mem_cons, List.not_mem_nil, or_false] at hx
      rcases hx with rfl | rfl
      · exact eqD_rD _
      · exact eqD_rD _
def sdChk (CR : Addr) : SpD := fun as Q _ => match as with
  | [.pool, .d x, .d (.lst ms)] => ∃ (L0 : Rat) (rn : List Rnr) (ts : List Rat), x = raceD CR L0 rn ∧ RaceB L0 rn ∧ A2 TimeD ms ts ∧ Q (.bl true)
  | _ => False
theorem sdChk_len (CR : Addr) (as Q E) (h : sdChk CR as Q E) : as.length = 3 := by
  unfold sdChk at h
  split at h
  · rfl
  · exact h.elim

theorem ok_ckc {f fd CR CN CT} (D : DefAt K mg "_law_check_change" s_law_check_change ["pool", "race", "moments"] f fd) (G_law_choose : DefD P w K mg base "_law_choose" 2 sdChoose) (G_law_number : DefD P w K mg base "_law_number" 3 sdNum) (M_Race_names : DefMF P w K mg base CR NS "names" 1 (sdNames CR)) (M_Race_changed : DefM P w K mg base CR NS "changed" 9 (sdChg CR)) (M_Race_position : DefM P w K mg base CR NS "position" 5 (sdPosition CR CT)) (M_Race_pieces : DefMF P w K mg base CR NS "pieces" 4 (sdPieces CR)) (Gcompare : DefD P w K mg base "compare" 4 (sd_compare CN)) (Gplus : DefD P w K mg base "plus" 4 (sd_plus CN)) (Gminus : DefD P w K mg base "minus" 4 (sd_minus CN)) (Gtimes : DefD P w K mg base "times" 4 (sd_times CN)) : DefD P w K mg base "_law_check_change" 10 (sdChk CR) :=
  .mk1 D (fnD D.F sc_law_check_change (sdChk_len CR) fun cdv A outer s H E c hr b => ⟨_, (dss_cons (d_asg (d_tup (da_cons (d_cN G_law_choose (hr.mono (by decide)) (da_name (pv 0) (da_cons (d_ofO (do_m0 M_Race_names (hr.mono (by decide)) (d_var (pv 1)))) da_nil))) (da_cons (d_cN G_law_number (hr.mono (by decide)) (da_name (pv 0) (da_cons d_int (da_cons d_int da_nil)))) (da_cons (d_cN G_law_number (hr.mono (by decide)) (da_name (pv 0) (da_cons (d_un ud_neg d_int) (da_cons d_int da_nil)))) da_nil)))) (dg_tup rfl (dgs_cons (dg_name (pg_name (i := 3) sc_law_check_change.nd rfl (.inl rfl))) (dgs_cons (dg_name (pg_name (i := 4) sc_law_check_change.nd rfl (.inr rfl))) (dgs_cons (dg_name (pg_name (i := 5) sc_law_check_change.nd rfl (.inl rfl))) dgs_nil)))))
      (dss_cons (d_asg (d_mN M_Race_changed (hr.mono (by decide)) (d_var (pv 1)) (da_name (pv 3) (da_name (pv 4) (da_name (pv 5) da_nil)))) (dg_name (pg_name (i := 6) sc_law_check_change.nd rfl (.inl rfl))))
      (dss_cons (d_for (passes_of rfl) rfl (di_seq (d_var (pv 2))) (dg_name (pg_name (i := 7) sc_law_check_change.nd rfl (.inl rfl)))
      (dss_one (d_for (passes_of rfl) rfl (di_seq (d_ofO (do_m0 M_Race_names (hr.mono (by decide)) (d_var (pv 1))))) (dg_name (pg_name (i := 8) sc_law_check_change.nd rfl (.inl rfl)))
      (dss_cons (d_asg (d_mN M_Race_position (hr.mono (by decide)) (d_var (pv 1)) (da_name (pv 8) (da_name (pv 7) da_nil))) (dg_name (pg_name (i := 9) sc_law_check_change.nd rfl (.inl rfl))))
      (dss_cut (d_ifS (PW.pt (dw_and (dt_cmp (od_eq hr.units) (d_var (pv 8)) (d_var (pv 3))) (dw_and1 (dt_cmp od_gt (d_cN Gcompare (hr.mono (by decide)) (da_name (pv 7) (da_name (pv 4) da_nil))) d_int))))
      (dss_one (d_asg (d_cN Gplus (hr.mono (by decide)) (da_cons (d_mN M_Race_position (hr.mono (by decide)) (d_var (pv 1)) (da_name (pv 3) (da_name (pv 4) da_nil))) (da_cons (d_cN Gtimes (hr.mono (by decide)) (da_name (pv 5) (da_cons (d_cN Gminus (hr.mono (by decide)) (da_name (pv 7) (da_name (pv 4) da_nil))) da_nil))) da_nil))) (dg_name (pg_name (i := 9) sc_law_check_change.nd rfl (.inl rfl)))))
      dss_nil)
      (dss_one (d_ifS (dt_cmp (od_ne hr.units) (d_mN M_Race_position (hr.mono (by decide)) (d_var (pv 6)) (da_name (pv 8) (da_name (pv 7) da_nil))) (d_var (pv 9)))
      (dss_one (d_ret d_bl))
      dss_nil)))))))
      (dss_cons (d_setLc (i := 10) (own := [("piece", 11)]) (p := .n 11) rfl sc_law_check_change.nd rfl rfl (sw_true rfl rfl rfl (by decide +kernel)) (di_seq (d_mN M_Race_pieces.toM (hr.mono (by decide)) (d_var (pv 1)) (da_name (pv 3) da_nil))) (blkOk_by (N := N_law_check_change) (sc := defScope s_law_check_change) (by decide +kernel)) (fun _ _ _ _ _ => (dg_name (pg_name (i := 11) sc_law_check_change.nd rfl (.inl rfl)))) (fun _ _ _ _ _ => (dts_one (dt_cmp od_lt (d_cN Gcompare (hr.mono (by decide)) (da_cons (d_ix ixd (d_var (pv 11)) d_int) (da_name (pv 4) da_nil))) d_int))) (fun _ _ _ _ _ => (d_var (pv 11))))
      (dss_one (d_ret (d_cmp (od_eq hr.units) (d_mN M_Race_pieces.toM (hr.mono (by decide)) (d_var (pv 6)) (da_name (pv 3) da_nil)) (d_op od_addA (d_var (pv 10)) (d_lst (da_cons (d_tup (da_cons (d_cN Gplus (hr.mono (by decide)) (da_name (pv 4) (da_cons d_int da_nil))) (da_cons (d_cN Gplus (hr.mono (by decide)) (da_name (pv 5) (da_cons d_int da_nil))) da_nil))) da_nil)))))))))), fun as Qd Ed h => by
    unfold sdChk at h
    split at h
    · rename_i x ms
      obtain ⟨L0, rn, ts, rfl, ok, hT, q⟩ := h
      have ok1 := ok.ok
      have l1 := ok1.ne
      have l2 := ok1.le
      refine ⟨rfl, rfl, L0, rn, rfl, ?_⟩
      refine ⟨by rw [List.length_map]; omega, by rw [List.length_map]; omega, fun x hx => ?_⟩
      obtain ⟨r, hr, rfl⟩ := List.mem_map.mp hx
      refine ⟨by decide, by decide, by decide, fun t m kt et zt pt => ?_⟩
      have m0 : 0 ≤ m := pt (by decide)
      refine ⟨by decide, by decide, by decide, fun v s kv ev zs _ => ?_⟩
      have ok2 : RaceOk L0 (rn.map (ctR L0 r.1 m s)) := ok.map (fun _ => rfl) (fun x hx => (ok.zr hx).mono (by decide)) (fun x hx => by
        show PcsM (if x.1 = r.1 then cutP m s x.2.2 else x.2.2)
        split
        · exact (ok.pc hx).cut (Nat.le_trans (ok.rb x hx).le (by decide)) m0 (zt.mono (by decide)) (zs.mono (by decide))
        · exact ok.pc hx)
      refine ⟨rfl, rfl, L0, rn, r, m, s, rfl, ok1, ok.so, hr, rfl, kt, et, m0, zt.mono (by decide), kv, ev, ok2, ?_⟩
      have P : ∀ x ∈ rn, ∀ t, 0 ≤ t → (rowT t (trk (rem x.2.1 L0) x.2.2)).at_ t = rem x.2.1 L0 + dist x.2.2 t := fun x hx t ht => pos_at (ok1.ok x hx).pc ht
      have C : ∀ x ∈ rn, ∀ t, 0 ≤ t → (rowT t (trk (rem (ctR L0 r.1 m s x).2.1 L0) (ctR L0 r.1 m s x).2.2)).at_ t = rem x.2.1 L0 + dist (ctR L0 r.1 m s x).2.2 t := fun x hx t ht => by
        rw [pos_at (ok2.ok _ (List.mem_map_of_mem hx)).pc ht]
        show rem (rem x.2.1 L0) L0 + _ = _
        rw [rem_rem ok1.L0p]
      refine ⟨fun i ss => ∃ o7 o8 o9 o10 o11 : Sl, ss = [.pool, .d (raceD CR L0 rn), .d (.lst ms), .d (.str r.1), .d t, .d v, .d (raceD CR L0 (rn.map (ctR L0 r.1 m s))), o7, o8, o9, o10, o11], ⟨_, _, _, _, _, rfl⟩, ?_, ?_⟩
      · rintro i d _ hd ⟨o7, o8, o9, o10, o11, rfl⟩
        obtain ⟨tq, _, td⟩ := hT.get hd
        refine ⟨rfl, rfl, L0, rn, rfl, fun j ss => ∃ o8 o9 o10 o11 : Sl, ss = [.pool, .d (raceD CR L0 rn), .d (.lst ms), .d (.str r.1), .d t, .d v, .d (raceD CR L0 (rn.map (ctR L0 r.1 m s))), .d d, o8, o9, o10, o11], ⟨_, _, _, _, rfl⟩, ?_, ?_⟩
        · rintro j e _ he ⟨o8, o9, o10, o11, rfl⟩
          rw [List.getElem?_map] at he
          obtain ⟨x, hx, rfl⟩ := Option.map_eq_some_iff.mp he
          have hxm := List.mem_of_getElem? hx
          refine ⟨rfl, rfl, L0, rn, x, rfl, ok1, hxm, rfl, td.kn, fun z => (by rw [td.e] at z; cases z), fun p1 z => ?_⟩
          rw [td.e] at z
          cases z
          refine ⟨fun z => absurd z (Rat.not_lt.mpr td.q0), fun _ => ⟨td.z.mono (by decide), ?_⟩⟩
          refine ⟨fun ss => ss = [.pool, .d (raceD CR L0 rn), .d (.lst ms), .d (.str r.1), .d t, .d v, .d (raceD CR L0 (rn.map (ctR L0 r.1 m s))), .d d, .d (.str x.1), .d (rD ((rowT tq (trk (rem (ctR L0 r.1 m s x).2.1 L0) (ctR L0 r.1 m s x).2.2)).at_ tq)), o10, o11], ?_, ?_⟩
          · refine ifD (fun c => ?_) (fun c => ?_)
            · have ex : x = r := name_one ok1 hxm hr c
              subst ex
              refine ⟨td.kn, fun z => (by rw [td.e] at z; cases z), fun p1 z => ?_⟩
              rw [td.e] at z
              cases z
              refine ⟨kt, fun z => (by rw [et] at z; cases z), fun p1 z => ?_⟩
              rw [et] at z
              cases z
              refine ⟨td.z.mono (by decide), zt.mono (by decide), ?_⟩
              have cc : (ctR L0 x.1 m s x).2.2 = cutP m s x.2.2 := if_pos rfl
              have dc := dist_changed (s := s) (ok.pc hxm).zero (ok.pc hxm).asc m0 td.q0
              refine ifD (fun c => ?_) (fun c => ?_)
              · have lt : m < tq := cmp_pos.mp c
                refine ⟨rfl, rfl, L0, rn, x, rfl, ok1, hxm, rfl, kt, fun z => (by rw [et] at z; cases z), fun p1 z => ?_⟩
                rw [et] at z
                cases z
                refine ⟨fun z => absurd z (Rat.not_lt.mpr m0), fun _ => ⟨zt.mono (by decide), ?_⟩⟩
                refine ⟨td.kn, fun z => (by rw [td.e] at z; cases z), fun p1 z => ?_⟩
                rw [td.e] at z
                cases z
                refine ⟨kt, fun z => (by rw [et] at z; cases z), fun p1 z => ?_⟩
                rw [et] at z
                cases z
                refine ⟨td.z.mono (by decide), zt.mono (by decide), ?_⟩
                refine ⟨kv, fun z => (by rw [ev] at z; cases z), fun p1 z => ?_⟩
                rw [ev] at z
                cases z
                refine ⟨(KN_rD _), fun z => (by rw [ratD_rD] at z; cases z), fun p1 z => ?_⟩
                rw [ratD_rD] at z
                cases z
                refine ⟨zs.mono (by decide), (td.z.sub zt).mono (by decide), ?_⟩
                refine ⟨(KN_rD _), fun z => (by rw [ratD_rD] at z; cases z), fun p1 z => ?_⟩
                rw [ratD_rD] at z
                cases z
                refine ⟨(KN_rD _), fun z => (by rw [ratD_rD] at z; cases z), fun p1 z => ?_⟩
                rw [ratD_rD] at z
                cases z
                refine ⟨(at_sz (ok1.ok x hxm).pc (zt.mono (by decide))).mono (by decide), (zs.mul (td.z.sub zt)).mono (by decide), ?_⟩
                have e2 : (rowT m (trk (rem x.2.1 L0) x.2.2)).at_ m + s * (tq - m) = (rowT tq (trk (rem (ctR L0 x.1 m s x).2.1 L0) (ctR L0 x.1 m s x).2.2)).at_ tq := by
                  rw [C x hxm tq td.q0, P x hxm m m0, cc, dc, if_pos lt]
                  grind
                exact congrArg (fun z => [Sl.pool, .d (raceD CR L0 rn), .d (.lst ms), .d (.str x.1), .d t, .d v, .d (raceD CR L0 (rn.map (ctR L0 x.1 m s))), .d d, .d (.str x.1), .d (rD z), o10, o11]) e2
              · have nlt : ¬ m < tq := fun z => c (cmp_pos.mpr z)
                have e2 : (rowT tq (trk (rem x.2.1 L0) x.2.2)).at_ tq = (rowT tq (trk (rem (ctR L0 x.1 m s x).2.1 L0) (ctR L0 x.1 m s x).2.2)).at_ tq := by
                  rw [C x hxm tq td.q0, P x hxm tq td.q0, cc, dc, if_neg nlt]
                exact congrArg (fun z => [Sl.pool, .d (raceD CR L0 rn), .d (.lst ms), .d (.str x.1), .d t, .d v, .d (raceD CR L0 (rn.map (ctR L0 x.1 m s))), .d d, .d (.str x.1), .d (rD z), o10, o11]) e2
            · have c : ¬ x.1 = r.1 := c
              have cc : (ctR L0 r.1 m s x).2.2 = x.2.2 := if_neg c
              have e2 : (rowT tq (trk (rem x.2.1 L0) x.2.2)).at_ tq = (rowT tq (trk (rem (ctR L0 r.1 m s x).2.1 L0) (ctR L0 r.1 m s x).2.2)).at_ tq := by
                rw [C x hxm tq td.q0, P x hxm tq td.q0, cc]
              exact congrArg (fun z => [Sl.pool, .d (raceD CR L0 rn), .d (.lst ms), .d (.str r.1), .d t, .d v, .d (raceD CR L0 (rn.map (ctR L0 r.1 m s))), .d d, .d (.str x.1), .d (rD z), o10, o11]) e2
          · rintro _ rfl
            refine ⟨rfl, rfl, L0, (rn.map (ctR L0 r.1 m s)), (ctR L0 r.1 m s x), rfl, ok2, (List.mem_map_of_mem hxm), rfl, td.kn, fun z => (by rw [td.e] at z; cases z), fun p1 z => ?_⟩
            rw [td.e] at z
            cases z
            refine ⟨fun z => absurd z (Rat.not_lt.mpr td.q0), fun _ => ⟨td.z.mono (by decide), ?_⟩⟩
            refine ⟨_, _, rfl, rfl, by rfl, by rfl, ?_⟩
            refine ifB (fun c => ?_) (fun _ => ⟨_, _, _, _, rfl⟩)
            have c : (!PyData.eqv _ _) = true := c
            rw [eqv_rD] at c
            cases c
        · rintro _ ⟨o8, o9, o10, o11, rfl⟩
          exact ⟨_, _, _, _, _, rfl⟩
      · rintro _ ⟨o7, o8, o9, o10, o11, rfl⟩
        have pl := (ok.pc hr).le
        refine ⟨rfl, rfl, L0, rn, r, rfl, ok1, hr, rfl, ?_⟩
        refine lc_by (fun d => if (ratD (begD d)).getD 0 < m then [d] else []) (by rw [List.length_map]; omega) (fun d hd acc J j => ?_) ?_
        · obtain ⟨c0, hc, rfl⟩ := List.mem_map.mp hd
          rw [show (ratD (begD (pieceD c0))).getD 0 = c0.1 from by show (ratD (rD c0.1)).getD 0 = c0.1; rw [ratD_rD]; rfl] at j
          have zc := ((ok.pc hr).sz c0 hc).1
          refine ⟨(KN_rD _), fun z => (by rw [ratD_rD] at z; cases z), fun p1 z => ?_⟩
          rw [ratD_rD] at z
          cases z
          refine ⟨kt, fun z => (by rw [et] at z; cases z), fun p1 z => ?_⟩
          rw [et] at z
          cases z
          refine ⟨zc.mono (by decide), zt.mono (by decide), ?_⟩
          show if decide (cmpR c0.1 m < 0) = true then J (acc ++ [pieceD c0]) else J acc
          rw [cmp_neg]
          refine ifD (fun c => ?_) (fun c => ?_)
          · rw [if_pos c] at j
            exact j
          · rw [if_neg c, List.append_nil] at j
            exact j
        · rw [keep_pcs (m := m) (fun c => by rw [show (ratD (begD (pieceD c))).getD 0 = c.1 from by show (ratD (rD c.1)).getD 0 = c.1; rw [ratD_rD]; rfl])]
          refine ⟨rfl, rfl, L0, rn.map (ctR L0 r.1 m s), ctR L0 r.1 m s r, rfl, ok2, List.mem_map_of_mem hr, rfl, ?_⟩
          refine ⟨kt, fun z => (by rw [et] at z; cases z), fun p1 z => ?_⟩
          rw [et] at z
          cases z
          refine ⟨(KN_int 0), fun z => (by rw [(show ratD (.int 0) = some ((0 : Int) : Rat) from rfl)] at z; cases z), fun p1 z => ?_⟩
          rw [(show ratD (.int 0) = some ((0 : Int) : Rat) from rfl)] at z
          cases z
          refine ⟨zt.mono (by decide), Sz.int (by decide) (by decide), ?_⟩
          refine ⟨kv, fun z => (by rw [ev] at z; cases z), fun p1 z => ?_⟩
          rw [ev] at z
          cases z
          refine ⟨(KN_int 0), fun z => (by rw [(show ratD (.int 0) = some ((0 : Int) : Rat) from rfl)] at z; cases z), fun p1 z => ?_⟩
          rw [(show ratD (.int 0) = some ((0 : Int) : Rat) from rfl)] at z
          cases z
          refine ⟨zs.mono (by decide), Sz.int (by decide) (by decide), ?_⟩
          have fl := List.length_filter_le (fun c : Rat × Rat => decide (c.1 < m)) r.2.2
          refine ⟨?_, ?_⟩
          · rw [List.length_map]
            exact Nat.le_trans (show _ + 1 ≤ 63 by omega) (by decide)
          have e1 : (ctR L0 r.1 m s r).2.2 = cutP m s r.2.2 := if_pos rfl
          have e2 : (r.2.2.filter fun c => decide (c.1 < m)).map pieceD ++ [.tup [rD (m + ((0 : Int) : Rat)), rD (s + ((0 : Int) : Rat))]] = (cutP m s r.2.2).map pieceD := by
            rw [show m + ((0 : Int) : Rat) = m by grind, show s + ((0 : Int) : Rat) = s by grind]
            unfold cutP
            rw [List.map_append]
            rfl
          show rEqQ (.lst ((ctR L0 r.1 m s r).2.2.map pieceD)) (.lst ((r.2.2.filter fun c => decide (c.1 < m)).map pieceD ++ [.tup [rD (m + ((0 : Int) : Rat)), rD (s + ((0 : Int) : Rat))]])) Qd
          rw [e1, e2]
          refine rEq_by (sh_pcs _) (sh_pcs _) ?_
          rw [eqD_pcs]
          exact q
    · exact h.elim⟩)
theorem eqv_of {p q : Rat} (h : p = q) : PyData.eqv (.tuple [.int p.num, .int p.den]) (.tuple [.int q.num, .int q.den]) = true := by
  subst h
  exact eqv_rD p
theorem same_race {L0 : Rat} {rn rm : List Rnr} (h1 : rm.map keyR = rn.map keyR) (h2 : rm.map (trF L0) = rn.map (trF L0)) (nd : (rn.map (·.1)).Nodup) : (decide (L0 = L0) && eqDct (rm.map keyR) (rm.map (trF L0)) (rn.map keyR) (rn.map (trF L0))) = true := by
  rw [h1, h2]
  exact race_self nd
theorem posn_T {s0 t : Rat} {cs : List (Rat × Rat)} (pc : PcsOk s0 cs) (ht : 0 ≤ t) : posn s0 cs t = s0 + dist cs t := by
  rw [← pos_at pc ht]
  obtain ⟨r0, rs, e, _⟩ := trk_cons pc
  unfold posn
  rw [e]
  rfl
theorem ok_ckt {f fd CR CN CZ CU CT} (D : DefAt K mg "_law_check_turned" s_law_check_turned ["pool", "race", "moments"] f fd) (G_law_number : DefD P w K mg base "_law_number" 3 sdNum) (M_Race_names : DefMF P w K mg base CR NS "names" 1 (sdNames CR)) (M_Race_turned : DefM P w K mg base CR NS "turned" 9 (sdTurn CR CN)) (M_Race_reversed_ring : DefM P w K mg base CR NS "reversed_ring" 9 (sdRev CR)) (M_Race_place : DefM P w K mg base CR NS "place" 5 (sdPlace CR CU CT)) (P_Race_length : DefP P w K mg base CR NS "length" 1 (sdLength CR)) (M_Race_position : DefM P w K mg base CR NS "position" 5 (sdPosition CR CT)) (M_Race_start : DefM P w K mg base CR NS "start" 4 (sdStart CR)) (Q_Race : DefEq P w K mg base CR NS 2 (sdREq CR)) (Gremainder : DefD P w K mg base "remainder" 4 (sd_remainder CN CZ)) (Gplus : DefD P w K mg base "plus" 4 (sd_plus CN)) (Gminus : DefD P w K mg base "minus" 4 (sd_minus CN)) : DefD P w K mg base "_law_check_turned" 10 (sdChk CR) :=
  .mk1 D (fnD D.F sc_law_check_turned (sdChk_len CR) fun cdv A outer s H E c hr b => ⟨_, (dss_cons (d_asg (d_cN G_law_number (hr.mono (by decide)) (da_name (pv 0) (da_cons (d_un ud_neg d_int) (da_cons d_int da_nil)))) (dg_name (pg_name (i := 3) sc_law_check_turned.nd rfl (.inl rfl))))
      (dss_cons (d_par2 (i := 4) (j := 5) rfl sc_law_check_turned.nd rfl rfl (by decide) rfl rfl (d_mN M_Race_turned (hr.mono (by decide)) (d_var (pv 1)) (da_name (pv 3) da_nil)) (d_m0N M_Race_reversed_ring (hr.mono (by decide)) (d_var (pv 1))))
      (dss_cons (d_for (passes_of rfl) rfl (di_seq (d_var (pv 2))) (dg_name (pg_name (i := 6) sc_law_check_turned.nd rfl (.inl rfl)))
      (dss_one (d_for (passes_of rfl) rfl (di_seq (d_ofO (do_m0 M_Race_names (hr.mono (by decide)) (d_var (pv 1))))) (dg_name (pg_name (i := 7) sc_law_check_turned.nd rfl (.inl rfl)))
      (dss_cons (d_asg (d_mN M_Race_place (hr.mono (by decide)) (d_var (pv 1)) (da_name (pv 7) (da_name (pv 6) da_nil))) (dg_name (pg_name (i := 8) sc_law_check_turned.nd rfl (.inl rfl))))
      (dss_cons (d_ifS (dt_cmp (od_ne hr.units) (d_mN M_Race_place (hr.mono (by decide)) (d_var (pv 4)) (da_name (pv 7) (da_name (pv 6) da_nil))) (d_cN Gremainder (hr.mono (by decide)) (da_cons (d_cN Gplus (hr.mono (by decide)) (da_name (pv 8) (da_name (pv 3) da_nil))) (da_cons (d_prop P_Race_length (hr.mono (by decide)) (d_var (pv 1))) da_nil))))
      (dss_one (d_ret d_bl))
      dss_nil)
      (dss_cons (d_ifS (dt_cmp (od_ne hr.units) (d_mN M_Race_place (hr.mono (by decide)) (d_var (pv 5)) (da_name (pv 7) (da_name (pv 6) da_nil))) (d_cN Gremainder (hr.mono (by decide)) (da_cons (d_cN Gminus (hr.mono (by decide)) (da_cons d_int (da_name (pv 8) da_nil))) (da_cons (d_prop P_Race_length (hr.mono (by decide)) (d_var (pv 1))) da_nil))))
      (dss_one (d_ret d_bl))
      dss_nil)
      (dss_one (d_ifS (dt_cmp (od_ne hr.units) (d_cN Gminus (hr.mono (by decide)) (da_cons (d_mN M_Race_position (hr.mono (by decide)) (d_var (pv 5)) (da_name (pv 7) (da_name (pv 6) da_nil))) (da_cons (d_mN M_Race_start (hr.mono (by decide)) (d_var (pv 5)) (da_name (pv 7) da_nil)) da_nil))) (d_cN Gminus (hr.mono (by decide)) (da_cons (d_mN M_Race_start (hr.mono (by decide)) (d_var (pv 1)) (da_name (pv 7) da_nil)) (da_cons (d_mN M_Race_position (hr.mono (by decide)) (d_var (pv 1)) (da_name (pv 7) (da_name (pv 6) da_nil))) da_nil))))
      (dss_one (d_ret d_bl))
      dss_nil))))))))
      (dss_one (d_ret (d_and (d_cmp (od_eqOwn Q_Race (hr.mono (by decide))) (d_mN M_Race_turned (hr.mono (by decide)) (d_var (pv 4)) (da_cons (d_cN Gminus (hr.mono (by decide)) (da_cons d_int (da_name (pv 3) da_nil))) da_nil)) (d_var (pv 1))) (d_one (d_cmp (od_eqOwn Q_Race (hr.mono (by decide))) (d_m0N M_Race_reversed_ring (hr.mono (by decide)) (d_var (pv 5))) (d_var (pv 1)))))))))), fun as Qd Ed h => by
    unfold sdChk at h
    split at h
    · rename_i x ms
      obtain ⟨L0, rn, ts, rfl, ok, hT, q⟩ := h
      have ok1 := ok.ok
      have L0p := ok1.L0p
      have l1 := ok1.ne
      have l2 := ok1.le
      have z0 : Sz 1 ((0 : Int) : Rat) := Sz.int (by decide) (by decide)
      refine ⟨by decide, by decide, by decide, fun v d kv ev zs _ => ?_⟩
      have ok2 : RaceOk L0 (rn.map (tnR L0 d)) := ok.map (fun _ => rfl) (fun x hx => ((ok.zr hx).add zs).mono (by decide)) (fun x hx => (ok.pc hx : PcsM x.2.2))
      have ok3 : RaceOk L0 (rn.map (ngR L0)) := ok.map (fun _ => rfl) (fun x hx => by
        show Sz 200 (0 - rem x.2.1 L0)
        rw [show 0 - rem x.2.1 L0 = - rem x.2.1 L0 by grind]
        exact (ok.zr hx).neg.mono (by decide)) (fun x hx => (ok.pc hx).neg)
      have P : ∀ x ∈ rn, ∀ t, 0 ≤ t → (rowT t (trk (rem x.2.1 L0) x.2.2)).at_ t = rem x.2.1 L0 + dist x.2.2 t := fun x hx t ht => pos_at (ok1.ok x hx).pc ht
      refine ⟨rfl, rfl, L0, rn, rfl, ok1, ok.so, kv, fun z => (by rw [ev] at z; cases z), fun p1 z => ?_⟩
      rw [ev] at z
      cases z
      refine ⟨zs.mono (by decide), ok2, ?_⟩
      refine ⟨rfl, rfl, L0, rn, rfl, ok1, ok.so, ok3, ?_⟩
      refine ⟨fun i ss => ∃ o6 o7 o8 : Sl, ss = [.pool, .d (raceD CR L0 rn), .d (.lst ms), .d v, .d (raceD CR L0 (rn.map (tnR L0 d))), .d (raceD CR L0 (rn.map (ngR L0))), o6, o7, o8], ⟨_, _, _, rfl⟩, ?_, ?_⟩
      · rintro i u _ hd ⟨o6, o7, o8, rfl⟩
        obtain ⟨t, _, td⟩ := hT.get hd
        refine ⟨rfl, rfl, L0, rn, rfl, fun j ss => ∃ o7 o8 : Sl, ss = [.pool, .d (raceD CR L0 rn), .d (.lst ms), .d v, .d (raceD CR L0 (rn.map (tnR L0 d))), .d (raceD CR L0 (rn.map (ngR L0))), .d u, o7, o8], ⟨_, _, rfl⟩, ?_, ?_⟩
        · rintro j e _ he ⟨o7, o8, rfl⟩
          rw [List.getElem?_map] at he
          obtain ⟨x, hx, rfl⟩ := Option.map_eq_some_iff.mp he
          have hx := List.mem_of_getElem? hx
          have hx2 : tnR L0 d x ∈ rn.map (tnR L0 d) := List.mem_map_of_mem hx
          have hx3 : ngR L0 x ∈ rn.map (ngR L0) := List.mem_map_of_mem hx
          have pA := posn_T (ok1.ok x hx).pc td.q0
          have pB := posn_T (ok2.ok _ hx2).pc td.q0
          have pC := posn_T (ok3.ok _ hx3).pc td.q0
          have tA := pos_at (ok1.ok x hx).pc td.q0
          have tC := pos_at (ok3.ok _ hx3).pc td.q0
          have zA := at_sz (ok1.ok x hx).pc (td.z.mono (by decide) : Sz 300 t)
          have zC := at_sz (ok3.ok _ hx3).pc (td.z.mono (by decide) : Sz 300 t)
          have dn := dist_neg x.2.2 t
          have zpl : Sz 1901 (rem (posn (rem x.2.1 L0) x.2.2 t) L0) := by
            rw [pA, ← tA]
            exact (zA.rem ok1.zL L0p).mono (by decide)
          refine ⟨rfl, rfl, L0, rn, rfl, ok1, rfl, name_of (r := x) hx, fun r1 hr1 e1 => ?_⟩
          have e1 := name_one ok1 hx hr1 (DL.D.str.inj e1)
          subst e1
          refine ⟨td.kn, fun z => (by rw [td.e] at z; cases z), fun p1 z => ?_⟩
          rw [td.e] at z
          cases z
          refine ⟨fun z => absurd z (Rat.not_lt.mpr td.q0), fun _ => ⟨td.z.mono (by decide), ?_⟩⟩
          refine ⟨rfl, rfl, L0, (rn.map (tnR L0 d)), rfl, ok2, rfl, name_of (r := (tnR L0 d x)) hx2, fun r1 hr1 e1 => ?_⟩
          have e1 := name_one ok2 hx2 hr1 (DL.D.str.inj e1)
          subst e1
          refine ⟨td.kn, fun z => (by rw [td.e] at z; cases z), fun p1 z => ?_⟩
          rw [td.e] at z
          cases z
          refine ⟨fun z => absurd z (Rat.not_lt.mpr td.q0), fun _ => ⟨td.z.mono (by decide), ?_⟩⟩
          refine ⟨(KN_rD _), fun z => (by rw [ratD_rD] at z; cases z), fun p1 z => ?_⟩
          rw [ratD_rD] at z
          cases z
          refine ⟨kv, fun z => (by rw [ev] at z; cases z), fun p1 z => ?_⟩
          rw [ev] at z
          cases z
          refine ⟨zpl.mono (by decide), zs.mono (by decide), ?_⟩
          refine ⟨rfl, rfl, L0, rn, rfl, ?_⟩
          refine ⟨(KN_rD _), fun z => (by rw [ratD_rD] at z; cases z), fun p1 z => ?_⟩
          rw [ratD_rD] at z
          cases z
          refine ⟨(KN_rD _), fun z => (by rw [ratD_rD] at z; cases z), fun p1 z => ?_⟩
          rw [ratD_rD] at z
          cases z
          refine ⟨(zpl.add zs).mono (by decide), ok1.zL.mono (by decide), ?_⟩
          refine ⟨fun z => absurd ok1.L0p (Rat.not_lt.mpr z), fun _ => ?_⟩
          refine ⟨_, _, rfl, rfl, by rfl, by rfl, ?_⟩
          refine ifB (fun c => ?_) (fun _ => ?_)
          · have c : (!PyData.eqv _ _) = true := c
            rw [eqv_of (show rem (posn (rem (tnR L0 d x).2.1 L0) (tnR L0 d x).2.2 t) L0 = rem (rem (posn (rem x.2.1 L0) x.2.2 t) L0 + d) L0 by rw [pA, pB]; show rem (rem (rem x.2.1 L0 + d) L0 + dist x.2.2 t) L0 = _; rw [rem_add_rem L0p, rem_add_rem L0p]; congr 1; grind)] at c
            cases c
          refine ⟨rfl, rfl, L0, (rn.map (ngR L0)), rfl, ok3, rfl, name_of (r := (ngR L0 x)) hx3, fun r1 hr1 e1 => ?_⟩
          have e1 := name_one ok3 hx3 hr1 (DL.D.str.inj e1)
          subst e1
          refine ⟨td.kn, fun z => (by rw [td.e] at z; cases z), fun p1 z => ?_⟩
          rw [td.e] at z
          cases z
          refine ⟨fun z => absurd z (Rat.not_lt.mpr td.q0), fun _ => ⟨td.z.mono (by decide), ?_⟩⟩
          refine ⟨(KN_int 0), fun z => (by rw [(show ratD (.int 0) = some ((0 : Int) : Rat) from rfl)] at z; cases z), fun p1 z => ?_⟩
          rw [(show ratD (.int 0) = some ((0 : Int) : Rat) from rfl)] at z
          cases z
          refine ⟨(KN_rD _), fun z => (by rw [ratD_rD] at z; cases z), fun p1 z => ?_⟩
          rw [ratD_rD] at z
          cases z
          refine ⟨z0.mono (by decide), zpl.mono (by decide), ?_⟩
          refine ⟨rfl, rfl, L0, rn, rfl, ?_⟩
          refine ⟨(KN_rD _), fun z => (by rw [ratD_rD] at z; cases z), fun p1 z => ?_⟩
          rw [ratD_rD] at z
          cases z
          refine ⟨(KN_rD _), fun z => (by rw [ratD_rD] at z; cases z), fun p1 z => ?_⟩
          rw [ratD_rD] at z
          cases z
          refine ⟨(z0.sub zpl).mono (by decide), ok1.zL.mono (by decide), ?_⟩
          refine ⟨fun z => absurd ok1.L0p (Rat.not_lt.mpr z), fun _ => ?_⟩
          refine ⟨_, _, rfl, rfl, by rfl, by rfl, ?_⟩
          refine ifB (fun c => ?_) (fun _ => ?_)
          · have c : (!PyData.eqv _ _) = true := c
            rw [eqv_of (show rem (posn (rem (ngR L0 x).2.1 L0) (ngR L0 x).2.2 t) L0 = rem (((0 : Int) : Rat) - rem (posn (rem x.2.1 L0) x.2.2 t) L0) L0 by rw [pA, pC]; show rem (rem (0 - rem x.2.1 L0) L0 + dist (negP x.2.2) t) L0 = _; rw [dn, rem_add_rem L0p, rem_sub_rem L0p]; congr 1; grind)] at c
            cases c
          refine ⟨rfl, rfl, L0, (rn.map (ngR L0)), (ngR L0 x), rfl, ok3, hx3, rfl, td.kn, fun z => (by rw [td.e] at z; cases z), fun p1 z => ?_⟩
          rw [td.e] at z
          cases z
          refine ⟨fun z => absurd z (Rat.not_lt.mpr td.q0), fun _ => ⟨td.z.mono (by decide), ?_⟩⟩
          refine ⟨rfl, rfl, L0, rn.map (ngR L0), ngR L0 x, rfl, ok3, hx3, rfl, ?_⟩
          refine ⟨(KN_rD _), fun z => (by rw [ratD_rD] at z; cases z), fun p1 z => ?_⟩
          rw [ratD_rD] at z
          cases z
          refine ⟨(KN_rD _), fun z => (by rw [ratD_rD] at z; cases z), fun p1 z => ?_⟩
          rw [ratD_rD] at z
          cases z
          refine ⟨zC.mono (by decide), ((ok3.ok _ hx3).zr).mono (by decide), ?_⟩
          refine ⟨rfl, rfl, L0, rn, x, rfl, ok1, hx, rfl, ?_⟩
          refine ⟨rfl, rfl, L0, rn, x, rfl, ok1, hx, rfl, td.kn, fun z => (by rw [td.e] at z; cases z), fun p1 z => ?_⟩
          rw [td.e] at z
          cases z
          refine ⟨fun z => absurd z (Rat.not_lt.mpr td.q0), fun _ => ⟨td.z.mono (by decide), ?_⟩⟩
          refine ⟨(KN_rD _), fun z => (by rw [ratD_rD] at z; cases z), fun p1 z => ?_⟩
          rw [ratD_rD] at z
          cases z
          refine ⟨(KN_rD _), fun z => (by rw [ratD_rD] at z; cases z), fun p1 z => ?_⟩
          rw [ratD_rD] at z
          cases z
          refine ⟨((ok1.ok _ hx).zr).mono (by decide), zA.mono (by decide), ?_⟩
          refine ⟨_, _, rfl, rfl, by rfl, by rfl, ?_⟩
          refine ifB (fun c => ?_) (fun _ => ?_)
          · have c : (!PyData.eqv _ _) = true := c
            rw [eqv_of (show (rowT t (trk (rem (ngR L0 x).2.1 L0) (ngR L0 x).2.2)).at_ t - rem (ngR L0 x).2.1 L0 = rem x.2.1 L0 - (rowT t (trk (rem x.2.1 L0) x.2.2)).at_ t by rw [tC, tA, show (ngR L0 x).2.2 = negP x.2.2 from rfl, dn]; grind)] at c
            cases c
          exact ⟨_, _, rfl⟩
        · rintro _ ⟨o7, o8, rfl⟩
          exact ⟨_, _, _, rfl⟩
      · rintro _ ⟨o6, o7, o8, rfl⟩
        have zc : ((0 : Int) : Rat) = 0 := rfl
        have mm : (rn.map (tnR L0 d)).map (tnR L0 (((0 : Int) : Rat) - d)) = rn.map fun r => tnR L0 (((0 : Int) : Rat) - d) (tnR L0 d r) := List.map_map
        have m3 : (rn.map (ngR L0)).map (ngR L0) = rn.map fun r => ngR L0 (ngR L0 r) := List.map_map
        have ok4 : RaceOk L0 ((rn.map (tnR L0 d)).map (tnR L0 (((0 : Int) : Rat) - d))) := by
          rw [mm]
          exact ok.map (fun _ => rfl) (fun x hx => ((((ok.zr hx).add zs).rem ok.zL L0p).add (z0.sub zs)).mono (by decide)) (fun x hx => (ok.pc hx : PcsM x.2.2))
        have ok5 : RaceOk L0 ((rn.map (ngR L0)).map (ngR L0)) := by
          rw [m3]
          refine ok.map (fun _ => rfl) (fun x hx => ?_) (fun x hx => ((ok.pc hx).neg).neg)
          have z1 : Sz 36 (rem (0 - rem x.2.1 L0) L0) := by
            rw [show 0 - rem x.2.1 L0 = - rem x.2.1 L0 by grind]
            exact (ok.zr hx).neg.rem ok.zL L0p
          show Sz 200 (0 - rem (0 - rem x.2.1 L0) L0)
          rw [show 0 - rem (0 - rem x.2.1 L0) L0 = - rem (0 - rem x.2.1 L0) L0 by grind]
          exact z1.neg.mono (by decide)
        have s4 := same_race (L0 := L0) (rn := rn) (rm := (rn.map (tnR L0 d)).map (tnR L0 (((0 : Int) : Rat) - d))) (by rw [mm]; exact keys_map fun _ => rfl) (by
          rw [mm, List.map_map]
          exact List.map_congr_left fun x _ => by
            show trackD (trk (rem (rem (rem x.2.1 L0 + d) L0 + (((0 : Int) : Rat) - d)) L0) x.2.2) = trackD (trk (rem x.2.1 L0) x.2.2)
            rw [rem_add_rem L0p, show rem x.2.1 L0 + d + (((0 : Int) : Rat) - d) = rem x.2.1 L0 by grind, rem_rem L0p]) ok1.nd
        have s5 := same_race (L0 := L0) (rn := rn) (rm := (rn.map (ngR L0)).map (ngR L0)) (by rw [m3]; exact keys_map fun _ => rfl) (by
          rw [m3, List.map_map]
          exact List.map_congr_left fun x _ => by
            show trackD (trk (rem (0 - rem (0 - rem x.2.1 L0) L0) L0) (negP (negP x.2.2))) = trackD (trk (rem x.2.1 L0) x.2.2)
            rw [rem_sub_rem L0p, neg_back, show 0 - (0 - rem x.2.1 L0) = rem x.2.1 L0 by grind, rem_rem L0p]) ok1.nd
        refine ⟨rfl, rfl, ?_⟩
        refine ⟨(KN_int 0), fun z => (by rw [(show ratD (.int 0) = some ((0 : Int) : Rat) from rfl)] at z; cases z), fun p1 z => ?_⟩
        rw [(show ratD (.int 0) = some ((0 : Int) : Rat) from rfl)] at z
        cases z
        refine ⟨kv, fun z => (by rw [ev] at z; cases z), fun p1 z => ?_⟩
        rw [ev] at z
        cases z
        refine ⟨z0.mono (by decide), zs.mono (by decide), ?_⟩
        refine ⟨L0, rn.map (tnR L0 d), rfl, ok2, by rw [names_map (f := tnR L0 d) fun _ => rfl]; exact ok.so, KN_rD _, fun z => (by rw [ratD_rD] at z; cases z), fun p1 z => ?_⟩
        rw [ratD_rD] at z
        cases z
        refine ⟨(z0.sub zs).mono (by decide), ok4, ?_⟩
        refine ⟨rfl, rfl, .inr ⟨_, _, rfl⟩, L0, _, L0, rn, rfl, rfl, ?_⟩
        refine ifB (fun _ => ?_) (fun c => ?_)
        · refine ⟨rfl, rfl, L0, rn.map (ngR L0), rfl, ok3, by rw [names_map (f := ngR L0) fun _ => rfl]; exact ok.so, ok5, ?_⟩
          refine ⟨rfl, rfl, .inr ⟨_, _, rfl⟩, L0, _, L0, rn, rfl, rfl, ?_⟩
          show Qd (.bl ((decide (L0 = L0) && eqDct (((rn.map (ngR L0)).map (ngR L0)).map keyR) (((rn.map (ngR L0)).map (ngR L0)).map (trF L0)) (rn.map keyR) (rn.map (trF L0))) != false))
          rw [s5]
          exact q
        · rw [s4] at c
          cases c
    · exact h.elim⟩)
/-! ### _law_check_slowed -/
theorem chg_few {L0 : Rat} {rn : List Rnr} (ok : RaceB L0 rn) : (rn.flatMap fun r => (r.2.2.drop 1).map (·.1)).length ≤ 8 := by
  have gen : ∀ l : List Rnr, (∀ r ∈ l, r.2.2.length ≤ 3) → (l.flatMap fun r => (r.2.2.drop 1).map (·.1)).length ≤ 2 * l.length := by
    intro l
    induction l with
    | nil => intro _; exact Nat.le_refl 0
    | cons r l ih =>
      intro h
      have h1 := h r List.mem_cons_self
      have h2 := ih fun x hx => h x (List.mem_cons_of_mem _ hx)
      rw [List.flatMap_cons, List.length_append, List.length_map, List.length_drop, List.length_cons]
      omega
  have := gen rn fun r hr => (ok.rb r hr).le
  have := ok.le4
  omega
theorem eqD_rDs (l : List Rat) : eqD (.lst (l.map rD)) (.lst (l.map rD)) = true := by
  show eqDA _ _ = true
  exact eqDA_self fun x hx => by
    obtain ⟨c, _, rfl⟩ := List.mem_map.mp hx
    exact eqD_rD c
theorem sh_rDs (l : List Rat) : shD 60 (.lst (l.map rD)) = true := by
  show (l.map rD).all (shD 59) = true
  rw [List.all_map, List.all_eq_true]
  exact fun x _ => rfl
theorem inOrder_len : ∀ {rs qs : List Rat}, rs.Nodup → (∀ r ∈ rs, r ∈ qs) → rs.length ≤ qs.length
  | [], _, _, _ => Nat.zero_le _
  | r :: rs, qs, nd, h => by
    obtain ⟨n1, n2⟩ := List.nodup_cons.mp nd
    have hr := h r List.mem_cons_self
    have ih := inOrder_len (rs := rs) (qs := qs.erase r) n2 fun x hx => (List.mem_erase_of_ne (fun e => n1 (by rw [← e]; exact hx))).mpr (h x (List.mem_cons_of_mem _ hx))
    rw [List.length_erase_of_mem hr] at ih
    have : 0 < qs.length := List.length_pos_of_mem hr
    rw [List.length_cons]
    omega
theorem InOrder.le {qs rs : List Rat} (h : InOrder qs rs) : rs.length ≤ qs.length := inOrder_len (h.1.imp fun {a b} l => Rat.ne_of_lt l) fun r hr => (h.2 r).mp hr
theorem slow_chg {L0 f : Rat} : ∀ rn : List Rnr, ((rn.map (slR L0 f)).flatMap fun r => (r.2.2.drop 1).map (·.1)) = (rn.flatMap fun r => (r.2.2.drop 1).map (·.1)).map (· * f)
  | [] => rfl
  | r :: rn => by
    rw [List.map_cons, List.flatMap_cons, List.flatMap_cons, List.map_append, slow_chg rn]
    congr 1
    show ((slowP f r.2.2).drop 1).map (·.1) = _
    unfold slowP
    rw [← List.map_drop, List.map_map, List.map_map]
    rfl
def mulD (f : Rat) (d : DL.D) : DL.D := rD ((ratD d).getD 0 * f)
theorem ok_cks {f fd CR CN CZ CT} (D : DefAt K mg "_law_check_slowed" s_law_check_slowed ["pool", "race", "moments"] f fd) (G_law_draw : DefD P w K mg base "_law_draw" 1 sdDraw) (Gratio : DefD P w K mg base "ratio" 2 sdRatio) (M_Race_names : DefMF P w K mg base CR NS "names" 1 (sdNames CR)) (M_Race_slowed : DefM P w K mg base CR NS "slowed" 9 (sdSlow CR)) (M_Race_change_times : DefM P w K mg base CR NS "change_times" 5 (sdChT CR)) (M_Race_position : DefM P w K mg base CR NS "position" 5 (sdPosition CR CT)) (Q_Race : DefEq P w K mg base CR NS 2 (sdREq CR)) (Gtimes : DefD P w K mg base "times" 4 (sd_times CN)) (Gdivided : DefD P w K mg base "divided" 4 (sd_divided CN CZ)) : DefD P w K mg base "_law_check_slowed" 10 (sdChk CR) :=
  .mk1 D (fnD D.F sc_law_check_slowed (sdChk_len CR) fun cdv A outer s H E c hr b => ⟨_, (dss_cons (d_asg (d_cN Gratio (hr.mono (by decide)) (da_cons (d_op od_addA d_int (d_cN G_law_draw (hr.mono (by decide)) (da_name (pv 0) (da_cons d_int da_nil)))) (da_cons (d_op od_addA d_int (d_cN G_law_draw (hr.mono (by decide)) (da_name (pv 0) (da_cons d_int da_nil)))) da_nil))) (dg_name (pg_name (i := 3) sc_law_check_slowed.nd rfl (.inr rfl))))
      (dss_cons (d_asg (d_mN M_Race_slowed (hr.mono (by decide)) (d_var (pv 1)) (da_name (pv 3) da_nil)) (dg_name (pg_name (i := 4) sc_law_check_slowed.nd rfl (.inl rfl))))
      (dss_cons (d_for (passes_of rfl) rfl (di_seq (d_var (pv 2))) (dg_name (pg_name (i := 5) sc_law_check_slowed.nd rfl (.inl rfl)))
      (dss_one (d_for (passes_of rfl) rfl (di_seq (d_ofO (do_m0 M_Race_names (hr.mono (by decide)) (d_var (pv 1))))) (dg_name (pg_name (i := 6) sc_law_check_slowed.nd rfl (.inl rfl)))
      (dss_one (d_ifS (dt_cmp (od_ne hr.units) (d_mN M_Race_position (hr.mono (by decide)) (d_var (pv 4)) (da_name (pv 6) (da_cons (d_cN Gtimes (hr.mono (by decide)) (da_name (pv 5) (da_name (pv 3) da_nil))) da_nil))) (d_mN M_Race_position (hr.mono (by decide)) (d_var (pv 1)) (da_name (pv 6) (da_name (pv 5) da_nil))))
      (dss_one (d_ret d_bl))
      dss_nil)))))
      (dss_cons (d_ifS (dt_cmp (od_neOwn Q_Race (hr.mono (by decide))) (d_mN M_Race_slowed (hr.mono (by decide)) (d_var (pv 4)) (da_cons (d_cN Gdivided (hr.mono (by decide)) (da_cons d_int (da_name (pv 3) da_nil))) da_nil)) (d_var (pv 1)))
      (dss_one (d_ret d_bl))
      dss_nil)
      (dss_one (d_ret (d_cmp (od_eq hr.units) (d_m0N M_Race_change_times (hr.mono (by decide)) (d_var (pv 4))) (d_ofO (do_lc (own := [("time", 5)]) (p := .n 5) rfl sc_law_check_slowed.nd (di_seq (d_m0N M_Race_change_times (hr.mono (by decide)) (d_var (pv 1)))) (blkOk_by (N := N_law_check_slowed) (sc := defScope s_law_check_slowed) (by decide +kernel)) (fun _ _ _ _ _ => (dg_name (pg_name (i := 5) sc_law_check_slowed.nd rfl (.inl rfl)))) (fun _ _ _ _ _ => dts_nil) (fun _ _ _ _ _ => (d_cN Gtimes (hr.mono (by decide)) (da_name (pv 5) (da_name (pv 3) da_nil))))))))))))), fun as Qd Ed h => by
    unfold sdChk at h
    split at h
    · rename_i x ms
      obtain ⟨L0, rn, ts, rfl, ok, hT, q⟩ := h
      have ok1 := ok.ok
      have L0p := ok1.L0p
      refine ⟨drw (b := 20) (by decide) (by decide), fun a a0 a1 => ?_⟩
      refine ⟨drw (b := 20) (by decide) (by decide), fun g g0 g1 => ?_⟩
      have p12 : (2 : Nat) ^ 12 < 2 ^ 3900 := by decide +kernel
      refine ⟨show 1 + g ≠ 0 by omega, Nat.lt_trans (show (1 + a).natAbs < 2 ^ 12 by omega) p12, Nat.lt_trans (show (1 + g).natAbs < 2 ^ 12 by omega) p12, ?_⟩
      have zf : Sz 4 (Rat.divInt (1 + a) (1 + g)) := sz_divInt (by omega) (by show (1 + a).natAbs < 16; omega) (by show (1 + g).natAbs < 16; omega)
      have pf : 0 < Rat.divInt (1 + a) (1 + g) := by
        have hn : (0 : Rat) < ((1 + a : Int) : Rat) := Rat.intCast_pos.mpr (by omega)
        have hd : (0 : Rat) < ((1 + g : Int) : Rat) := Rat.intCast_pos.mpr (by omega)
        rw [Rat.divInt_eq_div, Rat.div_def]
        exact Rat.mul_pos hn (Rat.inv_pos.mpr hd)
      generalize Rat.divInt (1 + a) (1 + g) = f at zf pf
      have fn : f ≠ 0 := by grind
      have z1 : Sz 1 ((1 : Int) : Rat) := Sz.int (by decide) (by decide)
      have zi : Sz 5 (((1 : Int) : Rat) / f) := z1.div zf fn
      have pi : 0 < ((1 : Int) : Rat) / f := by
        rw [Rat.div_def]
        exact Rat.mul_pos (by decide) (Rat.inv_pos.mpr pf)
      have sl : ∀ x ∈ rn, PcsM (slowP f x.2.2) := fun x hx => (ok.pc hx).slow pf fun c hc => ⟨((((ok.rb x hx).pc.sz c hc).1).mul zf).mono (by decide), ((((ok.rb x hx).pc.sz c hc).2).div zf fn).mono (by decide)⟩
      have ok2 : RaceOk L0 (rn.map (slR L0 f)) := ok.map (fun _ => rfl) (fun x hx => (ok.zr hx).mono (by decide)) (fun x hx => (sl x hx : PcsM (slowP f x.2.2)))
      refine ⟨rfl, rfl, L0, rn, f, rfl, ok1, ok.so, KN_rD f, ratD_rD f, pf, zf.mono (by decide), ok2, ?_⟩
      refine ⟨fun i ss => ∃ o5 o6 : Sl, ss = [.pool, .d (raceD CR L0 rn), .d (.lst ms), .d (rD f), .d (raceD CR L0 (rn.map (slR L0 f))), o5, o6], ⟨_, _, rfl⟩, ?_, ?_⟩
      · rintro i u _ hd ⟨o5, o6, rfl⟩
        obtain ⟨t, _, td⟩ := hT.get hd
        refine ⟨rfl, rfl, L0, rn, rfl, fun j ss => ∃ o6 : Sl, ss = [.pool, .d (raceD CR L0 rn), .d (.lst ms), .d (rD f), .d (raceD CR L0 (rn.map (slR L0 f))), .d u, o6], ⟨_, rfl⟩, ?_, ?_⟩
        · rintro j e _ he ⟨o6, rfl⟩
          rw [List.getElem?_map] at he
          obtain ⟨x, hx, rfl⟩ := Option.map_eq_some_iff.mp he
          have hx := List.mem_of_getElem? hx
          have hx2 : slR L0 f x ∈ rn.map (slR L0 f) := List.mem_map_of_mem hx
          have tf0 : 0 ≤ t * f := Rat.mul_nonneg td.q0 (Rat.le_of_lt pf)
          have tA := pos_at (ok1.ok x hx).pc td.q0
          have tB := pos_at (ok2.ok _ hx2).pc tf0
          refine ⟨rfl, rfl, ?_⟩
          refine ⟨td.kn, fun z => (by rw [td.e] at z; cases z), fun p1 z => ?_⟩
          rw [td.e] at z
          cases z
          refine ⟨(KN_rD _), fun z => (by rw [ratD_rD] at z; cases z), fun p1 z => ?_⟩
          rw [ratD_rD] at z
          cases z
          refine ⟨td.z.mono (by decide), zf.mono (by decide), ?_⟩
          refine ⟨L0, rn.map (slR L0 f), slR L0 f x, rfl, ok2, hx2, rfl, KN_rD _, fun z => (by rw [ratD_rD] at z; cases z), fun p1 z => ?_⟩
          rw [ratD_rD] at z
          cases z
          refine ⟨fun z => absurd z (Rat.not_lt.mpr tf0), fun _ => ⟨(td.z.mul zf).mono (by decide), ?_⟩⟩
          refine ⟨rfl, rfl, L0, rn, x, rfl, ok1, hx, rfl, td.kn, fun z => (by rw [td.e] at z; cases z), fun p1 z => ?_⟩
          rw [td.e] at z
          cases z
          refine ⟨fun z => absurd z (Rat.not_lt.mpr td.q0), fun _ => ⟨td.z.mono (by decide), ?_⟩⟩
          refine ⟨_, _, rfl, rfl, by rfl, by rfl, ?_⟩
          refine ifB (fun c => ?_) (fun _ => ?_)
          · have c : (!PyData.eqv _ _) = true := c
            rw [eqv_of (show (rowT (t * f) (trk (rem (slR L0 f x).2.1 L0) (slR L0 f x).2.2)).at_ (t * f) = (rowT t (trk (rem x.2.1 L0) x.2.2)).at_ t by rw [tA, tB]; show rem (rem x.2.1 L0) L0 + dist (slowP f x.2.2) (t * f) = _; rw [rem_rem L0p, dist_slow pf])] at c
            cases c
          exact ⟨_, rfl⟩
        · rintro _ ⟨o6, rfl⟩
          exact ⟨_, _, rfl⟩
      · rintro _ ⟨o5, o6, rfl⟩
        have mm : (rn.map (slR L0 f)).map (slR L0 (((1 : Int) : Rat) / f)) = rn.map fun r => slR L0 (((1 : Int) : Rat) / f) (slR L0 f r) := List.map_map
        have ok3 : RaceOk L0 ((rn.map (slR L0 f)).map (slR L0 (((1 : Int) : Rat) / f))) := by
          rw [mm]
          refine ok.map (fun _ => rfl) (fun x hx => ?_) (fun x hx => ?_)
          · show Sz 200 (rem (rem x.2.1 L0) L0)
            rw [rem_rem L0p]
            exact (ok.zr hx).mono (by decide)
          · show PcsM (slowP (1 / f) (slowP f x.2.2))
            rw [slow_back pf]
            exact ok.pc hx
        have s4 := same_race (L0 := L0) (rn := rn) (rm := (rn.map (slR L0 f)).map (slR L0 (((1 : Int) : Rat) / f))) (by rw [mm]; exact keys_map fun _ => rfl) (by
          rw [mm, List.map_map]
          exact List.map_congr_left fun x _ => by
            show trackD (trk (rem (rem (rem x.2.1 L0) L0) L0) (slowP (1 / f) (slowP f x.2.2))) = trackD (trk (rem x.2.1 L0) x.2.2)
            rw [slow_back pf, rem_rem L0p, rem_rem L0p]) ok1.nd
        refine ⟨rfl, rfl, ?_⟩
        refine ⟨(KN_int 1), fun z => (by rw [(show ratD (.int 1) = some ((1 : Int) : Rat) from rfl)] at z; cases z), fun p1 z => ?_⟩
        rw [(show ratD (.int 1) = some ((1 : Int) : Rat) from rfl)] at z
        cases z
        refine ⟨(KN_rD _), fun z => (by rw [ratD_rD] at z; cases z), fun p1 z => ?_⟩
        rw [ratD_rD] at z
        cases z
        refine ⟨z1.mono (by decide), zf.mono (by decide), fun z => absurd z fn, fun _ => ?_⟩
        refine ⟨L0, rn.map (slR L0 f), ((1 : Int) : Rat) / f, rfl, ok2, by rw [names_map (f := slR L0 f) fun _ => rfl]; exact ok.so, KN_rD _, ratD_rD _, pi, zi.mono (by decide), ok3, ?_⟩
        refine ⟨rfl, rfl, .inr ⟨_, _, rfl⟩, L0, _, L0, rn, rfl, rfl, ?_⟩
        refine ifB (fun c => ?_) (fun _ => ?_)
        · rw [s4] at c
          cases c
        have few := chg_few ok
        have few2 : ((rn.map (slR L0 f)).flatMap fun r => (r.2.2.drop 1).map (·.1)).length ≤ 8 := by
          rw [slow_chg, List.length_map]
          exact few
        refine ⟨rfl, rfl, L0, rn.map (slR L0 f), rfl, ok2, few2, fun rs1 h1 => ?_⟩
        refine ⟨rfl, rfl, L0, rn, rfl, ok1, few, fun rs2 h2 => ?_⟩
        have l2 := h2.le
        refine lc_by (fun d => [mulD f d]) (by rw [List.length_map]; omega) (fun d hd acc J j => ?_) ?_
        · obtain ⟨p, hp, rfl⟩ := List.mem_map.mp hd
          have zp : Sz 40 p := by
            obtain ⟨r, hr, hp2⟩ := List.mem_flatMap.mp ((h2.2 p).mp hp)
            obtain ⟨c, hc, rfl⟩ := List.mem_map.mp hp2
            exact ((ok.pc hr).sz c (List.mem_of_mem_drop hc)).1
          rw [show mulD f (rD p) = rD (p * f) from by unfold mulD; rw [ratD_rD]; rfl] at j
          refine ⟨(KN_rD _), fun z => (by rw [ratD_rD] at z; cases z), fun p1 z => ?_⟩
          rw [ratD_rD] at z
          cases z
          refine ⟨(KN_rD _), fun z => (by rw [ratD_rD] at z; cases z), fun p1 z => ?_⟩
          rw [ratD_rD] at z
          cases z
          refine ⟨zp.mono (by decide), zf.mono (by decide), j⟩
        · have e1 : rs1 = rs2.map (· * f) := by
            rw [slow_chg] at h1
            exact h1.uniq (h2.scale pf)
          have e2 : (rs2.map rD).flatMap (fun d => [mulD f d]) = (rs2.map (· * f)).map rD := by
            rw [flat_map, List.map_map, List.map_map]
            exact List.map_congr_left fun p _ => by
              show mulD f (rD p) = rD (p * f)
              unfold mulD
              rw [ratD_rD]
              rfl
          rw [e1, e2]
          refine (rEq_by (f := fun b => b) (sh_rDs _) (sh_rDs _) ?_ : rEqQ (.lst ((rs2.map (· * f)).map rD)) (.lst ((rs2.map (· * f)).map rD)) Qd)
          rw [eqD_rDs]
          exact q
    · exact h.elim⟩)
end
end LR
set_option Elab.async false
set_option linter.all false
set_option maxRecDepth 100000
set_option maxHeartbeats 4000000
/-! LI: len(script) of a law -/
namespace LR
open PySem PySem.Spec PyProof.Rows L2 DL
section
variable {X : Cx} {c : Cn}
def rLenI (K : PySem.W.Frag) : List D → QD → Prop := fun ds Q => match ds with
  | [.is R] => R = isScr K ∧ ∀ n : Nat, n ≤ 63 → Q (.int (n : Int))
  | ds => rLenD ds Q
theorem cd_lenI : CallD X (.builtin "len") (rLenI X.K) := by
  obtain ⟨r0, h0, c0⟩ := (cd_len (X := X)).ex
  refine ⟨_, call_or h0 call_len_seq, fun Z Hs H ds vs Qd Q s i q cn => ?_⟩
  unfold rLenI at q
  split at q
  · obtain ⟨rfl, q⟩ := q
    obtain ⟨v, e, i1⟩ := isA1 i
    subst e
    obtain ⟨a, ns, rfl, hS, hl⟩ := i1 H s
    refine .inr ⟨a, ns.map V.int, rfl, .inl hS, ?_⟩
    rw [List.length_map]
    exact cn (.int _) _ Hs H (.refl s) rfl (q ns.length hl)
  · exact .inl (c0 Z Hs H _ _ Qd Q s i q cn)
end
end LR
set_option Elab.async false
set_option linter.all false
set_option maxRecDepth 100000
set_option maxHeartbeats 4000000
set_option exponentiation.threshold 100000
namespace LR
open PySem PySem.Spec PyProof.Rows L2 DL
section
variable {P : Program} {w : World} {K : PySem.W.Frag} {mg : Str → Option Value} {base : Heap}
/-! ### plain steps of the law -/
theorem lc_at {items out : List DL.D} {p : Pat} {vs : List Nat} {ss : List Sl} {tt : TTD} {te : TD} {Ed : QE} {Q : List DL.D → Prop} (hl : out.length = items.length) (small : items.length ≤ 1000)
    (turn : ∀ (i : Nat) (d y : DL.D), items[i]? = some d → out[i]? = some y → ∀ (acc : List DL.D) (J : List DL.D → Prop), J (acc ++ [y]) → p.gd d (wipeD ss vs) fun ss2 => tt ss2 (fun b => if b = true then te ss2 (fun y => J (acc ++ [y])) Ed else J acc) Ed) (fin : Q out) :
    items.length < sizeLine ∧ ∃ I : Nat → List DL.D → Prop, I 0 [] ∧
  (∀ i d acc, items[i]? = some d → I i acc → p.gd d (wipeD ss vs) fun ss2 => tt ss2 (fun b => if b = true then te ss2 (fun y => I (i + 1) (acc ++ [y])) Ed else I (i + 1) acc) Ed) ∧ ∀ acc, I items.length acc → Q acc := by
  refine ⟨small1000 small, fun i acc => acc = out.take i, rfl, fun i d acc hd e => ?_, fun acc e => ?_⟩
  · subst e
    have il := (List.getElem?_eq_some_iff.mp hd).1
    have h1 : out[i]? = some out[i] := List.getElem?_eq_getElem (by omega)
    exact turn i d out[i] hd h1 _ (fun acc => acc = out.take (i + 1)) (by rw [List.take_add_one, h1]; rfl)
  · rw [e, List.take_of_length_le (by omega)]
    exact fin
theorem lc_rn {rn : List Rnr} {a F : Rnr → DL.D} {items : List DL.D} {p : Pat} {vs : List Nat} {ss : List Sl} {tt : TTD} {te : TD} {Ed : QE} {Q : List DL.D → Prop} (hi : items = rn.map a) (small : rn.length ≤ 12)
    (turn : ∀ r ∈ rn, ∀ (acc : List DL.D) (J : List DL.D → Prop), J (acc ++ [F r]) → p.gd (a r) (wipeD ss vs) fun ss2 => tt ss2 (fun b => if b = true then te ss2 (fun y => J (acc ++ [y])) Ed else J acc) Ed) (fin : Q (rn.map F)) :
    items.length < sizeLine ∧ ∃ I : Nat → List DL.D → Prop, I 0 [] ∧
  (∀ i d acc, items[i]? = some d → I i acc → p.gd d (wipeD ss vs) fun ss2 => tt ss2 (fun b => if b = true then te ss2 (fun y => I (i + 1) (acc ++ [y])) Ed else I (i + 1) acc) Ed) ∧ ∀ acc, I items.length acc → Q acc := by
  subst hi
  refine lc_at (out := rn.map F) (by rw [List.length_map, List.length_map]) (by rw [List.length_map]; omega) (fun i d y hd hy acc J j => ?_) fin
  rw [List.getElem?_map] at hd hy
  obtain ⟨r, hr, rfl⟩ := Option.map_eq_some_iff.mp hd
  rw [hr] at hy
  cases hy
  exact turn r (List.mem_of_getElem? hr) acc J j
theorem items_map {k : Rnr → Key} {F : Rnr → DL.D} : ∀ rn : List Rnr, itemsDD (rn.map k) (rn.map F) = rn.map fun r => .tup [kvD (k r), F r]
  | [] => rfl
  | r :: rn => congrArg (DL.D.tup [kvD (k r), F r] :: ·) (items_map rn)
abbrev nmD (r : Rnr) : DL.D := .str r.1
def notD (z : Str) : DL.D → List DL.D
  | .str x => if x = z then [] else [.str x]
  | d => [d]
theorem not_less {z : Str} : ∀ rn : List Rnr, (rn.map nmD).flatMap (notD z) = (lessR z rn).map nmD
  | [] => rfl
  | r :: rn => by
    rw [List.map_cons, List.flatMap_cons, not_less rn]
    show (if r.1 = z then [] else [DL.D.str r.1]) ++ _ = _
    unfold lessR
    rw [List.filter_cons]
    by_cases e : r.1 = z
    · rw [if_pos e, if_neg (show ¬ decide (r.1 ≠ z) = true by simp [e])]
      rfl
    · rw [if_neg e, if_pos (show decide (r.1 ≠ z) = true by simp [e])]
      rfl
theorem sh_strs {l : List Rnr} {g : Str → Str} (h : ∀ r ∈ l, PyData.canLay0 (.str (g r.1)) = true) : shD 60 (.lst (l.map fun r => .str (g r.1))) = true := by
  show (l.map fun r => DL.D.str (g r.1)).all (shD 59) = true
  rw [List.all_map, List.all_eq_true]
  exact fun r hr => h r hr
theorem eqD_str (z : Str) : eqD (.str z) (.str z) = true := by
  show (z == z) = true
  exact beq_self_eq_true z
theorem eqD_strs (l : List Rnr) (g : Str → Str) : eqD (.lst (l.map fun r => .str (g r.1))) (.lst (l.map fun r => .str (g r.1))) = true := by
  show eqDA _ _ = true
  exact eqDA_self fun x hx => by
    obtain ⟨c, _, rfl⟩ := List.mem_map.mp hx
    exact eqD_str _
theorem sh_pl (l : List Rnr) : shD 60 (.lst (l.map fun r => .lst (r.2.2.map pieceD))) = true := by
  show (l.map fun r => DL.D.lst (r.2.2.map pieceD)).all (shD 59) = true
  rw [List.all_map, List.all_eq_true]
  exact fun r _ => by
    show (r.2.2.map pieceD).all (shD 58) = true
    rw [List.all_map, List.all_eq_true]
    exact fun x _ => rfl
theorem eqD_pl (l : List Rnr) : eqD (.lst (l.map fun r => .lst (r.2.2.map pieceD))) (.lst (l.map fun r => .lst (r.2.2.map pieceD))) = true := by
  show eqDA _ _ = true
  exact eqDA_self fun x hx => by
    obtain ⟨c, _, rfl⟩ := List.mem_map.mp hx
    exact eqD_pcs _
theorem same_data {x : DL.D} (h : shD 60 x = true) (e : eqD x x = true) : ∃ A, py x = some A ∧ SeqAt.shaped A = true ∧ PyData.eqv A A = true := by
  obtain ⟨A, h1, h2⟩ := shaped_of h
  exact ⟨A, h1, h2, (eqD_py h1 h1).trans e⟩
abbrev gN (z : Str) : Str := if z = "a" then "z" else if z = "b" then "y1" else "x"
abbrev hN (z : Str) : Str := if z = "z" then "a" else if z = "y1" then "b" else "c"
abbrev gD (r : Rnr) : DL.D := .str (gN r.1)
abbrev gS (r : Rnr) : Str := gN r.1
abbrev ns3 : List Str := ["a", "b", "c"]
structure GoodN (z : Str) : Prop where
  back : hN (gN z) = z
  nm : NameOk z
  gm : NameOk (gN z)
  c : PyData.canLay0 (.str z) = true
  gc : PyData.canLay0 (.str (gN z)) = true
theorem good3 : ∀ z ∈ ns3, GoodN z := by
  intro z hz
  simp only [List.mem_cons, List.not_mem_nil, or_false] at hz
  rcases hz with rfl | rfl | rfl
  · exact ⟨by decide +kernel, ns4_ok _ (by decide +kernel), ⟨by decide +kernel, by decide +kernel, by decide +kernel, by decide +kernel, by decide +kernel, 122, by decide +kernel, by decide +kernel⟩, by decide +kernel, by decide +kernel⟩
  · exact ⟨by decide +kernel, ns4_ok _ (by decide +kernel), ⟨by decide +kernel, by decide +kernel, by decide +kernel, by decide +kernel, by decide +kernel, 121, by decide +kernel, by decide +kernel⟩, by decide +kernel, by decide +kernel⟩
  · exact ⟨by decide +kernel, ns4_ok _ (by decide +kernel), ⟨by decide +kernel, by decide +kernel, by decide +kernel, by decide +kernel, by decide +kernel, 120, by decide +kernel, by decide +kernel⟩, by decide +kernel, by decide +kernel⟩
theorem at3 {i : Nat} {z : Str} (h : ns3[i]? = some z) : ([.str "z", .str "y1", .str "x"] : List DL.D)[i]? = some (.str (gN z)) := by
  match i, h with
  | 0, h => cases h; exact congrArg (fun z => some (DL.D.str z)) (show ("z" : Str) = gN "a" by decide +kernel)
  | 1, h => cases h; exact congrArg (fun z => some (DL.D.str z)) (show ("y1" : Str) = gN "b" by decide +kernel)
  | 2, h => cases h; exact congrArg (fun z => some (DL.D.str z)) (show ("x" : Str) = gN "c" by decide +kernel)
  | i + 3, h => cases h
theorem PcsM.nn {cs : List (Rat × Rat)} (h : PcsM cs) {c : Rat × Rat} (m : c ∈ cs) : 0 ≤ c.1 := by
  cases cs with
  | nil => cases m
  | cons d cs =>
    have z := h.zero
    have a := h.asc
    rw [List.map_cons] at z a
    have z0 : d.1 = 0 := Option.some.inj z
    rcases List.mem_cons.mp m with e | m
    · rw [e, z0]
      exact Rat.le_refl
    · have := (List.pairwise_cons.mp a).1 c.1 (List.mem_map_of_mem m)
      rw [z0] at this
      exact Rat.le_of_lt this
theorem times_of : ∀ {rs : List Rat}, (∀ r ∈ rs, 0 ≤ r ∧ Sz 40 r) → A2 TimeD (rs.map rD) rs
  | [], _ => trivial
  | r :: rs, h => ⟨⟨KN_rD _, ratD_rD r, (h r List.mem_cons_self).1, (h r List.mem_cons_self).2⟩, times_of fun x hx => h x (List.mem_cons_of_mem _ hx)⟩
theorem chg_time {L0 : Rat} {rn : List Rnr} (h : RaceB L0 rn) {rs : List Rat} (g : InOrder (rn.flatMap fun r => (r.2.2.drop 1).map (·.1)) rs) : ∀ r ∈ rs, 0 ≤ r ∧ Sz 40 r := by
  intro p hp
  obtain ⟨r, hr, hp2⟩ := List.mem_flatMap.mp ((g.2 p).mp hp)
  obtain ⟨c, hc, rfl⟩ := List.mem_map.mp hp2
  have hc := List.mem_of_mem_drop hc
  exact ⟨(h.pc hr).nn hc, ((h.pc hr).sz c hc).1⟩
theorem RaceB.less {L0 : Rat} {rn : List Rnr} (h : RaceB L0 rn) (tw : 2 ≤ rn.length) (z : Str) : RaceOk L0 ((lessR z rn).map (bsR L0)) := by
  have hs : (lessR z rn).Sublist rn := List.filter_sublist
  have nd := h.ok.nd
  have l1 : 1 ≤ (lessR z rn).length := by
    match rn, tw, nd with
    | x :: y :: t, _, nd =>
      have ne : x.1 ≠ y.1 := fun e => by
        rw [List.map_cons, List.map_cons, e] at nd
        exact (List.nodup_cons.mp nd).1 List.mem_cons_self
      by_cases e : x.1 = z
      · exact List.length_pos_of_mem (a := y) (List.mem_filter.mpr ⟨List.mem_cons_of_mem _ List.mem_cons_self, decide_eq_true fun k => ne (e.trans k.symm)⟩)
      · exact List.length_pos_of_mem (a := x) (List.mem_filter.mpr ⟨List.mem_cons_self, decide_eq_true e⟩)
  have hb : RaceB L0 (lessR z rn) := ⟨⟨h.ok.L0p, h.ok.zL, nd.sublist (hs.map _), l1, Nat.le_trans hs.length_le h.ok.le, fun r hr => h.ok.ok r (hs.subset hr)⟩, h.zL, fun r hr => h.rb r (hs.subset hr), less_sorted h.so, Nat.le_trans hs.length_le h.le4⟩
  exact hb.map (fun _ => rfl) (fun x hx => (hb.zr hx).mono (by decide)) (fun x hx => (hb.pc hx : PcsM x.2.2))
theorem RaceB.ren {L0 : Rat} {rn : List Rnr} (h : RaceB L0 rn) (g : ∀ r ∈ rn, GoodN r.1) : RaceOk L0 (rn.map (rnmR L0 gN)) where
  L0p := h.ok.L0p
  zL := h.ok.zL
  nd := by
    rw [List.map_map]
    have e : (rn.map ((·.1) ∘ rnmR L0 gN)).map hN = rn.map (·.1) := by
      rw [List.map_map]
      exact List.map_congr_left fun r hr => (g r hr).back
    have nd := h.ok.nd
    rw [← e] at nd
    exact List.Pairwise.of_map hN (fun a b k z => k (congrArg hN z)) nd
  ne := by rw [List.length_map]; exact h.ok.ne
  le := by rw [List.length_map]; exact h.ok.le
  ok := fun r' hr' => by
    obtain ⟨r, hr, rfl⟩ := List.mem_map.mp hr'
    have zr : Sz 300 (rem (rem r.2.1 L0) L0) := by
      rw [rem_rem h.ok.L0p]
      exact (h.zr hr).mono (by decide)
    exact ⟨(g r hr).gm, (h.zr hr).mono (by decide), zr, (h.pc hr).ok zr⟩
end
end LR
set_option Elab.async false
set_option linter.all false
set_option maxRecDepth 100000
set_option maxHeartbeats 4000000
set_option exponentiation.threshold 100000
namespace LR
open PySem PySem.Spec PyProof.Rows L2 DL
section
variable {P : Program} {w : World} {K : PySem.W.Frag} {mg : Str → Option Value} {base : Heap}
/-! ### the law -/
theorem ok_law {f fd CR} (D : DefAt K mg "law" s_law ["script"] f fd) (m_range : mg "range" = none) (m_max : mg "max" = none) (m_min : mg "min" = none) (m_len : mg "len" = none) (m_dict : mg "dict" = none) (m_sorted : mg "sorted" = none) (G_law_pool : PoolDef P w K mg base) (G_law_draw : DefD P w K mg base "_law_draw" 1 sdDraw) (G_law_race : DefD P w K mg base "_law_race" 9 (sdLRace CR)) (G_law_choose : DefD P w K mg base "_law_choose" 2 sdChoose) (G_law_number : DefD P w K mg base "_law_number" 3 sdNum)
    (G_law_check_change : DefD P w K mg base "_law_check_change" 10 (sdChk CR)) (G_law_check_turned : DefD P w K mg base "_law_check_turned" 10 (sdChk CR)) (G_law_check_slowed : DefD P w K mg base "_law_check_slowed" 10 (sdChk CR)) (I_Race : DefI P w K mg base "Race" CR 6 sdInit) (Q_Race : DefEq P w K mg base CR NS 2 (sdREq CR))
    (M_Race_names : DefMF P w K mg base CR NS "names" 1 (sdNames CR)) (M_Race_start : DefM P w K mg base CR NS "start" 4 (sdStart CR)) (M_Race_pieces : DefMF P w K mg base CR NS "pieces" 4 (sdPieces CR)) (M_Race_change_times : DefM P w K mg base CR NS "change_times" 5 (sdChT CR)) (M_Race_without : DefM P w K mg base CR NS "without" 9 (sdLessR CR)) (M_Race_renamed : DefM P w K mg base CR NS "renamed" 9 (sdRnm CR)) (P_Race_length : DefP P w K mg base CR NS "length" 1 (sdLength CR)) (M_Race_len : DefM P w K mg base CR NS "__len__" 1 (sdRLen CR)) : FnOk P w K mg base (L2.CX P w) 11 f fd ["script"] (spD K (sdLaw K)) :=
  fnD D.F sc_law (fun as Q E h => sdLaw_len as Q E h) fun cdv A outer s H E c hr b => ⟨_, (dss_cons (d_for (passes_of rfl) rfl (di_rng1 m_range (da_cons (d_callB (cd_max2 rfl) m_max (da_cons d_int (da_cons (d_callB (cd_min2 rfl) m_min (da_cons (d_callB cd_lenI m_len (da_name (pv 0) da_nil)) (da_cons d_int da_nil))) da_nil))) da_nil)) (dg_name (pg_name (i := 1) sc_law.nd rfl (.inl rfl)))
      (dss_cons (d_newPool (i := 2) G_law_pool (hr.mono (by decide)) (d_var (pv 0)) (d_var (pv 1)) sc_law.nd rfl (.inl rfl))
      (dss_cons (d_asg (d_cN G_law_race (hr.mono (by decide)) (da_name (pv 2) (da_cons (d_op od_addA d_int (d_cN G_law_draw (hr.mono (by decide)) (da_name (pv 2) (da_cons d_int da_nil)))) da_nil))) (dg_name (pg_name (i := 3) sc_law.nd rfl (.inr rfl))))
      (dss_cons (d_asg (d_mkN I_Race (hr.mono (by decide)) (da_cons (d_prop P_Race_length (hr.mono (by decide)) (d_var (pv 3))) (da_cons (d_ofM (do_dictP rfl m_dict (d_ofO (do_lc (own := [("name", 4)]) (p := .n 4) rfl sc_law.nd (di_seq (d_ofO (do_m0 M_Race_names (hr.mono (by decide)) (d_var (pv 3))))) (blkOk_by (N := N_law) (sc := defScope s_law) (by decide +kernel)) (fun _ _ _ _ _ => (dg_name (pg_name (i := 4) sc_law.nd rfl (.inl rfl)))) (fun _ _ _ _ _ => dts_nil) (fun _ _ _ _ _ => (d_tup (da_name (pv 4) (da_cons (d_tup (da_cons (d_mN M_Race_start (hr.mono (by decide)) (d_var (pv 3)) (da_name (pv 4) da_nil)) (da_cons (d_mN M_Race_pieces.toM (hr.mono (by decide)) (d_var (pv 3)) (da_name (pv 4) da_nil)) da_nil))) da_nil)))))))) da_nil))) (dg_name (pg_name (i := 5) sc_law.nd rfl (.inl rfl))))
      (dss_cons (d_asg (d_op od_addA (d_lst (da_cons d_int (da_cons d_int (da_cons (d_tup (da_cons d_int (da_cons d_int da_nil))) (da_cons d_int (da_cons (d_cN G_law_number (hr.mono (by decide)) (da_name (pv 2) (da_cons d_int (da_cons d_int da_nil)))) da_nil)))))) (d_m0N M_Race_change_times (hr.mono (by decide)) (d_var (pv 3)))) (dg_name (pg_name (i := 6) sc_law.nd rfl (.inl rfl))))
      (dss_cons (d_ifS (dt_not (dt_val (d_cN G_law_check_change (hr.mono (by decide)) (da_name (pv 2) (da_name (pv 3) (da_name (pv 6) da_nil))))))
      (dss_one (d_ret d_bl))
      dss_nil)
      (dss_cons (d_ifS (dt_not (dt_val (d_cN G_law_check_turned (hr.mono (by decide)) (da_name (pv 2) (da_name (pv 3) (da_name (pv 6) da_nil))))))
      (dss_one (d_ret d_bl))
      dss_nil)
      (dss_cons (d_ifS (dt_not (dt_val (d_cN G_law_check_slowed (hr.mono (by decide)) (da_name (pv 2) (da_name (pv 3) (da_name (pv 6) da_nil))))))
      (dss_one (d_ret d_bl))
      dss_nil)
      (dss_cons (d_asg (d_cN G_law_choose (hr.mono (by decide)) (da_name (pv 2) (da_cons (d_ofO (do_m0 M_Race_names (hr.mono (by decide)) (d_var (pv 3)))) da_nil))) (dg_name (pg_name (i := 4) sc_law.nd rfl (.inr rfl))))
      (dss_cons (d_setLc (i := 8) (own := [("other", 7)]) (p := .n 7) rfl sc_law.nd rfl rfl (sw_true rfl rfl rfl (by decide +kernel)) (di_seq (d_ofO (do_m0 M_Race_names (hr.mono (by decide)) (d_var (pv 3))))) (blkOk_by (N := N_law) (sc := defScope s_law) (by decide +kernel)) (fun _ _ _ _ _ => (dg_name (pg_name (i := 7) sc_law.nd rfl (.inl rfl)))) (fun _ _ _ _ _ => (dts_one (dt_cmp (od_ne hr.units) (d_var (pv 7)) (d_var (pv 4))))) (fun _ _ _ _ _ => (d_var (pv 7))))
      (dss_cons (d_asg (d_mN M_Race_without (hr.mono (by decide)) (d_var (pv 3)) (da_name (pv 4) da_nil)) (dg_name (pg_name (i := 9) sc_law.nd rfl (.inr rfl))))
      (dss_cons (d_ifS (dt_cmp (od_ne hr.units) (d_ofO (do_m0 M_Race_names (hr.mono (by decide)) (d_var (pv 9)))) (d_var (pv 8)))
      (dss_one (d_ret d_bl))
      dss_nil)
      (dss_cons (d_ifS (dt_cmp (od_ne hr.units) (d_ofO (do_lc (own := [("other", 7)]) (p := .n 7) rfl sc_law.nd (di_seq (d_var (pv 8))) (blkOk_by (N := N_law) (sc := defScope s_law) (by decide +kernel)) (fun _ _ _ _ _ => (dg_name (pg_name (i := 7) sc_law.nd rfl (.inl rfl)))) (fun _ _ _ _ _ => dts_nil) (fun _ _ _ _ _ => (d_mN M_Race_pieces.toM (hr.mono (by decide)) (d_var (pv 9)) (da_name (pv 7) da_nil))))) (d_ofO (do_lc (own := [("other", 7)]) (p := .n 7) rfl sc_law.nd (di_seq (d_var (pv 8))) (blkOk_by (N := N_law) (sc := defScope s_law) (by decide +kernel)) (fun _ _ _ _ _ => (dg_name (pg_name (i := 7) sc_law.nd rfl (.inl rfl)))) (fun _ _ _ _ _ => dts_nil) (fun _ _ _ _ _ => (d_mN M_Race_pieces.toM (hr.mono (by decide)) (d_var (pv 3)) (da_name (pv 7) da_nil))))))
      (dss_one (d_ret d_bl))
      dss_nil)
      (dss_cons (d_asg (d_ofM (do_dictP rfl m_dict (d_ofO (do_lc (own := [("at", 12)]) (p := .n 12) rfl sc_law.nd (di_rng1 m_range (da_cons (d_callB (cd_lenOwn M_Race_len (hr.mono (by decide))) m_len (da_name (pv 3) da_nil)) da_nil)) (blkOk_by (N := N_law) (sc := defScope s_law) (by decide +kernel)) (fun _ _ _ _ _ => (dg_name (pg_name (i := 12) sc_law.nd rfl (.inl rfl)))) (fun _ _ _ _ _ => dts_nil) (fun _ _ _ _ _ => (d_tup (da_cons (d_ix ixd (d_ofO (do_m0 M_Race_names (hr.mono (by decide)) (d_var (pv 3)))) (d_var (pv 12))) (da_cons (d_ix ixd (d_lst (da_cons d_str (da_cons d_str (da_cons d_str da_nil)))) (d_var (pv 12))) da_nil)))))))) (dg_name (pg_name (i := 10) sc_law.nd rfl (.inr rfl))))
      (dss_cons (d_asg (d_mN M_Race_renamed (hr.mono (by decide)) (d_var (pv 3)) (da_name (pv 10) da_nil)) (dg_name (pg_name (i := 7) sc_law.nd rfl (.inl rfl))))
      (dss_cons (d_for (passes_of rfl) rfl (di_seq (d_ofO (do_m0 M_Race_names (hr.mono (by decide)) (d_var (pv 3))))) (dg_name (pg_name (i := 4) sc_law.nd rfl (.inr rfl)))
      (dss_cons (d_ifS (dt_cmp (od_ne hr.units) (d_mN M_Race_start (hr.mono (by decide)) (d_var (pv 7)) (da_cons (d_dget (hu_of hr) (d_var (pv 10)) (d_var (pv 4))) da_nil)) (d_mN M_Race_start (hr.mono (by decide)) (d_var (pv 3)) (da_name (pv 4) da_nil)))
      (dss_one (d_ret d_bl))
      dss_nil)
      (dss_one (d_ifS (dt_cmp (od_ne hr.units) (d_mN M_Race_pieces.toM (hr.mono (by decide)) (d_var (pv 7)) (da_cons (d_dget (hu_of hr) (d_var (pv 10)) (d_var (pv 4))) da_nil)) (d_mN M_Race_pieces.toM (hr.mono (by decide)) (d_var (pv 3)) (da_name (pv 4) da_nil)))
      (dss_one (d_ret d_bl))
      dss_nil))))
      (dss_cons (d_asg (d_mN M_Race_renamed (hr.mono (by decide)) (d_var (pv 7)) (da_cons (d_ofM (do_dictP rfl m_dict (d_ofO (do_lc (own := [("name", 4)]) (p := .n 4) rfl sc_law.nd (di_keys (d_var (pv 10))) (blkOk_by (N := N_law) (sc := defScope s_law) (by decide +kernel)) (fun _ _ _ _ _ => (dg_name (pg_name (i := 4) sc_law.nd rfl (.inl rfl)))) (fun _ _ _ _ _ => dts_nil) (fun _ _ _ _ _ => (d_tup (da_cons (d_dget (hu_of hr) (d_var (pv 10)) (d_var (pv 4))) (da_name (pv 4) da_nil)))))))) da_nil)) (dg_name (pg_name (i := 11) sc_law.nd rfl (.inl rfl))))
      (dss_cons (d_ifS (PW.pt (dw_or (dt_cmp (od_neOwn Q_Race (hr.mono (by decide))) (d_var (pv 11)) (d_var (pv 3))) (dw_or1 (dt_cmp (od_neOwn Q_Race (hr.mono (by decide))) (d_var (pv 3)) (d_var (pv 5))))))
      (dss_one (d_ret d_bl))
      dss_nil)
      (dss_one (d_ifS (dt_cmp (od_ne hr.units) (d_ofO (do_m0 M_Race_names (hr.mono (by decide)) (d_var (pv 7)))) (d_callB cd_sortedS m_sorted (da_cons (d_ofO (do_lc (own := [("name", 4)]) (p := .n 4) rfl sc_law.nd (di_keys (d_var (pv 10))) (blkOk_by (N := N_law) (sc := defScope s_law) (by decide +kernel)) (fun _ _ _ _ _ => (dg_name (pg_name (i := 4) sc_law.nd rfl (.inl rfl)))) (fun _ _ _ _ _ => dts_nil) (fun _ _ _ _ _ => (d_dget (hu_of hr) (d_var (pv 10)) (d_var (pv 4)))))) da_nil)))
      (dss_one (d_ret d_bl))
      dss_nil))))))))))))))))))))
      (dss_one (d_ret d_bl))), fun as Qd Ed h => by
    unfold sdLaw at h
    split at h
    · rename_i R
      obtain ⟨rfl, q⟩ := h
      refine ⟨rfl, fun n hn => ?_⟩
      have tb : ∀ n : Nat, (1 : Int) ≤ (if (if (8 : Int) < n then (8 : Int) else n) > 1 then (if (8 : Int) < n then (8 : Int) else n) else 1) ∧ (if (if (8 : Int) < n then (8 : Int) else n) > 1 then (if (8 : Int) < n then (8 : Int) else n) else 1) ≤ 8 := fun n => by
        split <;> (try split) <;> omega
      have tn := tb n
      refine ⟨⟨Int.le_trans (by decide) tn.1, Int.lt_of_le_of_lt tn.2 (by decide)⟩, ?_⟩
      refine ⟨fun i ss => ∃ o1 o2 o3 o4 o5 o6 o7 o8 o9 o10 o11 o12 : Sl, ss = [.d (.is (isScr K)), o1, o2, o3, o4, o5, o6, o7, o8, o9, o10, o11, o12], ⟨_, _, _, _, _, _, _, _, _, _, _, _, rfl⟩, ?_, fun _ _ => q⟩
      rintro i d _ hd ⟨o1, o2, o3, o4, o5, o6, o7, o8, o9, o10, o11, o12, rfl⟩
      obtain ⟨il, rfl⟩ := rngD_get hd
      have i8 : i < 8 := Nat.lt_of_lt_of_le il (Int.toNat_le.mpr tn.2)
      refine ⟨rfl, by omega, by omega, ?_⟩
      refine ⟨drw (b := 20) (by decide) (by decide), fun d d0 d1 => ?_⟩
      refine ⟨by omega, by omega, fun L0 rn ok1 zL hB pm so => ?_⟩
      have hn : rn.map (·.1) = ns4.take (2 + d).toNat := sorted_one so (by
        rcases (show (2 + d).toNat = 2 ∨ (2 + d).toNat = 3 by omega) with e | e <;> (rw [e]; decide +kernel)) pm
      have hl : rn.length = (2 + d).toNat := by
        have := congrArg List.length hn
        rw [List.length_map, List.length_take] at this
        rw [this]
        show min _ 4 = _
        omega
      have h3 : rn.map (·.1) = ns3.take rn.length := by
        rw [hn, hl]
        rcases (show (2 + d).toNat = 2 ∨ (2 + d).toNat = 3 by omega) with e | e <;> rw [e] <;> rfl
      have l2 : 2 ≤ rn.length := by omega
      have l3 : rn.length ≤ 3 := by omega
      have ok : RaceB L0 rn := ⟨ok1, zL, hB, so, by omega⟩
      have gd : ∀ r ∈ rn, GoodN r.1 := fun r hr => good3 r.1 (by
        have : r.1 ∈ rn.map (·.1) := List.mem_map_of_mem hr
        rw [h3] at this
        exact List.mem_of_mem_take this)
      have L0p := ok1.L0p
      clear hB pm hn hl hd
      refine ⟨rfl, rfl, L0, rn, rfl, ?_⟩
      refine ⟨rfl, rfl, L0, rn, rfl, ?_⟩
      refine lc_rn (rn := rn) (a := nmD) (F := fun r => .tup [nmD r, rnD L0 r]) rfl (by omega) (fun r hr acc J j => ?_) ?_
      · refine ⟨rfl, rfl, L0, rn, r, rfl, ok1, hr, rfl, ?_⟩
        refine ⟨rfl, rfl, L0, rn, r, rfl, ok1, hr, rfl, ?_⟩
        exact j
      refine ⟨rn.map keyR, rn.map (rnD L0), by rw [List.length_map, List.length_map], (items_map (k := keyR) (F := rnD L0) rn).symm, keys_nd ok1.nd, rfl, ?_⟩
      have okb : RaceOk L0 (rn.map (bsR L0)) := ok.map (fun _ => rfl) (fun x hx => (ok.zr hx).mono (by decide)) (fun x hx => (ok.pc hx : PcsM x.2.2))
      refine ⟨L0, rn.map (bsR L0), KN_rD _, ratD_rD _, okb, (keys_map (f := bsR L0) fun _ => rfl).symm, runs_map fun x hx => rnD_run L0 x, fun rs1 pr1 so1 => ?_⟩
      have e1 := runners_one pr1 so1 (by rw [names_map (f := bsR L0) fun _ => rfl]; exact so) okb.nd
      subst e1
      refine ⟨by decide, by decide, by decide, fun v p kv ev zv pv => ?_⟩
      have few := chg_few ok
      refine ⟨rfl, rfl, L0, rn, rfl, ok1, few, fun ts1 ht1 => ?_⟩
      have lt1 := ht1.le
      refine ⟨Nat.le_trans (show _ ≤ 13 by rw [List.length_map]; show 5 + _ ≤ 13; omega) (by decide), ?_⟩
      have it : ∀ i : Int, 0 ≤ i → i < 100 → TimeD (.int i) (i : Rat) := fun i h1 h2 => ⟨KN_int i, rfl, by exact_mod_cast h1, Sz.int (by decide) (by omega)⟩
      have hT : A2 TimeD (([.int 0, .int 1, .tup [.int 5, .int 2], .int 30, v] : List DL.D) ++ ts1.map rD) (((0 : Int) : Rat) :: ((1 : Int) : Rat) :: Rat.divInt 5 2 :: ((30 : Int) : Rat) :: p :: ts1) := by
        refine ⟨it 0 (by decide) (by decide), it 1 (by decide) (by decide), ⟨⟨⟨_, rfl, by decide⟩, ⟨_, rfl, by decide⟩⟩, by decide +kernel, ?_, (sz_small (by decide) (by decide) (by decide) : Sz 12 _).mono (by decide)⟩, it 30 (by decide) (by decide), ⟨kv, ev, pv (by decide), zv.mono (by decide)⟩, times_of (chg_time ok ht1)⟩
        rw [Rat.divInt_eq_div]
        decide +kernel
      refine ⟨L0, rn, _, rfl, ok, hT, ?_⟩
      refine ifB (fun c => by cases c) (fun _ => ?_)
      refine ⟨L0, rn, _, rfl, ok, hT, ?_⟩
      refine ifB (fun c => by cases c) (fun _ => ?_)
      refine ⟨L0, rn, _, rfl, ok, hT, ?_⟩
      refine ifB (fun c => by cases c) (fun _ => ?_)
      clear hT it lt1 few
      refine ⟨rfl, rfl, L0, rn, rfl, ?_⟩
      refine ⟨by rw [List.length_map]; omega, by rw [List.length_map]; omega, fun x hx => ?_⟩
      obtain ⟨r, hr, rfl⟩ := List.mem_map.mp hx
      refine ⟨rfl, rfl, L0, rn, rfl, ?_⟩
      refine lc_by (notD r.1) (by rw [List.length_map]; omega) (fun d hd acc J j => ?_) ?_
      · obtain ⟨x, hx, rfl⟩ := List.mem_map.mp hd
        refine ifN (fun c => ?_) (fun c => ?_)
        · have j : J (acc ++ if x.1 = r.1 then [] else [DL.D.str x.1]) := j
          rw [if_neg c] at j
          exact j
        · have j : J (acc ++ if x.1 = r.1 then [] else [DL.D.str x.1]) := j
          rw [if_pos c, List.append_nil] at j
          exact j
      rw [show (rn.map fun r => DL.D.str r.1) = rn.map nmD from rfl, not_less]
      have okl := ok.less l2 r.1
      have ll := List.length_filter_le (fun x : Rnr => decide (x.1 ≠ r.1)) rn
      have lsub : ∀ x ∈ lessR r.1 rn, x ∈ rn := fun x hx => List.filter_sublist.subset hx
      have ll : (lessR r.1 rn).length ≤ 3 := by unfold lessR; omega
      refine ⟨rfl, rfl, L0, rn, r, rfl, ok1, so, hr, rfl, okl, ?_⟩
      refine ⟨rfl, rfl, L0, _, rfl, ?_⟩
      have en : (((lessR r.1 rn).map (bsR L0)).map fun r => DL.D.str r.1) = (lessR r.1 rn).map nmD := by
        rw [List.map_map]
        rfl
      rw [en]
      obtain ⟨A, a1, a2, a3⟩ := same_data (x := .lst ((lessR r.1 rn).map nmD)) (sh_strs (g := fun z => z) fun x hx => (gd x (lsub x hx)).c) (eqD_strs _ fun z => z)
      refine ⟨A, A, a1, a1, a2, a2, ?_⟩
      refine ifB (fun c => ?_) (fun _ => ?_)
      · have c : (!PyData.eqv A A) = true := c
        rw [a3] at c
        cases c
      refine lc_rn (rn := lessR r.1 rn) (a := nmD) (F := fun r => .lst (r.2.2.map pieceD)) rfl (by omega) (fun x hx acc J j => ?_) ?_
      · exact ⟨rfl, rfl, L0, _, bsR L0 x, rfl, okl, List.mem_map_of_mem hx, rfl, j⟩
      refine lc_rn (rn := lessR r.1 rn) (a := nmD) (F := fun r => .lst (r.2.2.map pieceD)) rfl (by omega) (fun x hx acc J j => ?_) ?_
      · exact ⟨rfl, rfl, L0, _, x, rfl, ok1, lsub x hx, rfl, j⟩
      obtain ⟨A, a1, a2, a3⟩ := same_data (sh_pl (lessR r.1 rn)) (eqD_pl _)
      refine ⟨A, A, a1, a1, a2, a2, ?_⟩
      refine ifB (fun c => ?_) (fun _ => ?_)
      · have c : (!PyData.eqv A A) = true := c
        rw [a3] at c
        cases c
      refine ⟨rfl, rfl, L0, rn, rfl, ?_⟩
      refine ⟨rn.length, rfl, by omega, ⟨by omega, by omega⟩, ?_⟩
      refine lc_at (out := rn.map fun r => .tup [nmD r, gD r]) (by rw [List.length_map, rngD_len]; omega) (by rw [rngD_len]; omega) (fun i d y hd hy acc J j => ?_) ?_
      · obtain ⟨_, rfl⟩ := rngD_get hd
        rw [List.getElem?_map] at hy
        obtain ⟨x, hx, rfl⟩ := Option.map_eq_some_iff.mp hy
        have i1 : (0 : Int) + (i : Int) = (i : Int) := by omega
        have h5 : ns3[i]? = some x.1 := by
          have e : (rn.map (·.1))[i]? = some x.1 := by rw [List.getElem?_map, hx]; rfl
          have il := (List.getElem?_eq_some_iff.mp hx).1
          rw [h3, List.getElem?_take_of_lt il] at e
          exact e
        rw [i1]
        refine ⟨rfl, rfl, L0, rn, rfl, ?_⟩
        refine ixN_nat (x := nmD x) (by rw [List.getElem?_map, hx]; rfl) ?_
        exact ixN_nat (at3 h5) j
      refine ⟨rn.map keyR, rn.map gD, by rw [List.length_map, List.length_map], (items_map (k := keyR) (F := gD) rn).symm, keys_nd ok1.nd, rfl, ?_⟩
      have okr := ok.ren gd
      have ndr := okr.nd
      rw [List.map_map] at ndr
      have gt : ∀ x ∈ rn, lookD (rn.map keyR) (rn.map gD) (keyR x) = some (gD x) := fun x hx => look_map (f := gD) (keys_nd ok1.nd) hx
      refine ⟨rfl, rfl, L0, rn, rn.map gS, gN, rfl, ok1, by rw [List.length_map], fun k hk => ?_, by rw [List.map_map]; rfl, by rw [List.length_map], fun n hn => ?_, ndr, gt, okr, fun rs prs srs => ?_⟩
      · obtain ⟨x, hx, rfl⟩ := List.mem_map.mp hk
        exact ⟨x, hx, rfl⟩
      · obtain ⟨x, hx, rfl⟩ := List.mem_map.mp hn
        exact (gd x hx).gm
      have oks : RaceOk L0 rs := okr.perm prs
      have ms : ∀ x ∈ rn, rnmR L0 gN x ∈ rs := fun x hx => prs.mem_iff.mpr (List.mem_map_of_mem hx)
      have e3 : ∀ x ∈ rn, getDD (.dct (rn.map keyR) (rn.map gD)) (.str x.1) = some (some (gD x)) := fun x hx => congrArg some (gt x hx)
      refine ⟨rfl, rfl, L0, rn, rfl, fun j ss => ∃ q1 q4 q6 q8 q9 q11 q12 : Sl, ss = [Sl.d (.is (isScr K)), q1, .pool, .d (raceD CR L0 rn), q4, .d (raceD CR L0 (rn.map (bsR L0))), q6, .d (raceD CR L0 rs), q8, q9, .d (.dct (rn.map keyR) (rn.map gD)), q11, q12], ⟨_, _, _, _, _, _, _, rfl⟩, ?_, ?_⟩
      · rintro j e _ he ⟨q1, q4, q6, q8, q9, q11, q12, rfl⟩
        rw [List.getElem?_map] at he
        obtain ⟨x, hx, rfl⟩ := Option.map_eq_some_iff.mp he
        have hx := List.mem_of_getElem? hx
        refine ⟨rfl, rfl, ?_⟩
        show match getDD (.dct (rn.map keyR) (rn.map gD)) (.str x.1) with
          | some (some d) => _
          | _ => False
        rw [e3 x hx]
        refine ⟨L0, rs, rnmR L0 gN x, rfl, oks, ms x hx, rfl, ?_⟩
        refine ⟨rfl, rfl, L0, rn, x, rfl, ok1, hx, rfl, ?_⟩
        refine ⟨_, _, rfl, rfl, by rfl, by rfl, ?_⟩
        refine ifB (fun c => ?_) (fun _ => ?_)
        · have c : (!PyData.eqv _ _) = true := c
          rw [eqv_of (show rem (rnmR L0 gN x).2.1 L0 = rem x.2.1 L0 from rem_rem L0p)] at c
          cases c
        refine ⟨rfl, rfl, ?_⟩
        show match getDD (.dct (rn.map keyR) (rn.map gD)) (.str x.1) with
          | some (some d) => _
          | _ => False
        rw [e3 x hx]
        refine ⟨L0, rs, rnmR L0 gN x, rfl, oks, ms x hx, rfl, ?_⟩
        refine ⟨rfl, rfl, L0, rn, x, rfl, ok1, hx, rfl, ?_⟩
        obtain ⟨A, a1, a2, a3⟩ := same_data (sh_pcs x.2.2) (eqD_pcs _)
        refine ⟨A, A, a1, a1, a2, a2, ?_⟩
        refine ifB (fun c => ?_) (fun _ => ?_)
        · have c : (!PyData.eqv A A) = true := c
          rw [a3] at c
          cases c
        exact ⟨_, _, _, _, _, _, _, rfl⟩
      rintro _ ⟨q1, q4, q6, q8, q9, q11, q12, rfl⟩
      refine ⟨rfl, rfl, ?_⟩
      refine lc_rn (rn := rn) (a := nmD) (F := fun r => .tup [gD r, nmD r]) (by rw [List.map_map]; rfl) (by omega) (fun x hx acc J j => ?_) ?_
      · show match getDD (.dct (rn.map keyR) (rn.map gD)) (.str x.1) with
          | some (some d) => _
          | _ => False
        rw [e3 x hx]
        exact j
      refine ⟨rn.map fun r => keyR (rnmR L0 gN r), rn.map nmD, by rw [List.length_map, List.length_map], (items_map (k := fun r => keyR (rnmR L0 gN r)) (F := nmD) rn).symm, by rw [show (rn.map fun r => keyR (rnmR L0 gN r)) = (rn.map (rnmR L0 gN)).map keyR by rw [List.map_map]; rfl]; exact keys_nd okr.nd, rfl, ?_⟩
      have lr : rs.length = rn.length := by
        rw [prs.length_eq, List.length_map]
      have of_rs : ∀ y ∈ rs, ∃ x ∈ rn, rnmR L0 gN x = y := fun y hy => List.mem_map.mp (prs.mem_iff.mp hy)
      have e5 : (rn.map (rnmR L0 gN)).map (rnmR L0 hN) = rn.map fun r => bsR L0 (bsR L0 r) := by
        rw [List.map_map]
        exact List.map_congr_left fun x hx => by
          show (hN (gN x.1), rem (rem x.2.1 L0) L0, x.2.2) = (x.1, rem (rem x.2.1 L0) L0, x.2.2)
          rw [(gd x hx).back]
      have ok5 : RaceOk L0 (rn.map fun r => bsR L0 (bsR L0 r)) := ok.map (fun _ => rfl) (fun x hx => by
        show Sz 200 (rem (rem x.2.1 L0) L0)
        rw [rem_rem L0p]
        exact (ok.zr hx).mono (by decide)) (fun x hx => (ok.pc hx : PcsM x.2.2))
      have p5 : (rs.map (rnmR L0 hN)).Perm (rn.map fun r => bsR L0 (bsR L0 r)) := by
        rw [← e5]
        exact prs.map _
      have lk5 : ∀ y ∈ rs, lookD (rn.map fun r => keyR (rnmR L0 gN r)) (rn.map nmD) (keyR y) = some (.str (hN y.1)) := fun y hy => by
        obtain ⟨x, hx, rfl⟩ := of_rs y hy
        have e := look_map (f := fun y => DL.D.str (hN y.1)) (keys_nd okr.nd) (List.mem_map_of_mem (f := rnmR L0 gN) hx)
        rw [List.map_map, List.map_map] at e
        have e6 : rn.map ((fun y => DL.D.str (hN y.1)) ∘ rnmR L0 gN) = rn.map nmD := List.map_congr_left fun z hz => by
          show DL.D.str (hN (gN z.1)) = .str z.1
          rw [(gd z hz).back]
        rw [e6] at e
        exact e
      refine ⟨L0, rs, rn.map fun r => r.1, hN, rfl, oks, by rw [List.length_map, lr], fun k hk => ?_, by rw [List.map_map]; rfl, by rw [List.length_map, lr], fun n hn => ?_, ok1.nd, lk5, ok5.perm p5, fun rt prt srt => ?_⟩
      · obtain ⟨x, hx, rfl⟩ := List.mem_map.mp hk
        exact ⟨_, ms x hx, rfl⟩
      · obtain ⟨x, hx, rfl⟩ := List.mem_map.mp hn
        exact (gd x hx).nm
      have e7 := runners_one (prt.trans p5) srt (by rw [names_map (f := fun r => bsR L0 (bsR L0 r)) fun _ => rfl]; exact so) ok5.nd
      subst e7
      have s6 := same_race (L0 := L0) (rn := rn) (rm := rn.map fun r => bsR L0 (bsR L0 r)) (keys_map fun _ => rfl) (by
        rw [List.map_map]
        exact List.map_congr_left fun x _ => by
          show trackD (trk (rem (rem (rem x.2.1 L0) L0) L0) x.2.2) = trackD (trk (rem x.2.1 L0) x.2.2)
          rw [rem_rem L0p, rem_rem L0p]) ok1.nd
      have s7 := same_race (L0 := L0) (rn := rn.map (bsR L0)) (rm := rn) (keys_map (f := bsR L0) fun _ => rfl).symm (by
        rw [List.map_map]
        exact List.map_congr_left fun x _ => by
          show trackD (trk (rem x.2.1 L0) x.2.2) = trackD (trk (rem (rem x.2.1 L0) L0) x.2.2)
          rw [rem_rem L0p]) (by rw [names_map (f := bsR L0) fun _ => rfl]; exact ok1.nd)
      refine ⟨rfl, rfl, .inr ⟨_, _, rfl⟩, L0, _, L0, rn, rfl, rfl, ?_⟩
      refine ifB (fun c => ?_) (fun _ => ?_)
      · rw [s6] at c
        cases c
      refine ⟨rfl, rfl, .inr ⟨_, _, rfl⟩, L0, rn, L0, rn.map (bsR L0), rfl, rfl, ?_⟩
      refine ifB (fun c => ?_) (fun _ => ?_)
      · rw [s7] at c
        cases c
      refine ⟨rfl, rfl, L0, rs, rfl, ?_⟩
      refine lc_rn (rn := rn) (a := nmD) (F := gD) (by rw [List.map_map]; rfl) (by omega) (fun x hx acc J j => ?_) ?_
      · show match getDD (.dct (rn.map keyR) (rn.map gD)) (.str x.1) with
          | some (some d) => _
          | _ => False
        rw [e3 x hx]
        exact j
      refine ⟨rn.map gS, by rw [List.map_map]; rfl, by rw [List.length_map]; omega, fun ys pys sys => ?_⟩
      have e8 : ys = rs.map (·.1) := sorted_one sys srs (by
        refine pys.trans ?_
        have := (prs.map (·.1)).symm
        rw [List.map_map] at this
        exact this)
      subst e8
      obtain ⟨A, a1, a2, a3⟩ := same_data (x := .lst (rs.map nmD)) (sh_strs (g := fun z => z) fun y hy => by
        obtain ⟨x, hx, rfl⟩ := of_rs y hy
        exact (gd x hx).gc) (eqD_strs _ fun z => z)
      have e9 : (rs.map (·.1)).map DL.D.str = rs.map nmD := by
        rw [List.map_map]
        rfl
      rw [e9]
      refine ⟨A, A, a1, a1, a2, a2, ?_⟩
      refine ifB (fun c => ?_) (fun _ => ?_)
      · have c : (!PyData.eqv A A) = true := c
        rw [a3] at c
        cases c
      exact ⟨_, _, _, _, _, _, _, _, _, _, _, _, rfl⟩
    · exact h.elim⟩
end
end LR
set_option Elab.async false
set_option linter.all false
set_option maxRecDepth 100000
set_option maxHeartbeats 4000000
/-! EO: an own class that isinstance and == ask about, from what the text says of it -/
namespace DL
open PySem PySem.Spec PyProof.Rows L2
section
variable {K : PySem.W.Frag} {C : Addr}
theorem kit_same : PySem.W.kitOne K (.ref C) (.ref C) = some true := by
  unfold PySem.W.kitOne
  rw [beq_self_eq_true]
  rfl
theorem kit_type {T : String} {b : Bool} (h1 : (PySem.W.clsIn K C).isSome = true) (h2 : PySem.W.typeIn K (.ref C) = some (.type "type")) (h3 : PySem.W.subIn K (.type T) (.ref C) = some b) : PySem.W.kitOne K (.type T) (.ref C) = some b := by
  unfold PySem.W.kitOne
  rw [if_neg (show ¬ (Value.type T == Value.ref C) = true from fun z => by cases z)]
  have e : ((PySem.W.clsIn K C).isSome && PySem.W.typeIn K (.ref C) == some (.type "type")) = true := by rw [h1, h2] <;> rfl
  exact (if_pos e).trans h3
theorem nf_type {T : String} (h : PySem.W.subIn K (.type T) (.ref C) = some false) : PySem.W.notFirst K C (.type T) = true := by
  unfold PySem.W.notFirst
  rw [h]
  exact Bool.or_true _
theorem nf_same : PySem.W.notFirst K C (.ref C) = true := by
  unfold PySem.W.notFirst
  rw [beq_self_eq_true]
  exact Bool.true_or _
theorem ownC_of {cd : ClassData} (cl : Cls K C) (ca : PySem.W.findIn K (.ref C) "__class__" = some (some (.builtin "object.__class__"))) (cn : PySem.W.specialIn K (.builtin "object.__class__") "__get__" = some (some (.builtin "getset_descriptor.__get__"))) (ct : PySem.W.takesIn K (.builtin "object.__class__") = some true) (cm : PySem.W.mroIn K C (.type "object") = some true)
    (h1 : PySem.W.clsIn K C = some cd) (h2 : PySem.W.typeIn K (.ref C) = some (.type "type")) (h : ∀ n : Ty7, PySem.W.subIn K (.type n.name) (.ref C) = some false) : OwnC K C where
  cl := cl
  ca := ca
  cn := cn
  ct := ct
  cm := cm
  self := kit_same
  kit := fun n => kit_type (by rw [h1]; rfl) h2 (h n)
  nf := fun n => nf_type (h n)
  nfs := nf_same
end
end DL
set_option Elab.async false
set_option linter.all false
set_option maxRecDepth 100000
set_option maxHeartbeats 8000000
namespace LR
open PySem PySem.Spec PyProof.Rows L2 DL

theorem all_mk {P : Program} {w : World} {K : PySem.W.Frag} {mg : Str → Option Value} {h : Heap} {fa : Addr} {f_is_integer : Addr} {oc_is_integer : Value} {od_is_integer an_is_integer : Option Addr} {sl_is_integer : Array (Option Value)} {kV_is_integer dc_is_integer pm_is_integer cd_is_integer ct_is_integer : Value}
    {f_is_ratio : Addr} {oc_is_ratio : Value} {od_is_ratio an_is_ratio : Option Addr} {sl_is_ratio : Array (Option Value)} {kV_is_ratio dc_is_ratio pm_is_ratio cd_is_ratio ct_is_ratio : Value}
    {f_is_number : Addr} {oc_is_number : Value} {od_is_number an_is_number : Option Addr} {sl_is_number : Array (Option Value)} {kV_is_number dc_is_number pm_is_number cd_is_number ct_is_number : Value}
    {f_as_ratio : Addr} {oc_as_ratio : Value} {od_as_ratio an_as_ratio : Option Addr} {sl_as_ratio : Array (Option Value)} {kV_as_ratio dc_as_ratio pm_as_ratio cd_as_ratio ct_as_ratio : Value}
    {f_reduced : Addr} {oc_reduced : Value} {od_reduced an_reduced : Option Addr} {sl_reduced : Array (Option Value)} {kV_reduced dc_reduced pm_reduced cd_reduced ct_reduced : Value}
    {f_plus : Addr} {oc_plus : Value} {od_plus an_plus : Option Addr} {sl_plus : Array (Option Value)} {kV_plus dc_plus pm_plus cd_plus ct_plus : Value}
    {f_minus : Addr} {oc_minus : Value} {od_minus an_minus : Option Addr} {sl_minus : Array (Option Value)} {kV_minus dc_minus pm_minus cd_minus ct_minus : Value}
    {f_times : Addr} {oc_times : Value} {od_times an_times : Option Addr} {sl_times : Array (Option Value)} {kV_times dc_times pm_times cd_times ct_times : Value}
    {f_compare : Addr} {oc_compare : Value} {od_compare an_compare : Option Addr} {sl_compare : Array (Option Value)} {kV_compare dc_compare pm_compare cd_compare ct_compare : Value}
    {f_divided : Addr} {oc_divided : Value} {od_divided an_divided : Option Addr} {sl_divided : Array (Option Value)} {kV_divided dc_divided pm_divided cd_divided ct_divided : Value}
    {f_remainder : Addr} {oc_remainder : Value} {od_remainder an_remainder : Option Addr} {sl_remainder : Array (Option Value)} {kV_remainder dc_remainder pm_remainder cd_remainder ct_remainder : Value}
    {f_is_name : Addr} {oc_is_name : Value} {od_is_name an_is_name : Option Addr} {sl_is_name : Array (Option Value)} {kV_is_name dc_is_name pm_is_name cd_is_name ct_is_name : Value}
    {f_is_positive : Addr} {oc_is_positive : Value} {od_is_positive an_is_positive : Option Addr} {sl_is_positive : Array (Option Value)} {kV_is_positive dc_is_positive pm_is_positive cd_is_positive ct_is_positive : Value}
    {f_as_time : Addr} {oc_as_time : Value} {od_as_time an_as_time : Option Addr} {sl_as_time : Array (Option Value)} {kV_as_time dc_as_time pm_as_time cd_as_time ct_as_time : Value}
    {f_position_in : Addr} {oc_position_in : Value} {od_position_in an_position_in : Option Addr} {sl_position_in : Array (Option Value)} {kV_position_in dc_position_in pm_position_in cd_position_in ct_position_in : Value}
    {f_line : Addr} {oc_line : Value} {od_line an_line : Option Addr} {sl_line : Array (Option Value)} {kV_line dc_line pm_line cd_line ct_line : Value}
    {f_place_in : Addr} {oc_place_in : Value} {od_place_in an_place_in : Option Addr} {sl_place_in : Array (Option Value)} {kV_place_in dc_place_in pm_place_in cd_place_in ct_place_in : Value}
    {f_row_at : Addr} {oc_row_at : Value} {od_row_at an_row_at : Option Addr} {sl_row_at : Array (Option Value)} {kV_row_at dc_row_at pm_row_at cd_row_at ct_row_at : Value}
    {f_track_of : Addr} {oc_track_of : Value} {od_track_of an_track_of : Option Addr} {sl_track_of : Array (Option Value)} {kV_track_of dc_track_of pm_track_of cd_track_of ct_track_of : Value}
    {f_track : Addr} {oc_track : Value} {od_track an_track : Option Addr} {sl_track : Array (Option Value)} {kV_track dc_track pm_track cd_track ct_track : Value}
    {f_is_runner : Addr} {oc_is_runner : Value} {od_is_runner an_is_runner : Option Addr} {sl_is_runner : Array (Option Value)} {kV_is_runner dc_is_runner pm_is_runner cd_is_runner ct_is_runner : Value}
    {f_are_ascending : Addr} {oc_are_ascending : Value} {od_are_ascending an_are_ascending : Option Addr} {sl_are_ascending : Array (Option Value)} {kV_are_ascending dc_are_ascending pm_are_ascending cd_are_ascending ct_are_ascending : Value}
    {f_inserted : Addr} {oc_inserted : Value} {od_inserted an_inserted : Option Addr} {sl_inserted : Array (Option Value)} {kV_inserted dc_inserted pm_inserted cd_inserted ct_inserted : Value}
    {f_ranked : Addr} {oc_ranked : Value} {od_ranked an_ranked : Option Addr} {sl_ranked : Array (Option Value)} {kV_ranked dc_ranked pm_ranked cd_ranked ct_ranked : Value}
    {f_ascending : Addr} {oc_ascending : Value} {od_ascending an_ascending : Option Addr} {sl_ascending : Array (Option Value)} {kV_ascending dc_ascending pm_ascending cd_ascending ct_ascending : Value}
    {f_in_order : Addr} {oc_in_order : Value} {od_in_order an_in_order : Option Addr} {sl_in_order : Array (Option Value)} {kV_in_order dc_in_order pm_in_order cd_in_order ct_in_order : Value}
    {f_are_new_names : Addr} {oc_are_new_names : Value} {od_are_new_names an_are_new_names : Option Addr} {sl_are_new_names : Array (Option Value)} {kV_are_new_names dc_are_new_names pm_are_new_names cd_are_new_names ct_are_new_names : Value}
    {f_law_pool : Addr} {oc_law_pool : Value} {od_law_pool an_law_pool : Option Addr} {sl_law_pool : Array (Option Value)} {kV_law_pool dc_law_pool pm_law_pool cd_law_pool ct_law_pool : Value}
    {f_law_draw : Addr} {oc_law_draw : Value} {od_law_draw an_law_draw : Option Addr} {sl_law_draw : Array (Option Value)} {kV_law_draw dc_law_draw pm_law_draw cd_law_draw ct_law_draw : Value}
    {f_law_choose : Addr} {oc_law_choose : Value} {od_law_choose an_law_choose : Option Addr} {sl_law_choose : Array (Option Value)} {kV_law_choose dc_law_choose pm_law_choose cd_law_choose ct_law_choose : Value}
    {f_law_number : Addr} {oc_law_number : Value} {od_law_number an_law_number : Option Addr} {sl_law_number : Array (Option Value)} {kV_law_number dc_law_number pm_law_number cd_law_number ct_law_number : Value}
    {f_law_pieces : Addr} {oc_law_pieces : Value} {od_law_pieces an_law_pieces : Option Addr} {sl_law_pieces : Array (Option Value)} {kV_law_pieces dc_law_pieces pm_law_pieces cd_law_pieces ct_law_pieces : Value}
    {f_law_race : Addr} {oc_law_race : Value} {od_law_race an_law_race : Option Addr} {sl_law_race : Array (Option Value)} {kV_law_race dc_law_race pm_law_race cd_law_race ct_law_race : Value}
    {f_law_check_change : Addr} {oc_law_check_change : Value} {od_law_check_change an_law_check_change : Option Addr} {sl_law_check_change : Array (Option Value)} {kV_law_check_change dc_law_check_change pm_law_check_change cd_law_check_change ct_law_check_change : Value}
    {f_law_check_turned : Addr} {oc_law_check_turned : Value} {od_law_check_turned an_law_check_turned : Option Addr} {sl_law_check_turned : Array (Option Value)} {kV_law_check_turned dc_law_check_turned pm_law_check_turned cd_law_check_turned ct_law_check_turned : Value}
    {f_law_check_slowed : Addr} {oc_law_check_slowed : Value} {od_law_check_slowed an_law_check_slowed : Option Addr} {sl_law_check_slowed : Array (Option Value)} {kV_law_check_slowed dc_law_check_slowed pm_law_check_slowed cd_law_check_slowed ct_law_check_slowed : Value}
    {f_law : Addr} {oc_law : Value} {od_law an_law : Option Addr} {sl_law : Array (Option Value)} {kV_law dc_law pm_law cd_law ct_law : Value}
    {f_ratio DT_ratio : Addr} {oc_ratio oT_ratio : Value} {od_ratio an_ratio oD_ratio : Option Addr} {sl_ratio sT_ratio : Array (Option Value)} {kV_ratio dc_ratio pm_ratio cd_ratio ct_ratio : Value} {nT_ratio : Nat} {dt_ratio0 : Tok}
    {ct_FEW : Tok}
    {ct_MOST_LETTERS : Tok}
    {ct_MOST_PIECES : Tok}
    {ct_MOST_RUNNERS : Tok}
    {cD_InvalidNumber : ClassData}
    {C_InvalidNumber : Addr}
    {C_InvalidTime : Addr}
    {C_DivisionByZero : Addr}
    {C_Race : Addr}
    {fm_Race_init : Addr} {ocm_Race_init : Value} {odm_Race_init anm_Race_init : Option Addr} {slm_Race_init : Array (Option Value)} {kVm_Race_init dcm_Race_init pmm_Race_init cdm_Race_init ctm_Race_init : Value}
    {fm_Race_contains : Addr} {ocm_Race_contains : Value} {odm_Race_contains anm_Race_contains : Option Addr} {slm_Race_contains : Array (Option Value)} {kVm_Race_contains dcm_Race_contains pmm_Race_contains cdm_Race_contains ctm_Race_contains : Value}
    {fm_Race_len : Addr} {ocm_Race_len : Value} {odm_Race_len anm_Race_len : Option Addr} {slm_Race_len : Array (Option Value)} {kVm_Race_len dcm_Race_len pmm_Race_len cdm_Race_len ctm_Race_len : Value}
    {fm_Race_eq : Addr} {ocm_Race_eq : Value} {odm_Race_eq anm_Race_eq : Option Addr} {slm_Race_eq : Array (Option Value)} {kVm_Race_eq dcm_Race_eq pmm_Race_eq cdm_Race_eq ctm_Race_eq : Value}
    {fm_Race_names : Addr} {ocm_Race_names : Value} {odm_Race_names anm_Race_names : Option Addr} {slm_Race_names : Array (Option Value)} {kVm_Race_names dcm_Race_names pmm_Race_names cdm_Race_names ctm_Race_names : Value}
    {fm_Race_track : Addr} {ocm_Race_track : Value} {odm_Race_track anm_Race_track : Option Addr} {slm_Race_track : Array (Option Value)} {kVm_Race_track dcm_Race_track pmm_Race_track cdm_Race_track ctm_Race_track : Value}
    {fm_Race_place : Addr} {ocm_Race_place : Value} {odm_Race_place anm_Race_place : Option Addr} {slm_Race_place : Array (Option Value)} {kVm_Race_place dcm_Race_place pmm_Race_place cdm_Race_place ctm_Race_place : Value}
    {fm_Race_start : Addr} {ocm_Race_start : Value} {odm_Race_start anm_Race_start : Option Addr} {slm_Race_start : Array (Option Value)} {kVm_Race_start dcm_Race_start pmm_Race_start cdm_Race_start ctm_Race_start : Value}
    {fm_Race_pieces : Addr} {ocm_Race_pieces : Value} {odm_Race_pieces anm_Race_pieces : Option Addr} {slm_Race_pieces : Array (Option Value)} {kVm_Race_pieces dcm_Race_pieces pmm_Race_pieces cdm_Race_pieces ctm_Race_pieces : Value}
    {fm_Race_position : Addr} {ocm_Race_position : Value} {odm_Race_position anm_Race_position : Option Addr} {slm_Race_position : Array (Option Value)} {kVm_Race_position dcm_Race_position pmm_Race_position cdm_Race_position ctm_Race_position : Value}
    {fm_Race_change_times : Addr} {ocm_Race_change_times : Value} {odm_Race_change_times anm_Race_change_times : Option Addr} {slm_Race_change_times : Array (Option Value)} {kVm_Race_change_times dcm_Race_change_times pmm_Race_change_times cdm_Race_change_times ctm_Race_change_times : Value}
    {fm_Race_runners : Addr} {ocm_Race_runners : Value} {odm_Race_runners anm_Race_runners : Option Addr} {slm_Race_runners : Array (Option Value)} {kVm_Race_runners dcm_Race_runners pmm_Race_runners cdm_Race_runners ctm_Race_runners : Value}
    {fm_Race_turned : Addr} {ocm_Race_turned : Value} {odm_Race_turned anm_Race_turned : Option Addr} {slm_Race_turned : Array (Option Value)} {kVm_Race_turned dcm_Race_turned pmm_Race_turned cdm_Race_turned ctm_Race_turned : Value}
    {fm_Race_reversed_ring : Addr} {ocm_Race_reversed_ring : Value} {odm_Race_reversed_ring anm_Race_reversed_ring : Option Addr} {slm_Race_reversed_ring : Array (Option Value)} {kVm_Race_reversed_ring dcm_Race_reversed_ring pmm_Race_reversed_ring cdm_Race_reversed_ring ctm_Race_reversed_ring : Value}
    {fm_Race_slowed : Addr} {ocm_Race_slowed : Value} {odm_Race_slowed anm_Race_slowed : Option Addr} {slm_Race_slowed : Array (Option Value)} {kVm_Race_slowed dcm_Race_slowed pmm_Race_slowed cdm_Race_slowed ctm_Race_slowed : Value}
    {fm_Race_changed : Addr} {ocm_Race_changed : Value} {odm_Race_changed anm_Race_changed : Option Addr} {slm_Race_changed : Array (Option Value)} {kVm_Race_changed dcm_Race_changed pmm_Race_changed cdm_Race_changed ctm_Race_changed : Value}
    {fm_Race_without : Addr} {ocm_Race_without : Value} {odm_Race_without anm_Race_without : Option Addr} {slm_Race_without : Array (Option Value)} {kVm_Race_without dcm_Race_without pmm_Race_without cdm_Race_without ctm_Race_without : Value}
    {fm_Race_renamed : Addr} {ocm_Race_renamed : Value} {odm_Race_renamed anm_Race_renamed : Option Addr} {slm_Race_renamed : Array (Option Value)} {kVm_Race_renamed dcm_Race_renamed pmm_Race_renamed cdm_Race_renamed ctm_Race_renamed : Value}
    {fp_Race_length pp_Race_length : Addr} {restp_Race_length : List Value} {ocp_Race_length : Value} {odp_Race_length anp_Race_length : Option Addr} {slp_Race_length : Array (Option Value)} {kVp_Race_length dcp_Race_length pmp_Race_length cdp_Race_length ctp_Race_length : Value}
    {owcd_Race : ClassData}
    (X : K.In h) (G : h.Ns mainGlobals mg) (hfa : mg "law" = some (.ref fa))
    (a_is_integer : PySem.W.nsIn K mainGlobals "is_integer" = some (some (.ref f_is_integer))) (l_is_integer : K.lookup f_is_integer = some ⟨oc_is_integer, od_is_integer, .func (PySem.W.fnOf "is_integer" "is_integer" (defArgs (topS 13)) (defBody (topS 13)) (defScope (topS 13)) .none kV_is_integer dc_is_integer pm_is_integer an_is_integer cd_is_integer ct_is_integer), sl_is_integer⟩) (c_is_integer : PySem.W.codeIn K cd_is_integer "is_integer" = true) (k_is_integer : PySem.W.keepIn K (.ref f_is_integer) = true)
    (a_is_ratio : PySem.W.nsIn K mainGlobals "is_ratio" = some (some (.ref f_is_ratio))) (l_is_ratio : K.lookup f_is_ratio = some ⟨oc_is_ratio, od_is_ratio, .func (PySem.W.fnOf "is_ratio" "is_ratio" (defArgs (topS 14)) (defBody (topS 14)) (defScope (topS 14)) .none kV_is_ratio dc_is_ratio pm_is_ratio an_is_ratio cd_is_ratio ct_is_ratio), sl_is_ratio⟩) (c_is_ratio : PySem.W.codeIn K cd_is_ratio "is_ratio" = true) (k_is_ratio : PySem.W.keepIn K (.ref f_is_ratio) = true)
    (a_is_number : PySem.W.nsIn K mainGlobals "is_number" = some (some (.ref f_is_number))) (l_is_number : K.lookup f_is_number = some ⟨oc_is_number, od_is_number, .func (PySem.W.fnOf "is_number" "is_number" (defArgs (topS 15)) (defBody (topS 15)) (defScope (topS 15)) .none kV_is_number dc_is_number pm_is_number an_is_number cd_is_number ct_is_number), sl_is_number⟩) (c_is_number : PySem.W.codeIn K cd_is_number "is_number" = true) (k_is_number : PySem.W.keepIn K (.ref f_is_number) = true)
    (a_as_ratio : PySem.W.nsIn K mainGlobals "as_ratio" = some (some (.ref f_as_ratio))) (l_as_ratio : K.lookup f_as_ratio = some ⟨oc_as_ratio, od_as_ratio, .func (PySem.W.fnOf "as_ratio" "as_ratio" (defArgs (topS 16)) (defBody (topS 16)) (defScope (topS 16)) .none kV_as_ratio dc_as_ratio pm_as_ratio an_as_ratio cd_as_ratio ct_as_ratio), sl_as_ratio⟩) (c_as_ratio : PySem.W.codeIn K cd_as_ratio "as_ratio" = true) (k_as_ratio : PySem.W.keepIn K (.ref f_as_ratio) = true)
    (a_reduced : PySem.W.nsIn K mainGlobals "reduced" = some (some (.ref f_reduced))) (l_reduced : K.lookup f_reduced = some ⟨oc_reduced, od_reduced, .func (PySem.W.fnOf "reduced" "reduced" (defArgs (topS 17)) (defBody (topS 17)) (defScope (topS 17)) .none kV_reduced dc_reduced pm_reduced an_reduced cd_reduced ct_reduced), sl_reduced⟩) (c_reduced : PySem.W.codeIn K cd_reduced "reduced" = true) (k_reduced : PySem.W.keepIn K (.ref f_reduced) = true)
    (a_plus : PySem.W.nsIn K mainGlobals "plus" = some (some (.ref f_plus))) (l_plus : K.lookup f_plus = some ⟨oc_plus, od_plus, .func (PySem.W.fnOf "plus" "plus" (defArgs (topS 19)) (defBody (topS 19)) (defScope (topS 19)) .none kV_plus dc_plus pm_plus an_plus cd_plus ct_plus), sl_plus⟩) (c_plus : PySem.W.codeIn K cd_plus "plus" = true) (k_plus : PySem.W.keepIn K (.ref f_plus) = true)
    (a_minus : PySem.W.nsIn K mainGlobals "minus" = some (some (.ref f_minus))) (l_minus : K.lookup f_minus = some ⟨oc_minus, od_minus, .func (PySem.W.fnOf "minus" "minus" (defArgs (topS 20)) (defBody (topS 20)) (defScope (topS 20)) .none kV_minus dc_minus pm_minus an_minus cd_minus ct_minus), sl_minus⟩) (c_minus : PySem.W.codeIn K cd_minus "minus" = true) (k_minus : PySem.W.keepIn K (.ref f_minus) = true)
    (a_times : PySem.W.nsIn K mainGlobals "times" = some (some (.ref f_times))) (l_times : K.lookup f_times = some ⟨oc_times, od_times, .func (PySem.W.fnOf "times" "times" (defArgs (topS 21)) (defBody (topS 21)) (defScope (topS 21)) .none kV_times dc_times pm_times an_times cd_times ct_times), sl_times⟩) (c_times : PySem.W.codeIn K cd_times "times" = true) (k_times : PySem.W.keepIn K (.ref f_times) = true)
    (a_compare : PySem.W.nsIn K mainGlobals "compare" = some (some (.ref f_compare))) (l_compare : K.lookup f_compare = some ⟨oc_compare, od_compare, .func (PySem.W.fnOf "compare" "compare" (defArgs (topS 23)) (defBody (topS 23)) (defScope (topS 23)) .none kV_compare dc_compare pm_compare an_compare cd_compare ct_compare), sl_compare⟩) (c_compare : PySem.W.codeIn K cd_compare "compare" = true) (k_compare : PySem.W.keepIn K (.ref f_compare) = true)
    (a_divided : PySem.W.nsIn K mainGlobals "divided" = some (some (.ref f_divided))) (l_divided : K.lookup f_divided = some ⟨oc_divided, od_divided, .func (PySem.W.fnOf "divided" "divided" (defArgs (topS 22)) (defBody (topS 22)) (defScope (topS 22)) .none kV_divided dc_divided pm_divided an_divided cd_divided ct_divided), sl_divided⟩) (c_divided : PySem.W.codeIn K cd_divided "divided" = true) (k_divided : PySem.W.keepIn K (.ref f_divided) = true)
    (a_remainder : PySem.W.nsIn K mainGlobals "remainder" = some (some (.ref f_remainder))) (l_remainder : K.lookup f_remainder = some ⟨oc_remainder, od_remainder, .func (PySem.W.fnOf "remainder" "remainder" (defArgs (topS 24)) (defBody (topS 24)) (defScope (topS 24)) .none kV_remainder dc_remainder pm_remainder an_remainder cd_remainder ct_remainder), sl_remainder⟩) (c_remainder : PySem.W.codeIn K cd_remainder "remainder" = true) (k_remainder : PySem.W.keepIn K (.ref f_remainder) = true)
    (a_is_name : PySem.W.nsIn K mainGlobals "is_name" = some (some (.ref f_is_name))) (l_is_name : K.lookup f_is_name = some ⟨oc_is_name, od_is_name, .func (PySem.W.fnOf "is_name" "is_name" (defArgs (topS 31)) (defBody (topS 31)) (defScope (topS 31)) .none kV_is_name dc_is_name pm_is_name an_is_name cd_is_name ct_is_name), sl_is_name⟩) (c_is_name : PySem.W.codeIn K cd_is_name "is_name" = true) (k_is_name : PySem.W.keepIn K (.ref f_is_name) = true)
    (a_is_positive : PySem.W.nsIn K mainGlobals "is_positive" = some (some (.ref f_is_positive))) (l_is_positive : K.lookup f_is_positive = some ⟨oc_is_positive, od_is_positive, .func (PySem.W.fnOf "is_positive" "is_positive" (defArgs (topS 32)) (defBody (topS 32)) (defScope (topS 32)) .none kV_is_positive dc_is_positive pm_is_positive an_is_positive cd_is_positive ct_is_positive), sl_is_positive⟩) (c_is_positive : PySem.W.codeIn K cd_is_positive "is_positive" = true) (k_is_positive : PySem.W.keepIn K (.ref f_is_positive) = true)
    (a_as_time : PySem.W.nsIn K mainGlobals "as_time" = some (some (.ref f_as_time))) (l_as_time : K.lookup f_as_time = some ⟨oc_as_time, od_as_time, .func (PySem.W.fnOf "as_time" "as_time" (defArgs (topS 33)) (defBody (topS 33)) (defScope (topS 33)) .none kV_as_time dc_as_time pm_as_time an_as_time cd_as_time ct_as_time), sl_as_time⟩) (c_as_time : PySem.W.codeIn K cd_as_time "as_time" = true) (k_as_time : PySem.W.keepIn K (.ref f_as_time) = true)
    (a_position_in : PySem.W.nsIn K mainGlobals "position_in" = some (some (.ref f_position_in))) (l_position_in : K.lookup f_position_in = some ⟨oc_position_in, od_position_in, .func (PySem.W.fnOf "position_in" "position_in" (defArgs (topS 38)) (defBody (topS 38)) (defScope (topS 38)) .none kV_position_in dc_position_in pm_position_in an_position_in cd_position_in ct_position_in), sl_position_in⟩) (c_position_in : PySem.W.codeIn K cd_position_in "position_in" = true) (k_position_in : PySem.W.keepIn K (.ref f_position_in) = true)
    (a_line : PySem.W.nsIn K mainGlobals "_line" = some (some (.ref f_line))) (l_line : K.lookup f_line = some ⟨oc_line, od_line, .func (PySem.W.fnOf "_line" "_line" (defArgs (topS 36)) (defBody (topS 36)) (defScope (topS 36)) .none kV_line dc_line pm_line an_line cd_line ct_line), sl_line⟩) (c_line : PySem.W.codeIn K cd_line "_line" = true) (k_line : PySem.W.keepIn K (.ref f_line) = true)
    (a_place_in : PySem.W.nsIn K mainGlobals "place_in" = some (some (.ref f_place_in))) (l_place_in : K.lookup f_place_in = some ⟨oc_place_in, od_place_in, .func (PySem.W.fnOf "place_in" "place_in" (defArgs (topS 39)) (defBody (topS 39)) (defScope (topS 39)) .none kV_place_in dc_place_in pm_place_in an_place_in cd_place_in ct_place_in), sl_place_in⟩) (c_place_in : PySem.W.codeIn K cd_place_in "place_in" = true) (k_place_in : PySem.W.keepIn K (.ref f_place_in) = true)
    (a_row_at : PySem.W.nsIn K mainGlobals "row_at" = some (some (.ref f_row_at))) (l_row_at : K.lookup f_row_at = some ⟨oc_row_at, od_row_at, .func (PySem.W.fnOf "row_at" "row_at" (defArgs (topS 37)) (defBody (topS 37)) (defScope (topS 37)) .none kV_row_at dc_row_at pm_row_at an_row_at cd_row_at ct_row_at), sl_row_at⟩) (c_row_at : PySem.W.codeIn K cd_row_at "row_at" = true) (k_row_at : PySem.W.keepIn K (.ref f_row_at) = true)
    (a_track_of : PySem.W.nsIn K mainGlobals "track_of" = some (some (.ref f_track_of))) (l_track_of : K.lookup f_track_of = some ⟨oc_track_of, od_track_of, .func (PySem.W.fnOf "track_of" "track_of" (defArgs (topS 35)) (defBody (topS 35)) (defScope (topS 35)) .none kV_track_of dc_track_of pm_track_of an_track_of cd_track_of ct_track_of), sl_track_of⟩) (c_track_of : PySem.W.codeIn K cd_track_of "track_of" = true) (k_track_of : PySem.W.keepIn K (.ref f_track_of) = true)
    (a_track : PySem.W.nsIn K mainGlobals "_track" = some (some (.ref f_track))) (l_track : K.lookup f_track = some ⟨oc_track, od_track, .func (PySem.W.fnOf "_track" "_track" (defArgs (topS 44)) (defBody (topS 44)) (defScope (topS 44)) .none kV_track dc_track pm_track an_track cd_track ct_track), sl_track⟩) (c_track : PySem.W.codeIn K cd_track "_track" = true) (k_track : PySem.W.keepIn K (.ref f_track) = true)
    (a_is_runner : PySem.W.nsIn K mainGlobals "_is_runner" = some (some (.ref f_is_runner))) (l_is_runner : K.lookup f_is_runner = some ⟨oc_is_runner, od_is_runner, .func (PySem.W.fnOf "_is_runner" "_is_runner" (defArgs (topS 45)) (defBody (topS 45)) (defScope (topS 45)) .none kV_is_runner dc_is_runner pm_is_runner an_is_runner cd_is_runner ct_is_runner), sl_is_runner⟩) (c_is_runner : PySem.W.codeIn K cd_is_runner "_is_runner" = true) (k_is_runner : PySem.W.keepIn K (.ref f_is_runner) = true)
    (a_are_ascending : PySem.W.nsIn K mainGlobals "_are_ascending" = some (some (.ref f_are_ascending))) (l_are_ascending : K.lookup f_are_ascending = some ⟨oc_are_ascending, od_are_ascending, .func (PySem.W.fnOf "_are_ascending" "_are_ascending" (defArgs (topS 46)) (defBody (topS 46)) (defScope (topS 46)) .none kV_are_ascending dc_are_ascending pm_are_ascending an_are_ascending cd_are_ascending ct_are_ascending), sl_are_ascending⟩) (c_are_ascending : PySem.W.codeIn K cd_are_ascending "_are_ascending" = true) (k_are_ascending : PySem.W.keepIn K (.ref f_are_ascending) = true)
    (a_inserted : PySem.W.nsIn K mainGlobals "_inserted" = some (some (.ref f_inserted))) (l_inserted : K.lookup f_inserted = some ⟨oc_inserted, od_inserted, .func (PySem.W.fnOf "_inserted" "_inserted" (defArgs (topS 27)) (defBody (topS 27)) (defScope (topS 27)) .none kV_inserted dc_inserted pm_inserted an_inserted cd_inserted ct_inserted), sl_inserted⟩) (c_inserted : PySem.W.codeIn K cd_inserted "_inserted" = true) (k_inserted : PySem.W.keepIn K (.ref f_inserted) = true)
    (a_ranked : PySem.W.nsIn K mainGlobals "_ranked" = some (some (.ref f_ranked))) (l_ranked : K.lookup f_ranked = some ⟨oc_ranked, od_ranked, .func (PySem.W.fnOf "_ranked" "_ranked" (defArgs (topS 28)) (defBody (topS 28)) (defScope (topS 28)) .none kV_ranked dc_ranked pm_ranked an_ranked cd_ranked ct_ranked), sl_ranked⟩) (c_ranked : PySem.W.codeIn K cd_ranked "_ranked" = true) (k_ranked : PySem.W.keepIn K (.ref f_ranked) = true)
    (a_ascending : PySem.W.nsIn K mainGlobals "ascending" = some (some (.ref f_ascending))) (l_ascending : K.lookup f_ascending = some ⟨oc_ascending, od_ascending, .func (PySem.W.fnOf "ascending" "ascending" (defArgs (topS 26)) (defBody (topS 26)) (defScope (topS 26)) .none kV_ascending dc_ascending pm_ascending an_ascending cd_ascending ct_ascending), sl_ascending⟩) (c_ascending : PySem.W.codeIn K cd_ascending "ascending" = true) (k_ascending : PySem.W.keepIn K (.ref f_ascending) = true)
    (a_in_order : PySem.W.nsIn K mainGlobals "in_order" = some (some (.ref f_in_order))) (l_in_order : K.lookup f_in_order = some ⟨oc_in_order, od_in_order, .func (PySem.W.fnOf "in_order" "in_order" (defArgs (topS 25)) (defBody (topS 25)) (defScope (topS 25)) .none kV_in_order dc_in_order pm_in_order an_in_order cd_in_order ct_in_order), sl_in_order⟩) (c_in_order : PySem.W.codeIn K cd_in_order "in_order" = true) (k_in_order : PySem.W.keepIn K (.ref f_in_order) = true)
    (a_are_new_names : PySem.W.nsIn K mainGlobals "_are_new_names" = some (some (.ref f_are_new_names))) (l_are_new_names : K.lookup f_are_new_names = some ⟨oc_are_new_names, od_are_new_names, .func (PySem.W.fnOf "_are_new_names" "_are_new_names" (defArgs (topS 47)) (defBody (topS 47)) (defScope (topS 47)) .none kV_are_new_names dc_are_new_names pm_are_new_names an_are_new_names cd_are_new_names ct_are_new_names), sl_are_new_names⟩) (c_are_new_names : PySem.W.codeIn K cd_are_new_names "_are_new_names" = true) (k_are_new_names : PySem.W.keepIn K (.ref f_are_new_names) = true)
    (a_law_pool : PySem.W.nsIn K mainGlobals "_law_pool" = some (some (.ref f_law_pool))) (l_law_pool : K.lookup f_law_pool = some ⟨oc_law_pool, od_law_pool, .func (PySem.W.fnOf "_law_pool" "_law_pool" (defArgs (topS 49)) (defBody (topS 49)) (defScope (topS 49)) .none kV_law_pool dc_law_pool pm_law_pool an_law_pool cd_law_pool ct_law_pool), sl_law_pool⟩) (c_law_pool : PySem.W.codeIn K cd_law_pool "_law_pool" = true) (k_law_pool : PySem.W.keepIn K (.ref f_law_pool) = true)
    (a_law_draw : PySem.W.nsIn K mainGlobals "_law_draw" = some (some (.ref f_law_draw))) (l_law_draw : K.lookup f_law_draw = some ⟨oc_law_draw, od_law_draw, .func (PySem.W.fnOf "_law_draw" "_law_draw" (defArgs (topS 50)) (defBody (topS 50)) (defScope (topS 50)) .none kV_law_draw dc_law_draw pm_law_draw an_law_draw cd_law_draw ct_law_draw), sl_law_draw⟩) (c_law_draw : PySem.W.codeIn K cd_law_draw "_law_draw" = true) (k_law_draw : PySem.W.keepIn K (.ref f_law_draw) = true)
    (a_law_choose : PySem.W.nsIn K mainGlobals "_law_choose" = some (some (.ref f_law_choose))) (l_law_choose : K.lookup f_law_choose = some ⟨oc_law_choose, od_law_choose, .func (PySem.W.fnOf "_law_choose" "_law_choose" (defArgs (topS 51)) (defBody (topS 51)) (defScope (topS 51)) .none kV_law_choose dc_law_choose pm_law_choose an_law_choose cd_law_choose ct_law_choose), sl_law_choose⟩) (c_law_choose : PySem.W.codeIn K cd_law_choose "_law_choose" = true) (k_law_choose : PySem.W.keepIn K (.ref f_law_choose) = true)
    (a_law_number : PySem.W.nsIn K mainGlobals "_law_number" = some (some (.ref f_law_number))) (l_law_number : K.lookup f_law_number = some ⟨oc_law_number, od_law_number, .func (PySem.W.fnOf "_law_number" "_law_number" (defArgs (topS 52)) (defBody (topS 52)) (defScope (topS 52)) .none kV_law_number dc_law_number pm_law_number an_law_number cd_law_number ct_law_number), sl_law_number⟩) (c_law_number : PySem.W.codeIn K cd_law_number "_law_number" = true) (k_law_number : PySem.W.keepIn K (.ref f_law_number) = true)
    (a_law_pieces : PySem.W.nsIn K mainGlobals "_law_pieces" = some (some (.ref f_law_pieces))) (l_law_pieces : K.lookup f_law_pieces = some ⟨oc_law_pieces, od_law_pieces, .func (PySem.W.fnOf "_law_pieces" "_law_pieces" (defArgs (topS 53)) (defBody (topS 53)) (defScope (topS 53)) .none kV_law_pieces dc_law_pieces pm_law_pieces an_law_pieces cd_law_pieces ct_law_pieces), sl_law_pieces⟩) (c_law_pieces : PySem.W.codeIn K cd_law_pieces "_law_pieces" = true) (k_law_pieces : PySem.W.keepIn K (.ref f_law_pieces) = true)
    (a_law_race : PySem.W.nsIn K mainGlobals "_law_race" = some (some (.ref f_law_race))) (l_law_race : K.lookup f_law_race = some ⟨oc_law_race, od_law_race, .func (PySem.W.fnOf "_law_race" "_law_race" (defArgs (topS 54)) (defBody (topS 54)) (defScope (topS 54)) .none kV_law_race dc_law_race pm_law_race an_law_race cd_law_race ct_law_race), sl_law_race⟩) (c_law_race : PySem.W.codeIn K cd_law_race "_law_race" = true) (k_law_race : PySem.W.keepIn K (.ref f_law_race) = true)
    (a_law_check_change : PySem.W.nsIn K mainGlobals "_law_check_change" = some (some (.ref f_law_check_change))) (l_law_check_change : K.lookup f_law_check_change = some ⟨oc_law_check_change, od_law_check_change, .func (PySem.W.fnOf "_law_check_change" "_law_check_change" (defArgs (topS 55)) (defBody (topS 55)) (defScope (topS 55)) .none kV_law_check_change dc_law_check_change pm_law_check_change an_law_check_change cd_law_check_change ct_law_check_change), sl_law_check_change⟩) (c_law_check_change : PySem.W.codeIn K cd_law_check_change "_law_check_change" = true) (k_law_check_change : PySem.W.keepIn K (.ref f_law_check_change) = true)
    (a_law_check_turned : PySem.W.nsIn K mainGlobals "_law_check_turned" = some (some (.ref f_law_check_turned))) (l_law_check_turned : K.lookup f_law_check_turned = some ⟨oc_law_check_turned, od_law_check_turned, .func (PySem.W.fnOf "_law_check_turned" "_law_check_turned" (defArgs (topS 56)) (defBody (topS 56)) (defScope (topS 56)) .none kV_law_check_turned dc_law_check_turned pm_law_check_turned an_law_check_turned cd_law_check_turned ct_law_check_turned), sl_law_check_turned⟩) (c_law_check_turned : PySem.W.codeIn K cd_law_check_turned "_law_check_turned" = true) (k_law_check_turned : PySem.W.keepIn K (.ref f_law_check_turned) = true)
    (a_law_check_slowed : PySem.W.nsIn K mainGlobals "_law_check_slowed" = some (some (.ref f_law_check_slowed))) (l_law_check_slowed : K.lookup f_law_check_slowed = some ⟨oc_law_check_slowed, od_law_check_slowed, .func (PySem.W.fnOf "_law_check_slowed" "_law_check_slowed" (defArgs (topS 57)) (defBody (topS 57)) (defScope (topS 57)) .none kV_law_check_slowed dc_law_check_slowed pm_law_check_slowed an_law_check_slowed cd_law_check_slowed ct_law_check_slowed), sl_law_check_slowed⟩) (c_law_check_slowed : PySem.W.codeIn K cd_law_check_slowed "_law_check_slowed" = true) (k_law_check_slowed : PySem.W.keepIn K (.ref f_law_check_slowed) = true)
    (a_law : PySem.W.nsIn K mainGlobals "law" = some (some (.ref f_law))) (l_law : K.lookup f_law = some ⟨oc_law, od_law, .func (PySem.W.fnOf "law" "law" (defArgs (topS 58)) (defBody (topS 58)) (defScope (topS 58)) .none kV_law dc_law pm_law an_law cd_law ct_law), sl_law⟩) (c_law : PySem.W.codeIn K cd_law "law" = true) (k_law : PySem.W.keepIn K (.ref f_law) = true)
    (a_ratio : PySem.W.nsIn K mainGlobals "ratio" = some (some (.ref f_ratio)))
    (l_ratio : K.lookup f_ratio = some ⟨oc_ratio, od_ratio, .func (PySem.W.fnOf "ratio" "ratio" (defArgs (topS 18)) (defBody (topS 18)) (defScope (topS 18)) (.ref DT_ratio) kV_ratio dc_ratio pm_ratio an_ratio cd_ratio ct_ratio), sl_ratio⟩)
    (c_ratio : PySem.W.codeIn K cd_ratio "ratio" = true)
    (k_ratio : PySem.W.keepIn K (.ref f_ratio) = true)
    (lT_ratio : K.lookup DT_ratio = some ⟨oT_ratio, oD_ratio, .seq #[.int 1 dt_ratio0] nT_ratio, sT_ratio⟩)
    (co_FEW : PySem.W.nsIn K mainGlobals "FEW" = some (some (.int 8 ct_FEW)))
    (co_MOST_LETTERS : PySem.W.nsIn K mainGlobals "MOST_LETTERS" = some (some (.int 8 ct_MOST_LETTERS)))
    (co_MOST_PIECES : PySem.W.nsIn K mainGlobals "MOST_PIECES" = some (some (.int 20 ct_MOST_PIECES)))
    (co_MOST_RUNNERS : PySem.W.nsIn K mainGlobals "MOST_RUNNERS" = some (some (.int 12 ct_MOST_RUNNERS)))
    (bi_gcd : PySem.W.nsIn K mainGlobals "gcd" = some (some (.builtin "math.gcd")))
    (g_InvalidNumber : PySem.W.nsIn K mainGlobals "InvalidNumber" = some (some (.ref C_InvalidNumber))) (k_InvalidNumber : PySem.W.keepIn K (.ref C_InvalidNumber) = true) (q_InvalidNumber : PySem.W.excIn K C_InvalidNumber BMv "ValueError.__new__" = true) (b_InvalidNumber : PySem.W.subIn K (.ref C_InvalidNumber) (.type "BaseException") = some true) (t_InvalidNumber : PySem.W.typeIn K (.ref C_InvalidNumber) = some (.type "type"))
    (cl_InvalidNumber : PySem.W.clsIn K C_InvalidNumber = some cD_InvalidNumber)
    (g_InvalidTime : PySem.W.nsIn K mainGlobals "InvalidTime" = some (some (.ref C_InvalidTime))) (k_InvalidTime : PySem.W.keepIn K (.ref C_InvalidTime) = true) (q_InvalidTime : PySem.W.excIn K C_InvalidTime BMv "ValueError.__new__" = true) (b_InvalidTime : PySem.W.subIn K (.ref C_InvalidTime) (.type "BaseException") = some true) (t_InvalidTime : PySem.W.typeIn K (.ref C_InvalidTime) = some (.type "type"))
    (g_DivisionByZero : PySem.W.nsIn K mainGlobals "DivisionByZero" = some (some (.ref C_DivisionByZero))) (k_DivisionByZero : PySem.W.keepIn K (.ref C_DivisionByZero) = true) (q_DivisionByZero : PySem.W.excIn K C_DivisionByZero BMa "ArithmeticError.__new__" = true) (b_DivisionByZero : PySem.W.subIn K (.ref C_DivisionByZero) (.type "BaseException") = some true) (t_DivisionByZero : PySem.W.typeIn K (.ref C_DivisionByZero) = some (.type "type"))
    (su_InvalidNumber_InvalidNumber : PySem.W.subIn K (.ref C_InvalidNumber) (.ref C_InvalidNumber) = some true)
    (g_Race : PySem.W.nsIn K mainGlobals "Race" = some (some (.ref C_Race)))
    (pg_Race : PySem.W.plainGet K C_Race Str.empty = true)
    (hd_Race : PySem.W.hasDictIn K C_Race = true)
    (po_Race : PySem.W.plainOver K C_Race = true)
    (sa_Race : PySem.W.findIn K (.ref C_Race) "__setattr__" = some (some (.builtin "object.__setattr__")))
    (mk_Race : PySem.W.makesIn K C_Race = true)
    (kc_Race : PySem.W.keepIn K (.ref C_Race) = true)
    (na_Race_length : PySem.W.findIn K (.ref C_Race) "_length" = some none)
    (na_Race_tracks : PySem.W.findIn K (.ref C_Race) "_tracks" = some none)
    (am_Race_init : PySem.W.findIn K (.ref C_Race) "__init__" = some (some (.ref fm_Race_init))) (im_Race_init : PySem.W.isFn K (.ref fm_Race_init) = true)
    (lm_Race_init : K.lookup fm_Race_init = some ⟨ocm_Race_init, odm_Race_init, .func (PySem.W.fnOf "__init__" "Race.__init__" (defArgs (inClass c_Race 0)) (defBody (inClass c_Race 0)) (defScope (inClass c_Race 0)) .none kVm_Race_init dcm_Race_init pmm_Race_init anm_Race_init cdm_Race_init ctm_Race_init), slm_Race_init⟩) (cm_Race_init : PySem.W.codeIn K cdm_Race_init "Race.__init__" = true) (km_Race_init : PySem.W.keepIn K (.ref fm_Race_init) = true)
    (am_Race_contains : PySem.W.findIn K (.ref C_Race) "__contains__" = some (some (.ref fm_Race_contains))) (im_Race_contains : PySem.W.isFn K (.ref fm_Race_contains) = true)
    (lm_Race_contains : K.lookup fm_Race_contains = some ⟨ocm_Race_contains, odm_Race_contains, .func (PySem.W.fnOf "__contains__" "Race.__contains__" (defArgs (inClass c_Race 3)) (defBody (inClass c_Race 3)) (defScope (inClass c_Race 3)) .none kVm_Race_contains dcm_Race_contains pmm_Race_contains anm_Race_contains cdm_Race_contains ctm_Race_contains), slm_Race_contains⟩) (cm_Race_contains : PySem.W.codeIn K cdm_Race_contains "Race.__contains__" = true) (km_Race_contains : PySem.W.keepIn K (.ref fm_Race_contains) = true)
    (am_Race_len : PySem.W.findIn K (.ref C_Race) "__len__" = some (some (.ref fm_Race_len))) (im_Race_len : PySem.W.isFn K (.ref fm_Race_len) = true)
    (lm_Race_len : K.lookup fm_Race_len = some ⟨ocm_Race_len, odm_Race_len, .func (PySem.W.fnOf "__len__" "Race.__len__" (defArgs (inClass c_Race 2)) (defBody (inClass c_Race 2)) (defScope (inClass c_Race 2)) .none kVm_Race_len dcm_Race_len pmm_Race_len anm_Race_len cdm_Race_len ctm_Race_len), slm_Race_len⟩) (cm_Race_len : PySem.W.codeIn K cdm_Race_len "Race.__len__" = true) (km_Race_len : PySem.W.keepIn K (.ref fm_Race_len) = true)
    (am_Race_eq : PySem.W.findIn K (.ref C_Race) "__eq__" = some (some (.ref fm_Race_eq))) (im_Race_eq : PySem.W.isFn K (.ref fm_Race_eq) = true)
    (lm_Race_eq : K.lookup fm_Race_eq = some ⟨ocm_Race_eq, odm_Race_eq, .func (PySem.W.fnOf "__eq__" "Race.__eq__" (defArgs (inClass c_Race 1)) (defBody (inClass c_Race 1)) (defScope (inClass c_Race 1)) .none kVm_Race_eq dcm_Race_eq pmm_Race_eq anm_Race_eq cdm_Race_eq ctm_Race_eq), slm_Race_eq⟩) (cm_Race_eq : PySem.W.codeIn K cdm_Race_eq "Race.__eq__" = true) (km_Race_eq : PySem.W.keepIn K (.ref fm_Race_eq) = true)
    (am_Race_names : PySem.W.findIn K (.ref C_Race) "names" = some (some (.ref fm_Race_names))) (im_Race_names : PySem.W.isFn K (.ref fm_Race_names) = true)
    (lm_Race_names : K.lookup fm_Race_names = some ⟨ocm_Race_names, odm_Race_names, .func (PySem.W.fnOf "names" "Race.names" (defArgs (inClass c_Race 5)) (defBody (inClass c_Race 5)) (defScope (inClass c_Race 5)) .none kVm_Race_names dcm_Race_names pmm_Race_names anm_Race_names cdm_Race_names ctm_Race_names), slm_Race_names⟩) (cm_Race_names : PySem.W.codeIn K cdm_Race_names "Race.names" = true) (km_Race_names : PySem.W.keepIn K (.ref fm_Race_names) = true)
    (am_Race_track : PySem.W.findIn K (.ref C_Race) "track" = some (some (.ref fm_Race_track))) (im_Race_track : PySem.W.isFn K (.ref fm_Race_track) = true)
    (lm_Race_track : K.lookup fm_Race_track = some ⟨ocm_Race_track, odm_Race_track, .func (PySem.W.fnOf "track" "Race.track" (defArgs (inClass c_Race 6)) (defBody (inClass c_Race 6)) (defScope (inClass c_Race 6)) .none kVm_Race_track dcm_Race_track pmm_Race_track anm_Race_track cdm_Race_track ctm_Race_track), slm_Race_track⟩) (cm_Race_track : PySem.W.codeIn K cdm_Race_track "Race.track" = true) (km_Race_track : PySem.W.keepIn K (.ref fm_Race_track) = true)
    (am_Race_place : PySem.W.findIn K (.ref C_Race) "place" = some (some (.ref fm_Race_place))) (im_Race_place : PySem.W.isFn K (.ref fm_Race_place) = true)
    (lm_Race_place : K.lookup fm_Race_place = some ⟨ocm_Race_place, odm_Race_place, .func (PySem.W.fnOf "place" "Race.place" (defArgs (inClass c_Race 12)) (defBody (inClass c_Race 12)) (defScope (inClass c_Race 12)) .none kVm_Race_place dcm_Race_place pmm_Race_place anm_Race_place cdm_Race_place ctm_Race_place), slm_Race_place⟩) (cm_Race_place : PySem.W.codeIn K cdm_Race_place "Race.place" = true) (km_Race_place : PySem.W.keepIn K (.ref fm_Race_place) = true)
    (am_Race_start : PySem.W.findIn K (.ref C_Race) "start" = some (some (.ref fm_Race_start))) (im_Race_start : PySem.W.isFn K (.ref fm_Race_start) = true)
    (lm_Race_start : K.lookup fm_Race_start = some ⟨ocm_Race_start, odm_Race_start, .func (PySem.W.fnOf "start" "Race.start" (defArgs (inClass c_Race 8)) (defBody (inClass c_Race 8)) (defScope (inClass c_Race 8)) .none kVm_Race_start dcm_Race_start pmm_Race_start anm_Race_start cdm_Race_start ctm_Race_start), slm_Race_start⟩) (cm_Race_start : PySem.W.codeIn K cdm_Race_start "Race.start" = true) (km_Race_start : PySem.W.keepIn K (.ref fm_Race_start) = true)
    (am_Race_pieces : PySem.W.findIn K (.ref C_Race) "pieces" = some (some (.ref fm_Race_pieces))) (im_Race_pieces : PySem.W.isFn K (.ref fm_Race_pieces) = true)
    (lm_Race_pieces : K.lookup fm_Race_pieces = some ⟨ocm_Race_pieces, odm_Race_pieces, .func (PySem.W.fnOf "pieces" "Race.pieces" (defArgs (inClass c_Race 9)) (defBody (inClass c_Race 9)) (defScope (inClass c_Race 9)) .none kVm_Race_pieces dcm_Race_pieces pmm_Race_pieces anm_Race_pieces cdm_Race_pieces ctm_Race_pieces), slm_Race_pieces⟩) (cm_Race_pieces : PySem.W.codeIn K cdm_Race_pieces "Race.pieces" = true) (km_Race_pieces : PySem.W.keepIn K (.ref fm_Race_pieces) = true)
    (am_Race_position : PySem.W.findIn K (.ref C_Race) "position" = some (some (.ref fm_Race_position))) (im_Race_position : PySem.W.isFn K (.ref fm_Race_position) = true)
    (lm_Race_position : K.lookup fm_Race_position = some ⟨ocm_Race_position, odm_Race_position, .func (PySem.W.fnOf "position" "Race.position" (defArgs (inClass c_Race 11)) (defBody (inClass c_Race 11)) (defScope (inClass c_Race 11)) .none kVm_Race_position dcm_Race_position pmm_Race_position anm_Race_position cdm_Race_position ctm_Race_position), slm_Race_position⟩) (cm_Race_position : PySem.W.codeIn K cdm_Race_position "Race.position" = true) (km_Race_position : PySem.W.keepIn K (.ref fm_Race_position) = true)
    (am_Race_change_times : PySem.W.findIn K (.ref C_Race) "change_times" = some (some (.ref fm_Race_change_times))) (im_Race_change_times : PySem.W.isFn K (.ref fm_Race_change_times) = true)
    (lm_Race_change_times : K.lookup fm_Race_change_times = some ⟨ocm_Race_change_times, odm_Race_change_times, .func (PySem.W.fnOf "change_times" "Race.change_times" (defArgs (inClass c_Race 10)) (defBody (inClass c_Race 10)) (defScope (inClass c_Race 10)) .none kVm_Race_change_times dcm_Race_change_times pmm_Race_change_times anm_Race_change_times cdm_Race_change_times ctm_Race_change_times), slm_Race_change_times⟩) (cm_Race_change_times : PySem.W.codeIn K cdm_Race_change_times "Race.change_times" = true) (km_Race_change_times : PySem.W.keepIn K (.ref fm_Race_change_times) = true)
    (am_Race_runners : PySem.W.findIn K (.ref C_Race) "_runners" = some (some (.ref fm_Race_runners))) (im_Race_runners : PySem.W.isFn K (.ref fm_Race_runners) = true)
    (lm_Race_runners : K.lookup fm_Race_runners = some ⟨ocm_Race_runners, odm_Race_runners, .func (PySem.W.fnOf "_runners" "Race._runners" (defArgs (inClass c_Race 21)) (defBody (inClass c_Race 21)) (defScope (inClass c_Race 21)) .none kVm_Race_runners dcm_Race_runners pmm_Race_runners anm_Race_runners cdm_Race_runners ctm_Race_runners), slm_Race_runners⟩) (cm_Race_runners : PySem.W.codeIn K cdm_Race_runners "Race._runners" = true) (km_Race_runners : PySem.W.keepIn K (.ref fm_Race_runners) = true)
    (am_Race_turned : PySem.W.findIn K (.ref C_Race) "turned" = some (some (.ref fm_Race_turned))) (im_Race_turned : PySem.W.isFn K (.ref fm_Race_turned) = true)
    (lm_Race_turned : K.lookup fm_Race_turned = some ⟨ocm_Race_turned, odm_Race_turned, .func (PySem.W.fnOf "turned" "Race.turned" (defArgs (inClass c_Race 18)) (defBody (inClass c_Race 18)) (defScope (inClass c_Race 18)) .none kVm_Race_turned dcm_Race_turned pmm_Race_turned anm_Race_turned cdm_Race_turned ctm_Race_turned), slm_Race_turned⟩) (cm_Race_turned : PySem.W.codeIn K cdm_Race_turned "Race.turned" = true) (km_Race_turned : PySem.W.keepIn K (.ref fm_Race_turned) = true)
    (am_Race_reversed_ring : PySem.W.findIn K (.ref C_Race) "reversed_ring" = some (some (.ref fm_Race_reversed_ring))) (im_Race_reversed_ring : PySem.W.isFn K (.ref fm_Race_reversed_ring) = true)
    (lm_Race_reversed_ring : K.lookup fm_Race_reversed_ring = some ⟨ocm_Race_reversed_ring, odm_Race_reversed_ring, .func (PySem.W.fnOf "reversed_ring" "Race.reversed_ring" (defArgs (inClass c_Race 19)) (defBody (inClass c_Race 19)) (defScope (inClass c_Race 19)) .none kVm_Race_reversed_ring dcm_Race_reversed_ring pmm_Race_reversed_ring anm_Race_reversed_ring cdm_Race_reversed_ring ctm_Race_reversed_ring), slm_Race_reversed_ring⟩) (cm_Race_reversed_ring : PySem.W.codeIn K cdm_Race_reversed_ring "Race.reversed_ring" = true) (km_Race_reversed_ring : PySem.W.keepIn K (.ref fm_Race_reversed_ring) = true)
    (am_Race_slowed : PySem.W.findIn K (.ref C_Race) "slowed" = some (some (.ref fm_Race_slowed))) (im_Race_slowed : PySem.W.isFn K (.ref fm_Race_slowed) = true)
    (lm_Race_slowed : K.lookup fm_Race_slowed = some ⟨ocm_Race_slowed, odm_Race_slowed, .func (PySem.W.fnOf "slowed" "Race.slowed" (defArgs (inClass c_Race 20)) (defBody (inClass c_Race 20)) (defScope (inClass c_Race 20)) .none kVm_Race_slowed dcm_Race_slowed pmm_Race_slowed anm_Race_slowed cdm_Race_slowed ctm_Race_slowed), slm_Race_slowed⟩) (cm_Race_slowed : PySem.W.codeIn K cdm_Race_slowed "Race.slowed" = true) (km_Race_slowed : PySem.W.keepIn K (.ref fm_Race_slowed) = true)
    (am_Race_changed : PySem.W.findIn K (.ref C_Race) "changed" = some (some (.ref fm_Race_changed))) (im_Race_changed : PySem.W.isFn K (.ref fm_Race_changed) = true)
    (lm_Race_changed : K.lookup fm_Race_changed = some ⟨ocm_Race_changed, odm_Race_changed, .func (PySem.W.fnOf "changed" "Race.changed" (defArgs (inClass c_Race 15)) (defBody (inClass c_Race 15)) (defScope (inClass c_Race 15)) .none kVm_Race_changed dcm_Race_changed pmm_Race_changed anm_Race_changed cdm_Race_changed ctm_Race_changed), slm_Race_changed⟩) (cm_Race_changed : PySem.W.codeIn K cdm_Race_changed "Race.changed" = true) (km_Race_changed : PySem.W.keepIn K (.ref fm_Race_changed) = true)
    (am_Race_without : PySem.W.findIn K (.ref C_Race) "without" = some (some (.ref fm_Race_without))) (im_Race_without : PySem.W.isFn K (.ref fm_Race_without) = true)
    (lm_Race_without : K.lookup fm_Race_without = some ⟨ocm_Race_without, odm_Race_without, .func (PySem.W.fnOf "without" "Race.without" (defArgs (inClass c_Race 16)) (defBody (inClass c_Race 16)) (defScope (inClass c_Race 16)) .none kVm_Race_without dcm_Race_without pmm_Race_without anm_Race_without cdm_Race_without ctm_Race_without), slm_Race_without⟩) (cm_Race_without : PySem.W.codeIn K cdm_Race_without "Race.without" = true) (km_Race_without : PySem.W.keepIn K (.ref fm_Race_without) = true)
    (am_Race_renamed : PySem.W.findIn K (.ref C_Race) "renamed" = some (some (.ref fm_Race_renamed))) (im_Race_renamed : PySem.W.isFn K (.ref fm_Race_renamed) = true)
    (lm_Race_renamed : K.lookup fm_Race_renamed = some ⟨ocm_Race_renamed, odm_Race_renamed, .func (PySem.W.fnOf "renamed" "Race.renamed" (defArgs (inClass c_Race 17)) (defBody (inClass c_Race 17)) (defScope (inClass c_Race 17)) .none kVm_Race_renamed dcm_Race_renamed pmm_Race_renamed anm_Race_renamed cdm_Race_renamed ctm_Race_renamed), slm_Race_renamed⟩) (cm_Race_renamed : PySem.W.codeIn K cdm_Race_renamed "Race.renamed" = true) (km_Race_renamed : PySem.W.keepIn K (.ref fm_Race_renamed) = true)
    (aap_Race_length : PySem.W.findIn K (.ref C_Race) "length" = some (some (.ref pp_Race_length)))
    (agp_Race_length : PySem.W.specialIn K (.ref pp_Race_length) "__get__" = some (some (.builtin "property.__get__")))
    (atp_Race_length : PySem.W.takesIn K (.ref pp_Race_length) = some true)
    (arp_Race_length : PySem.W.recIn K pp_Race_length "property" = some (.ref fp_Race_length :: restp_Race_length))
    (lp_Race_length : K.lookup fp_Race_length = some ⟨ocp_Race_length, odp_Race_length, .func (PySem.W.fnOf "length" "Race.length" (defArgs (inClass c_Race 4)) (defBody (inClass c_Race 4)) (defScope (inClass c_Race 4)) .none kVp_Race_length dcp_Race_length pmp_Race_length anp_Race_length cdp_Race_length ctp_Race_length), slp_Race_length⟩) (cp_Race_length : PySem.W.codeIn K cdp_Race_length "Race.length" = true) (kp_Race_length : PySem.W.keepIn K (.ref fp_Race_length) = true)
    (ow_ca_Race : PySem.W.findIn K (.ref C_Race) "__class__" = some (some (.builtin "object.__class__")))
    (is_cg : PySem.W.specialIn K (.builtin "object.__class__") "__get__" = some (some (.builtin "getset_descriptor.__get__")))
    (is_ct : PySem.W.takesIn K (.builtin "object.__class__") = some true)
    (ow_cm_Race : PySem.W.mroIn K C_Race (.type "object") = some true)
    (ow_cd_Race : PySem.W.clsIn K C_Race = some owcd_Race)
    (ow_ty_Race : PySem.W.typeIn K (.ref C_Race) = some (.type "type"))
    (ow_sNoneType_Race : PySem.W.subIn K (.type "NoneType") (.ref C_Race) = some false)
    (ow_sbool_Race : PySem.W.subIn K (.type "bool") (.ref C_Race) = some false)
    (ow_sint_Race : PySem.W.subIn K (.type "int") (.ref C_Race) = some false)
    (ow_sstr_Race : PySem.W.subIn K (.type "str") (.ref C_Race) = some false)
    (ow_slist_Race : PySem.W.subIn K (.type "list") (.ref C_Race) = some false)
    (ow_stuple_Race : PySem.W.subIn K (.type "tuple") (.ref C_Race) = some false)
    (ow_sdict_Race : PySem.W.subIn K (.type "dict") (.ref C_Race) = some false)
    (ow_ne_Race : PySem.W.findIn K (.ref C_Race) "__ne__" = some (some (.builtin "object.__ne__")))
    (ow_ob_Race : PySem.W.subIn K (.ref C_Race) (.type "object") = some true)
    (n_isinstance : PySem.W.nsIn K mainGlobals "isinstance" = some none)
    (n_int : PySem.W.nsIn K mainGlobals "int" = some none)
    (n_bool : PySem.W.nsIn K mainGlobals "bool" = some none)
    (n_tuple : PySem.W.nsIn K mainGlobals "tuple" = some none)
    (n_list : PySem.W.nsIn K mainGlobals "list" = some none)
    (n_len : PySem.W.nsIn K mainGlobals "len" = some none)
    (n_range : PySem.W.nsIn K mainGlobals "range" = some none)
    (n_all : PySem.W.nsIn K mainGlobals "all" = some none)
    (n_zip : PySem.W.nsIn K mainGlobals "zip" = some none)
    (n_max : PySem.W.nsIn K mainGlobals "max" = some none)
    (n_min : PySem.W.nsIn K mainGlobals "min" = some none)
    (n_str : PySem.W.nsIn K mainGlobals "str" = some none)
    (n_type : PySem.W.nsIn K mainGlobals "type" = some none)
    (n_dict : PySem.W.nsIn K mainGlobals "dict" = some none)
    (n_sorted : PySem.W.nsIn K mainGlobals "sorted" = some none)
    (n_set : PySem.W.nsIn K mainGlobals "set" = some none) :
    ∃ fd : FuncData, (∀ (s : Shared) (u : Value), BindsTo s fd ⟨[u], []⟩ [("script", u)]) ∧ ∀ base : Heap, K.In base → base.Ns mainGlobals mg → LG.FnG P w K mg base (L2.CX P w) 11 fa fd ["script"] (spLaw K) := by
  have e := hfa.symm.trans (PySem.W.mg_of X G a_law)
  cases e
  have F_is_integer := fun_mk (st := topS 13) l_is_integer c_is_integer k_is_integer
  have D_is_integer : DefAt K mg "is_integer" (topS 13) ["value"] _ _ := ⟨F_is_integer, PySem.W.mg_of X G a_is_integer, F_is_integer.binds (ps := ["value"]) fun _ _ _ _ _ _ us hl => match us, hl with | [_], _ => rfl⟩
  have F_is_ratio := fun_mk (st := topS 14) l_is_ratio c_is_ratio k_is_ratio
  have D_is_ratio : DefAt K mg "is_ratio" (topS 14) ["value"] _ _ := ⟨F_is_ratio, PySem.W.mg_of X G a_is_ratio, F_is_ratio.binds (ps := ["value"]) fun _ _ _ _ _ _ us hl => match us, hl with | [_], _ => rfl⟩
  have F_is_number := fun_mk (st := topS 15) l_is_number c_is_number k_is_number
  have D_is_number : DefAt K mg "is_number" (topS 15) ["value"] _ _ := ⟨F_is_number, PySem.W.mg_of X G a_is_number, F_is_number.binds (ps := ["value"]) fun _ _ _ _ _ _ us hl => match us, hl with | [_], _ => rfl⟩
  have F_as_ratio := fun_mk (st := topS 16) l_as_ratio c_as_ratio k_as_ratio
  have D_as_ratio : DefAt K mg "as_ratio" (topS 16) ["value"] _ _ := ⟨F_as_ratio, PySem.W.mg_of X G a_as_ratio, F_as_ratio.binds (ps := ["value"]) fun _ _ _ _ _ _ us hl => match us, hl with | [_], _ => rfl⟩
  have F_reduced := fun_mk (st := topS 17) l_reduced c_reduced k_reduced
  have D_reduced : DefAt K mg "reduced" (topS 17) ["top", "bottom"] _ _ := ⟨F_reduced, PySem.W.mg_of X G a_reduced, F_reduced.binds (ps := ["top", "bottom"]) fun _ _ _ _ _ _ us hl => match us, hl with | [_, _], _ => rfl⟩
  have F_plus := fun_mk (st := topS 19) l_plus c_plus k_plus
  have D_plus : DefAt K mg "plus" (topS 19) ["first", "second"] _ _ := ⟨F_plus, PySem.W.mg_of X G a_plus, F_plus.binds (ps := ["first", "second"]) fun _ _ _ _ _ _ us hl => match us, hl with | [_, _], _ => rfl⟩
  have F_minus := fun_mk (st := topS 20) l_minus c_minus k_minus
  have D_minus : DefAt K mg "minus" (topS 20) ["first", "second"] _ _ := ⟨F_minus, PySem.W.mg_of X G a_minus, F_minus.binds (ps := ["first", "second"]) fun _ _ _ _ _ _ us hl => match us, hl with | [_, _], _ => rfl⟩
  have F_times := fun_mk (st := topS 21) l_times c_times k_times
  have D_times : DefAt K mg "times" (topS 21) ["first", "second"] _ _ := ⟨F_times, PySem.W.mg_of X G a_times, F_times.binds (ps := ["first", "second"]) fun _ _ _ _ _ _ us hl => match us, hl with | [_, _], _ => rfl⟩
  have F_compare := fun_mk (st := topS 23) l_compare c_compare k_compare
  have D_compare : DefAt K mg "compare" (topS 23) ["first", "second"] _ _ := ⟨F_compare, PySem.W.mg_of X G a_compare, F_compare.binds (ps := ["first", "second"]) fun _ _ _ _ _ _ us hl => match us, hl with | [_, _], _ => rfl⟩
  have F_divided := fun_mk (st := topS 22) l_divided c_divided k_divided
  have D_divided : DefAt K mg "divided" (topS 22) ["first", "second"] _ _ := ⟨F_divided, PySem.W.mg_of X G a_divided, F_divided.binds (ps := ["first", "second"]) fun _ _ _ _ _ _ us hl => match us, hl with | [_, _], _ => rfl⟩
  have F_remainder := fun_mk (st := topS 24) l_remainder c_remainder k_remainder
  have D_remainder : DefAt K mg "remainder" (topS 24) ["value", "modulus"] _ _ := ⟨F_remainder, PySem.W.mg_of X G a_remainder, F_remainder.binds (ps := ["value", "modulus"]) fun _ _ _ _ _ _ us hl => match us, hl with | [_, _], _ => rfl⟩
  have F_is_name := fun_mk (st := topS 31) l_is_name c_is_name k_is_name
  have D_is_name : DefAt K mg "is_name" (topS 31) ["value"] _ _ := ⟨F_is_name, PySem.W.mg_of X G a_is_name, F_is_name.binds (ps := ["value"]) fun _ _ _ _ _ _ us hl => match us, hl with | [_], _ => rfl⟩
  have F_is_positive := fun_mk (st := topS 32) l_is_positive c_is_positive k_is_positive
  have D_is_positive : DefAt K mg "is_positive" (topS 32) ["value"] _ _ := ⟨F_is_positive, PySem.W.mg_of X G a_is_positive, F_is_positive.binds (ps := ["value"]) fun _ _ _ _ _ _ us hl => match us, hl with | [_], _ => rfl⟩
  have F_as_time := fun_mk (st := topS 33) l_as_time c_as_time k_as_time
  have D_as_time : DefAt K mg "as_time" (topS 33) ["value"] _ _ := ⟨F_as_time, PySem.W.mg_of X G a_as_time, F_as_time.binds (ps := ["value"]) fun _ _ _ _ _ _ us hl => match us, hl with | [_], _ => rfl⟩
  have F_position_in := fun_mk (st := topS 38) l_position_in c_position_in k_position_in
  have D_position_in : DefAt K mg "position_in" (topS 38) ["row", "time"] _ _ := ⟨F_position_in, PySem.W.mg_of X G a_position_in, F_position_in.binds (ps := ["row", "time"]) fun _ _ _ _ _ _ us hl => match us, hl with | [_, _], _ => rfl⟩
  have F_line := fun_mk (st := topS 36) l_line c_line k_line
  have D_line : DefAt K mg "_line" (topS 36) ["begin", "speed", "top", "bottom"] _ _ := ⟨F_line, PySem.W.mg_of X G a_line, F_line.binds (ps := ["begin", "speed", "top", "bottom"]) fun _ _ _ _ _ _ us hl => match us, hl with | [_, _, _, _], _ => rfl⟩
  have F_place_in := fun_mk (st := topS 39) l_place_in c_place_in k_place_in
  have D_place_in : DefAt K mg "place_in" (topS 39) ["row", "time", "length"] _ _ := ⟨F_place_in, PySem.W.mg_of X G a_place_in, F_place_in.binds (ps := ["row", "time", "length"]) fun _ _ _ _ _ _ us hl => match us, hl with | [_, _, _], _ => rfl⟩
  have F_row_at := fun_mk (st := topS 37) l_row_at c_row_at k_row_at
  have D_row_at : DefAt K mg "row_at" (topS 37) ["track", "time"] _ _ := ⟨F_row_at, PySem.W.mg_of X G a_row_at, F_row_at.binds (ps := ["track", "time"]) fun _ _ _ _ _ _ us hl => match us, hl with | [_, _], _ => rfl⟩
  have F_track_of := fun_mk (st := topS 35) l_track_of c_track_of k_track_of
  have D_track_of : DefAt K mg "track_of" (topS 35) ["start", "pieces"] _ _ := ⟨F_track_of, PySem.W.mg_of X G a_track_of, F_track_of.binds (ps := ["start", "pieces"]) fun _ _ _ _ _ _ us hl => match us, hl with | [_, _], _ => rfl⟩
  have F_track := fun_mk (st := topS 44) l_track c_track k_track
  have D_track : DefAt K mg "_track" (topS 44) ["name", "runner", "length"] _ _ := ⟨F_track, PySem.W.mg_of X G a_track, F_track.binds (ps := ["name", "runner", "length"]) fun _ _ _ _ _ _ us hl => match us, hl with | [_, _, _], _ => rfl⟩
  have F_is_runner := fun_mk (st := topS 45) l_is_runner c_is_runner k_is_runner
  have D_is_runner : DefAt K mg "_is_runner" (topS 45) ["value"] _ _ := ⟨F_is_runner, PySem.W.mg_of X G a_is_runner, F_is_runner.binds (ps := ["value"]) fun _ _ _ _ _ _ us hl => match us, hl with | [_], _ => rfl⟩
  have F_are_ascending := fun_mk (st := topS 46) l_are_ascending c_are_ascending k_are_ascending
  have D_are_ascending : DefAt K mg "_are_ascending" (topS 46) ["begins"] _ _ := ⟨F_are_ascending, PySem.W.mg_of X G a_are_ascending, F_are_ascending.binds (ps := ["begins"]) fun _ _ _ _ _ _ us hl => match us, hl with | [_], _ => rfl⟩
  have F_inserted := fun_mk (st := topS 27) l_inserted c_inserted k_inserted
  have D_inserted : DefAt K mg "_inserted" (topS 27) ["rows"] _ _ := ⟨F_inserted, PySem.W.mg_of X G a_inserted, F_inserted.binds (ps := ["rows"]) fun _ _ _ _ _ _ us hl => match us, hl with | [_], _ => rfl⟩
  have F_ranked := fun_mk (st := topS 28) l_ranked c_ranked k_ranked
  have D_ranked : DefAt K mg "_ranked" (topS 28) ["rows"] _ _ := ⟨F_ranked, PySem.W.mg_of X G a_ranked, F_ranked.binds (ps := ["rows"]) fun _ _ _ _ _ _ us hl => match us, hl with | [_], _ => rfl⟩
  have F_ascending := fun_mk (st := topS 26) l_ascending c_ascending k_ascending
  have D_ascending : DefAt K mg "ascending" (topS 26) ["rows"] _ _ := ⟨F_ascending, PySem.W.mg_of X G a_ascending, F_ascending.binds (ps := ["rows"]) fun _ _ _ _ _ _ us hl => match us, hl with | [_], _ => rfl⟩
  have F_in_order := fun_mk (st := topS 25) l_in_order c_in_order k_in_order
  have D_in_order : DefAt K mg "in_order" (topS 25) ["values"] _ _ := ⟨F_in_order, PySem.W.mg_of X G a_in_order, F_in_order.binds (ps := ["values"]) fun _ _ _ _ _ _ us hl => match us, hl with | [_], _ => rfl⟩
  have F_are_new_names := fun_mk (st := topS 47) l_are_new_names c_are_new_names k_are_new_names
  have D_are_new_names : DefAt K mg "_are_new_names" (topS 47) ["race", "value"] _ _ := ⟨F_are_new_names, PySem.W.mg_of X G a_are_new_names, F_are_new_names.binds (ps := ["race", "value"]) fun _ _ _ _ _ _ us hl => match us, hl with | [_, _], _ => rfl⟩
  have F_law_pool := fun_mk (st := topS 49) l_law_pool c_law_pool k_law_pool
  have D_law_pool : DefAt K mg "_law_pool" (topS 49) ["script", "k"] _ _ := ⟨F_law_pool, PySem.W.mg_of X G a_law_pool, F_law_pool.binds (ps := ["script", "k"]) fun _ _ _ _ _ _ us hl => match us, hl with | [_, _], _ => rfl⟩
  have F_law_draw := fun_mk (st := topS 50) l_law_draw c_law_draw k_law_draw
  have D_law_draw : DefAt K mg "_law_draw" (topS 50) ["pool", "many"] _ _ := ⟨F_law_draw, PySem.W.mg_of X G a_law_draw, F_law_draw.binds (ps := ["pool", "many"]) fun _ _ _ _ _ _ us hl => match us, hl with | [_, _], _ => rfl⟩
  have F_law_choose := fun_mk (st := topS 51) l_law_choose c_law_choose k_law_choose
  have D_law_choose : DefAt K mg "_law_choose" (topS 51) ["pool", "items"] _ _ := ⟨F_law_choose, PySem.W.mg_of X G a_law_choose, F_law_choose.binds (ps := ["pool", "items"]) fun _ _ _ _ _ _ us hl => match us, hl with | [_, _], _ => rfl⟩
  have F_law_number := fun_mk (st := topS 52) l_law_number c_law_number k_law_number
  have D_law_number : DefAt K mg "_law_number" (topS 52) ["pool", "low", "high"] _ _ := ⟨F_law_number, PySem.W.mg_of X G a_law_number, F_law_number.binds (ps := ["pool", "low", "high"]) fun _ _ _ _ _ _ us hl => match us, hl with | [_, _, _], _ => rfl⟩
  have F_law_pieces := fun_mk (st := topS 53) l_law_pieces c_law_pieces k_law_pieces
  have D_law_pieces : DefAt K mg "_law_pieces" (topS 53) ["pool"] _ _ := ⟨F_law_pieces, PySem.W.mg_of X G a_law_pieces, F_law_pieces.binds (ps := ["pool"]) fun _ _ _ _ _ _ us hl => match us, hl with | [_], _ => rfl⟩
  have F_law_race := fun_mk (st := topS 54) l_law_race c_law_race k_law_race
  have D_law_race : DefAt K mg "_law_race" (topS 54) ["pool", "many"] _ _ := ⟨F_law_race, PySem.W.mg_of X G a_law_race, F_law_race.binds (ps := ["pool", "many"]) fun _ _ _ _ _ _ us hl => match us, hl with | [_, _], _ => rfl⟩
  have F_law_check_change := fun_mk (st := topS 55) l_law_check_change c_law_check_change k_law_check_change
  have D_law_check_change : DefAt K mg "_law_check_change" (topS 55) ["pool", "race", "moments"] _ _ := ⟨F_law_check_change, PySem.W.mg_of X G a_law_check_change, F_law_check_change.binds (ps := ["pool", "race", "moments"]) fun _ _ _ _ _ _ us hl => match us, hl with | [_, _, _], _ => rfl⟩
  have F_law_check_turned := fun_mk (st := topS 56) l_law_check_turned c_law_check_turned k_law_check_turned
  have D_law_check_turned : DefAt K mg "_law_check_turned" (topS 56) ["pool", "race", "moments"] _ _ := ⟨F_law_check_turned, PySem.W.mg_of X G a_law_check_turned, F_law_check_turned.binds (ps := ["pool", "race", "moments"]) fun _ _ _ _ _ _ us hl => match us, hl with | [_, _, _], _ => rfl⟩
  have F_law_check_slowed := fun_mk (st := topS 57) l_law_check_slowed c_law_check_slowed k_law_check_slowed
  have D_law_check_slowed : DefAt K mg "_law_check_slowed" (topS 57) ["pool", "race", "moments"] _ _ := ⟨F_law_check_slowed, PySem.W.mg_of X G a_law_check_slowed, F_law_check_slowed.binds (ps := ["pool", "race", "moments"]) fun _ _ _ _ _ _ us hl => match us, hl with | [_, _, _], _ => rfl⟩
  have F_law := fun_mk (st := topS 58) l_law c_law k_law
  have D_law : DefAt K mg "law" (topS 58) ["script"] _ _ := ⟨F_law, PySem.W.mg_of X G a_law, F_law.binds (ps := ["script"]) fun _ _ _ _ _ _ us hl => match us, hl with | [_], _ => rfl⟩
  have F_ratio : FunD K "ratio" "ratio" (defArgs (topS 18)) (defBody (topS 18)) (defScope (topS 18)) [.int 1] [] f_ratio _ := ⟨⟨_, _, _, _, _, _, _, _, _, _, rfl, l_ratio, c_ratio, .inr ⟨by simp, DT_ratio, _, [.int 1 dt_ratio0], nT_ratio, rfl, lT_ratio, rfl, .cons ⟨_, rfl⟩ (.nil)⟩, .inl rfl⟩, k_ratio⟩
  obtain ⟨ds_ratio, hds_ratio, bb_ratio⟩ := F_ratio.binds1 (ps := ["numerator", "denominator"]) 2 1 (by simp) rfl fun T kV doc pm an cdv ct us its h1 h2 => match us, h1, its, h2 with | [_, _], _, [_], _ => ⟨_, rfl, rfl⟩
  have hz_ratio : ds_ratio = [] := by cases hds_ratio; rfl
  subst hz_ratio
  have D_ratio : DefV K mg "ratio" (topS 18) ["numerator", "denominator"] [.int 1] f_ratio _ := ⟨F_ratio, PySem.W.mg_of X G a_ratio, bb_ratio⟩
  have m_FEW := PySem.W.mg_of X G co_FEW
  have m_MOST_LETTERS := PySem.W.mg_of X G co_MOST_LETTERS
  have m_MOST_PIECES := PySem.W.mg_of X G co_MOST_PIECES
  have m_MOST_RUNNERS := PySem.W.mg_of X G co_MOST_RUNNERS
  have m_gcd := PySem.W.mg_of X G bi_gcd
  have XInvalidNumber : ErrAt K mg "InvalidNumber" BMv "ValueError.__new__" C_InvalidNumber := ⟨PySem.W.mg_of X G g_InvalidNumber, k_InvalidNumber, q_InvalidNumber, b_InvalidNumber, t_InvalidNumber⟩
  have XInvalidTime : ErrAt K mg "InvalidTime" BMv "ValueError.__new__" C_InvalidTime := ⟨PySem.W.mg_of X G g_InvalidTime, k_InvalidTime, q_InvalidTime, b_InvalidTime, t_InvalidTime⟩
  have XDivisionByZero : ErrAt K mg "DivisionByZero" BMa "ArithmeticError.__new__" C_DivisionByZero := ⟨PySem.W.mg_of X G g_DivisionByZero, k_DivisionByZero, q_DivisionByZero, b_DivisionByZero, t_DivisionByZero⟩
  have XmInvalidNumber_InvalidNumber := exm_selfD b_InvalidNumber (cls_some cl_InvalidNumber) t_InvalidNumber su_InvalidNumber_InvalidNumber
  have cC_Race : Cls K C_Race := ⟨pg_Race, hd_Race, po_Race, sa_Race⟩
  have cl_Race_length : ∀ (a dx : Addr) (fs : List (Str × V)) (H : Hp), H a = some (.ins C_Race dx fs) → Cls K C_Race ∧ NoAttr K C_Race "_length" := fun _ _ _ _ _ => ⟨cC_Race, na_Race_length⟩
  have cl_Race_tracks : ∀ (a dx : Addr) (fs : List (Str × V)) (H : Hp), H a = some (.ins C_Race dx fs) → Cls K C_Race ∧ NoAttr K C_Race "_tracks" := fun _ _ _ _ _ => ⟨cC_Race, na_Race_tracks⟩
  have Fm_Race_init := fun_mk (st := inClass c_Race 0) lm_Race_init cm_Race_init km_Race_init
  have bm_Race_init := Fm_Race_init.binds (ps := ["self", "length", "runners"]) fun _ _ _ _ _ _ us hl => match us, hl with | [_, _, _], _ => rfl
  have Mm_Race_init : Meth K C_Race "__init__" fm_Race_init := ⟨am_Race_init, im_Race_init, km_Race_init⟩
  have Fm_Race_contains := fun_mk (st := inClass c_Race 3) lm_Race_contains cm_Race_contains km_Race_contains
  have bm_Race_contains := Fm_Race_contains.binds (ps := ["self", "name"]) fun _ _ _ _ _ _ us hl => match us, hl with | [_, _], _ => rfl
  have Mm_Race_contains : Meth K C_Race "__contains__" fm_Race_contains := ⟨am_Race_contains, im_Race_contains, km_Race_contains⟩
  have Fm_Race_len := fun_mk (st := inClass c_Race 2) lm_Race_len cm_Race_len km_Race_len
  have bm_Race_len := Fm_Race_len.binds (ps := ["self"]) fun _ _ _ _ _ _ us hl => match us, hl with | [_], _ => rfl
  have Mm_Race_len : Meth K C_Race "__len__" fm_Race_len := ⟨am_Race_len, im_Race_len, km_Race_len⟩
  have Fm_Race_eq := fun_mk (st := inClass c_Race 1) lm_Race_eq cm_Race_eq km_Race_eq
  have bm_Race_eq := Fm_Race_eq.binds (ps := ["self", "other"]) fun _ _ _ _ _ _ us hl => match us, hl with | [_, _], _ => rfl
  have Mm_Race_eq : Meth K C_Race "__eq__" fm_Race_eq := ⟨am_Race_eq, im_Race_eq, km_Race_eq⟩
  have Fm_Race_names := fun_mk (st := inClass c_Race 5) lm_Race_names cm_Race_names km_Race_names
  have bm_Race_names := Fm_Race_names.binds (ps := ["self"]) fun _ _ _ _ _ _ us hl => match us, hl with | [_], _ => rfl
  have Mm_Race_names : Meth K C_Race "names" fm_Race_names := ⟨am_Race_names, im_Race_names, km_Race_names⟩
  have Fm_Race_track := fun_mk (st := inClass c_Race 6) lm_Race_track cm_Race_track km_Race_track
  have bm_Race_track := Fm_Race_track.binds (ps := ["self", "name"]) fun _ _ _ _ _ _ us hl => match us, hl with | [_, _], _ => rfl
  have Mm_Race_track : Meth K C_Race "track" fm_Race_track := ⟨am_Race_track, im_Race_track, km_Race_track⟩
  have Fm_Race_place := fun_mk (st := inClass c_Race 12) lm_Race_place cm_Race_place km_Race_place
  have bm_Race_place := Fm_Race_place.binds (ps := ["self", "name", "time"]) fun _ _ _ _ _ _ us hl => match us, hl with | [_, _, _], _ => rfl
  have Mm_Race_place : Meth K C_Race "place" fm_Race_place := ⟨am_Race_place, im_Race_place, km_Race_place⟩
  have Fm_Race_start := fun_mk (st := inClass c_Race 8) lm_Race_start cm_Race_start km_Race_start
  have bm_Race_start := Fm_Race_start.binds (ps := ["self", "name"]) fun _ _ _ _ _ _ us hl => match us, hl with | [_, _], _ => rfl
  have Mm_Race_start : Meth K C_Race "start" fm_Race_start := ⟨am_Race_start, im_Race_start, km_Race_start⟩
  have Fm_Race_pieces := fun_mk (st := inClass c_Race 9) lm_Race_pieces cm_Race_pieces km_Race_pieces
  have bm_Race_pieces := Fm_Race_pieces.binds (ps := ["self", "name"]) fun _ _ _ _ _ _ us hl => match us, hl with | [_, _], _ => rfl
  have Mm_Race_pieces : Meth K C_Race "pieces" fm_Race_pieces := ⟨am_Race_pieces, im_Race_pieces, km_Race_pieces⟩
  have Fm_Race_position := fun_mk (st := inClass c_Race 11) lm_Race_position cm_Race_position km_Race_position
  have bm_Race_position := Fm_Race_position.binds (ps := ["self", "name", "time"]) fun _ _ _ _ _ _ us hl => match us, hl with | [_, _, _], _ => rfl
  have Mm_Race_position : Meth K C_Race "position" fm_Race_position := ⟨am_Race_position, im_Race_position, km_Race_position⟩
  have Fm_Race_change_times := fun_mk (st := inClass c_Race 10) lm_Race_change_times cm_Race_change_times km_Race_change_times
  have bm_Race_change_times := Fm_Race_change_times.binds (ps := ["self"]) fun _ _ _ _ _ _ us hl => match us, hl with | [_], _ => rfl
  have Mm_Race_change_times : Meth K C_Race "change_times" fm_Race_change_times := ⟨am_Race_change_times, im_Race_change_times, km_Race_change_times⟩
  have Fm_Race_runners := fun_mk (st := inClass c_Race 21) lm_Race_runners cm_Race_runners km_Race_runners
  have bm_Race_runners := Fm_Race_runners.binds (ps := ["self"]) fun _ _ _ _ _ _ us hl => match us, hl with | [_], _ => rfl
  have Mm_Race_runners : Meth K C_Race "_runners" fm_Race_runners := ⟨am_Race_runners, im_Race_runners, km_Race_runners⟩
  have Fm_Race_turned := fun_mk (st := inClass c_Race 18) lm_Race_turned cm_Race_turned km_Race_turned
  have bm_Race_turned := Fm_Race_turned.binds (ps := ["self", "shift"]) fun _ _ _ _ _ _ us hl => match us, hl with | [_, _], _ => rfl
  have Mm_Race_turned : Meth K C_Race "turned" fm_Race_turned := ⟨am_Race_turned, im_Race_turned, km_Race_turned⟩
  have Fm_Race_reversed_ring := fun_mk (st := inClass c_Race 19) lm_Race_reversed_ring cm_Race_reversed_ring km_Race_reversed_ring
  have bm_Race_reversed_ring := Fm_Race_reversed_ring.binds (ps := ["self"]) fun _ _ _ _ _ _ us hl => match us, hl with | [_], _ => rfl
  have Mm_Race_reversed_ring : Meth K C_Race "reversed_ring" fm_Race_reversed_ring := ⟨am_Race_reversed_ring, im_Race_reversed_ring, km_Race_reversed_ring⟩
  have Fm_Race_slowed := fun_mk (st := inClass c_Race 20) lm_Race_slowed cm_Race_slowed km_Race_slowed
  have bm_Race_slowed := Fm_Race_slowed.binds (ps := ["self", "factor"]) fun _ _ _ _ _ _ us hl => match us, hl with | [_, _], _ => rfl
  have Mm_Race_slowed : Meth K C_Race "slowed" fm_Race_slowed := ⟨am_Race_slowed, im_Race_slowed, km_Race_slowed⟩
  have Fm_Race_changed := fun_mk (st := inClass c_Race 15) lm_Race_changed cm_Race_changed km_Race_changed
  have bm_Race_changed := Fm_Race_changed.binds (ps := ["self", "name", "time", "speed"]) fun _ _ _ _ _ _ us hl => match us, hl with | [_, _, _, _], _ => rfl
  have Mm_Race_changed : Meth K C_Race "changed" fm_Race_changed := ⟨am_Race_changed, im_Race_changed, km_Race_changed⟩
  have Fm_Race_without := fun_mk (st := inClass c_Race 16) lm_Race_without cm_Race_without km_Race_without
  have bm_Race_without := Fm_Race_without.binds (ps := ["self", "name"]) fun _ _ _ _ _ _ us hl => match us, hl with | [_, _], _ => rfl
  have Mm_Race_without : Meth K C_Race "without" fm_Race_without := ⟨am_Race_without, im_Race_without, km_Race_without⟩
  have Fm_Race_renamed := fun_mk (st := inClass c_Race 17) lm_Race_renamed cm_Race_renamed km_Race_renamed
  have bm_Race_renamed := Fm_Race_renamed.binds (ps := ["self", "names"]) fun _ _ _ _ _ _ us hl => match us, hl with | [_, _], _ => rfl
  have Mm_Race_renamed : Meth K C_Race "renamed" fm_Race_renamed := ⟨am_Race_renamed, im_Race_renamed, km_Race_renamed⟩
  have Fp_Race_length := fun_mk (st := inClass c_Race 4) lp_Race_length cp_Race_length kp_Race_length
  have bp_Race_length := Fp_Race_length.binds (ps := ["self"]) fun _ _ _ _ _ _ us hl => match us, hl with | [_], _ => rfl
  have Pp_Race_length : PropOf K C_Race "length" pp_Race_length fp_Race_length := ⟨aap_Race_length, agp_Race_length, atp_Race_length, restp_Race_length, arp_Race_length⟩
  have T_Race : OwnC K C_Race := ownC_of cC_Race ow_ca_Race is_cg is_ct ow_cm_Race ow_cd_Race ow_ty_Race fun k => match k with | .non => ow_sNoneType_Race | .bl => ow_sbool_Race | .int => ow_sint_Race | .str => ow_sstr_Race | .lst => ow_slist_Race | .tup => ow_stuple_Race | .dct => ow_sdict_Race
  have Eq_Race : OC.EqC K C_Race _ := ⟨Mm_Race_eq, ow_ne_Race, ow_ob_Race⟩
  have m_isinstance := PySem.W.mg_none_of X G n_isinstance
  have m_int := PySem.W.mg_none_of X G n_int
  have m_bool := PySem.W.mg_none_of X G n_bool
  have m_tuple := PySem.W.mg_none_of X G n_tuple
  have m_list := PySem.W.mg_none_of X G n_list
  have m_len := PySem.W.mg_none_of X G n_len
  have m_range := PySem.W.mg_none_of X G n_range
  have m_all := PySem.W.mg_none_of X G n_all
  have m_zip := PySem.W.mg_none_of X G n_zip
  have m_max := PySem.W.mg_none_of X G n_max
  have m_min := PySem.W.mg_none_of X G n_min
  have m_str := PySem.W.mg_none_of X G n_str
  have m_type := PySem.W.mg_none_of X G n_type
  have m_dict := PySem.W.mg_none_of X G n_dict
  have m_sorted := PySem.W.mg_none_of X G n_sorted
  have m_set := PySem.W.mg_none_of X G n_set
  refine ⟨PySem.W.fnOf "law" "law" (defArgs (topS 58)) (defBody (topS 58)) (defScope (topS 58)) .none kV_law dc_law pm_law an_law cd_law ct_law, fun s u => .of_eq rfl, fun base KB GB => ?_⟩

  have Nint := ok_int (P := P) (w := w) (mg := mg) (base := base) D_is_integer m_isinstance m_int m_bool
  have Gint := Nint.toD
  have Nisr := ok_isr (P := P) (w := w) (mg := mg) (base := base) D_is_ratio m_isinstance m_tuple m_len m_gcd Nint
  have Gisn := ok_isn (P := P) (w := w) (mg := mg) (base := base) D_is_number Gint Nisr.toD
  have Nasr := ok_asr (P := P) (w := w) (mg := mg) (base := base) D_as_ratio XInvalidNumber m_type m_int m_tuple m_len m_gcd Nint Nisr
  have Gasr := Nasr.toD
  have Gred := ok_red (P := P) (w := w) (mg := mg) (base := base) D_reduced m_gcd
  have Gplus := ok_plus (P := P) (w := w) (mg := mg) (base := base) D_plus Gasr Gred
  have Gminus := ok_minus (P := P) (w := w) (mg := mg) (base := base) D_minus Gasr Gred
  have Gtimes := ok_times (P := P) (w := w) (mg := mg) (base := base) D_times Gasr Gred
  have Gcmp := ok_compare (P := P) (w := w) (mg := mg) (base := base) D_compare Gasr Gred
  have Gdiv := ok_divided (P := P) (w := w) (mg := mg) (base := base) D_divided XDivisionByZero Gasr Gred
  have Grem := ok_remainder (P := P) (w := w) (mg := mg) (base := base) D_remainder XDivisionByZero Gasr Gred
  have Grat := ok_ratio (P := P) (w := w) (mg := mg) (base := base) D_ratio Gint Gred
  have Gpos := ok_pos (P := P) (w := w) (mg := mg) (base := base) D_is_positive Gisn Gasr
  have Gtime := ok_time (P := P) (w := w) (mg := mg) (base := base) D_as_time (PySem.W.mg_of X G g_InvalidNumber) XmInvalidNumber_InvalidNumber XInvalidTime Nasr
  have Gpin := ok_pin (P := P) (w := w) (mg := mg) (base := base) D_position_in
  have Glin := ok_line (P := P) (w := w) (mg := mg) (base := base) D_line m_gcd
  have Gplc := ok_plc (P := P) (w := w) (mg := mg) (base := base) D_place_in Gpin Gred
  have Gra := ok_ra (P := P) (w := w) (mg := mg) (base := base) D_row_at
  have Gto := ok_to (P := P) (w := w) (mg := mg) (base := base) D_track_of m_tuple Gpin Glin
  have Gnam := ok_nam (P := P) (w := w) (mg := mg) (base := base) D_is_name m_MOST_LETTERS m_isinstance m_str m_len
  have Gisrn := ok_isrn (P := P) (w := w) (mg := mg) (base := base) D_is_runner m_MOST_PIECES m_isinstance m_tuple m_list m_len m_all
  have Gasc := ok_asc (P := P) (w := w) (mg := mg) (base := base) D_are_ascending m_all m_zip
  have Gtrk := ok_trk (P := P) (w := w) (mg := mg) (base := base) D_track Gnam Gisrn Grem Gasr Gasc Gto
  have Ginit := ok_raceInit (P := P) (w := w) (mg := mg) (base := base) Fm_Race_init cl_Race_length cl_Race_tracks m_MOST_RUNNERS m_isinstance m_dict m_len m_sorted Gpos Gasr Gtrk
  have I_Race : DefI P w K mg base "Race" C_Race 6 sdInit := ⟨_, _, _, Ginit, ⟨mk_Race, am_Race_init, im_Race_init, kc_Race⟩, PySem.W.mg_of X G g_Race, bm_Race_init⟩
  have M_contains : DefM P w K mg base C_Race NS "__contains__" 1 (sdHas C_Race) := ⟨⟨_, _, _, ok_has (P := P) (w := w) (mg := mg) (base := base) Fm_Race_contains cC_Race na_Race_tracks m_isinstance m_str, cC_Race, Mm_Race_contains, bm_Race_contains⟩, by decide⟩
  have M_track : DefM P w K mg base C_Race NS "track" 3 (sdTrack C_Race C_Race) := ⟨⟨_, _, _, ok_track (P := P) (w := w) (mg := mg) (base := base) Fm_Race_track cC_Race na_Race_tracks M_contains, cC_Race, Mm_Race_track, bm_Race_track⟩, by decide⟩
  have M_place : DefM P w K mg base C_Race NS "place" 5 (sdPlace C_Race C_Race C_InvalidTime) := ⟨⟨_, _, _, ok_place (P := P) (w := w) (mg := mg) (base := base) Fm_Race_place cC_Race na_Race_length M_track Gtime Gra Gplc, cC_Race, Mm_Race_place, bm_Race_place⟩, by decide⟩
  have M_names : DefMF P w K mg base C_Race NS "names" 1 (sdNames C_Race) := ⟨⟨_, _, _, ok_names (P := P) (w := w) (mg := mg) (base := base) Fm_Race_names cC_Race na_Race_tracks m_list, cC_Race, Mm_Race_names, bm_Race_names⟩, by decide⟩
  have M_start : DefM P w K mg base C_Race NS "start" 4 (sdStart C_Race) := ⟨⟨_, _, _, ok_start (P := P) (w := w) (mg := mg) (base := base) Fm_Race_start cC_Race M_track Gred, cC_Race, Mm_Race_start, bm_Race_start⟩, by decide⟩
  have M_pieces : DefMF P w K mg base C_Race NS "pieces" 4 (sdPieces C_Race) := ⟨⟨_, _, _, ok_pieces (P := P) (w := w) (mg := mg) (base := base) Fm_Race_pieces cC_Race M_track, cC_Race, Mm_Race_pieces, bm_Race_pieces⟩, by decide⟩
  have M_position : DefM P w K mg base C_Race NS "position" 5 (sdPosition C_Race C_InvalidTime) := ⟨⟨_, _, _, ok_position (P := P) (w := w) (mg := mg) (base := base) Fm_Race_position cC_Race M_track Gtime Gra Gpin Gred, cC_Race, Mm_Race_position, bm_Race_position⟩, by decide⟩
  have Ginsd := ok_insd (P := P) (w := w) (mg := mg) (base := base) D_inserted m_len
  have Grank := ok_rank (P := P) (w := w) (mg := mg) (base := base) D_ranked
  have Gascd := ok_ascd (P := P) (w := w) (mg := mg) (base := base) D_ascending m_len m_FEW Grank Ginsd
  have Gord := ok_ord (P := P) (w := w) (mg := mg) (base := base) D_in_order m_isinstance m_list m_type m_int Gasr Gascd
  have M_change_times : DefM P w K mg base C_Race NS "change_times" 5 (sdChT C_Race) := ⟨⟨_, _, _, ok_cht (P := P) (w := w) (mg := mg) (base := base) Fm_Race_change_times cC_Race na_Race_tracks Gord, cC_Race, Mm_Race_change_times, bm_Race_change_times⟩, by decide⟩
  have M_len : DefM P w K mg base C_Race NS "__len__" 1 (sdRLen C_Race) := ⟨⟨_, _, _, ok_rlen (P := P) (w := w) (mg := mg) (base := base) Fm_Race_len cC_Race na_Race_tracks m_len, cC_Race, Mm_Race_len, bm_Race_len⟩, by decide⟩
  have Q_Race : DefEq P w K mg base C_Race NS 2 (sdREq C_Race) := ⟨⟨_, _, _, ok_req (P := P) (w := w) (mg := mg) (base := base) Fm_Race_eq cC_Race na_Race_length na_Race_tracks m_isinstance (PySem.W.mg_of X G g_Race) T_Race, Eq_Race, bm_Race_eq⟩, T_Race⟩
  have P_length : DefP P w K mg base C_Race NS "length" 1 (sdLength C_Race) := ⟨_, _, _, _, ok_length (P := P) (w := w) (mg := mg) (base := base) Fp_Race_length cC_Race na_Race_length, cC_Race, Pp_Race_length, bp_Race_length⟩
  have M_runners : DefMM P w K mg base C_Race NS "_runners" 5 (sdRnrs C_Race) := ⟨⟨_, _, _, ok_rnrs (P := P) (w := w) (mg := mg) (base := base) Fm_Race_runners cC_Race na_Race_tracks M_start M_pieces, cC_Race, Mm_Race_runners, bm_Race_runners⟩, by decide⟩
  have M_turned : DefM P w K mg base C_Race NS "turned" 9 (sdTurn C_Race C_InvalidNumber) := ⟨⟨_, _, _, ok_turn (P := P) (w := w) (mg := mg) (base := base) Fm_Race_turned cC_Race na_Race_length M_runners I_Race Gasr Gplus, cC_Race, Mm_Race_turned, bm_Race_turned⟩, by decide⟩
  have M_reversed_ring : DefM P w K mg base C_Race NS "reversed_ring" 9 (sdRev C_Race) := ⟨⟨_, _, _, ok_rev (P := P) (w := w) (mg := mg) (base := base) Fm_Race_reversed_ring cC_Race na_Race_length M_runners I_Race Gminus, cC_Race, Mm_Race_reversed_ring, bm_Race_reversed_ring⟩, by decide⟩
  have M_slowed : DefM P w K mg base C_Race NS "slowed" 9 (sdSlow C_Race) := ⟨⟨_, _, _, ok_slow (P := P) (w := w) (mg := mg) (base := base) Fm_Race_slowed cC_Race na_Race_length M_runners I_Race Gpos Gtimes Gdiv, cC_Race, Mm_Race_slowed, bm_Race_slowed⟩, by decide⟩
  have M_changed : DefM P w K mg base C_Race NS "changed" 9 (sdChg C_Race) := ⟨⟨_, _, _, ok_chg (P := P) (w := w) (mg := mg) (base := base) Fm_Race_changed cC_Race na_Race_length M_runners I_Race M_pieces M_start Gtime Gasr Gcmp, cC_Race, Mm_Race_changed, bm_Race_changed⟩, by decide⟩
  have M_without : DefM P w K mg base C_Race NS "without" 9 (sdLessR C_Race) := ⟨⟨_, _, _, ok_lessR (P := P) (w := w) (mg := mg) (base := base) Fm_Race_without cC_Race na_Race_length M_runners I_Race M_contains, cC_Race, Mm_Race_without, bm_Race_without⟩, by decide⟩
  have Gnew := ok_new (P := P) (w := w) (mg := mg) (base := base) D_are_new_names m_isinstance m_dict m_len m_list m_all m_set M_len M_contains Gnam
  have M_renamed : DefM P w K mg base C_Race NS "renamed" 9 (sdRnm C_Race) := ⟨⟨_, _, _, ok_rnm (P := P) (w := w) (mg := mg) (base := base) Fm_Race_renamed cC_Race na_Race_length M_runners I_Race Gnew, cC_Race, Mm_Race_renamed, bm_Race_renamed⟩, by decide⟩
  have Gpool := ok_pool (P := P) (w := w) (mg := mg) (base := base) D_law_pool m_len
  have Gdraw := ok_draw (P := P) (w := w) (mg := mg) (base := base) D_law_draw
  have Gcho := ok_choose (P := P) (w := w) (mg := mg) (base := base) D_law_choose m_len Gdraw
  have Gnum := ok_num (P := P) (w := w) (mg := mg) (base := base) D_law_number Gdraw Grat
  have Gpcs := ok_lpcs (P := P) (w := w) (mg := mg) (base := base) D_law_pieces m_range Gnum Gdraw Grat Gplus
  have Grace := ok_lrace (P := P) (w := w) (mg := mg) (base := base) D_law_race Gnum Gpcs Gcho I_Race
  have Gckc := ok_ckc (P := P) (w := w) (mg := mg) (base := base) D_law_check_change Gcho Gnum M_names M_changed M_position M_pieces Gcmp Gplus Gminus Gtimes
  have Gckt := ok_ckt (P := P) (w := w) (mg := mg) (base := base) D_law_check_turned Gnum M_names M_turned M_reversed_ring M_place P_length M_position M_start Q_Race Grem Gplus Gminus
  have Gcks := ok_cks (P := P) (w := w) (mg := mg) (base := base) D_law_check_slowed Gdraw Grat M_names M_slowed M_change_times M_position Q_Race Gtimes Gdiv
  have FL := ok_law (P := P) (w := w) (mg := mg) (base := base) D_law m_range m_max m_min m_len m_dict m_sorted Gpool Gdraw Grace Gcho Gnum Gckc Gckt Gcks I_Race Q_Race M_names M_start M_pieces M_change_times M_without M_renamed P_length M_len
  exact (FL.imp law_of).toG
end LR
open PySem PySem.W PyProof.Rows
set_option Elab.async false
set_option linter.all false
set_option maxRecDepth 100000
set_option maxHeartbeats 0 in
theorem PySem.Challenge.cw_laprunners_k08_changed_races_holds : PySem.Challenge.rw_laprunners_k08_changed_races.Holds := by
  w_on; o_law; k_head; (case hw => w_witness2)
  k_fill
  refine LG.walk_G (l := PySem.Challenge.rw_laprunners_k08_changed_races) (n := 63) (k := 11) (x := "script") (CX := fun w => L2.CX (PySem.Challenge.rw_laprunners_k08_changed_races).prog w) (sp := fun w => LR.spLaw _) rfl (by decide) rfl ⟨rfl, by decide, by decide⟩ (fun w h Y => PySem.W.kIn_of Y) ?F
    (fun w H a ns hl _ hS => ⟨a, ns, rfl, hS, hl, fun H' => rfl⟩) (fun w H s e s' z => ?Z)
  case Z =>
    obtain ⟨_, _, _, _, _, _, _, _, _, _, _, _, z⟩ := z
    exact z
  case F =>
    intro w mg fa h KX G hmg
    refine' LR.all_mk KX G hmg ?a_is_integer ?l_is_integer ?c_is_integer ?k_is_integer ?a_is_ratio ?l_is_ratio ?c_is_ratio ?k_is_ratio ?a_is_number ?l_is_number ?c_is_number ?k_is_number ?a_as_ratio ?l_as_ratio ?c_as_ratio ?k_as_ratio ?a_reduced ?l_reduced ?c_reduced ?k_reduced ?a_plus ?l_plus ?c_plus ?k_plus ?a_minus ?l_minus ?c_minus ?k_minus ?a_times ?l_times ?c_times ?k_times ?a_compare ?l_compare ?c_compare ?k_compare ?a_divided ?l_divided ?c_divided ?k_divided ?a_remainder ?l_remainder ?c_remainder ?k_remainder ?a_is_name ?l_is_name ?c_is_name ?k_is_name ?a_is_positive ?l_is_positive ?c_is_positive ?k_is_positive ?a_as_time ?l_as_time ?c_as_time ?k_as_time ?a_position_in ?l_position_in ?c_position_in ?k_position_in ?a_line ?l_line ?c_line ?k_line ?a_place_in ?l_place_in ?c_place_in ?k_place_in ?a_row_at ?l_row_at ?c_row_at ?k_row_at ?a_track_of ?l_track_of ?c_track_of ?k_track_of ?a_track ?l_track ?c_track ?k_track ?a_is_runner ?l_is_runner ?c_is_runner ?k_is_runner ?a_are_ascending ?l_are_ascending ?c_are_ascending ?k_are_ascending ?a_inserted ?l_inserted ?c_inserted ?k_inserted ?a_ranked ?l_ranked ?c_ranked ?k_ranked ?a_ascending ?l_ascending ?c_ascending ?k_ascending ?a_in_order ?l_in_order ?c_in_order ?k_in_order ?a_are_new_names ?l_are_new_names ?c_are_new_names ?k_are_new_names ?a_law_pool ?l_law_pool ?c_law_pool ?k_law_pool ?a_law_draw ?l_law_draw ?c_law_draw ?k_law_draw ?a_law_choose ?l_law_choose ?c_law_choose ?k_law_choose ?a_law_number ?l_law_number ?c_law_number ?k_law_number ?a_law_pieces ?l_law_pieces ?c_law_pieces ?k_law_pieces ?a_law_race ?l_law_race ?c_law_race ?k_law_race ?a_law_check_change ?l_law_check_change ?c_law_check_change ?k_law_check_change ?a_law_check_turned ?l_law_check_turned ?c_law_check_turned ?k_law_check_turned ?a_law_check_slowed ?l_law_check_slowed ?c_law_check_slowed ?k_law_check_slowed ?a_law ?l_law ?c_law ?k_law ?a_ratio ?l_ratio ?c_ratio ?k_ratio ?lT_ratio ?co_FEW ?co_MOST_LETTERS ?co_MOST_PIECES ?co_MOST_RUNNERS ?bi_gcd ?g_InvalidNumber ?k_InvalidNumber ?q_InvalidNumber ?b_InvalidNumber ?t_InvalidNumber ?cl_InvalidNumber ?g_InvalidTime ?k_InvalidTime ?q_InvalidTime ?b_InvalidTime ?t_InvalidTime ?g_DivisionByZero ?k_DivisionByZero ?q_DivisionByZero ?b_DivisionByZero ?t_DivisionByZero ?su_InvalidNumber_InvalidNumber ?g_Race ?pg_Race ?hd_Race ?po_Race ?sa_Race ?mk_Race ?kc_Race ?na_Race_length ?na_Race_tracks ?am_Race_init ?im_Race_init ?lm_Race_init ?cm_Race_init ?km_Race_init ?am_Race_contains ?im_Race_contains ?lm_Race_contains ?cm_Race_contains ?km_Race_contains ?am_Race_len ?im_Race_len ?lm_Race_len ?cm_Race_len ?km_Race_len ?am_Race_eq ?im_Race_eq ?lm_Race_eq ?cm_Race_eq ?km_Race_eq ?am_Race_names ?im_Race_names ?lm_Race_names ?cm_Race_names ?km_Race_names ?am_Race_track ?im_Race_track ?lm_Race_track ?cm_Race_track ?km_Race_track ?am_Race_place ?im_Race_place ?lm_Race_place ?cm_Race_place ?km_Race_place ?am_Race_start ?im_Race_start ?lm_Race_start ?cm_Race_start ?km_Race_start ?am_Race_pieces ?im_Race_pieces ?lm_Race_pieces ?cm_Race_pieces ?km_Race_pieces ?am_Race_position ?im_Race_position ?lm_Race_position ?cm_Race_position ?km_Race_position ?am_Race_change_times ?im_Race_change_times ?lm_Race_change_times ?cm_Race_change_times ?km_Race_change_times ?am_Race_runners ?im_Race_runners ?lm_Race_runners ?cm_Race_runners ?km_Race_runners ?am_Race_turned ?im_Race_turned ?lm_Race_turned ?cm_Race_turned ?km_Race_turned ?am_Race_reversed_ring ?im_Race_reversed_ring ?lm_Race_reversed_ring ?cm_Race_reversed_ring ?km_Race_reversed_ring ?am_Race_slowed ?im_Race_slowed ?lm_Race_slowed ?cm_Race_slowed ?km_Race_slowed ?am_Race_changed ?im_Race_changed ?lm_Race_changed ?cm_Race_changed ?km_Race_changed ?am_Race_without ?im_Race_without ?lm_Race_without ?cm_Race_without ?km_Race_without ?am_Race_renamed ?im_Race_renamed ?lm_Race_renamed ?cm_Race_renamed ?km_Race_renamed ?aap_Race_length ?agp_Race_length ?atp_Race_length ?arp_Race_length ?lp_Race_length ?cp_Race_length ?kp_Race_length ?ow_ca_Race ?is_cg ?is_ct ?ow_cm_Race ?ow_cd_Race ?ow_ty_Race ?ow_sNoneType_Race ?ow_sbool_Race ?ow_sint_Race ?ow_sstr_Race ?ow_slist_Race ?ow_stuple_Race ?ow_sdict_Race ?ow_ne_Race ?ow_ob_Race ?n_isinstance ?n_int ?n_bool ?n_tuple ?n_list ?n_len ?n_range ?n_all ?n_zip ?n_max ?n_min ?n_str ?n_type ?n_dict ?n_sorted ?n_set
    (case a_is_integer => k_is); (case l_is_integer => k_is); (case c_is_integer => k_is); (case k_is_integer => k_is); (case a_is_ratio => k_is); (case l_is_ratio => k_is)
    (case c_is_ratio => k_is); (case k_is_ratio => k_is); (case a_is_number => k_is); (case l_is_number => k_is); (case c_is_number => k_is); (case k_is_number => k_is)
    (case a_as_ratio => k_is); (case l_as_ratio => k_is); (case c_as_ratio => k_is); (case k_as_ratio => k_is); (case a_reduced => k_is); (case l_reduced => k_is)
    (case c_reduced => k_is); (case k_reduced => k_is); (case a_plus => k_is); (case l_plus => k_is); (case c_plus => k_is); (case k_plus => k_is)
    (case a_minus => k_is); (case l_minus => k_is); (case c_minus => k_is); (case k_minus => k_is); (case a_times => k_is); (case l_times => k_is)
    (case c_times => k_is); (case k_times => k_is); (case a_compare => k_is); (case l_compare => k_is); (case c_compare => k_is); (case k_compare => k_is)
    (case a_divided => k_is); (case l_divided => k_is); (case c_divided => k_is); (case k_divided => k_is); (case a_remainder => k_is); (case l_remainder => k_is)
    (case c_remainder => k_is); (case k_remainder => k_is); (case a_is_name => k_is); (case l_is_name => k_is); (case c_is_name => k_is); (case k_is_name => k_is)
    (case a_is_positive => k_is); (case l_is_positive => k_is); (case c_is_positive => k_is); (case k_is_positive => k_is); (case a_as_time => k_is); (case l_as_time => k_is)
    (case c_as_time => k_is); (case k_as_time => k_is); (case a_position_in => k_is); (case l_position_in => k_is); (case c_position_in => k_is); (case k_position_in => k_is)
    (case a_line => k_is); (case l_line => k_is); (case c_line => k_is); (case k_line => k_is); (case a_place_in => k_is); (case l_place_in => k_is)
    (case c_place_in => k_is); (case k_place_in => k_is); (case a_row_at => k_is); (case l_row_at => k_is); (case c_row_at => k_is); (case k_row_at => k_is)
    (case a_track_of => k_is); (case l_track_of => k_is); (case c_track_of => k_is); (case k_track_of => k_is); (case a_track => k_is); (case l_track => k_is)
    (case c_track => k_is); (case k_track => k_is); (case a_is_runner => k_is); (case l_is_runner => k_is); (case c_is_runner => k_is); (case k_is_runner => k_is)
    (case a_are_ascending => k_is); (case l_are_ascending => k_is); (case c_are_ascending => k_is); (case k_are_ascending => k_is); (case a_inserted => k_is); (case l_inserted => k_is)
    (case c_inserted => k_is); (case k_inserted => k_is); (case a_ranked => k_is); (case l_ranked => k_is); (case c_ranked => k_is); (case k_ranked => k_is)
    (case a_ascending => k_is); (case l_ascending => k_is); (case c_ascending => k_is); (case k_ascending => k_is); (case a_in_order => k_is); (case l_in_order => k_is)
    (case c_in_order => k_is); (case k_in_order => k_is); (case a_are_new_names => k_is); (case l_are_new_names => k_is); (case c_are_new_names => k_is); (case k_are_new_names => k_is)
    (case a_law_pool => k_is); (case l_law_pool => k_is); (case c_law_pool => k_is); (case k_law_pool => k_is); (case a_law_draw => k_is); (case l_law_draw => k_is)
    (case c_law_draw => k_is); (case k_law_draw => k_is); (case a_law_choose => k_is); (case l_law_choose => k_is); (case c_law_choose => k_is); (case k_law_choose => k_is)
    (case a_law_number => k_is); (case l_law_number => k_is); (case c_law_number => k_is); (case k_law_number => k_is); (case a_law_pieces => k_is); (case l_law_pieces => k_is)
    (case c_law_pieces => k_is); (case k_law_pieces => k_is); (case a_law_race => k_is); (case l_law_race => k_is); (case c_law_race => k_is); (case k_law_race => k_is)
    (case a_law_check_change => k_is); (case l_law_check_change => k_is); (case c_law_check_change => k_is); (case k_law_check_change => k_is); (case a_law_check_turned => k_is); (case l_law_check_turned => k_is)
    (case c_law_check_turned => k_is); (case k_law_check_turned => k_is); (case a_law_check_slowed => k_is); (case l_law_check_slowed => k_is); (case c_law_check_slowed => k_is); (case k_law_check_slowed => k_is)
    (case a_law => k_is); (case l_law => k_is); (case c_law => k_is); (case k_law => k_is); (case a_ratio => k_is); (case l_ratio => k_is)
    (case c_ratio => k_is); (case k_ratio => k_is); (case lT_ratio => k_is); (case co_FEW => k_is); (case co_MOST_LETTERS => k_is); (case co_MOST_PIECES => k_is)
    (case co_MOST_RUNNERS => k_is); (case bi_gcd => k_is); (case g_InvalidNumber => k_is); (case k_InvalidNumber => k_is); (case q_InvalidNumber => k_exc); (case b_InvalidNumber => k_is)
    (case t_InvalidNumber => k_is); (case cl_InvalidNumber => k_is); (case g_InvalidTime => k_is); (case k_InvalidTime => k_is); (case q_InvalidTime => k_exc); (case b_InvalidTime => k_is)
    (case t_InvalidTime => k_is); (case g_DivisionByZero => k_is); (case k_DivisionByZero => k_is); (case q_DivisionByZero => k_exc); (case b_DivisionByZero => k_is); (case t_DivisionByZero => k_is)
    (case su_InvalidNumber_InvalidNumber => k_is); (case g_Race => k_is); (case pg_Race => k_is); (case hd_Race => k_is); (case po_Race => k_is); (case sa_Race => k_is)
    (case mk_Race => k_is); (case kc_Race => k_is); (case na_Race_length => k_is); (case na_Race_tracks => k_is); (case am_Race_init => k_is); (case im_Race_init => k_is)
    (case lm_Race_init => k_is); (case cm_Race_init => k_is); (case km_Race_init => k_is); (case am_Race_contains => k_is); (case im_Race_contains => k_is); (case lm_Race_contains => k_is)
    (case cm_Race_contains => k_is); (case km_Race_contains => k_is); (case am_Race_len => k_is); (case im_Race_len => k_is); (case lm_Race_len => k_is); (case cm_Race_len => k_is)
    (case km_Race_len => k_is); (case am_Race_eq => k_is); (case im_Race_eq => k_is); (case lm_Race_eq => k_is); (case cm_Race_eq => k_is); (case km_Race_eq => k_is)
    (case am_Race_names => k_is); (case im_Race_names => k_is); (case lm_Race_names => k_is); (case cm_Race_names => k_is); (case km_Race_names => k_is); (case am_Race_track => k_is)
    (case im_Race_track => k_is); (case lm_Race_track => k_is); (case cm_Race_track => k_is); (case km_Race_track => k_is); (case am_Race_place => k_is); (case im_Race_place => k_is)
    (case lm_Race_place => k_is); (case cm_Race_place => k_is); (case km_Race_place => k_is); (case am_Race_start => k_is); (case im_Race_start => k_is); (case lm_Race_start => k_is)
    (case cm_Race_start => k_is); (case km_Race_start => k_is); (case am_Race_pieces => k_is); (case im_Race_pieces => k_is); (case lm_Race_pieces => k_is); (case cm_Race_pieces => k_is)
    (case km_Race_pieces => k_is); (case am_Race_position => k_is); (case im_Race_position => k_is); (case lm_Race_position => k_is); (case cm_Race_position => k_is); (case km_Race_position => k_is)
    (case am_Race_change_times => k_is); (case im_Race_change_times => k_is); (case lm_Race_change_times => k_is); (case cm_Race_change_times => k_is); (case km_Race_change_times => k_is); (case am_Race_runners => k_is)
    (case im_Race_runners => k_is); (case lm_Race_runners => k_is); (case cm_Race_runners => k_is); (case km_Race_runners => k_is); (case am_Race_turned => k_is); (case im_Race_turned => k_is)
    (case lm_Race_turned => k_is); (case cm_Race_turned => k_is); (case km_Race_turned => k_is); (case am_Race_reversed_ring => k_is); (case im_Race_reversed_ring => k_is); (case lm_Race_reversed_ring => k_is)
    (case cm_Race_reversed_ring => k_is); (case km_Race_reversed_ring => k_is); (case am_Race_slowed => k_is); (case im_Race_slowed => k_is); (case lm_Race_slowed => k_is); (case cm_Race_slowed => k_is)
    (case km_Race_slowed => k_is); (case am_Race_changed => k_is); (case im_Race_changed => k_is); (case lm_Race_changed => k_is); (case cm_Race_changed => k_is); (case km_Race_changed => k_is)
    (case am_Race_without => k_is); (case im_Race_without => k_is); (case lm_Race_without => k_is); (case cm_Race_without => k_is); (case km_Race_without => k_is); (case am_Race_renamed => k_is)
    (case im_Race_renamed => k_is); (case lm_Race_renamed => k_is); (case cm_Race_renamed => k_is); (case km_Race_renamed => k_is); (case aap_Race_length => k_is); (case agp_Race_length => k_is)
    (case atp_Race_length => k_is); (case arp_Race_length => k_is); (case lp_Race_length => k_is); (case cp_Race_length => k_is); (case kp_Race_length => k_is); (case ow_ca_Race => k_is)
    (case is_cg => k_is); (case is_ct => k_is); (case ow_cm_Race => k_is); (case ow_cd_Race => k_is); (case ow_ty_Race => k_is); (case ow_sNoneType_Race => k_is)
    (case ow_sbool_Race => k_is); (case ow_sint_Race => k_is); (case ow_sstr_Race => k_is); (case ow_slist_Race => k_is); (case ow_stuple_Race => k_is); (case ow_sdict_Race => k_is)
    (case ow_ne_Race => k_is); (case ow_ob_Race => k_is); (case n_isinstance => k_is); (case n_int => k_is); (case n_bool => k_is); (case n_tuple => k_is)
    (case n_list => k_is); (case n_len => k_is); (case n_range => k_is); (case n_all => k_is); (case n_zip => k_is); (case n_max => k_is)
    (case n_min => k_is); (case n_str => k_is); (case n_type => k_is); (case n_dict => k_is); (case n_sorted => k_is); (case n_set => k_is)
