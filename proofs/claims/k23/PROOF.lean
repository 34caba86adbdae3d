import PyProof.Rows.All
import HandS.ForMost
import HandS.ForExc
import HandS.Wide
import HandS.IsInst
import HandS.CallSlots
import HandS.Walk
import HandS.ExcCtx
import HandS.Style
import HandS.Defaults
import HandS.Strs
import HandS.Conv
import HandS.ExcInit
import HandS.SetFor
import HandS.Iter
import HandS.HotCalls
import HandS.ExcField
import HandS.ExcIs
import KE.KExcIs
import PySem.Challenge.RW_crossmeans_k23_count_table
import HandS.Ends
import Wide.All
import OpenK.AllK
import Wide.FinOn
set_option Elab.async false
set_option linter.all false
set_option maxRecDepth 100000
set_option maxHeartbeats 4000000
/-! DL: readings of the hand layer held against plain Lean functions over data. -/
namespace DL
set_option autoImplicit false
open PySem PySem.Spec L2

/-- a value as data -/
inductive D where
  | non | bl (b : Bool) | int (i : Int) | str (x : Str) | tup (xs : List D) | lst (xs : List D) | obj (C : Addr) (ns : List Str) (ds : List D)

mutual
def Rep (F : Hp) : D → V → Prop
  | .non, v => v = .non
  | .bl b, v => v = .bl b
  | .int i, v => v = .int i
  | .str x, v => v = .str x
  | .tup ds, v => ∃ a xs, v = .ref a ∧ F a = some (.tup xs) ∧ Reps F ds xs
  | .lst ds, v => ∃ a xs, v = .ref a ∧ F a = some (.lst xs) ∧ Reps F ds xs
  | .obj C ns ds, v => ∃ a dx xs, v = .ref a ∧ F a = some (.ins C dx (ns.zip xs)) ∧ ns.length = xs.length ∧ Reps F ds xs
def Reps (F : Hp) : List D → List V → Prop
  | [], xs => xs = []
  | d :: ds, xs => ∃ x r, xs = x :: r ∧ Rep F d x ∧ Reps F ds r
end

/-- what is frozen stands -/
def Sub (F H : Hp) : Prop := ∀ a o, F a = some o → H a = some o
theorem Sub.refl (F : Hp) : Sub F F := fun _ _ h => h
theorem Sub.trans {F G H : Hp} (a : Sub F G) (b : Sub G H) : Sub F H := fun x o h => b x o (a x o h)
theorem Sub.none {F H : Hp} (s : Sub F H) {a : Addr} (h : H a = none) : F a = none := by
  cases q : F a with
  | none => rfl
  | some o => rw [s a o q] at h; cases h

mutual
theorem Rep.mono {F G : Hp} (s : Sub F G) : ∀ (d : D) (v : V), Rep F d v → Rep G d v
  | .non, v, h => by simpa [Rep] using h
  | .bl b, v, h => by simpa [Rep] using h
  | .int i, v, h => by simpa [Rep] using h
  | .str x, v, h => by simpa [Rep] using h
  | .tup ds, v, h => by
    simp only [Rep] at h ⊢
    obtain ⟨a, xs, e, f, r⟩ := h
    exact ⟨a, xs, e, s _ _ f, Reps.mono s ds xs r⟩
  | .lst ds, v, h => by
    simp only [Rep] at h ⊢
    obtain ⟨a, xs, e, f, r⟩ := h
    exact ⟨a, xs, e, s _ _ f, Reps.mono s ds xs r⟩
  | .obj C ns ds, v, h => by
    simp only [Rep] at h ⊢
    obtain ⟨a, dx, xs, e, f, l, r⟩ := h
    exact ⟨a, dx, xs, e, s _ _ f, l, Reps.mono s ds xs r⟩
theorem Reps.mono {F G : Hp} (s : Sub F G) : ∀ (ds : List D) (xs : List V), Reps F ds xs → Reps G ds xs
  | [], xs, h => by simpa [Reps] using h
  | d :: ds, xs, h => by
    simp only [Reps] at h ⊢
    obtain ⟨x, r, e, h1, h2⟩ := h
    exact ⟨x, r, e, Rep.mono s d x h1, Reps.mono s ds r h2⟩
end

theorem reps_nil {F : Hp} {xs : List V} : Reps F [] xs ↔ xs = [] := by simp [Reps]
theorem reps_cons {F : Hp} {d : D} {ds : List D} {xs : List V} : Reps F (d :: ds) xs ↔ ∃ x r, xs = x :: r ∧ Rep F d x ∧ Reps F ds r := by simp [Reps]
theorem Reps.length {F : Hp} : ∀ {ds : List D} {xs : List V}, Reps F ds xs → xs.length = ds.length
  | [], xs, h => by rw [reps_nil.mp h]; rfl
  | d :: ds, xs, h => by
    obtain ⟨x, r, e, _, h2⟩ := reps_cons.mp h
    rw [e, List.length_cons, List.length_cons, Reps.length h2]
theorem Reps.get {F : Hp} : ∀ {ds : List D} {xs : List V} {i : Nat} {d : D}, Reps F ds xs → ds[i]? = some d → ∃ x, xs[i]? = some x ∧ Rep F d x
  | [], _, _, _, _, h => by simp at h
  | d :: ds, xs, 0, d', h, e => by
    obtain ⟨x, r, ex, h1, h2⟩ := reps_cons.mp h
    simp at e; subst e; exact ⟨x, by rw [ex]; rfl, h1⟩
  | d :: ds, xs, i + 1, d', h, e => by
    obtain ⟨x, r, ex, h1, h2⟩ := reps_cons.mp h
    obtain ⟨y, hy, ry⟩ := Reps.get (i := i) (d := d') h2 (by simpa using e)
    exact ⟨y, by rw [ex]; simpa using hy, ry⟩
theorem Reps.get' {F : Hp} {ds : List D} {xs : List V} {i : Nat} {x : V} (h : Reps F ds xs) (e : xs[i]? = some x) : ∃ d, ds[i]? = some d ∧ Rep F d x := by
  have hl := h.length
  have hi : i < xs.length := (List.getElem?_eq_some_iff.mp e).1
  have hd : ds[i]? = some ds[i] := List.getElem?_eq_getElem (by omega)
  obtain ⟨y, hy, ry⟩ := h.get hd
  rw [e] at hy
  cases hy
  exact ⟨_, hd, ry⟩
theorem Reps.append {F : Hp} : ∀ {ds es : List D} {xs ys : List V}, Reps F ds xs → Reps F es ys → Reps F (ds ++ es) (xs ++ ys)
  | [], es, xs, ys, h, k => by rw [reps_nil.mp h]; exact k
  | d :: ds, es, xs, ys, h, k => by
    obtain ⟨x, r, e, h1, h2⟩ := reps_cons.mp h
    rw [e]
    exact reps_cons.mpr ⟨x, r ++ ys, rfl, h1, Reps.append h2 k⟩
theorem Reps.one {F : Hp} {d : D} {x : V} (h : Rep F d x) : Reps F [d] [x] := reps_cons.mpr ⟨x, [], rfl, h, reps_nil.mpr rfl⟩
theorem Reps.of_get {F : Hp} : ∀ {ds : List D} {xs : List V}, xs.length = ds.length → (∀ (i : Nat) (d : D) (x : V), ds[i]? = some d → xs[i]? = some x → Rep F d x) → Reps F ds xs
  | [], xs, hl, _ => reps_nil.mpr (List.eq_nil_of_length_eq_zero hl)
  | d :: ds, [], hl, _ => by simp at hl
  | d :: ds, x :: xs, hl, h => reps_cons.mpr ⟨x, xs, rfl, h 0 d x rfl rfl, Reps.of_get (by simpa using hl) fun i d' x' a b => h (i + 1) d' x' (by simpa using a) (by simpa using b)⟩
theorem Reps.set {F : Hp} {ds : List D} {xs : List V} {d : D} {x : V} (h : Reps F ds xs) (r : Rep F d x) (i : Nat) : Reps F (ds.set i d) (xs.set i x) := by
  refine Reps.of_get (by rw [List.length_set, List.length_set]; exact h.length) fun j d' x' a b => ?_
  rw [List.getElem?_set] at a b
  by_cases e : i = j
  · subst e
    have hl := h.length
    rw [if_pos rfl] at a b
    by_cases hi : i < ds.length
    · rw [if_pos hi] at a
      rw [if_pos (by omega)] at b
      cases a; cases b; exact r
    · rw [if_neg hi] at a; cases a
  · rw [if_neg e] at a b
    obtain ⟨y, hy, ry⟩ := h.get a
    rw [b] at hy; cases hy; exact ry
theorem Reps.take {F : Hp} {ds : List D} {xs : List V} (h : Reps F ds xs) (n : Nat) : Reps F (ds.take n) (xs.take n) := by
  refine Reps.of_get (by rw [List.length_take, List.length_take, h.length]) fun j d x a b => ?_
  rw [List.getElem?_take] at a b
  by_cases e : j < n
  · rw [if_pos e] at a b
    obtain ⟨y, hy, ry⟩ := h.get a
    rw [b] at hy; cases hy; exact ry
  · rw [if_neg e] at a; cases a
theorem Reps.drop {F : Hp} {ds : List D} {xs : List V} (h : Reps F ds xs) (n : Nat) : Reps F (ds.drop n) (xs.drop n) := by
  refine Reps.of_get (by rw [List.length_drop, List.length_drop, h.length]) fun j d x a b => ?_
  rw [List.getElem?_drop] at a b
  obtain ⟨y, hy, ry⟩ := h.get a
  rw [b] at hy; cases hy; exact ry
theorem Reps.ints {F : Hp} : ∀ {ns : List Int} {xs : List V}, Reps F (ns.map D.int) xs ↔ xs = ns.map V.int
  | [], xs => by simp [Reps]
  | n :: ns, xs => by
    rw [List.map_cons, reps_cons]
    constructor
    · rintro ⟨x, r, e, h1, h2⟩
      simp only [Rep] at h1
      rw [e, h1, Reps.ints.mp h2]; rfl
    · intro e
      exact ⟨_, _, e, by simp [Rep], Reps.ints.mpr rfl⟩

/-! ### the store of a law -/
/-- an object that is being made -/
structure Ob where
  C : Addr
  ns : List Str
  ds : List D
/-- what the one object is that a def may change: a law's store, the object that an __init__ makes, a dict of numbers -/
inductive Mode where
  | law | ob (o : Ob) | dc (kvs : List (Key × Int))
structure Sto where
  cells : List Int
  i : Int
  two : Int
  three : Int
  seed : Int
  cnt : Int
  mode : Mode := .law
def StoIn (F : Hp) (s : Sto) (o : HO) : Prop := match s.mode with
  | .law => ∃ ca, o = .lst [.ref ca, .int s.i, .int s.two, .int s.three, .int s.seed, .int s.cnt] ∧ F ca = some (.lst (s.cells.map V.int))
  | .dc kvs => o = .dK (kvs.map fun p => (p.1, V.int p.2))
  | .ob b => ∃ dx vs, o = .ins b.C dx (b.ns.zip vs) ∧ b.ns.length = vs.length ∧ Reps F b.ds vs
def StoAt (F H : Hp) (st : Addr) (s : Sto) : Prop := F st = none ∧ ∃ o, H st = some o ∧ StoIn F s o
theorem StoIn.mono {F G : Hp} {s : Sto} {o : HO} (h : StoIn F s o) (u : Sub F G) : StoIn G s o := by
  unfold StoIn at h ⊢
  cases e : s.mode with
  | law =>
    rw [e] at h
    obtain ⟨ca, h1, h2⟩ := h
    exact ⟨ca, h1, u _ _ h2⟩
  | ob b =>
    rw [e] at h
    obtain ⟨dx, vs, h1, h2, h3⟩ := h
    exact ⟨dx, vs, h1, h2, Reps.mono u _ _ h3⟩
  | dc kvs =>
    rw [e] at h
    exact h

/-- what a name of a def holds: not known; data; a list of the def's own; the store -/
inductive L where
  | un | d (x : D) | own (xs : List D) | st
def LocAt (F H H0 : Hp) (st : Addr) (hb : Bool) (v : Option (Option V)) : L → Prop
  | .un => True
  | .d x => ∃ u, v = some (some u) ∧ Rep F x u
  | .own xs => ∃ p vs, v = some (some (.ref p)) ∧ H p = some (.lst vs) ∧ F p = none ∧ H0 p = none ∧ Reps F xs vs
  | .st => hb = true ∧ v = some (some (.ref st))

/-- from (F, H) to (F', H'): what was tracked stands, but the store; what is newly frozen is new -/
structure Ext (st : Addr) (hb : Bool) (F H F' H' : Hp) : Prop where
  ff : Sub F F'
  keep : ∀ a o, H a = some o → (hb = true → a ≠ st) → H' a = some o
  new : ∀ a, F a = none → H a ≠ none → F' a = none
theorem Ext.refl {st : Addr} {hb : Bool} {F H : Hp} : Ext st hb F H F H := ⟨Sub.refl _, fun _ _ h _ => h, fun _ h _ => h⟩
theorem Ext.trans {st : Addr} {hb : Bool} {F H F' H' F'' H'' : Hp} (a : Ext st hb F H F' H') (b : Ext st hb F' H' F'' H'') (hst : hb = true → H' st ≠ none) : Ext st hb F H F'' H'' :=
  ⟨a.ff.trans b.ff, fun x o h n => b.keep x o (a.keep x o h n) n, fun x h n => by
    refine b.new x (a.new x h n) ?_
    cases q : H x with
    | none => exact absurd q n
    | some o =>
      by_cases e : hb = true ∧ x = st
      · rw [e.2]; exact hst e.1
      · rw [a.keep x o q fun hb' es => e ⟨hb', es⟩]; exact nofun⟩

/-- the state of a def's body -/
structure Bd (F0 H0 : Hp) (st : Addr) (hb : Bool) (F H : Hp) (S : Sto) (ρ : List L) (σ : L2.St) : Prop where
  sub : Sub F H
  ext : Ext st hb F0 H0 F H
  sto : hb = true → StoAt F H st S
  st0 : hb = true → H0 st ≠ none
  loc : ∀ (i : Nat) (l : L), ρ[i]? = some l → LocAt F H H0 st hb σ[i]? l
  dis : ∀ (i j : Nat) (p : Addr) (xs ys : List D), i ≠ j → ρ[i]? = some (.own xs) → ρ[j]? = some (.own ys) → σ[i]? = some (some (.ref p)) → σ[j]? = some (some (.ref p)) → False
  len : σ.length = ρ.length

section
variable {F0 H0 F H F' H' : Hp} {st : Addr} {hb : Bool} {S S' : Sto} {ρ : List L} {σ : L2.St}
theorem Bd.stH (b : Bd F0 H0 st hb F H S ρ σ) : hb = true → H st ≠ none := fun h => by
  obtain ⟨_, ca, e, _⟩ := b.sto h
  rw [e]; exact nofun
/-- an expression has run -/
theorem Bd.go (b : Bd F0 H0 st hb F H S ρ σ) (e : Ext st hb F H F' H') (s : Sub F' H') (sto : hb = true → StoAt F' H' st S') : Bd F0 H0 st hb F' H' S' ρ σ where
  sub := s
  ext := b.ext.trans e b.stH
  sto := sto
  st0 := b.st0
  loc := fun i l h => by
    have q := b.loc i l h
    cases l with
    | un => trivial
    | d x => obtain ⟨u, e1, r⟩ := q; exact ⟨u, e1, Rep.mono e.ff x u r⟩
    | own xs =>
      obtain ⟨p, vs, e1, e2, e3, e4, r⟩ := q
      refine ⟨p, vs, e1, e.keep p _ e2 fun h1 h2 => ?_, e.new p e3 (by rw [e2]; exact nofun), e4, Reps.mono e.ff xs vs r⟩
      rw [h2] at e4
      exact b.st0 h1 e4
    | st => exact q
  dis := b.dis
  len := b.len
/-- forget the names -/
theorem Bd.bare (b : Bd F0 H0 st hb F H S ρ σ) : Bd F0 H0 st hb F H S [] [] := ⟨b.sub, b.ext, b.sto, b.st0, fun i l h => by simp at h, fun i j p xs ys _ h => by simp at h, rfl⟩
/-- a name is set to data -/
theorem Bd.set (b : Bd F0 H0 st hb F H S ρ σ) {i : Nat} {d : D} {v : V} (r : Rep F d v) : Bd F0 H0 st hb F H S (ρ.set i (.d d)) (σ.set i (some v)) where
  sub := b.sub
  ext := b.ext
  sto := b.sto
  st0 := b.st0
  loc := fun j l h => by
    rw [List.getElem?_set] at h
    by_cases e : i = j
    · subst e
      rw [if_pos rfl] at h
      by_cases hi : i < ρ.length
      · rw [if_pos hi] at h; cases h
        exact ⟨v, by rw [List.getElem?_set, if_pos rfl, if_pos (by rw [b.len]; exact hi)], r⟩
      · rw [if_neg hi] at h; cases h
    · rw [if_neg e] at h
      have q := b.loc j l h
      rw [show (σ.set i (some v))[j]? = σ[j]? by rw [List.getElem?_set, if_neg e]]
      exact q
  dis := fun j k p xs ys n h1 h2 h3 h4 => by
    rw [List.getElem?_set] at h1 h2
    by_cases e : i = j
    · rw [if_pos e] at h1; split at h1 <;> cases h1
    · by_cases e' : i = k
      · rw [if_pos e'] at h2; split at h2 <;> cases h2
      · rw [if_neg e] at h1; rw [if_neg e'] at h2
        rw [List.getElem?_set, if_neg e] at h3
        rw [List.getElem?_set, if_neg e'] at h4
        exact b.dis j k p xs ys n h1 h2 h3 h4
  len := by rw [List.length_set, List.length_set, b.len]
/-- a name is forgotten -/
theorem Bd.wipe (b : Bd F0 H0 st hb F H S ρ σ) {i : Nat} {v : Option V} : Bd F0 H0 st hb F H S (ρ.set i .un) (σ.set i v) where
  sub := b.sub
  ext := b.ext
  sto := b.sto
  st0 := b.st0
  loc := fun j l h => by
    rw [List.getElem?_set] at h
    by_cases e : i = j
    · rw [if_pos e] at h
      split at h
      · cases h; trivial
      · cases h
    · rw [if_neg e] at h
      have q := b.loc j l h
      rw [show (σ.set i v)[j]? = σ[j]? by rw [List.getElem?_set, if_neg e]]
      exact q
  dis := fun j k p xs ys n h1 h2 h3 h4 => by
    rw [List.getElem?_set] at h1 h2
    by_cases e : i = j
    · rw [if_pos e] at h1; split at h1 <;> cases h1
    · by_cases e' : i = k
      · rw [if_pos e'] at h2; split at h2 <;> cases h2
      · rw [if_neg e] at h1; rw [if_neg e'] at h2
        rw [List.getElem?_set, if_neg e] at h3
        rw [List.getElem?_set, if_neg e'] at h4
        exact b.dis j k p xs ys n h1 h2 h3 h4
  len := by rw [List.length_set, List.length_set, b.len]
/-- a name is set to a new list of the def's own -/
theorem Bd.setOwn (b : Bd F0 H0 st hb F H S ρ σ) {i : Nat} {xs : List D} {vs : List V} {p : Addr} (hp : H p = some (.lst vs)) (fp : F p = none) (h0 : H0 p = none) (r : Reps F xs vs)
    (nw : ∀ (j : Nat) (ys : List D), j ≠ i → ρ[j]? = some (.own ys) → σ[j]? ≠ some (some (.ref p))) : Bd F0 H0 st hb F H S (ρ.set i (.own xs)) (σ.set i (some (.ref p))) where
  sub := b.sub
  ext := b.ext
  sto := b.sto
  st0 := b.st0
  loc := fun j l h => by
    rw [List.getElem?_set] at h
    by_cases e : i = j
    · subst e
      rw [if_pos rfl] at h
      by_cases hi : i < ρ.length
      · rw [if_pos hi] at h; cases h
        exact ⟨p, vs, by rw [List.getElem?_set, if_pos rfl, if_pos (by rw [b.len]; exact hi)], hp, fp, h0, r⟩
      · rw [if_neg hi] at h; cases h
    · rw [if_neg e] at h
      have q := b.loc j l h
      rw [show (σ.set i (some (V.ref p)))[j]? = σ[j]? by rw [List.getElem?_set, if_neg e]]
      exact q
  dis := fun j k q ys zs n h1 h2 h3 h4 => by
    rw [List.getElem?_set] at h1 h2
    rw [List.getElem?_set] at h3 h4
    by_cases e : i = j
    · by_cases e' : i = k
      · exact n (e.symm.trans e')
      · rw [if_neg e'] at h2 h4
        rw [if_pos e] at h3
        split at h3
        · cases h3
          exact nw k zs (fun z => e' z.symm) h2 h4
        · cases h3
    · by_cases e' : i = k
      · rw [if_neg e] at h1 h3
        rw [if_pos e'] at h4
        split at h4
        · cases h4
          exact nw j ys (fun z => e z.symm) h1 h3
        · cases h4
      · rw [if_neg e] at h1 h3
        rw [if_neg e'] at h2 h4
        exact b.dis j k q ys zs n h1 h2 h3 h4
  len := by rw [List.length_set, List.length_set, b.len]
/-- no name holds a new address as its own list -/
theorem Bd.noOwn (b : Bd F0 H0 st hb F H S ρ σ) {p : Addr} (hp : H p = none) (j : Nat) (ys : List D) (h : ρ[j]? = some (.own ys)) : σ[j]? ≠ some (some (.ref p)) := fun e => by
  obtain ⟨q, vs, e1, e2, _⟩ := b.loc j _ h
  rw [e] at e1
  cases e1
  rw [hp] at e2
  cases e2
theorem Bd.h0none (b : Bd F0 H0 st hb F H S ρ σ) {p : Addr} (hp : H p = none) : H0 p = none := by
  cases q : H0 p with
  | none => rfl
  | some o =>
    by_cases e : hb = true ∧ p = st
    · obtain ⟨h1, h2⟩ := e
      subst h2
      exact absurd hp (b.stH h1)
    · rw [b.ext.keep p o q fun h1 h2 => e ⟨h1, h2⟩] at hp; cases hp
/-- a new object is laid and frozen -/
theorem Ext.lay (s : Sub F H) {p : Addr} {o : HO} (hp : H p = none) : Ext st hb F H (upd F p o) (upd H p o) ∧ Sub (upd F p o) (upd H p o) := by
  have fp := s.none hp
  refine ⟨⟨fun a u h => by rw [upd_ne (ne_of_none h fp)]; exact h, fun a u h _ => by rw [upd_ne (ne_of_none h hp)]; exact h, fun a h n => ?_⟩, fun a u h => ?_⟩
  · by_cases e : a = p
    · subst e; exact absurd hp n
    · rw [upd_ne e]; exact h
  · by_cases e : a = p
    · subst e; rw [upd_same] at h ⊢; exact h
    · rw [upd_ne e] at h ⊢; exact s a u h
/-- a new object is laid, not frozen -/
theorem Ext.lay0 (s : Sub F H) {p : Addr} {o : HO} (hp : H p = none) : Ext st hb F H F (upd H p o) ∧ Sub F (upd H p o) := by
  have fp := s.none hp
  refine ⟨⟨Sub.refl _, fun a u h _ => by rw [upd_ne (ne_of_none h hp)]; exact h, fun a h n => h⟩, fun a u h => ?_⟩
  rw [upd_ne (ne_of_none h fp)]; exact s a u h
theorem StoAt.ext (x : StoAt F H st S) (e : ∀ a o, H a = some o → H' a = some o) (s : Sub F F') (f : F' st = none) : StoAt F' H' st S := by
  obtain ⟨_, o, h1, h2⟩ := x
  exact ⟨f, o, e _ _ h1, h2.mono s⟩
/-- the state behind a new frozen object -/
theorem Bd.lay (b : Bd F0 H0 st hb F H S ρ σ) {p : Addr} {o : HO} (hp : H p = none) : Bd F0 H0 st hb (upd F p o) (upd H p o) S ρ σ := by
  obtain ⟨e, s⟩ := Ext.lay (st := st) (hb := hb) (o := o) b.sub hp
  refine b.go e s fun h => (b.sto h).ext (fun a u q => by rw [upd_ne (ne_of_none q hp)]; exact q) e.ff ?_
  refine e.new st (b.sto h).1 (b.stH h)
theorem Bd.lay0 (b : Bd F0 H0 st hb F H S ρ σ) {p : Addr} {o : HO} (hp : H p = none) : Bd F0 H0 st hb F (upd H p o) S ρ σ := by
  obtain ⟨e, s⟩ := Ext.lay0 (st := st) (hb := hb) (o := o) b.sub hp
  exact b.go e s fun h => (b.sto h).ext (fun a u q => by rw [upd_ne (ne_of_none q hp)]; exact q) e.ff (b.sto h).1
/-- a list of one's own is frozen -/
theorem Ext.frz (s : Sub F H) {p : Addr} {o : HO} (hp : H p = some o) (h0 : H0 p = none) (e : Ext st hb F0 H0 F H) (fp : F p = none) : Ext st hb F0 H0 (upd F p o) H ∧ Sub (upd F p o) H := by
  refine ⟨⟨fun a u h => ?_, e.keep, fun a h n => ?_⟩, fun a u h => ?_⟩
  · have q := e.ff a u h
    rw [upd_ne (ne_of_none q fp)]; exact q
  · by_cases z : a = p
    · subst z; exact absurd h0 n
    · rw [upd_ne z]; exact e.new a h n
  · by_cases z : a = p
    · subst z; rw [upd_same] at h; rw [hp]; exact h
    · rw [upd_ne z] at h; exact s a u h
end
end DL

set_option Elab.async false
set_option linter.all false
set_option maxRecDepth 100000
set_option maxHeartbeats 4000000
set_option autoImplicit false
namespace DL
open PySem PySem.Spec L2

structure XD where
  c : Addr
  ns : List Str
  ds : List D
def XRep (F H : Hp) (x : XD) (cls : Value) (dx : Option Addr) : Prop :=
  cls = .ref x.c ∧ (x.ns = [] ∨ ∃ dd vs, dx = some dd ∧ H dd = some (.xd (x.ns.zip vs)) ∧ x.ns.length = vs.length ∧ Reps F x.ds vs)

inductive Out (α : Type) where
  | ok (a : α) (S : Sto) | exc (x : XD) (ρ : List L) (S : Sto) | bad
def Out.bind {α β : Type} (o : Out α) (k : α → Sto → Out β) : Out β := match o with
  | .ok a S => k a S
  | .exc x ρ S => .exc x ρ S
  | .bad => .bad
abbrev Ph (α : Type) := List L → Sto → Out α
abbrev RR (α β : Type) := Addr → Hp → Hp → Hp → α → β → Prop

/-- what is wanted of an expression's outcome; (F, H) stood ahead of it -/
def GW {α β : Type} (R : RR α β) (W : WX) (F0 H0 : Hp) (st : Addr) (hb : Bool) (F H : Hp) (ρ : List L) (σ : L2.St) (o : Out α) (Q : β → Hp → Prop) : Prop := match o with
  | .ok a S' => ∀ (b : β) (F' H' : Hp), Bd F0 H0 st hb F' H' S' ρ σ → Ext st hb F H F' H' → R st H F' H' a b → Q b H'
  | .exc x ρ' S' => ∀ (cls : Value) (dx : Option Addr) (F' H' : Hp), Bd F0 H0 st hb F' H' S' ρ' σ → XRep F' H' x cls dx → W cls dx σ H'
  | .bad => False
def GT {α β : Type} (R : RR α β) (W : WX) (t : L2.St → Hp → (β → Hp → Prop) → Prop) (φ : Ph α) : Prop :=
  ∀ (F0 H0 : Hp) (st : Addr) (hb : Bool) (F H : Hp) (S : Sto) (ρ : List L) (σ : L2.St) (Q : β → Hp → Prop), Bd F0 H0 st hb F H S ρ σ → GW R W F0 H0 st hb F H ρ σ (φ ρ S) Q → t σ H Q
def RD : RR D V := fun _ _ F' _ d v => Rep F' d v
def RO : RR (List D) V := fun _ H F' H' xs v => ∃ p vs, v = .ref p ∧ H p = none ∧ H' p = some (.lst vs) ∧ F' p = none ∧ Reps F' xs vs
def RB : RR Bool Bool := fun _ _ _ _ a b => a = b
def RA : RR (List D) (List V) := fun _ _ F' _ ds vs => Reps F' ds vs
def RS : RR (List D) (List V) := fun st _ F' _ ds vs => ∃ vs', vs = .ref st :: vs' ∧ Reps F' ds vs'
abbrev ET (W : WX) (t : TE) (φ : Ph D) : Prop := GT RD W t φ
abbrev OT (W : WX) (t : TE) (φ : Ph (List D)) : Prop := GT RO W t φ
abbrev BT (W : WX) (t : TT) (φ : Ph Bool) : Prop := GT RB W t φ
abbrev AT (W : WX) (t : TA) (φ : Ph (List D)) : Prop := GT RA W t φ
abbrev AS (W : WX) (t : TA) (φ : Ph (List D)) : Prop := GT RS W t φ

/-- what is told holds still of an earlier heap -/
def RM {α β : Type} (R : RR α β) : Prop := ∀ st H H' F2 H2 a b, (∀ p, H' p = none → H p = none) → R st H' F2 H2 a b → R st H F2 H2 a b
theorem rm_d : RM RD := fun _ _ _ _ _ _ _ _ h => h
theorem rm_o : RM RO := fun _ _ _ _ _ _ _ k h => by
  obtain ⟨p, vs, e, n, r⟩ := h
  exact ⟨p, vs, e, k p n, r⟩
theorem rm_b : RM RB := fun _ _ _ _ _ _ _ _ h => h
theorem rm_a : RM RA := fun _ _ _ _ _ _ _ _ h => h
theorem rm_s : RM RS := fun _ _ _ _ _ _ _ _ h => h
theorem Ext.nones {st : Addr} {hb : Bool} {F H F' H' : Hp} (e : Ext st hb F H F' H') (hs : hb = true → H' st ≠ none) (p : Addr) (h : H' p = none) : H p = none := by
  cases q : H p with
  | none => rfl
  | some o =>
    by_cases z : hb = true ∧ p = st
    · rw [z.2] at h; exact absurd h (hs z.1)
    · rw [e.keep p o q fun a b => z ⟨a, b⟩] at h; cases h
section
variable {α β γ δ : Type} {R : RR α β} {R2 : RR γ δ} {W : WX} {F0 H0 F H F' H' : Hp} {st : Addr} {hb : Bool} {S S' : Sto} {ρ : List L} {σ : L2.St}
theorem GW.rebase {o : Out α} {Q : β → Hp → Prop} (rm : RM R) (h : GW R W F0 H0 st hb F H ρ σ o Q) (b : Bd F0 H0 st hb F' H' S' ρ σ) (e : Ext st hb F H F' H') : GW R W F0 H0 st hb F' H' ρ σ o Q := by
  cases o with
  | ok a S1 => exact fun v F2 H2 b2 e2 r => h v F2 H2 b2 (e.trans e2 b.stH) (rm _ _ _ _ _ _ _ (e.nones b.stH) r)
  | exc x ρ' S1 => exact h
  | bad => exact h
theorem GW.bind {o : Out α} {k : α → Sto → Out γ} {Q : δ → Hp → Prop} {Q1 : β → Hp → Prop} (rm : RM R2) (h : GW R2 W F0 H0 st hb F H ρ σ (o.bind k) Q)
    (hk : ∀ a S1 b F1 H1, Bd F0 H0 st hb F1 H1 S1 ρ σ → Ext st hb F H F1 H1 → R st H F1 H1 a b → GW R2 W F0 H0 st hb F1 H1 ρ σ (k a S1) Q → Q1 b H1) : GW R W F0 H0 st hb F H ρ σ o Q1 := by
  cases o with
  | ok a S1 => exact fun v F2 H2 b2 e2 r => hk a S1 v F2 H2 b2 e2 r (GW.rebase rm h b2 e2)
  | exc x ρ' S1 => exact h
  | bad => exact h
end

/-! ### expressions -/
section
variable {W : WX} {ta tb tc : TE} {φa φb φc : Ph D} {K : PySem.W.Frag}
def mVar (i : Nat) : Ph D := fun ρ S => match ρ[i]? with
  | some (.d x) => .ok x S
  | _ => .bad
theorem et_var (i : Nat) : ET W (tVar i) (mVar i) := fun F0 H0 st hb F H S ρ σ Q b h => by
  unfold mVar at h
  cases q : ρ[i]? with
  | none => rw [q] at h; exact h.elim
  | some l =>
    rw [q] at h
    cases l with
    | d x =>
      obtain ⟨u, e, r⟩ := b.loc i _ q
      exact ⟨u, e, h u F H b Ext.refl r⟩
    | un => exact h.elim
    | own xs => exact h.elim
    | st => exact h.elim
def mC (d : D) : Ph D := fun _ S => .ok d S
theorem et_c {v : V} (d : D) (r : ∀ F, Rep F d v) : ET W (tC v) (mC d) := fun F0 H0 st hb F H S ρ σ Q b h => h v F H b Ext.refl (r F)
theorem et_int (i : Int) : ET W (tC (.int i)) (mC (.int i)) := et_c _ fun F => by simp [Rep]
theorem et_bl (i : Bool) : ET W (tC (.bl i)) (mC (.bl i)) := et_c _ fun F => by simp [Rep]
theorem et_non : ET W (tC .non) (mC .non) := et_c _ fun F => by simp [Rep]
theorem et_str (x : Str) : ET W (tC (.str x)) (mC (.str x)) := et_c _ fun F => by simp [Rep]
/-- an operation on two values, by data -/
def O2 (W : WX) (r : L2.R2) (g : D → D → Sto → Out D) : Prop :=
  ∀ (F0 H0 : Hp) (st : Addr) (hb : Bool) (F H : Hp) (S : Sto) (ρ : List L) (σ : L2.St) (Q : VK) (dx dy : D) (x y : V), Bd F0 H0 st hb F H S ρ σ → Rep F dx x → Rep F dy y → GW RD W F0 H0 st hb F H ρ σ (g dx dy S) Q → r x y H Q
def m2 (g : D → D → Sto → Out D) (φa φb : Ph D) : Ph D := fun ρ S => (φa ρ S).bind fun x S1 => (φb ρ S1).bind fun y S2 => g x y S2
theorem et_op {r : L2.R2} {g : D → D → Sto → Out D} (hr : O2 W r g) (ha : ET W ta φa) (hb : ET W tb φb) : ET W (tOp r ta tb) (m2 g φa φb) := fun F0 H0 st hs F H S ρ σ Q b h =>
  ha _ _ _ _ _ _ _ _ _ _ b (GW.bind rm_d h fun x S1 v F1 H1 b1 e1 r1 h1 =>
    hb _ _ _ _ _ _ _ _ _ _ b1 (GW.bind rm_d h1 fun y S2 u F2 H2 b2 e2 r2 h2 => hr _ _ _ _ _ _ _ _ _ _ _ _ _ _ b2 (Rep.mono e2.ff _ _ r1) r2 h2))
/-- the pure ones -/
def pure2 (g : D → D → Option D) : D → D → Sto → Out D := fun x y S => match g x y with
  | some d => .ok d S
  | none => .bad
theorem o2_pure {r : L2.R2} {g : D → D → Option D} (hr : ∀ (F H : Hp) (Q : VK) (dx dy d : D) (x y : V), Sub F H → Rep F dx x → Rep F dy y → g dx dy = some d → (∀ v, Rep F d v → Q v H) → r x y H Q) : O2 W r (pure2 g) :=
  fun F0 H0 st hb F H S ρ σ Q dx dy x y b r1 r2 h => by
    unfold pure2 at h
    cases e : g dx dy with
    | none => rw [e] at h; exact h.elim
    | some d =>
      rw [e] at h
      exact hr F H Q dx dy d x y b.sub r1 r2 e fun v rv => h v F H b Ext.refl rv
/-- two ints -/
def int2 (C : Int → Int → Bool) (f : Int → Int → D) : D → D → Option D
  | .int i, .int j => if C i j then some (f i j) else none
  | _, _ => none
theorem o2_int {C' : Int → Int → Prop} {g : Int → Int → V} {C : Int → Int → Bool} {f : Int → Int → D} (hC : ∀ i j, C i j = true → C' i j) (hf : ∀ F i j, Rep F (f i j) (g i j)) : O2 W (rI C' g) (pure2 (int2 C f)) :=
  o2_pure fun F H Q dx dy d x y s r1 r2 e q => by
    cases dx <;> try (simp [int2] at e; done)
    cases dy <;> try (simp [int2] at e; done)
    rename_i i j
    simp only [int2] at e
    by_cases c : C i j = true
    · rw [if_pos c] at e; cases e
      simp only [Rep] at r1 r2
      exact ⟨i, j, r1, r2, hC i j c, q _ (hf F i j)⟩
    · rw [if_neg c] at e; cases e
theorem o2_int0 {g : Int → Int → V} {f : Int → Int → D} (hf : ∀ F i j, Rep F (f i j) (g i j)) : O2 W (rI0 g) (pure2 (int2 (fun _ _ => true) f)) :=
  o2_pure fun F H Q dx dy d x y s r1 r2 e q => by
    cases dx <;> try (simp [int2] at e; done)
    cases dy <;> try (simp [int2] at e; done)
    rename_i i j
    simp only [int2] at e
    cases e
    simp only [Rep] at r1 r2
    exact ⟨i, j, r1, r2, q _ (hf F i j)⟩
end
end DL

set_option Elab.async false
set_option linter.all false
set_option maxRecDepth 100000
set_option maxHeartbeats 4000000
set_option autoImplicit false
namespace DL
open PySem PySem.Spec L2

/-! ### operations -/
section
variable {W : WX} {K : PySem.W.Frag}
theorem rep_int {F : Hp} (i : Int) : Rep F (.int i) (.int i) := by simp [Rep]
theorem rep_bl {F : Hp} (i : Bool) : Rep F (.bl i) (.bl i) := by simp [Rep]
instance (i j : Int) : Decidable (CMulW i j) := by unfold CMulW; infer_instance
instance (i j : Int) : Decidable (CDivW i j) := by unfold CDivW; infer_instance
instance (i j : Int) : Decidable (CPow i j) := by unfold CPow; infer_instance
def gAdd := pure2 (int2 (fun _ _ => true) fun i j => .int (i + j))
def gMinus := pure2 (int2 (fun _ _ => true) fun i j => .int (i - j))
def gMul := pure2 (int2 (fun i j => decide (CMulW i j)) fun i j => .int (i * j))
def gFdiv := pure2 (int2 (fun i j => decide (CDivW i j)) fun i j => .int (i / j))
def gMod := pure2 (int2 (fun i j => decide (0 < j)) fun i j => .int (i % j))
def gPow := pure2 (int2 (fun i j => decide (CPow i j)) fun i j => .int (i ^ j.toNat))
def gLt := pure2 (int2 (fun _ _ => true) fun i j => .bl (decide (i < j)))
def gLe := pure2 (int2 (fun _ _ => true) fun i j => .bl (decide (i ≤ j)))
def gGt := pure2 (int2 (fun _ _ => true) fun i j => .bl (decide (j < i)))
def gGe := pure2 (int2 (fun _ _ => true) fun i j => .bl (decide (j ≤ i)))
theorem o_add : O2 W (rI0 fun i j => .int (i + j)) gAdd := o2_int0 fun F i j => rep_int _
theorem o_sub : O2 W (rI0 fun i j => .int (i - j)) gMinus := o2_int0 fun F i j => rep_int _
theorem o_mul : O2 W (rI CMulW fun i j => .int (i * j)) gMul := o2_int (fun i j h => of_decide_eq_true h) fun F i j => rep_int _
theorem o_fdiv : O2 W (rI CDivW fun i j => .int (i / j)) gFdiv := o2_int (fun i j h => of_decide_eq_true h) fun F i j => rep_int _
theorem o_mod : O2 W (rI (fun _ j => 0 < j) fun i j => .int (i % j)) gMod := o2_int (fun i j h => of_decide_eq_true h) fun F i j => rep_int _
theorem o_pow : O2 W (rI CPow fun i j => .int (i ^ j.toNat)) gPow := o2_int (fun i j h => of_decide_eq_true h) fun F i j => rep_int _
theorem o_lt : O2 W (rI0 fun i j => .bl (decide (i < j))) gLt := o2_int0 fun F i j => rep_bl _
theorem o_le : O2 W (rI0 fun i j => .bl (decide (i ≤ j))) gLe := o2_int0 fun F i j => rep_bl _
theorem o_gt : O2 W (rI0 fun i j => .bl (decide (j < i))) gGt := o2_int0 fun F i j => rep_bl _
theorem o_ge : O2 W (rI0 fun i j => .bl (decide (j ≤ i))) gGe := o2_int0 fun F i j => rep_bl _

mutual
def toP : D → PyData
  | .non => .none
  | .bl b => .bool b
  | .int i => .int i
  | .str x => .str x
  | .tup ds => .tuple (toPs ds)
  | .lst ds => .list (toPs ds)
  | .obj _ _ _ => .none
def toPs : List D → List PyData
  | [] => []
  | d :: ds => toP d :: toPs ds
end
mutual
def isP : D → Bool
  | .tup ds => isPs ds
  | .lst ds => isPs ds
  | .obj _ _ _ => false
  | _ => true
def isPs : List D → Bool
  | [] => true
  | d :: ds => isP d && isPs ds
end
mutual
theorem Rep.dp {F H : Hp} (s : Sub F H) : ∀ (d : D) (v : V), isP d = true → Rep F d v → Dp K H v (toP d)
  | .non, v, _, h => by simp only [Rep] at h; rw [h, toP]; exact .non
  | .bl b, v, _, h => by simp only [Rep] at h; rw [h, toP]; exact .bl b
  | .int i, v, _, h => by simp only [Rep] at h; rw [h, toP]; exact .int i
  | .str x, v, _, h => by simp only [Rep] at h; rw [h, toP]; exact .str x
  | .tup ds, v, p, h => by
    simp only [Rep] at h
    obtain ⟨a, xs, e, f, r⟩ := h
    rw [e, toP]
    exact .tup (SqT.of (s _ _ f)) (Reps.dp s ds xs (by simpa [isP] using p) r)
  | .lst ds, v, p, h => by
    simp only [Rep] at h
    obtain ⟨a, xs, e, f, r⟩ := h
    rw [e, toP]
    exact .lst (SqL.of (s _ _ f)) (Reps.dp s ds xs (by simpa [isP] using p) r)
  | .obj _ _ _, v, p, h => by simp [isP] at p
theorem Reps.dp {F H : Hp} (s : Sub F H) : ∀ (ds : List D) (xs : List V), isPs ds = true → Reps F ds xs → DpAll K H xs (toPs ds)
  | [], xs, _, h => by rw [reps_nil.mp h, toPs]; exact .nil
  | d :: ds, xs, p, h => by
    obtain ⟨x, r, e, h1, h2⟩ := reps_cons.mp h
    simp only [isPs, Bool.and_eq_true] at p
    rw [e, toPs]
    exact .cons (Rep.dp s d x p.1 h1) (Reps.dp s ds r p.2 h2)
end
def shp (d : D) : Bool := isP d && SeqAt.shaped (toP d)
def eqB (x y : D) : Bool := PyData.eqv (toP x) (toP y)
def eq2 (x y : D) : Option D := if shp x = true ∧ shp y = true then some (.bl (eqB x y)) else none
def ne2 (x y : D) : Option D := if shp x = true ∧ shp y = true then some (.bl (!eqB x y)) else none
def gEq := pure2 eq2
def gNe := pure2 ne2
theorem o_eq : O2 W (rEqD K) gEq := o2_pure fun F H Q dx dy d x y s r1 r2 e q => by
  unfold eq2 at e
  by_cases c : shp dx = true ∧ shp dy = true
  · rw [if_pos c] at e; cases e
    obtain ⟨c1, c2⟩ := c
    simp only [shp, Bool.and_eq_true] at c1 c2
    exact ⟨_, _, Rep.dp s dx x c1.1 r1, Rep.dp s dy y c2.1 r2, c1.2, c2.2, q _ (rep_bl _)⟩
  · rw [if_neg c] at e; cases e
theorem o_ne : O2 W (rNeD K) gNe := o2_pure fun F H Q dx dy d x y s r1 r2 e q => by
  unfold ne2 at e
  by_cases c : shp dx = true ∧ shp dy = true
  · rw [if_pos c] at e; cases e
    obtain ⟨c1, c2⟩ := c
    simp only [shp, Bool.and_eq_true] at c1 c2
    exact ⟨_, _, Rep.dp s dx x c1.1 r1, Rep.dp s dy y c2.1 r2, c1.2, c2.2, q _ (rep_bl _)⟩
  · rw [if_neg c] at e; cases e
def isN : D → Bool
  | .non => true
  | _ => false
theorem Rep.non_iff {F : Hp} {d : D} {v : V} (r : Rep F d v) : decide (v = .non) = isN d := by
  cases d <;> simp only [Rep] at r
  · rw [r]; rfl
  · rw [r]; rfl
  · rw [r]; rfl
  · rw [r]; rfl
  · obtain ⟨a, xs, e, _⟩ := r; rw [e]; rfl
  · obtain ⟨a, xs, e, _⟩ := r; rw [e]; rfl
  · obtain ⟨a, dx, xs, e, _⟩ := r; rw [e]; rfl
def gIsN := pure2 fun x y => if isN y = true then some (.bl (isN x)) else none
def gNotN := pure2 fun x y => if isN y = true then some (.bl (!isN x)) else none
theorem isN_eq {F : Hp} {d : D} {v : V} (r : Rep F d v) (h : isN d = true) : v = .non := by
  rw [← r.non_iff] at h; exact of_decide_eq_true h
theorem o_isN : O2 W (fun x y H Q => y = .non ∧ Q (.bl (decide (x = .non))) H) gIsN := o2_pure fun F H Q dx dy d x y s r1 r2 e q => by
  by_cases c : isN dy = true
  · rw [if_pos c] at e; cases e
    exact ⟨isN_eq r2 c, by rw [r1.non_iff]; exact q _ (rep_bl _)⟩
  · rw [if_neg c] at e; cases e
theorem o_notN : O2 W (fun x y H Q => y = .non ∧ Q (.bl (!decide (x = .non))) H) gNotN := o2_pure fun F H Q dx dy d x y s r1 r2 e q => by
  by_cases c : isN dy = true
  · rw [if_pos c] at e; cases e
    exact ⟨isN_eq r2 c, by rw [r1.non_iff]; exact q _ (rep_bl _)⟩
  · rw [if_neg c] at e; cases e
/-- x[i] of a tuple or list -/
def ix2 : D → D → Option D
  | .tup ds, .int i => atI ds i
  | .lst ds, .int i => atI ds i
  | _, _ => none
def gIx := pure2 ix2
theorem Reps.atI {F : Hp} {ds : List D} {xs : List V} {i : Int} {d : D} (r : Reps F ds xs) (e : L2.atI ds i = some d) : ∃ x, L2.atI xs i = some x ∧ Rep F d x := by
  unfold L2.atI at e ⊢
  rw [r.length]
  cases q : ixN ds.length i with
  | none => rw [q] at e; cases e
  | some j => rw [q] at e; exact r.get e
theorem o_ix : O2 W (rIx K) gIx := o2_pure fun F H Q dx dy d x y s r1 r2 e q => by
  cases dy <;> try (cases dx <;> simp [ix2] at e; done)
  rename_i i
  simp only [Rep] at r2
  cases dx <;> try (simp [ix2] at e; done)
  · simp only [ix2] at e
    simp only [Rep] at r1
    obtain ⟨a, xs, e1, f, r⟩ := r1
    obtain ⟨v, e2, rv⟩ := r.atI e
    exact .inr (.inl ⟨a, xs, i, v, e1, r2, SqT.of (s _ _ f), e2, q v rv⟩)
  · simp only [ix2] at e
    simp only [Rep] at r1
    obtain ⟨a, xs, e1, f, r⟩ := r1
    obtain ⟨v, e2, rv⟩ := r.atI e
    exact .inl ⟨a, xs, i, v, e1, r2, SqL.of (s _ _ f), e2, q v rv⟩
/-- one-place -/
def gNeg : D → Sto → Out D := fun x S => match x with
  | .int i => .ok (.int (-i)) S
  | _ => .bad
end

section
variable {W : WX} {K : PySem.W.Frag} {ta tb tc : TE} {φa φb φc : Ph D} {φl : Ph (List D)} {tr : TA} {tA tB' : TT} {φA φB : Ph Bool}
def m1 (g : D → Sto → Out D) (φa : Ph D) : Ph D := fun ρ S => (φa ρ S).bind g
theorem et_neg (ha : ET W ta φa) : ET W (tUn (rU fun i => .int (-i)) ta) (m1 gNeg φa) := fun F0 H0 st hs F H S ρ σ Q b h =>
  ha _ _ _ _ _ _ _ _ _ _ b (GW.bind rm_d h fun x S1 v F1 H1 b1 e1 r1 h1 => by
    cases x <;> try exact h1.elim
    rename_i i
    simp only [RD, Rep] at r1
    exact ⟨i, r1, h1 _ F1 H1 b1 Ext.refl (rep_int _)⟩)

/-! ### arguments, displays -/
def mNil : Ph (List D) := fun _ S => .ok [] S
def mCons (φa : Ph D) (φl : Ph (List D)) : Ph (List D) := fun ρ S => (φa ρ S).bind fun x S1 => (φl ρ S1).bind fun xs S2 => .ok (x :: xs) S2
theorem at_nil : AT W tNil mNil := fun F0 H0 st hb F H S ρ σ Q b h => h [] F H b Ext.refl (reps_nil.mpr rfl)
theorem at_cons (ha : ET W ta φa) (hr : AT W tr φl) : AT W (tCons ta tr) (mCons φa φl) := fun F0 H0 st hs F H S ρ σ Q b h =>
  ha _ _ _ _ _ _ _ _ _ _ b (GW.bind rm_a h fun x S1 v F1 H1 b1 e1 r1 h1 =>
    hr _ _ _ _ _ _ _ _ _ _ b1 (GW.bind rm_a h1 fun xs S2 vs F2 H2 b2 e2 r2 h2 =>
      h2 (v :: vs) F2 H2 b2 Ext.refl (reps_cons.mpr ⟨v, vs, rfl, Rep.mono e2.ff _ _ r1, r2⟩)))
/-- the store as the first argument -/
def mSt (i : Nat) (φl : Ph (List D)) : Ph (List D) := fun ρ S => match ρ[i]? with
  | some .st => φl ρ S
  | _ => .bad
theorem as_cons (i : Nat) (hr : AT W tr φl) : AS W (tCons (tVar i) tr) (mSt i φl) := fun F0 H0 st hs F H S ρ σ Q b h => by
  unfold mSt at h
  cases q : ρ[i]? with
  | none => rw [q] at h; exact h.elim
  | some l =>
    rw [q] at h
    cases l with
    | st =>
      have e := (b.loc i _ q).2
      refine ⟨.ref st, e, hr _ _ _ _ _ _ _ _ _ _ b ?_⟩
      cases o : φl ρ S with
      | ok xs S1 =>
        rw [o] at h
        exact fun vs F1 H1 b1 e1 r1 => h (.ref st :: vs) F1 H1 b1 e1 ⟨vs, rfl, r1⟩
      | exc x ρ' S1 => rw [o] at h; exact h
      | bad => rw [o] at h; exact h.elim
    | un => exact h.elim
    | own xs => exact h.elim
    | d x => exact h.elim
def line (n : Nat) : Bool := decide (n ≤ 1000)
theorem line_ok {n : Nat} (h : line n = true) : n ≤ sizeLine := Nat.le_of_lt (small1000 (of_decide_eq_true h))
theorem line_lt {n : Nat} (h : line n = true) : n < sizeLine := small1000 (of_decide_eq_true h)
def mTup (φl : Ph (List D)) : Ph D := fun ρ S => (φl ρ S).bind fun xs S1 => if line xs.length = true then .ok (.tup xs) S1 else .bad
theorem rep_tup {F : Hp} {p : Addr} {ds : List D} {xs : List V} (r : Reps F ds xs) (h : F p = none) : Rep (upd F p (.tup xs)) (.tup ds) (.ref p) := by
  simp only [Rep]
  exact ⟨p, xs, rfl, upd_same, Reps.mono (fun a o q => by rw [upd_ne (ne_of_none q h)]; exact q) ds xs r⟩
theorem rep_lst {F : Hp} {p : Addr} {ds : List D} {xs : List V} (r : Reps F ds xs) (h : F p = none) : Rep (upd F p (.lst xs)) (.lst ds) (.ref p) := by
  simp only [Rep]
  exact ⟨p, xs, rfl, upd_same, Reps.mono (fun a o q => by rw [upd_ne (ne_of_none q h)]; exact q) ds xs r⟩
theorem et_tup (hr : AT W tr φl) : ET W (tTup tr) (mTup φl) := fun F0 H0 st hs F H S ρ σ Q b h =>
  hr _ _ _ _ _ _ _ _ _ _ b (GW.bind rm_d h fun xs S1 vs F1 H1 b1 e1 r1 h1 => by
    have r1' : Reps F1 xs vs := r1
    by_cases c : line xs.length = true
    · rw [if_pos c] at h1
      refine ⟨by rw [r1'.length]; exact line_ok c, fun p hp => h1 _ _ _ (b1.lay hp) (Ext.lay b1.sub hp).1 (rep_tup r1' (b1.sub.none hp))⟩
    · rw [if_neg c] at h1; exact h1.elim)
def mLst (φl : Ph (List D)) : Ph (List D) := fun ρ S => (φl ρ S).bind fun xs S1 => if line xs.length = true then .ok xs S1 else .bad
theorem ot_lst (hr : AT W tr φl) : OT W (tLst tr) (mLst φl) := fun F0 H0 st hs F H S ρ σ Q b h =>
  hr _ _ _ _ _ _ _ _ _ _ b (GW.bind rm_o h fun xs S1 vs F1 H1 b1 e1 r1 h1 => by
    have r1' : Reps F1 xs vs := r1
    by_cases c : line xs.length = true
    · rw [if_pos c] at h1
      refine ⟨by rw [r1'.length]; exact line_ok c, fun p hp => h1 _ _ _ (b1.lay0 hp) (Ext.lay0 b1.sub hp).1 ⟨p, vs, rfl, hp, upd_same, b1.sub.none hp, r1'⟩⟩
    · rw [if_neg c] at h1; exact h1.elim)
/-- a new list as data -/
theorem Bd.frz {F0 H0 F H : Hp} {st : Addr} {hb : Bool} {S : Sto} {ρ : List L} {σ : L2.St} (b : Bd F0 H0 st hb F H S ρ σ) {p : Addr} {vs : List V} (hp : H p = some (.lst vs)) (fp : F p = none) (h0 : H0 p = none)
    (nw : ∀ (j : Nat) (ys : List D), ρ[j]? = some (.own ys) → σ[j]? ≠ some (some (.ref p))) : Bd F0 H0 st hb (upd F p (.lst vs)) H S ρ σ := by
  obtain ⟨e, s⟩ := Ext.frz (o := .lst vs) b.sub hp h0 b.ext fp
  have ff : Sub F (upd F p (.lst vs)) := fun a u h => by rw [upd_ne (ne_of_none h fp)]; exact h
  have pst : hb = true → p ≠ st := fun h z => by subst z; exact b.st0 h h0
  refine ⟨s, e, fun h => ?_, b.st0, fun i l q => ?_, b.dis, b.len⟩
  · exact (b.sto h).ext (fun a o q => q) ff (by rw [upd_ne (Ne.symm (pst h))]; exact (b.sto h).1)
  · have z := b.loc i l q
    cases l with
    | un => trivial
    | d x => obtain ⟨u, e1, r⟩ := z; exact ⟨u, e1, Rep.mono ff x u r⟩
    | own xs =>
      obtain ⟨p', vs', e1, e2, e3, e4, r⟩ := z
      have ne : p' ≠ p := fun w => by subst w; exact nw i xs q e1
      exact ⟨p', vs', e1, e2, by rw [upd_ne ne]; exact e3, e4, Reps.mono ff xs vs' r⟩
    | st => exact z
def mFrz (φ : Ph (List D)) : Ph D := fun ρ S => (φ ρ S).bind fun xs S1 => .ok (.lst xs) S1
theorem et_frz {t : TE} {φ : Ph (List D)} (h : OT W t φ) : ET W t (mFrz φ) := fun F0 H0 st hs F H S ρ σ Q b hq =>
  h _ _ _ _ _ _ _ _ _ _ b (by
    unfold mFrz at hq
    cases o : φ ρ S with
    | ok xs S1 =>
      rw [o] at hq
      intro v F1 H1 b1 e1 r1
      obtain ⟨p, vs, rfl, n, hp, fp, r⟩ := r1
      have b2 := b1.frz hp fp (b.h0none n) (fun j ys z => b.noOwn n j ys z)
      refine hq _ _ _ b2 ⟨fun a u w => ?_, e1.keep, fun a w1 w2 => ?_⟩ (rep_lst r fp)
      · have w' := e1.ff a u w
        rw [upd_ne (ne_of_none w' fp)]; exact w'
      · by_cases z : a = p
        · subst z; exact absurd n w2
        · rw [upd_ne z]; exact e1.new a w1 w2
    | exc x ρ' S1 => rw [o] at hq; exact hq
    | bad => rw [o] at hq; exact hq.elim)

/-! ### tests -/
def toB (d : D) (S : Sto) : Out Bool := match d with
  | .bl b => .ok b S
  | _ => .bad
def mB (φ : Ph D) : Ph Bool := fun ρ S => (φ ρ S).bind toB
theorem bt_val (ha : ET W ta φa) : BT W (L2.tB ta) (mB φa) := fun F0 H0 st hs F H S ρ σ Q b h =>
  ha _ _ _ _ _ _ _ _ _ _ b (GW.bind rm_b h fun x S1 v F1 H1 b1 e1 r1 h1 => by
    cases x <;> try exact h1.elim
    rename_i k
    simp only [RD, Rep] at r1
    exact ⟨k, r1, h1 k F1 H1 b1 Ext.refl rfl⟩)
theorem bt_test (ha : ET W ta φa) : BT W (tTest ta) (mB φa) := bt_val ha
def mAnd (φA φB : Ph Bool) : Ph Bool := fun ρ S => (φA ρ S).bind fun c S1 => if c = true then φB ρ S1 else .ok false S1
def mOr (φA φB : Ph Bool) : Ph Bool := fun ρ S => (φA ρ S).bind fun c S1 => if c = true then .ok true S1 else φB ρ S1
def mNot (φA : Ph Bool) : Ph Bool := fun ρ S => (φA ρ S).bind fun c S1 => .ok (!c) S1
theorem bt_and (ha : BT W tA φA) (hb : BT W tB' φB) : BT W (tAnd tA tB') (mAnd φA φB) := fun F0 H0 st hs F H S ρ σ Q b h =>
  ha _ _ _ _ _ _ _ _ _ _ b (GW.bind rm_b h fun x S1 v F1 H1 b1 e1 r1 h1 => by
    cases (show x = v from r1)
    cases x
    · exact iteF (h1 false F1 H1 b1 Ext.refl rfl)
    · exact iteT (hb _ _ _ _ _ _ _ _ _ _ b1 h1))
theorem bt_or (ha : BT W tA φA) (hb : BT W tB' φB) : BT W (tOr tA tB') (mOr φA φB) := fun F0 H0 st hs F H S ρ σ Q b h =>
  ha _ _ _ _ _ _ _ _ _ _ b (GW.bind rm_b h fun x S1 v F1 H1 b1 e1 r1 h1 => by
    cases (show x = v from r1)
    cases x
    · exact iteF (hb _ _ _ _ _ _ _ _ _ _ b1 h1)
    · exact iteT (h1 true F1 H1 b1 Ext.refl rfl))
theorem bt_not (ha : BT W tA φA) : BT W (tNot tA) (mNot φA) := fun F0 H0 st hs F H S ρ σ Q b h =>
  ha _ _ _ _ _ _ _ _ _ _ b (GW.bind rm_b h fun x S1 v F1 H1 b1 e1 r1 h1 => by
    cases (show x = v from r1)
    exact h1 (!x) F1 H1 b1 Ext.refl rfl)
def mIf (φA : Ph Bool) (φa φb : Ph D) : Ph D := fun ρ S => (φA ρ S).bind fun c S1 => if c = true then φa ρ S1 else φb ρ S1
theorem et_if (hA : BT W tA φA) (ha : ET W ta φa) (hb : ET W tb φb) : ET W (tIf tA ta tb) (mIf φA φa φb) := fun F0 H0 st hs F H S ρ σ Q b h =>
  hA _ _ _ _ _ _ _ _ _ _ b (GW.bind rm_d h fun x S1 v F1 H1 b1 e1 r1 h1 => by
    cases (show x = v from r1)
    cases x
    · exact iteF (hb _ _ _ _ _ _ _ _ _ _ b1 h1)
    · exact iteT (ha _ _ _ _ _ _ _ _ _ _ b1 h1))
def mAndV (φa φb : Ph D) : Ph D := fun ρ S => (φa ρ S).bind fun x S1 => match x with
  | .bl c => if c = true then φb ρ S1 else .ok (.bl false) S1
  | _ => .bad
def mOrV (φa φb : Ph D) : Ph D := fun ρ S => (φa ρ S).bind fun x S1 => match x with
  | .bl c => if c = true then .ok (.bl true) S1 else φb ρ S1
  | _ => .bad
def mNotV (φa : Ph D) : Ph D := fun ρ S => (φa ρ S).bind fun x S1 => match x with
  | .bl c => .ok (.bl (!c)) S1
  | _ => .bad
theorem et_and (ha : ET W ta φa) (hb : ET W tb φb) : ET W (tAndV ta tb) (mAndV φa φb) := fun F0 H0 st hs F H S ρ σ Q b h =>
  ha _ _ _ _ _ _ _ _ _ _ b (GW.bind rm_d h fun x S1 v F1 H1 b1 e1 r1 h1 => by
    cases x <;> try exact h1.elim
    rename_i k
    simp only [RD, Rep] at r1
    refine ⟨k, r1, ?_⟩
    cases k
    · exact iteF (h1 _ F1 H1 b1 Ext.refl (rep_bl _))
    · exact iteT (hb _ _ _ _ _ _ _ _ _ _ b1 h1))
theorem et_or (ha : ET W ta φa) (hb : ET W tb φb) : ET W (tOrV ta tb) (mOrV φa φb) := fun F0 H0 st hs F H S ρ σ Q b h =>
  ha _ _ _ _ _ _ _ _ _ _ b (GW.bind rm_d h fun x S1 v F1 H1 b1 e1 r1 h1 => by
    cases x <;> try exact h1.elim
    rename_i k
    simp only [RD, Rep] at r1
    refine ⟨k, r1, ?_⟩
    cases k
    · exact iteF (hb _ _ _ _ _ _ _ _ _ _ b1 h1)
    · exact iteT (h1 _ F1 H1 b1 Ext.refl (rep_bl _)))
theorem et_not (ha : ET W ta φa) : ET W (tNotV ta) (mNotV φa) := fun F0 H0 st hs F H S ρ σ Q b h =>
  ha _ _ _ _ _ _ _ _ _ _ b (GW.bind rm_d h fun x S1 v F1 H1 b1 e1 r1 h1 => by
    cases x <;> try exact h1.elim
    rename_i k
    simp only [RD, Rep] at r1
    exact ⟨k, r1, h1 _ F1 H1 b1 Ext.refl (rep_bl _)⟩)

/-! ### calls of built-ins, by data -/
def OC (W : WX) (r : List V → Hp → VK → Prop) (g : List D → Sto → Out D) : Prop :=
  ∀ (F0 H0 : Hp) (st : Addr) (hb : Bool) (F H : Hp) (S : Sto) (ρ : List L) (σ : L2.St) (Q : VK) (ds : List D) (vs : List V), Bd F0 H0 st hb F H S ρ σ → Reps F ds vs → GW RD W F0 H0 st hb F H ρ σ (g ds S) Q → r vs H Q
def mCB (g : List D → Sto → Out D) (φl : Ph (List D)) : Ph D := fun ρ S => (φl ρ S).bind g
theorem et_cb {r : List V → Hp → VK → Prop} {g : List D → Sto → Out D} (hr : OC W r g) (hl : AT W tr φl) : ET W (tCB r tr) (mCB g φl) := fun F0 H0 st hs F H S ρ σ Q b h =>
  hl _ _ _ _ _ _ _ _ _ _ b (GW.bind rm_d h fun xs S1 vs F1 H1 b1 e1 r1 h1 => hr _ _ _ _ _ _ _ _ _ _ _ _ b1 r1 h1)
/-- the same for what gives a new list -/
def OCo (W : WX) (r : List V → Hp → VK → Prop) (g : List D → Sto → Out (List D)) : Prop :=
  ∀ (F0 H0 : Hp) (st : Addr) (hb : Bool) (F H : Hp) (S : Sto) (ρ : List L) (σ : L2.St) (Q : VK) (ds : List D) (vs : List V), Bd F0 H0 st hb F H S ρ σ → Reps F ds vs → GW RO W F0 H0 st hb F H ρ σ (g ds S) Q → r vs H Q
def mCBo (g : List D → Sto → Out (List D)) (φl : Ph (List D)) : Ph (List D) := fun ρ S => (φl ρ S).bind g
theorem ot_cb {r : List V → Hp → VK → Prop} {g : List D → Sto → Out (List D)} (hr : OCo W r g) (hl : AT W tr φl) : OT W (tCB r tr) (mCBo g φl) := fun F0 H0 st hs F H S ρ σ Q b h =>
  hl _ _ _ _ _ _ _ _ _ _ b (GW.bind rm_o h fun xs S1 vs F1 H1 b1 e1 r1 h1 => hr _ _ _ _ _ _ _ _ _ _ _ _ b1 r1 h1)
end
end DL

set_option Elab.async false
set_option linter.all false
set_option maxRecDepth 100000
set_option maxHeartbeats 4000000
set_option autoImplicit false
namespace DL
open PySem PySem.Spec L2

/-! ### statements -/
inductive Ctl where
  | nx (ρ : List L) | rt (d : D) | ro (xs : List D) | bk (ρ : List L) | ct (ρ : List L)
def SW (W : WX) (F0 H0 : Hp) (st : Addr) (hb : Bool) (o : Out Ctl) (Dn : Ends) : Prop := match o with
  | .ok (.nx ρ') S' => ∀ (σ' : L2.St) (F' H' : Hp), Bd F0 H0 st hb F' H' S' ρ' σ' → Dn.nx σ' H'
  | .ok (.bk ρ') S' => ∀ (σ' : L2.St) (F' H' : Hp), Bd F0 H0 st hb F' H' S' ρ' σ' → Dn.bk σ' H'
  | .ok (.ct ρ') S' => ∀ (σ' : L2.St) (F' H' : Hp), Bd F0 H0 st hb F' H' S' ρ' σ' → Dn.ct σ' H'
  | .ok (.rt d) S' => ∀ (v : V) (F' H' : Hp), Bd F0 H0 st hb F' H' S' [] [] → Rep F' d v → Dn.rt v H'
  | .ok (.ro xs) S' => ∀ (p : Addr) (vs : List V) (F' H' : Hp), Bd F0 H0 st hb F' H' S' [] [] → H' p = some (.lst vs) → F' p = none → H0 p = none → Reps F' xs vs → Dn.rt (.ref p) H'
  | .exc x ρ' S' => ∀ (cls : Value) (dx : Option Addr) (σ' : L2.St) (F' H' : Hp), Bd F0 H0 st hb F' H' S' ρ' σ' → XRep F' H' x cls dx → W cls dx σ' H'
  | .bad => False
def ST (W : WX) (t : TS) (φ : Ph Ctl) : Prop :=
  ∀ (F0 H0 : Hp) (st : Addr) (hb : Bool) (F H : Hp) (S : Sto) (ρ : List L) (σ : L2.St) (Dn : Ends), Bd F0 H0 st hb F H S ρ σ → SW W F0 H0 st hb (φ ρ S) Dn → t Dn σ H
/-- an expression ahead of what a statement does with it -/
theorem GW.stmt {α β : Type} {R : RR α β} {W : WX} {F0 H0 F H : Hp} {st : Addr} {hb : Bool} {ρ : List L} {σ : L2.St} {o : Out α} {k : α → Sto → Out Ctl} {Dn : Ends} {Q1 : β → Hp → Prop} (h : SW W F0 H0 st hb (o.bind k) Dn)
    (hk : ∀ a S1 b F1 H1, Bd F0 H0 st hb F1 H1 S1 ρ σ → Ext st hb F H F1 H1 → R st H F1 H1 a b → SW W F0 H0 st hb (k a S1) Dn → Q1 b H1) : GW R W F0 H0 st hb F H ρ σ o Q1 := by
  cases o with
  | ok a S1 => exact fun v F2 H2 b2 e2 r => hk a S1 v F2 H2 b2 e2 r h
  | exc x ρ' S1 => exact fun cls dx F' H' b' xr => h cls dx σ F' H' b' xr
  | bad => exact h
def Out.seq (o : Out Ctl) (k : Ph Ctl) : Out Ctl := match o with
  | .ok (.nx ρ) S => k ρ S
  | o => o
section
variable {W : WX} {ta tb te : TE} {φ φa φb : Ph D} {φo : Ph (List D)} {t u : TS} {φt φu : Ph Ctl} {tc : TT} {φc : Ph Bool}
def mNext : Ph Ctl := fun ρ S => .ok (.nx ρ) S
theorem st_next : ST W tNext mNext := fun F0 H0 st hb F H S ρ σ Dn b h => h σ F H b
def mSeq (φt φu : Ph Ctl) : Ph Ctl := fun ρ S => (φt ρ S).seq φu
theorem st_seq (h1 : ST W t φt) (h2 : ST W u φu) : ST W (tSeq t u) (mSeq φt φu) := fun F0 H0 st hb F H S ρ σ Dn b h =>
  h1 _ _ _ _ _ _ _ _ _ _ b (by
    unfold mSeq Out.seq at h
    cases o : φt ρ S with
    | ok c S1 =>
      rw [o] at h
      cases c with
      | nx ρ' => exact fun σ' F' H' b' => h2 _ _ _ _ _ _ _ _ _ _ b' h
      | rt d => exact h
      | ro xs => exact h
      | bk ρ' => exact h
      | ct ρ' => exact h
    | exc x ρ' S1 => rw [o] at h; exact h
    | bad => rw [o] at h; exact h.elim)
def mIfS (φc : Ph Bool) (φt φu : Ph Ctl) : Ph Ctl := fun ρ S => (φc ρ S).bind fun c S1 => if c = true then φt ρ S1 else φu ρ S1
theorem st_if (hc : BT W tc φc) (h1 : ST W t φt) (h2 : ST W u φu) : ST W (tIfS tc t u) (mIfS φc φt φu) := fun F0 H0 st hb F H S ρ σ Dn b h =>
  hc _ _ _ _ _ _ _ _ _ _ b (GW.stmt h fun c S1 v F1 H1 b1 e1 r1 h1' => by
    cases (show c = v from r1)
    cases c
    · exact iteF (h2 _ _ _ _ _ _ _ _ _ _ b1 h1')
    · exact iteT (h1 _ _ _ _ _ _ _ _ _ _ b1 h1'))
def mBreak : Ph Ctl := fun ρ S => .ok (.bk ρ) S
theorem st_break : ST W tBreak mBreak := fun F0 H0 st hb F H S ρ σ Dn b h => h σ F H b
def mCont : Ph Ctl := fun ρ S => .ok (.ct ρ) S
theorem st_cont : ST W tCont mCont := fun F0 H0 st hb F H S ρ σ Dn b h => h σ F H b
def mBad : Ph Ctl := fun _ _ => .bad
theorem st_never : ST W tNever mBad := fun F0 H0 st hb F H S ρ σ Dn b h => h
def mRet (φ : Ph D) : Ph Ctl := fun ρ S => (φ ρ S).bind fun d S1 => .ok (.rt d) S1
theorem st_ret (h : ET W te φ) : ST W (tRet te) (mRet φ) := fun F0 H0 st hb F H S ρ σ Dn b q =>
  h _ _ _ _ _ _ _ _ _ _ b (GW.stmt q fun d S1 v F1 H1 b1 e1 r1 q1 => q1 v F1 H1 b1.bare r1)
def mRetO (φ : Ph (List D)) : Ph Ctl := fun ρ S => (φ ρ S).bind fun xs S1 => .ok (.ro xs) S1
theorem st_retO (h : OT W te φo) : ST W (tRet te) (mRetO φo) := fun F0 H0 st hb F H S ρ σ Dn b q =>
  h _ _ _ _ _ _ _ _ _ _ b (GW.stmt q fun xs S1 v F1 H1 b1 e1 r1 q1 => by
    obtain ⟨p, vs, rfl, n, hp, fp, r⟩ := r1
    exact q1 p vs F1 H1 b1.bare hp fp (b.h0none n) r)
/-- return x, x a list of the def's own -/
def mRetV (i : Nat) : Ph Ctl := fun ρ S => match ρ[i]? with
  | some (.own xs) => .ok (.ro xs) S
  | _ => .bad
theorem st_retV (i : Nat) : ST W (tRet (tVar i)) (mRetV i) := fun F0 H0 st hb F H S ρ σ Dn b q => by
  unfold mRetV at q
  cases e : ρ[i]? with
  | none => rw [e] at q; exact q.elim
  | some l =>
    rw [e] at q
    cases l with
    | own xs =>
      obtain ⟨p, vs, e1, hp, fp, h0, r⟩ := b.loc i _ e
      exact ⟨.ref p, e1, q p vs F H b.bare hp fp h0 r⟩
    | un => exact q.elim
    | d x => exact q.elim
    | st => exact q.elim
/-- x = e, data -/
def mSet (i : Nat) (φ : Ph D) : Ph Ctl := fun ρ S => (φ ρ S).bind fun d S1 => .ok (.nx (ρ.set i (.d d))) S1
theorem st_set (i : Nat) (h : ET W te φ) : ST W (tAsg te (gName i)) (mSet i φ) := fun F0 H0 st hb F H S ρ σ Dn b q =>
  h _ _ _ _ _ _ _ _ _ _ b (GW.stmt q fun d S1 v F1 H1 b1 e1 r1 q1 => q1 _ F1 H1 (b1.set r1))
/-- x = e, a new list -/
def mSetO (i : Nat) (φ : Ph (List D)) : Ph Ctl := fun ρ S => (φ ρ S).bind fun xs S1 => .ok (.nx (ρ.set i (.own xs))) S1
theorem st_setO (i : Nat) (h : OT W te φo) : ST W (tAsg te (gName i)) (mSetO i φo) := fun F0 H0 st hb F H S ρ σ Dn b q =>
  h _ _ _ _ _ _ _ _ _ _ b (GW.stmt q fun xs S1 v F1 H1 b1 e1 r1 q1 => by
    obtain ⟨p, vs, rfl, n, hp, fp, r⟩ := r1
    exact q1 _ F1 H1 (b1.setOwn hp fp (b.h0none n) r fun j ys _ z => b.noOwn n j ys z))
/-- the names of a block: set from a list of data -/
def setsL : List Nat → List D → List L → List L
  | i :: is, d :: ds, ρ => setsL is ds (ρ.set i (.d d))
  | _, _, ρ => ρ
def gNames : List Nat → TGs
  | [] => gNil
  | i :: is => gCons (gName i) (gNames is)
theorem gnames_ok {F0 H0 F H : Hp} {st : Addr} {hb : Bool} {S : Sto} : ∀ (is : List Nat) {ds : List D} {vs : List V} {ρ : List L} {σ : L2.St} {Q : L2.St → Hp → Prop}, Bd F0 H0 st hb F H S ρ σ → Reps F ds vs → ds.length = is.length →
    (∀ σ', Bd F0 H0 st hb F H S (setsL is ds ρ) σ' → Q σ' H) → gNames is vs σ H Q
  | [], [], vs, ρ, σ, Q, b, r, _, q => ⟨reps_nil.mp r, q σ b⟩
  | [], d :: ds, vs, ρ, σ, Q, b, r, l, q => by simp at l
  | i :: is, [], vs, ρ, σ, Q, b, r, l, q => by simp at l
  | i :: is, d :: ds, vs, ρ, σ, Q, b, r, l, q => by
    obtain ⟨v, rs, e, h1, h2⟩ := reps_cons.mp r
    exact ⟨v, rs, e, gnames_ok is (b.set h1) h2 (by simpa using l) q⟩
/-- a, b = e -/
def mSets (is : List Nat) (φ : Ph D) : Ph Ctl := fun ρ S => (φ ρ S).bind fun d S1 => match d with
  | .tup ds => if ds.length = is.length then .ok (.nx (setsL is ds ρ)) S1 else .bad
  | _ => .bad
theorem st_sets {K : PySem.W.Frag} (is : List Nat) {n : Nat} (hn : n = is.length) (h : ET W te φ) : ST W (tAsg te (gTup K n (gNames is))) (mSets is φ) := fun F0 H0 st hb F H S ρ σ Dn b q =>
  h _ _ _ _ _ _ _ _ _ _ b (GW.stmt q fun d S1 v F1 H1 b1 e1 r1 q1 => by
    cases d <;> try exact q1.elim
    rename_i ds
    simp only [RD, Rep] at r1
    obtain ⟨a, xs, e, f, r⟩ := r1
    by_cases c : ds.length = is.length
    · simp only [if_pos c] at q1
      refine ⟨a, xs, e, SqT.of (b1.sub _ _ f), by rw [r.length, c, hn], gnames_ok is b1 r c fun σ' b' => q1 σ' F1 H1 b'⟩
    · simp only [if_neg c] at q1
      exact q1.elim)
/-- e as a statement -/
def mDrop (φ : Ph D) : Ph Ctl := fun ρ S => (φ ρ S).bind fun _ S1 => .ok (.nx ρ) S1
theorem st_drop (h : ET W te φ) : ST W (tDrop te) (mDrop φ) := fun F0 H0 st hb F H S ρ σ Dn b q =>
  h _ _ _ _ _ _ _ _ _ _ b (GW.stmt q fun d S1 v F1 H1 b1 e1 r1 q1 => q1 σ F1 H1 b1)
/-- a list of the def's own becomes data, ahead of a block -/
def frzL (i : Nat) (ρ : List L) : List L := match ρ[i]? with
  | some (.own xs) => ρ.set i (.d (.lst xs))
  | _ => ρ
theorem Bd.frzL {F0 H0 F H : Hp} {st : Addr} {hb : Bool} {S : Sto} {ρ : List L} {σ : L2.St} (b : Bd F0 H0 st hb F H S ρ σ) (i : Nat) : ∃ F', Sub F F' ∧ Bd F0 H0 st hb F' H S (frzL i ρ) σ := by
  unfold DL.frzL
  split
  · rename_i xs e
    obtain ⟨p, vs, e1, hp, fp, h0, r⟩ := b.loc i _ e
    -- first forget the name, then freeze, then tell it
    have hi : i < σ.length := by
      cases Nat.lt_or_ge i σ.length with
      | inl h => exact h
      | inr h => rw [List.getElem?_eq_none h] at e1; cases e1
    have es : σ.set i (some (.ref p)) = σ := by
      apply List.ext_getElem?
      intro j
      rw [List.getElem?_set]
      by_cases z : i = j
      · subst z; rw [if_pos rfl, if_pos hi, e1]
      · rw [if_neg z]
    have b0 : Bd F0 H0 st hb F H S (ρ.set i .un) (σ.set i (some (.ref p))) := b.wipe
    have nw : ∀ (j : Nat) (ys : List D), (ρ.set i .un)[j]? = some (.own ys) → (σ.set i (some (V.ref p)))[j]? ≠ some (some (.ref p)) := fun j ys h1 h2 => by
      rw [List.getElem?_set] at h1
      by_cases z : i = j
      · rw [if_pos z] at h1; split at h1 <;> cases h1
      · rw [if_neg z] at h1
        rw [List.getElem?_set, if_neg z] at h2
        exact b.dis i j p xs ys z e h1 e1 h2
    have b1 := b0.frz hp fp h0 nw
    have b2 := b1.set (i := i) (rep_lst r fp)
    rw [List.set_set, List.set_set, es] at b2
    exact ⟨_, fun a u h => by rw [upd_ne (ne_of_none h fp)]; exact h, b2⟩
  · exact ⟨F, Sub.refl _, b⟩
def mGh (i : Nat) (φ : Ph Ctl) : Ph Ctl := fun ρ S => φ (frzL i ρ) S
theorem st_gh (i : Nat) (h : ST W t φt) : ST W t (mGh i φt) := fun F0 H0 st hb F H S ρ σ Dn b q => by
  obtain ⟨F', _, b'⟩ := b.frzL i
  exact h _ _ _ _ _ _ _ _ _ _ b' q
end
/-! ### loops -/
def YD (F : Hp) (ds : List D) : Nat → Hp → V → Hp → Prop := fun i H x H' =>
  (H' = H ∧ ∃ d, ds[i]? = some d ∧ Rep F d x) ∨ ∃ T xs es, x = .ref T ∧ H T = none ∧ H' = upd H T (.tup xs) ∧ ds[i]? = some (.tup es) ∧ Reps F es xs
def RI (ds : List D) (F : Hp) (J : It) : Prop := Walk J ds.length (fun H => Sub F H) (YD F ds)
def RIt : RR (List D) It := fun _ _ F' _ ds J => RI ds F' J
abbrev IT (W : WX) (wi : TI) (φ : Ph (List D)) : Prop := GT RIt W wi φ
theorem rm_i : RM RIt := fun _ _ _ _ _ _ _ _ h => h
/-- an item has come -/
theorem YD.go {F0 H0 F2 H2 H3 F : Hp} {st : Addr} {hb : Bool} {S : Sto} {ρ : List L} {σ : L2.St} {ds : List D} {i : Nat} {x : V} (y : YD F ds i H2 x H3) (s : Sub F F2) (b : Bd F0 H0 st hb F2 H2 S ρ σ) :
    ∃ d F3, ds[i]? = some d ∧ Bd F0 H0 st hb F3 H3 S ρ σ ∧ Ext st hb F2 H2 F3 H3 ∧ Rep F3 d x := by
  rcases y with ⟨rfl, d, e, r⟩ | ⟨T, xs, es, rfl, n, rfl, e, r⟩
  · exact ⟨d, F2, e, b, Ext.refl, Rep.mono s d x r⟩
  · exact ⟨.tup es, _, e, b.lay n, (Ext.lay b.sub n).1, rep_tup (Reps.mono s _ _ r) (b.sub.none n)⟩
/-- how an item is given to the names of a target -/
inductive Tgt where
  | one (i : Nat) | many (is : List Nat)
def Tgt.put (g : Tgt) (d : D) (ρ : List L) : Option (List L) := match g with
  | .one i => some (ρ.set i (.d d))
  | .many is => match d with
    | .tup ds => if ds.length = is.length then some (setsL is ds ρ) else none
    | _ => none
def TgtT (K : PySem.W.Frag) (g : Tgt) : TG := match g with
  | .one i => gName i
  | .many is => gTup K is.length (gNames is)
theorem tgt_ok {K : PySem.W.Frag} {F0 H0 F H : Hp} {st : Addr} {hb : Bool} {S : Sto} {ρ ρ' : List L} {σ : L2.St} {g : Tgt} {d : D} {v : V} {Q : L2.St → Hp → Prop} (b : Bd F0 H0 st hb F H S ρ σ) (r : Rep F d v) (e : g.put d ρ = some ρ')
    (q : ∀ σ', Bd F0 H0 st hb F H S ρ' σ' → Q σ' H) : TgtT K g v σ H Q := by
  cases g with
  | one i => simp only [Tgt.put] at e; cases e; exact q _ (b.set r)
  | many is =>
    cases d <;> simp only [Tgt.put] at e <;> try cases e
    rename_i ds
    simp only [Rep] at r
    obtain ⟨a, xs, e1, f, r'⟩ := r
    by_cases c : ds.length = is.length
    · rw [if_pos c] at e; cases e
      exact ⟨a, xs, e1, SqT.of (b.sub _ _ f), by rw [r'.length, c], gnames_ok is b r' c q⟩
    · rw [if_neg c] at e; cases e
/-- the ground may be taken later -/
theorem Bd.up {F0 H0 F H : Hp} {st : Addr} {hb : Bool} {S : Sto} {ρ : List L} {σ : L2.St} (b : Bd F0 H0 st hb F H S ρ σ) : Bd F H0 st hb F H S ρ σ :=
  ⟨b.sub, ⟨Sub.refl _, b.ext.keep, fun a h _ => h⟩, b.sto, b.st0, b.loc, b.dis, b.len⟩
theorem Bd.down {F0 H0 F1 H1 F H : Hp} {st : Addr} {hb : Bool} {S S1 : Sto} {ρ ρ1 : List L} {σ σ1 : L2.St} (b1 : Bd F0 H0 st hb F1 H1 S1 ρ1 σ1) (b : Bd F1 H0 st hb F H S ρ σ) : Bd F0 H0 st hb F H S ρ σ :=
  ⟨b.sub, ⟨b1.ext.ff.trans b.ext.ff, b.ext.keep, fun a h n => b.ext.new a (b1.ext.new a h n) n⟩, b.sto, b.st0, b.loc, b.dis, b.len⟩
theorem SW.up {W : WX} {F0 H0 F1 H1 : Hp} {st : Addr} {hb : Bool} {S1 : Sto} {ρ1 : List L} {σ1 : L2.St} {o : Out Ctl} {Dn : Ends} (b1 : Bd F0 H0 st hb F1 H1 S1 ρ1 σ1) (h : SW W F0 H0 st hb o Dn) : SW W F1 H0 st hb o Dn := by
  cases o with
  | ok c S =>
    cases c with
    | nx ρ => exact fun σ' F' H' b => h σ' F' H' (b1.down b)
    | bk ρ => exact fun σ' F' H' b => h σ' F' H' (b1.down b)
    | ct ρ => exact fun σ' F' H' b => h σ' F' H' (b1.down b)
    | rt d => exact fun v F' H' b => h v F' H' (b1.down b)
    | ro xs => exact fun p vs F' H' b => h p vs F' H' (b1.down b)
  | exc x ρ S => exact fun cls dx σ' F' H' b => h cls dx σ' F' H' (b1.down b)
  | bad => exact h
def forD (g : Tgt) (φ : Ph Ctl) : List D → Ph Ctl
  | [], ρ, S => .ok (.nx ρ) S
  | d :: ds, ρ, S => match g.put d ρ with
    | none => .bad
    | some ρ1 => match φ ρ1 S with
      | .ok (.nx ρ2) S2 => forD g φ ds ρ2 S2
      | .ok (.ct ρ2) S2 => forD g φ ds ρ2 S2
      | .ok (.bk ρ2) S2 => .ok (.nx ρ2) S2
      | o => o
def mFor (g : Tgt) (φi : Ph (List D)) (φ : Ph Ctl) : Ph Ctl := fun ρ S => (φi ρ S).bind fun ds S1 => forD g φ ds ρ S1
theorem st_for {W : WX} {K : PySem.W.Frag} {wi : TI} {tb : TS} {φi : Ph (List D)} {φ : Ph Ctl} (g : Tgt) (hi : IT W wi φi) (hb' : ST W tb φ) : ST W (tFor wi (TgtT K g) tb) (mFor g φi φ) := fun F0 H0 st hb F H S ρ σ Dn b q =>
  hi _ _ _ _ _ _ _ _ _ _ b (GW.stmt q fun ds S1 J F1 H1 b1 e1 r1 q1 => by
    have w : Walk J ds.length (fun H => Sub F1 H) (YD F1 ds) := r1
    refine for_it w (fun i σ H => ∃ F2 S2 ρ2, Bd F1 H0 st hb F2 H S2 ρ2 σ ∧ SW W F1 H0 st hb (forD g φ (ds.drop i) ρ2 S2) Dn) ⟨F1, S1, ρ, b1.up, q1.up b1⟩ ?_ ?_ ?_
    · rintro i σ H _ ⟨F2, S2, ρ2, b2, _⟩
      exact b2.ext.ff.trans b2.sub
    · rintro i x σ2 H2 H3 hi ⟨F2, S2, ρ2, b2, q2⟩ y
      obtain ⟨d, F3, e, b3, e3, r3⟩ := y.go b2.ext.ff b2
      have ed : ds.drop i = d :: ds.drop (i + 1) := by
        rw [List.getElem?_eq_some_iff] at e
        obtain ⟨h1, h2⟩ := e
        rw [← h2]
        exact List.drop_eq_getElem_cons h1
      rw [ed] at q2
      simp only [forD] at q2
      cases p : g.put d ρ2 with
      | none => rw [p] at q2; exact q2.elim
      | some ρ3 =>
        rw [p] at q2
        refine tgt_ok b3 r3 p fun σ' b4 => hb' _ _ _ _ _ _ _ _ _ _ b4 ?_
        simp only at q2
        cases o : φ ρ3 S2 with
        | ok c S4 =>
          rw [o] at q2
          cases c with
          | nx ρ5 => exact fun σ5 F5 H5 b5 => ⟨F5, S4, ρ5, b5, q2⟩
          | ct ρ5 => exact fun σ5 F5 H5 b5 => ⟨F5, S4, ρ5, b5, q2⟩
          | bk ρ5 => exact q2
          | rt d => exact q2
          | ro xs => exact q2
        | exc x ρ5 S4 => rw [o] at q2; exact q2
        | bad => rw [o] at q2; exact q2
    · rintro σ2 H2 ⟨F2, S2, ρ2, b2, q2⟩
      rw [List.drop_length] at q2
      exact q2 σ2 F2 H2 b2)
end DL

set_option Elab.async false
set_option linter.all false
set_option maxRecDepth 100000
set_option maxHeartbeats 4000000
set_option autoImplicit false
namespace DL
open PySem PySem.Spec L2

/-! ### comprehensions -/
def wipeL (ρ : List L) : List Nat → List L
  | [] => ρ
  | v :: vs => (wipeL ρ vs).set v .un
theorem Bd.wipes {F0 H0 F H : Hp} {st : Addr} {hb : Bool} {S : Sto} {ρ : List L} {σ : L2.St} (b : Bd F0 H0 st hb F H S ρ σ) : ∀ vs : List Nat, Bd F0 H0 st hb F H S (wipeL ρ vs) (L2.wipe σ vs)
  | [] => b
  | v :: vs => (b.wipes vs).wipe
theorem wipe_get {σ : L2.St} : ∀ (vs : List Nat) (j : Nat), (wipe σ vs)[j]? = if j ∈ vs then (if j < σ.length then some none else none) else σ[j]?
  | [], j => by simp [wipe]
  | v :: vs, j => by
    rw [wipe, List.getElem?_set, wipe_length, wipe_get vs j]
    by_cases e : v = j
    · subst e; simp
    · have e' : ¬ j = v := fun z => e z.symm
      rw [if_neg e]
      simp [e']
theorem wipe_same {σ τ : L2.St} {vs : List Nat} (hl : τ.length = σ.length) (h : ∀ j, j ∉ vs → τ[j]? = σ[j]?) : wipe τ vs = wipe σ vs := by
  apply List.ext_getElem?
  intro j
  rw [wipe_get, wipe_get, hl]
  by_cases e : j ∈ vs
  · rw [if_pos e, if_pos e]
  · rw [if_neg e, if_neg e, h j e]
/-- where a target stores -/
def Tgt.names : Tgt → List Nat
  | .one i => [i]
  | .many is => is
theorem gnames_len {F : Hp} {H : Hp} : ∀ (is : List Nat) {ds : List D} {vs : List V} {σ : L2.St} {Q : L2.St → Hp → Prop}, Reps F ds vs → ds.length = is.length →
    (∀ σ', σ'.length = σ.length → (∀ j, j ∉ is → σ'[j]? = σ[j]?) → gNames is vs σ H (fun τ _ => τ = σ') → Q σ' H) → gNames is vs σ H Q
  | [], [], vs, σ, Q, r, _, q => ⟨reps_nil.mp r, q σ rfl (fun _ _ => rfl) ⟨reps_nil.mp r, rfl⟩⟩
  | [], d :: ds, vs, σ, Q, r, l, q => by simp at l
  | i :: is, [], vs, σ, Q, r, l, q => by simp at l
  | i :: is, d :: ds, vs, σ, Q, r, l, q => by
    obtain ⟨v, rs, e, h1, h2⟩ := reps_cons.mp r
    refine ⟨v, rs, e, gnames_len is h2 (by simpa using l) fun σ' hl hn g => q σ' (by rw [hl, List.length_set]) (fun j hj => ?_) ⟨v, rs, e, g⟩⟩
    have h1 : j ∉ is := fun z => hj (List.mem_cons_of_mem _ z)
    have h2 : i ≠ j := fun z => hj (by rw [z]; exact List.mem_cons_self)
    rw [hn j h1, List.getElem?_set, if_neg h2]
/-- the target's store, with what it leaves -/
theorem tgt_ok2 {K : PySem.W.Frag} {F0 H0 F H : Hp} {st : Addr} {hb : Bool} {S : Sto} {ρ ρ' : List L} {σ : L2.St} {g : Tgt} {d : D} {v : V} {Q : L2.St → Hp → Prop} (b : Bd F0 H0 st hb F H S ρ σ) (r : Rep F d v) (e : g.put d ρ = some ρ')
    (q : ∀ σ', Bd F0 H0 st hb F H S ρ' σ' → σ'.length = σ.length → (∀ j, j ∉ g.names → σ'[j]? = σ[j]?) → Q σ' H) : TgtT K g v σ H Q := by
  cases g with
  | one i =>
    simp only [Tgt.put] at e; cases e
    refine q _ (b.set r) (by rw [List.length_set]) fun j hj => ?_
    have h2 : i ≠ j := fun z => hj (by rw [z]; exact List.mem_singleton.mpr rfl)
    rw [List.getElem?_set, if_neg h2]
  | many is =>
    cases d <;> simp only [Tgt.put] at e <;> try cases e
    rename_i ds
    simp only [Rep] at r
    obtain ⟨a, xs, e1, f, r'⟩ := r
    by_cases c : ds.length = is.length
    · rw [if_pos c] at e; cases e
      refine ⟨a, xs, e1, SqT.of (b.sub _ _ f), by rw [r'.length, c], ?_⟩
      refine gnames_len is r' c fun σ' hl hn g => ?_
      have bd : Bd F0 H0 st hb F H S (setsL is ds ρ) σ' := by
        have z := gnames_ok (Q := fun τ _ => Bd F0 H0 st hb F H S (setsL is ds ρ) τ) is b r' c fun σ'' b'' => b''
        -- both tell the one state
        have key : ∀ (is : List Nat) (vs : List V) (σ : L2.St) (P P' : L2.St → Hp → Prop), gNames is vs σ H P → gNames is vs σ H P' → gNames is vs σ H (fun τ h => P τ h ∧ P' τ h) := by
          intro is
          induction is with
          | nil => intro vs σ P P' h h'; exact ⟨h.1, h.2, h'.2⟩
          | cons i is ih =>
            intro vs σ P P' h h'
            obtain ⟨v, rs, e, h1⟩ := h
            obtain ⟨v', rs', e', h1'⟩ := h'
            rw [e] at e'
            cases e'
            exact ⟨v, rs, e, ih _ _ _ _ h1 h1'⟩
        have k2 := key _ _ _ _ _ z g
        have key2 : ∀ (is : List Nat) (vs : List V) (σ : L2.St) (P : L2.St → Hp → Prop), gNames is vs σ H P → ∃ τ h, P τ h := by
          intro is
          induction is with
          | nil => intro vs σ P h; exact ⟨_, _, h.2⟩
          | cons i is ih =>
            intro vs σ P h
            obtain ⟨v, rs, e, h1⟩ := h
            exact ih _ _ _ h1
        obtain ⟨τ, h, bτ, rfl⟩ := key2 _ _ _ _ k2
        exact bτ
      exact q σ' bd hl hn
    · rw [if_neg c] at e; cases e
def noX {α : Type} (o : Out α) : Out α := match o with
  | .exc _ _ _ => .bad
  | o => o
abbrev W0 : WX := fun _ _ _ _ => False
def compD (g : Tgt) (φt : Ph Bool) (φe : Ph D) : List D → List L → Sto → Out (List D)
  | [], _, S => .ok [] S
  | d :: ds, ρ, S => match g.put d ρ with
    | none => .bad
    | some ρ1 => (noX (φt ρ1 S)).bind fun c S1 => if c = true then (noX (φe ρ1 S1)).bind fun x S2 => (compD g φt φe ds ρ S2).bind fun xs S3 => .ok (x :: xs) S3 else compD g φt φe ds ρ S1
def mLc (g : Tgt) (vs : List Nat) (φi : Ph (List D)) (φt : Ph Bool) (φe : Ph D) : Ph (List D) := fun ρ S => (φi ρ S).bind fun ds S1 => if line ds.length = true then compD g φt φe ds (wipeL ρ vs) S1 else .bad
def mYes : Ph Bool := fun _ S => .ok true S
theorem bt_yes {W : WX} : BT W tYes mYes := fun F0 H0 st hb F H S ρ σ Q b h => h true F H b Ext.refl rfl
section
variable {F0 H0 F H F1 H1 : Hp} {st : Addr} {hb : Bool} {S : Sto} {ρ : List L} {σ : L2.St}
theorem Ext.updN (e : Ext st hb F1 H1 F H) {p : Addr} {o : HO} (n : H1 p = none) : Ext st hb F1 H1 F (upd H p o) :=
  ⟨e.ff, fun a u h k => by rw [upd_ne (ne_of_none h n)]; exact e.keep a u h k, e.new⟩
theorem Bd.updN (b : Bd F0 H0 st hb F H S ρ σ) {p : Addr} {o : HO} (n : H0 p = none) (fp : F p = none) (nw : ∀ (j : Nat) (ys : List D), ρ[j]? = some (.own ys) → σ[j]? ≠ some (some (.ref p))) : Bd F0 H0 st hb F (upd H p o) S ρ σ where
  sub := fun a u h => by rw [upd_ne (ne_of_none h fp)]; exact b.sub a u h
  ext := b.ext.updN n
  sto := fun h => by
    obtain ⟨f, o, h1, h2⟩ := b.sto h
    exact ⟨f, o, by rw [upd_ne (fun z => b.st0 h (by rw [z]; exact n))]; exact h1, h2⟩
  st0 := b.st0
  loc := fun i l h => by
    have q := b.loc i l h
    cases l with
    | un => trivial
    | d x => exact q
    | own xs =>
      obtain ⟨p', vs, e1, e2, e3, e4, r⟩ := q
      have ne : p' ≠ p := fun z => by subst z; exact nw i xs h e1
      exact ⟨p', vs, e1, by rw [upd_ne ne]; exact e2, e3, e4, r⟩
    | st => exact q
  dis := b.dis
  len := b.len
end
theorem noX_bind {α β γ : Type} {o : Out α} {k : α → Sto → Out β} {R : RR γ (γ)} : True := trivial
/-- an expression of a comprehension's block: it raises nothing -/
theorem GW.noX {α β γ δ : Type} {R : RR α β} {R2 : RR γ δ} {W : WX} {F0 H0 F H Fb Hb' : Hp} {st : Addr} {hb : Bool} {ρ ρ2 : List L} {σ σ2 : L2.St} {o : Out α} {k : α → Sto → Out γ} {Q : δ → Hp → Prop} {Q1 : β → Hp → Prop}
    (h : GW R2 W F0 H0 st hb Fb Hb' ρ2 σ2 ((DL.noX o).bind k) Q)
    (hk : ∀ a S1 b F1 H1, Bd F H0 st hb F1 H1 S1 ρ σ → Ext st hb F H F1 H1 → R st H F1 H1 a b → GW R2 W F0 H0 st hb Fb Hb' ρ2 σ2 (k a S1) Q → Q1 b H1) : GW R DL.W0 F H0 st hb F H ρ σ o Q1 := by
  cases o with
  | ok a S1 => exact fun v F2 H2 b2 e2 r => hk a S1 v F2 H2 b2 e2 r h
  | exc x ρ' S1 => exact h.elim
  | bad => exact h.elim
theorem ot_lc {W : WX} {K : PySem.W.Frag} {wi : TI} {tt : TT} {te : TE} {φi : Ph (List D)} {φt : Ph Bool} {φe : Ph D} (g : Tgt) (vs : List Nat) (hgv : ∀ i ∈ g.names, i ∈ vs) (hi : IT W wi φi) (ht : BT W0 tt φt) (he : ET W0 te φe) :
    OT W (tLc wi (TgtT K g) tt te vs) (mLc g vs φi φt φe) := fun F0 H0 st hb F H S ρ σ Q b q =>
  hi _ _ _ _ _ _ _ _ _ _ b (GW.bind rm_o q fun ds S1 J F1 H1 b1 e1 r1 q1 D hD => by
    have w : Walk J ds.length (fun H => Sub F1 H) (YD F1 ds) := r1
    by_cases hz : line ds.length = true
    · rw [if_pos hz] at q1
      have hz' : ds.length ≤ 1000 := of_decide_eq_true hz
      have h0D : H0 D = none := b1.h0none hD
      have f1D : F1 D = none := b1.sub.none hD
      have nwD : ∀ (j : Nat) (ys : List DL.D), ρ[j]? = some (.own ys) → σ[j]? ≠ some (some (.ref D)) := fun j ys h => b1.noOwn hD j ys h
      refine lc_it w (fun i H2 => ∃ F2 S2 acc accD, Bd F1 H0 st hb F2 H2 S2 ρ σ ∧ Ext st hb F1 H1 F2 H2 ∧ H2 D = some (.lst acc) ∧ F2 D = none ∧ Reps F2 accD acc ∧ accD.length ≤ i ∧
          GW RO W F0 H0 st hb F1 H1 ρ σ ((compD g φt φe (ds.drop i) (wipeL ρ vs) S2).bind fun xs S3 => .ok (accD ++ xs) S3) Q)
        ⟨F1, S1, [], [], b1.up.updN h0D f1D nwD, Ext.refl.updN hD, upd_same, f1D, reps_nil.mpr rfl, Nat.le_refl _, ?_⟩ ?_ ?_ ?_
      · rw [List.drop_zero]
        cases o : compD g φt φe ds (wipeL ρ vs) S1 with
        | ok xs S3 => rw [o] at q1; exact q1
        | exc x ρ' S3 => rw [o] at q1; exact q1
        | bad => rw [o] at q1; exact q1
      · rintro i H2 _ ⟨F2, S2, acc, accD, b2, e2, _⟩
        exact e2.ff.trans b2.sub
      · rintro i x H2 H3 hi ⟨F2, S2, acc, accD, b2, e2, hH, fD, ra, hl, q2⟩ y
        obtain ⟨d, F3, ed, b3, e3, r3⟩ := y.go e2.ff b2
        have hD3 : H3 D = some (.lst acc) := e3.keep D _ hH fun h z => by subst z; exact b2.st0 h h0D
        have fD3 : F3 D = none := e3.new D fD (by rw [hH]; exact nofun)
        have edr : ds.drop i = d :: ds.drop (i + 1) := by
          rw [List.getElem?_eq_some_iff] at ed
          obtain ⟨h1, h2⟩ := ed
          rw [← h2]
          exact List.drop_eq_getElem_cons h1
        rw [edr] at q2
        simp only [compD] at q2
        cases p : g.put d (wipeL ρ vs) with
        | none => rw [p] at q2; exact q2.elim
        | some ρ3 =>
          rw [p] at q2
          simp only at q2
          refine tgt_ok2 (b3.wipes vs) r3 p fun σ' b4 hlen hnm => ⟨?_, ?_⟩
          · refine wipe_same (by rw [hlen, wipe_length]) fun j hj => ?_
            rw [hnm j fun z => hj (hgv j z), wipe_get, if_neg hj]
          · have b4' := b4.up
            -- the test
            refine ht _ _ _ _ _ _ _ _ _ _ b4' ?_
            have asc : ∀ {α β : Type} (o : Out α) (k : α → Sto → Out (List DL.D)) (l : List DL.D → Sto → Out (List DL.D)), (o.bind k).bind l = o.bind fun a S => (k a S).bind l := fun o k l => by cases o <;> rfl
            rw [asc (β := Nat)] at q2
            refine GW.noX q2 fun c S5 c' F5 H5 b5 e5 rc q3 => ?_
            cases (show c = c' from rc)
            have ex5 : Ext st hb F1 H1 F5 H5 := (e2.trans e3 b2.stH).trans e5 b3.stH
            have hD5 : H5 D = some (.lst acc) := e5.keep D _ hD3 fun h z => by subst z; exact b2.st0 h h0D
            have fD5 : F5 D = none := e5.new D fD3 (by rw [hD3]; exact nofun)
            have bρ5 : Bd F1 H0 st hb F5 H5 S5 ρ σ := b3.go (S' := S5) e5 b5.sub b5.sto
            have ra5 : Reps F5 accD acc := Reps.mono (e3.ff.trans e5.ff) _ _ ra
            cases c
            · refine iteF ?_
              rw [if_neg Bool.false_ne_true] at q3
              exact ⟨F5, S5, acc, accD, bρ5, ex5, hD5, fD5, ra5, by omega, q3⟩
            · refine iteT ?_
              rw [if_pos rfl, asc (β := Nat)] at q3
              refine he _ _ _ _ _ _ _ _ _ _ (b5.up) ?_
              refine GW.noX q3 fun z S6 u F6 H6 b6 e6 rz q4 => ?_
              have hD6 : H6 D = some (.lst acc) := e6.keep D _ hD5 fun h z => by subst z; exact b2.st0 h h0D
              have fD6 : F6 D = none := e6.new D fD5 (by rw [hD5]; exact nofun)
              have ra6 : Reps F6 accD acc := Reps.mono e6.ff _ _ ra5
              refine ⟨acc, hD6, ?_, F6, S6, acc ++ [u], accD ++ [z], (bρ5.go (S' := S6) e6 b6.sub b6.sto).updN h0D fD6 nwD, ((ex5.trans e6 b5.stH)).updN hD, upd_same, fD6, ra6.append (Reps.one rz), ?_, ?_⟩
              · rw [ra6.length]; exact small1000 (by omega)
              · rw [List.length_append]; simp only [List.length_cons, List.length_nil]; omega
              · rw [asc (β := Nat)] at q4
                have e : ∀ (o : Out (List DL.D)), (o.bind fun a S => ((Out.ok (z :: a) S : Out (List DL.D)).bind fun xs S3 => Out.ok (accD ++ xs) S3)) = o.bind fun xs S3 => .ok (accD ++ [z] ++ xs) S3 := fun o => by
                  cases o
                  · simp [Out.bind]
                  · rfl
                  · rfl
                rw [e] at q4
                exact q4
      · rintro H2 ⟨F2, S2, acc, accD, b2, e2, hH, fD, ra, hl, q2⟩
        rw [List.drop_length] at q2
        simp only [compD, Out.bind, List.append_nil] at q2
        exact q2 (.ref D) F2 H2 (b1.down b2) e2 ⟨D, acc, rfl, hD, hH, fD, ra⟩
    · rw [if_neg hz] at q1; exact q1.elim)
end DL

set_option Elab.async false
set_option linter.all false
set_option maxRecDepth 100000
set_option maxHeartbeats 4000000
set_option autoImplicit false
namespace DL
open PySem PySem.Spec L2

/-! ### what is walked -/
theorem pi_seq {X : Cx} {tg l : Expr} {tl : TE} (hl : PE X l tl) : PI X tg l (fun σ H R => iList X.K tl σ H R ∨ iTup X.K tl σ H R) :=
  ⟨fun pins s σ H R I h => h.elim (fun h => (pi_list hl).run pins s σ H R I h) (fun h => (pi_tup hl).run pins s σ H R I h)⟩
section
variable {W : WX} {K : PySem.W.Frag} {tl ta : TE} {φ φa : Ph D} {tr : TA} {φl : Ph (List D)}
def seqOf (d : D) (S : Sto) : Out (List D) := match d with
  | .lst ds => .ok ds S
  | .tup ds => .ok ds S
  | _ => .bad
def mSeqI (φ : Ph D) : Ph (List D) := fun ρ S => (φ ρ S).bind seqOf
theorem walk_seqL {F : Hp} {a : Addr} {xs : List V} {ds : List D} (f : F a = some (.lst xs)) (r : Reps F ds xs) : RI ds F (Itl K a) := by
  have w : Walk (Itl K a) xs.length (fun H => SqL K H a xs) (YAt xs) := walk_list
  rw [r.length] at w
  refine w.mono (fun H s => SqL.of (s _ _ f)) fun i H x H' hi s y => .inl ⟨y.1, ?_⟩
  exact r.get' y.2
theorem walk_seqT {F : Hp} {a : Addr} {xs : List V} {ds : List D} (f : F a = some (.tup xs)) (r : Reps F ds xs) : RI ds F (Itt K a) := by
  have w : Walk (Itt K a) xs.length (fun H => SqT K H a xs) (YAt xs) := walk_tup
  rw [r.length] at w
  refine w.mono (fun H s => SqT.of (s _ _ f)) fun i H x H' hi s y => .inl ⟨y.1, ?_⟩
  exact r.get' y.2
theorem it_seq (h : ET W tl φ) : IT W (fun σ H R => iList K tl σ H R ∨ iTup K tl σ H R) (mSeqI φ) := fun F0 H0 st hb F H S ρ σ Q b q => by
  unfold mSeqI at q
  cases o : φ ρ S with
  | ok d S1 =>
    rw [o] at q
    cases d <;> try exact q.elim
    · rename_i ds
      refine .inr (h _ _ _ _ _ _ _ _ _ _ b ?_)
      rw [o]
      intro v F1 H1 b1 e1 r1
      simp only [RD, Rep] at r1
      obtain ⟨a, xs, e, f, r⟩ := r1
      exact ⟨a, e, ⟨xs, SqT.of (b1.sub _ _ f)⟩, q _ F1 H1 b1 e1 (walk_seqT f r)⟩
    · rename_i ds
      refine .inl (h _ _ _ _ _ _ _ _ _ _ b ?_)
      rw [o]
      intro v F1 H1 b1 e1 r1
      simp only [RD, Rep] at r1
      obtain ⟨a, xs, e, f, r⟩ := r1
      exact ⟨a, e, ⟨xs, SqL.of (b1.sub _ _ f)⟩, q _ F1 H1 b1 e1 (walk_seqL f r)⟩
  | exc x ρ' S1 =>
    rw [o] at q
    refine .inl (h _ _ _ _ _ _ _ _ _ _ b ?_)
    rw [o]; exact q
  | bad => rw [o] at q; exact q.elim
def rangeD (lo : Int) (n : Nat) : List D := (List.range n).map fun k => .int (lo + (k : Nat))
theorem rangeD_len (lo : Int) (n : Nat) : (rangeD lo n).length = n := by simp [rangeD]
theorem walk_rangeD {F : Hp} (lo : Int) (n : Nat) : RI (rangeD lo n) F (Itr lo n) := by
  have w : Walk (Itr lo n) n (fun _ => True) (YFn fun i => .int (lo + i)) := walk_range
  unfold RI
  rw [rangeD_len]
  refine w.mono (fun H s => trivial) fun i H x H' hi s y => .inl ⟨y.1, .int (lo + (i : Nat)), ?_, ?_⟩
  · simp [rangeD, hi]
  · rw [y.2]; exact rep_int _
def okR (i : Int) : Bool := decide (-(2 ^ 62) ≤ i) && decide (i < 2 ^ 62)
theorem okR_of {i : Int} (h : okR i = true) : -(2 ^ 62) ≤ i ∧ i < 2 ^ 62 := by
  simp only [okR, Bool.and_eq_true, decide_eq_true_eq] at h; exact h
def mRange1 (φl : Ph (List D)) : Ph (List D) := fun ρ S => (φl ρ S).bind fun ds S1 => match ds with
  | [.int j] => if okR j = true then .ok (rangeD 0 j.toNat) S1 else .bad
  | _ => .bad
theorem it_range1 (hl : AT W tr φl) : IT W (iRng1 tr) (mRange1 φl) := fun F0 H0 st hs F H S ρ σ Q b h =>
  hl _ _ _ _ _ _ _ _ _ _ b (GW.bind rm_i h fun ds S1 vs F1 H1 b1 e1 r1 h1 => by
    rcases ds with _ | ⟨d, ds⟩
    · exact h1.elim
    · rcases ds with _ | ⟨d2, ds⟩
      · cases d <;> try exact h1.elim
        rename_i j
        simp only at h1
        by_cases c : okR j = true
        · rw [if_pos c] at h1
          obtain ⟨v, rs, e, h2, h3⟩ := reps_cons.mp r1
          simp only [Rep] at h2
          rw [h2, reps_nil.mp h3] at e
          exact ⟨j, e, (okR_of c).1, (okR_of c).2, h1 _ F1 H1 b1 Ext.refl (walk_rangeD 0 _)⟩
        · rw [if_neg c] at h1; exact h1.elim
      · cases d <;> exact h1.elim)
def enumD (ds : List D) : List D := ds.zipIdx.map fun p => .tup [.int (p.2 : Nat), p.1]
theorem enumD_get (ds : List D) (i : Nat) : (enumD ds)[i]? = ds[i]?.map fun d => .tup [.int (i : Nat), d] := by
  unfold enumD
  rw [List.getElem?_map, List.getElem?_zipIdx, Option.map_map]
  cases ds[i]? <;> simp
theorem enumD_len (ds : List D) : (enumD ds).length = ds.length := by simp [enumD]
def mEnum (φl : Ph (List D)) : Ph (List D) := fun ρ S => (φl ρ S).bind fun ds S1 => match ds with
  | [.lst xs] => .ok (enumD xs) S1
  | _ => .bad
theorem walk_enumD {F : Hp} {a : Addr} {xs : List V} {ds : List D} (f : F a = some (.lst xs)) (r : Reps F ds xs) : RI (enumD ds) F (Ite K a) := by
  have w : Walk (Ite K a) xs.length (fun H => SqL K H a xs) (YPair (fun i => some (.int (i : Nat))) (fun i => xs[i]?)) := walk_enum
  unfold RI
  rw [enumD_len]
  rw [r.length] at w
  refine w.mono (fun H s => SqL.of (s _ _ f)) fun i H x H' hi s y => ?_
  obtain ⟨T, x1, x2, e, n, eH, e1, e2⟩ := y
  cases e1
  obtain ⟨d, ed, rd⟩ := r.get' e2
  refine .inr ⟨T, _, [.int (i : Nat), d], e, n, eH, by rw [enumD_get, ed]; rfl, ?_⟩
  exact reps_cons.mpr ⟨_, _, rfl, rep_int _, Reps.one rd⟩
theorem it_enum (hl : AT W tr φl) : IT W (iEnum K tr) (mEnum φl) := fun F0 H0 st hs F H S ρ σ Q b h =>
  hl _ _ _ _ _ _ _ _ _ _ b (GW.bind rm_i h fun ds S1 vs F1 H1 b1 e1 r1 h1 => by
    rcases ds with _ | ⟨d, ds⟩
    · exact h1.elim
    · rcases ds with _ | ⟨d2, ds⟩
      · cases d <;> try exact h1.elim
        rename_i xs
        obtain ⟨v, rs, e, h2, h3⟩ := reps_cons.mp r1
        simp only [Rep] at h2
        obtain ⟨a, ys, e2, f, r⟩ := h2
        rw [e2, reps_nil.mp h3] at e
        exact ⟨a, ys, e, SqL.of (b1.sub _ _ f), h1 _ F1 H1 b1 Ext.refl (walk_enumD f r)⟩
      · cases d <;> exact h1.elim)

/-! ### built-ins -/
def pureC (g : List D → Option D) : List D → Sto → Out D := fun ds S => match g ds with
  | some d => .ok d S
  | none => .bad
theorem oc_pure {r : List V → Hp → VK → Prop} {g : List D → Option D} (hr : ∀ (F H : Hp) (Q : VK) (ds : List D) (d : D) (vs : List V), Sub F H → Reps F ds vs → g ds = some d → (∀ v, Rep F d v → Q v H) → r vs H Q) : OC W r (pureC g) :=
  fun F0 H0 st hb F H S ρ σ Q ds vs b r1 h => by
    unfold pureC at h
    cases e : g ds with
    | none => rw [e] at h; exact h.elim
    | some d => rw [e] at h; exact hr F H Q ds d vs b.sub r1 e fun v rv => h v F H b Ext.refl rv
theorem reps1 {F : Hp} {d : D} {vs : List V} (r : Reps F [d] vs) : ∃ v, vs = [v] ∧ Rep F d v := by
  obtain ⟨v, rs, e, h2, h3⟩ := reps_cons.mp r
  exact ⟨v, by rw [e, reps_nil.mp h3], h2⟩
theorem reps2 {F : Hp} {d e : D} {vs : List V} (r : Reps F [d, e] vs) : ∃ v u, vs = [v, u] ∧ Rep F d v ∧ Rep F e u := by
  obtain ⟨v, rs, e1, h2, h3⟩ := reps_cons.mp r
  obtain ⟨u, e2, h4⟩ := reps1 h3
  exact ⟨v, u, by rw [e1, e2], h2, h4⟩
def lenC : List D → Option D
  | [.str y] => if line y.length = true then some (.int y.length) else none
  | [.tup ds] => some (.int ds.length)
  | [.lst ds] => some (.int ds.length)
  | _ => none
theorem c_len : OC W (fun xs H Q => ∃ x n, xs = [x] ∧ LenV K x H n ∧ Q (.int n) H) (pureC lenC) := oc_pure fun F H Q ds d vs s r e q => by
  rcases ds with _ | ⟨d1, _ | ⟨d2, ds⟩⟩
  · cases e
  · obtain ⟨v, ev, rv⟩ := reps1 r
    cases d1 <;> simp only [lenC] at e <;> try cases e
    · rename_i y
      by_cases c : line y.length = true
      · rw [if_pos c] at e; cases e
        simp only [Rep] at rv
        exact ⟨v, y.length, ev, by rw [rv]; exact ⟨line_ok c, rfl⟩, q _ (rep_int _)⟩
      · rw [if_neg c] at e; cases e
    · rename_i ds
      simp only [Rep] at rv
      obtain ⟨a, xs, e2, f, r2⟩ := rv
      exact ⟨v, ds.length, ev, by rw [e2]; exact .inr ⟨xs, SqT.of (s _ _ f), r2.length.symm⟩, q _ (rep_int _)⟩
    · rename_i ds
      simp only [Rep] at rv
      obtain ⟨a, xs, e2, f, r2⟩ := rv
      exact ⟨v, ds.length, ev, by rw [e2]; exact .inl ⟨xs, SqL.of (s _ _ f), r2.length.symm⟩, q _ (rep_int _)⟩
  · cases d1 <;> cases e
def intC : List D → Option D
  | [.int i] => some (.int i)
  | [.bl k] => some (.int (if k then 1 else 0))
  | _ => none
theorem c_int : OC W (fun xs H Q => (∃ i, xs = [.int i] ∧ Q (.int i) H) ∨ ∃ k, xs = [.bl k] ∧ Q (.int (if k then 1 else 0)) H) (pureC intC) := oc_pure fun F H Q ds d vs s r e q => by
  rcases ds with _ | ⟨d1, _ | ⟨d2, ds⟩⟩
  · cases e
  · obtain ⟨v, ev, rv⟩ := reps1 r
    cases d1 <;> simp only [intC] at e <;> cases e
    · simp only [Rep] at rv
      exact .inr ⟨_, by rw [ev, rv], q _ (rep_int _)⟩
    · simp only [Rep] at rv
      exact .inl ⟨_, by rw [ev, rv], q _ (rep_int _)⟩
  · cases d1 <;> cases e
def absC : List D → Option D
  | [.int i] => some (.int (if i < 0 then -i else i))
  | _ => none
theorem c_abs : OC W (fun xs H Q => ∃ i, xs = [.int i] ∧ Q (.int (if i < 0 then -i else i)) H) (pureC absC) := oc_pure fun F H Q ds d vs s r e q => by
  rcases ds with _ | ⟨d1, _ | ⟨d2, ds⟩⟩
  · cases e
  · obtain ⟨v, ev, rv⟩ := reps1 r
    cases d1 <;> simp only [absC] at e <;> cases e
    simp only [Rep] at rv
    exact ⟨_, by rw [ev, rv], q _ (rep_int _)⟩
  · cases d1 <;> cases e
def maxC : List D → Option D
  | [.int i, .int j] => some (.int (if j > i then j else i))
  | _ => none
def minC : List D → Option D
  | [.int i, .int j] => some (.int (if j < i then j else i))
  | _ => none
theorem c_max : OC W (fun xs H Q => ∃ i j, xs = [.int i, .int j] ∧ Q (.int (if j > i then j else i)) H) (pureC maxC) := oc_pure fun F H Q ds d vs s r e q => by
  rcases ds with _ | ⟨d1, _ | ⟨d2, _ | ⟨d3, ds⟩⟩⟩
  · cases e
  · cases d1 <;> cases e
  · obtain ⟨v, u, ev, rv, ru⟩ := reps2 r
    cases d1 <;> try (cases e; done)
    cases d2 <;> simp only [maxC] at e <;> cases e
    simp only [Rep] at rv ru
    exact ⟨_, _, by rw [ev, rv, ru], q _ (rep_int _)⟩
  · cases d1 <;> cases d2 <;> cases e
theorem c_min : OC W (fun xs H Q => ∃ i j, xs = [.int i, .int j] ∧ Q (.int (if j < i then j else i)) H) (pureC minC) := oc_pure fun F H Q ds d vs s r e q => by
  rcases ds with _ | ⟨d1, _ | ⟨d2, _ | ⟨d3, ds⟩⟩⟩
  · cases e
  · cases d1 <;> cases e
  · obtain ⟨v, u, ev, rv, ru⟩ := reps2 r
    cases d1 <;> try (cases e; done)
    cases d2 <;> simp only [minC] at e <;> cases e
    simp only [Rep] at rv ru
    exact ⟨_, _, by rw [ev, rv, ru], q _ (rep_int _)⟩
  · cases d1 <;> cases d2 <;> cases e
/-- the ints of a list of data -/
def intsOf : List D → Option (List Int)
  | [] => some []
  | .int i :: ds => (intsOf ds).map fun is => i :: is
  | _ => none
theorem intsOf_eq : ∀ {ds : List D} {is : List Int}, intsOf ds = some is → ds = is.map D.int
  | [], is, h => by cases h; rfl
  | d :: ds, is, h => by
    cases d <;> try (simp only [intsOf] at h; cases h; done)
    simp only [intsOf] at h
    cases e : intsOf ds with
    | none => rw [e] at h; cases h
    | some js => rw [e] at h; cases h; rw [intsOf_eq e]; rfl
theorem intsOf_map (is : List Int) : intsOf (is.map D.int) = some is := by
  induction is with
  | nil => rfl
  | cons i is ih => simp [intsOf, ih]
def sumC : List D → Option D
  | [.lst ds] => (intsOf ds).map fun is => .int is.sum
  | _ => none
theorem c_sum : OC W (rSum K) (pureC sumC) := oc_pure fun F H Q ds d vs s r e q => by
  rcases ds with _ | ⟨d1, _ | ⟨d2, ds⟩⟩
  · cases e
  · obtain ⟨v, ev, rv⟩ := reps1 r
    cases d1 <;> simp only [sumC] at e <;> try cases e
    rename_i ds
    cases ei : intsOf ds with
    | none => rw [ei] at e; cases e
    | some is =>
      rw [ei] at e; cases e
      simp only [Rep] at rv
      obtain ⟨a, xs, e2, f, r2⟩ := rv
      rw [intsOf_eq ei] at r2
      rw [Reps.ints.mp r2] at f
      exact ⟨a, is, by rw [ev, e2], SqL.of (s _ _ f), q _ (rep_int _)⟩
  · cases d1 <;> cases e
/-- tuple(xs) -/
def gTuple (ds : List D) (S : Sto) : Out D := match ds with
  | [.lst xs] => .ok (.tup xs) S
  | [.tup xs] => .ok (.tup xs) S
  | _ => .bad
theorem c_tuple : OC W (fun xs H Q => ∃ p ys, xs = [.ref p] ∧ ((SqL K H p ys ∧ ∀ l, H l = none → Q (.ref l) (upd H l (.tup ys))) ∨ (SqT K H p ys ∧ Q (.ref p) H))) gTuple :=
  fun F0 H0 st hb F H S ρ σ Q ds vs b r h => by
    rcases ds with _ | ⟨d1, _ | ⟨d2, ds⟩⟩
    · exact h.elim
    · obtain ⟨v, ev, rv⟩ := reps1 r
      cases d1 <;> try exact h.elim
      · rename_i xs
        have rv' := rv
        simp only [Rep] at rv
        obtain ⟨a, ys, e2, f, r2⟩ := rv
        refine ⟨a, ys, by rw [ev, e2], .inr ⟨SqT.of (b.sub _ _ f), ?_⟩⟩
        rw [e2] at rv'
        exact h _ F H b Ext.refl rv'
      · rename_i xs
        simp only [Rep] at rv
        obtain ⟨a, ys, e2, f, r2⟩ := rv
        exact ⟨a, ys, by rw [ev, e2], .inl ⟨SqL.of (b.sub _ _ f), fun p hp => h _ _ _ (b.lay hp) (Ext.lay b.sub hp).1 (rep_tup r2 (b.sub.none hp))⟩⟩
    · cases d1 <;> exact h.elim
/-- list(xs) -/
def gList (ds : List D) (S : Sto) : Out (List D) := match ds with
  | [.lst xs] => .ok xs S
  | [.tup xs] => .ok xs S
  | _ => .bad
theorem c_list : OCo W (fun xs H Q => ∃ p ys, xs = [.ref p] ∧ (SqL K H p ys ∨ SqT K H p ys) ∧ ∀ l, H l = none → Q (.ref l) (upd H l (.lst ys))) gList :=
  fun F0 H0 st hb F H S ρ σ Q ds vs b r h => by
    rcases ds with _ | ⟨d1, _ | ⟨d2, ds⟩⟩
    · exact h.elim
    · obtain ⟨v, ev, rv⟩ := reps1 r
      cases d1 <;> try exact h.elim
      · rename_i xs
        simp only [Rep] at rv
        obtain ⟨a, ys, e2, f, r2⟩ := rv
        exact ⟨a, ys, by rw [ev, e2], .inr (SqT.of (b.sub _ _ f)), fun p hp => h _ _ _ (b.lay0 hp) (Ext.lay0 b.sub hp).1 ⟨p, ys, rfl, hp, upd_same, b.sub.none hp, r2⟩⟩
      · rename_i xs
        simp only [Rep] at rv
        obtain ⟨a, ys, e2, f, r2⟩ := rv
        exact ⟨a, ys, by rw [ev, e2], .inl (SqL.of (b.sub _ _ f)), fun p hp => h _ _ _ (b.lay0 hp) (Ext.lay0 b.sub hp).1 ⟨p, ys, rfl, hp, upd_same, b.sub.none hp, r2⟩⟩
    · cases d1 <;> exact h.elim
/-- sorted(xs) of ints -/
def sortI (is : List Int) : List Int := is.mergeSort fun a b => decide (a ≤ b)
/-- isinstance(x, T), T built in -/
def tyN : D → Option String
  | .non => some "NoneType"
  | .bl _ => some "bool"
  | .int _ => some "int"
  | .str _ => some "str"
  | .tup _ => some "tuple"
  | .lst _ => some "list"
  | .obj _ _ _ => none
theorem tyN_ok {F H : Hp} {d : D} {v : V} {n : String} (s : Sub F H) (r : Rep F d v) (e : tyN d = some n) : TyOf K H v (.type n) := by
  cases d <;> simp only [tyN] at e <;> cases e <;> simp only [Rep] at r
  · rw [r]; exact .non
  · rw [r]; exact .bl _
  · rw [r]; exact .int _
  · rw [r]; exact .str _
  · obtain ⟨a, xs, e, f, _⟩ := r; rw [e]; exact .tup (s _ _ f)
  · obtain ⟨a, xs, e, f, _⟩ := r; rw [e]; exact .lst (s _ _ f)
def isiD (T : String) (d : D) : Option D := (tyN d).bind fun n => (kitB n T).map D.bl
def gIsi (T : String) (d : D) (S : Sto) : Out D := match isiD T d with
  | some x => .ok x S
  | none => .bad
theorem et_isi (T : String) (ha : ET W ta φa) : ET W (tCB (rIsi K) (tCons ta (tCons (tC (.ty T)) tNil))) (m1 (gIsi T) φa) := fun F0 H0 st hs F H S ρ σ Q b h =>
  ha _ _ _ _ _ _ _ _ _ _ b (GW.bind rm_d h fun x S1 v F1 H1 b1 e1 r1 h1 => by
    unfold gIsi at h1
    cases ed : isiD T x with
    | none => rw [ed] at h1; exact h1.elim
    | some y =>
      rw [ed] at h1
      unfold isiD at ed
      cases en : tyN x with
      | none => rw [en] at ed; cases ed
      | some n =>
        rw [en] at ed
        cases ek : kitB n T with
        | none => simp [ek] at ed
        | some k =>
          simp [ek] at ed
          cases ed
          exact ⟨v, .ty T, .type n, .type T, k, rfl, .ty T, .base (tyN_ok b1.sub r1 en), kit_ty ek, h1 _ F1 H1 b1 Ext.refl (rep_bl _)⟩)
end
end DL

set_option Elab.async false
set_option linter.all false
set_option maxRecDepth 100000
set_option maxHeartbeats 4000000
set_option autoImplicit false
namespace DL
open PySem PySem.Spec L2

section
variable {W : WX} {K : PySem.W.Frag} {ta te ti : TE} {φ φa φi φe : Ph D} {tr : TA} {φl : Ph (List D)}
/-! ### lists of the def's own -/
def ownAt (ρ : List L) (i : Nat) : Option (List D) := match ρ[i]? with
  | some (.own xs) => some xs
  | _ => none
theorem ownAt_of {ρ : List L} {i : Nat} {xs : List D} (h : ownAt ρ i = some xs) : ρ[i]? = some (.own xs) := by
  unfold ownAt at h
  split at h
  · rename_i ys e; cases h; exact e
  · cases h
theorem set_self {σ : L2.St} {i : Nat} {x : Option V} (h : σ[i]? = some x) : σ.set i x = σ := by
  have hi : i < σ.length := (List.getElem?_eq_some_iff.mp h).1
  apply List.ext_getElem?
  intro j
  rw [List.getElem?_set]
  by_cases z : i = j
  · subst z; rw [if_pos rfl, if_pos hi, h]
  · rw [if_neg z]
/-- the list at a name is written -/
theorem Bd.write {F0 H0 F H : Hp} {st : Addr} {hb : Bool} {S : Sto} {ρ : List L} {σ : L2.St} (b : Bd F0 H0 st hb F H S ρ σ) {i : Nat} {xs ys : List D} {p : Addr} {vs us : List V} (h : ρ[i]? = some (.own xs)) (hs : σ[i]? = some (some (.ref p)))
    (fp : F p = none) (h0 : H0 p = none) (r : Reps F ys us) : Bd F0 H0 st hb F (upd H p (.lst us)) S (ρ.set i (.own ys)) σ := by
  have nw : ∀ (j : Nat) (zs : List D), (ρ.set i .un)[j]? = some (.own zs) → (σ.set i (some (V.ref p)))[j]? ≠ some (some (.ref p)) := fun j zs h1 h2 => by
    rw [List.getElem?_set] at h1
    by_cases z : i = j
    · rw [if_pos z] at h1; split at h1 <;> cases h1
    · rw [if_neg z] at h1
      rw [List.getElem?_set, if_neg z] at h2
      exact b.dis i j p xs zs z h h1 hs h2
  have b0 : Bd F0 H0 st hb F H S (ρ.set i .un) (σ.set i (some (.ref p))) := b.wipe
  have b1 := b0.updN (o := .lst us) h0 fp nw
  have b2 := b1.setOwn (i := i) (xs := ys) upd_same fp h0 r (fun j zs n h1 h2 => nw j zs h1 h2)
  rw [List.set_set, List.set_set, set_self hs] at b2
  exact b2
/-- len(x) -/
def mLenO (i : Nat) : Ph D := fun ρ S => match ownAt ρ i with
  | some xs => .ok (.int xs.length) S
  | none => .bad
theorem et_lenO (i : Nat) : ET W (tCB (fun xs H Q => ∃ x n, xs = [x] ∧ LenV K x H n ∧ Q (.int n) H) (tCons (tVar i) tNil)) (mLenO i) := fun F0 H0 st hs F H S ρ σ Q b h => by
  unfold mLenO at h
  cases e : ownAt ρ i with
  | none => rw [e] at h; exact h.elim
  | some xs =>
    rw [e] at h
    obtain ⟨p, vs, e1, hp, fp, h0, r⟩ := b.loc i _ (ownAt_of e)
    exact ⟨.ref p, e1, .ref p, xs.length, rfl, .inl ⟨vs, SqL.of hp, r.length.symm⟩, h _ F H b Ext.refl (rep_int _)⟩
/-- x[e] -/
def mIxO (i : Nat) (φi : Ph D) : Ph D := fun ρ S => match ownAt ρ i with
  | none => .bad
  | some xs => (φi ρ S).bind fun k S1 => match k with
    | .int j => (match atI xs j with
      | some d => .ok d S1
      | none => .bad)
    | _ => .bad
theorem et_ixO (i : Nat) (hi : ET W ti φi) : ET W (tOp (rIx K) (tVar i) ti) (mIxO i φi) := fun F0 H0 st hs F H S ρ σ Q b h => by
  unfold mIxO at h
  cases e : ownAt ρ i with
  | none => rw [e] at h; exact h.elim
  | some xs =>
    rw [e] at h
    obtain ⟨p, vs, e1, hp, fp, h0, r⟩ := b.loc i _ (ownAt_of e)
    refine ⟨.ref p, e1, hi _ _ _ _ _ _ _ _ _ _ b (GW.bind rm_d h fun k S1 v F1 H1 b1 e2 r1 h1 => ?_)⟩
    cases k <;> try exact h1.elim
    rename_i j
    simp only at h1
    cases ea : atI xs j with
    | none => rw [ea] at h1; exact h1.elim
    | some d =>
      rw [ea] at h1
      obtain ⟨p', vs', e1', hp', fp', h0', r'⟩ := b1.loc i _ (ownAt_of e)
      rw [e1] at e1'
      cases e1'
      obtain ⟨x, ex, rx⟩ := r'.atI ea
      simp only [RD, Rep] at r1
      exact .inl ⟨p, vs', j, x, rfl, r1, SqL.of hp', ex, h1 _ F1 H1 b1 Ext.refl rx⟩
/-- x.append(e) -/
def mApp (i : Nat) (φe : Ph D) : Ph Ctl := fun ρ S => match ownAt ρ i with
  | none => .bad
  | some xs => (φe ρ S).bind fun d S1 => if line xs.length = true then .ok (.nx (ρ.set i (.own (xs ++ [d])))) S1 else .bad
theorem st_app (i : Nat) (he : ET W te φe) : ST W (tDrop (tBM K "list" rAppend (tVar i) (tCons te tNil))) (mApp i φe) := fun F0 H0 st hs F H S ρ σ Dn b h => by
  unfold mApp at h
  cases e : ownAt ρ i with
  | none => rw [e] at h; exact h.elim
  | some xs =>
    rw [e] at h
    obtain ⟨p, vs, e1, hp, fp, h0, r⟩ := b.loc i _ (ownAt_of e)
    refine ⟨.ref p, e1, .inl ⟨rfl, vs, SqL.of hp⟩, he _ _ _ _ _ _ _ _ _ _ b (GW.stmt h fun d S1 v F1 H1 b1 e2 r1 h1 => ?_)⟩
    by_cases c : line xs.length = true
    · simp only [if_pos c] at h1
      obtain ⟨p', vs', e1', hp', fp', h0', r'⟩ := b1.loc i _ (ownAt_of e)
      rw [e1] at e1'
      cases e1'
      refine ⟨p, vs', v, rfl, rfl, hp', by rw [r'.length]; exact line_lt c, ?_⟩
      exact h1 _ F1 _ (b1.write (vs := vs') (ownAt_of e) e1 fp' h0' (r'.append (Reps.one r1)))
    · simp only [if_neg c] at h1; exact h1.elim
/-- x[i] = e -/
def mSetI (i : Nat) (φe φi : Ph D) : Ph Ctl := fun ρ S => (φe ρ S).bind fun d S1 => match ownAt ρ i with
  | none => .bad
  | some xs => (φi ρ S1).bind fun k S2 => match k with
    | .int j => (match ixN xs.length j with
      | some n => .ok (.nx (ρ.set i (.own (xs.set n d)))) S2
      | none => .bad)
    | _ => .bad
theorem st_setI (i : Nat) (he : ET W te φe) (hi : ET W ti φi) : ST W (tAsg te (gSub (tVar i) ti rSetL)) (mSetI i φe φi) := fun F0 H0 st hs F H S ρ σ Dn b h =>
  he _ _ _ _ _ _ _ _ _ _ b (GW.stmt h fun d S1 v F1 H1 b1 e1 r1 h1 => by
    cases e : ownAt ρ i with
    | none => rw [e] at h1; exact h1.elim
    | some xs =>
      rw [e] at h1
      obtain ⟨p, vs, e2, hp, fp, h0, r⟩ := b1.loc i _ (ownAt_of e)
      refine ⟨.ref p, e2, hi _ _ _ _ _ _ _ _ _ _ b1 (GW.stmt h1 fun k S2 u F2 H2 b2 e3 r2 h2 => ?_)⟩
      cases k <;> try exact h2.elim
      rename_i j
      simp only at h2
      cases ei : ixN xs.length j with
      | none => rw [ei] at h2; exact h2.elim
      | some n =>
        rw [ei] at h2
        obtain ⟨p', vs', e1', hp', fp', h0', r'⟩ := b2.loc i _ (ownAt_of e)
        rw [e2] at e1'
        cases e1'
        simp only [RD, Rep] at r2
        refine ⟨p, vs', j, n, rfl, r2, hp', by rw [r'.length]; exact ei, ?_⟩
        exact h2 _ F2 _ (b2.write (vs := vs') (ownAt_of e) e2 fp' h0' (r'.set (Rep.mono e3.ff _ _ r1) n)))
/-- x.append(y.pop(e)) -/
def mAppPop (i k : Nat) (φe : Ph D) : Ph Ctl := fun ρ S => match ownAt ρ i, ownAt ρ k with
  | some xs, some ys => (φe ρ S).bind fun a S1 => match a with
    | .int j => (match seqIndex? j ys.length with
      | some n => (match ys[n]? with
        | some d => if line xs.length = true ∧ okR j = true ∧ i ≠ k then .ok (.nx ((ρ.set k (.own (ys.eraseIdx n))).set i (.own (xs ++ [d])))) S1 else .bad
        | none => .bad)
      | none => .bad)
    | _ => .bad
  | _, _ => .bad
theorem Reps.erase {F : Hp} : ∀ {ds : List D} {xs : List V} (n : Nat), Reps F ds xs → Reps F (ds.eraseIdx n) (xs.eraseIdx n)
  | [], xs, n, h => by rw [reps_nil.mp h]; simp [reps_nil]
  | d :: ds, xs, 0, h => by
    obtain ⟨x, r, e, _, h2⟩ := reps_cons.mp h
    rw [e]; exact h2
  | d :: ds, xs, n + 1, h => by
    obtain ⟨x, r, e, h1, h2⟩ := reps_cons.mp h
    rw [e]
    exact reps_cons.mpr ⟨x, _, rfl, h1, Reps.erase n h2⟩
theorem st_appPop (i k : Nat) (he : ET W te φe) : ST W (tDrop (tBM K "list" rAppend (tVar i) (tCons (tBM K "list" rPopAt (tVar k) (tCons te tNil)) tNil))) (mAppPop i k φe) := fun F0 H0 st hs F H S ρ σ Dn b h => by
  unfold mAppPop at h
  cases e : ownAt ρ i with
  | none => rw [e] at h; exact h.elim
  | some xs =>
    cases e' : ownAt ρ k with
    | none => rw [e, e'] at h; exact h.elim
    | some ys =>
      rw [e, e'] at h
      obtain ⟨p, vs, e1, hp, fp, h0, r⟩ := b.loc i _ (ownAt_of e)
      obtain ⟨q, us, g1, hq, fq, k0, s⟩ := b.loc k _ (ownAt_of e')
      refine ⟨.ref p, e1, .inl ⟨rfl, vs, SqL.of hp⟩, .ref q, g1, .inl ⟨rfl, us, SqL.of hq⟩, he _ _ _ _ _ _ _ _ _ _ b (GW.stmt h fun a S1 v F1 H1 b1 e2 r1 h1 => ?_)⟩
      cases a <;> try exact h1.elim
      rename_i j
      simp only at h1
      cases ej : seqIndex? j ys.length with
      | none => rw [ej] at h1; exact h1.elim
      | some n =>
        rw [ej] at h1
        simp only at h1
        cases ed : ys[n]? with
        | none => rw [ed] at h1; exact h1.elim
        | some d =>
          rw [ed] at h1
          simp only at h1
          by_cases c : line xs.length = true ∧ okR j = true ∧ i ≠ k
          · rw [if_pos c] at h1
            obtain ⟨c1, c2, c3⟩ := c
            obtain ⟨p', vs', e1', hp', fp', h0', r'⟩ := b1.loc i _ (ownAt_of e)
            rw [e1] at e1'
            cases e1'
            obtain ⟨q', us', g1', hq', fq', k0', s'⟩ := b1.loc k _ (ownAt_of e')
            rw [g1] at g1'
            cases g1'
            obtain ⟨x, ex, rx⟩ := s'.get ed
            simp only [RD, Rep] at r1
            have npq : p ≠ q := fun z => by subst z; exact b1.dis i k p xs ys c3 (ownAt_of e) (ownAt_of e') e1 g1
            have w1 := b1.write (vs := us') (ownAt_of e') g1 fq' k0' (s'.erase n)
            have e3 : (ρ.set k (.own (ys.eraseIdx n)))[i]? = some (.own xs) := by rw [List.getElem?_set, if_neg (fun z => c3 z.symm)]; exact ownAt_of e
            have w2 := w1.write (vs := vs') e3 e1 fp' h0' (r'.append (Reps.one rx))
            have ok := okR_of c2
            refine ⟨q, us', j, n, x, rfl, by rw [r1], hq', by omega, by omega, by rw [s'.length]; exact ej, ex, p, vs', x, rfl, rfl, by rw [upd_ne npq]; exact hp', by rw [r'.length]; exact line_lt c1, ?_⟩
            exact h1 _ F1 _ w2
          · rw [if_neg c] at h1; exact h1.elim
/-! ### slices of lists -/
def mSlO (φ : Ph D) (lo hi : Option Int) : Ph (List D) := fun ρ S => (φ ρ S).bind fun d S1 => match d with
  | .lst ds => .ok ((ds.drop (HT.sIx ds.length 0 lo)).take (HT.sIx ds.length ds.length hi - HT.sIx ds.length 0 lo)) S1
  | _ => .bad
/-! ### attributes -/
def getF (C : Addr) (f : Str) : D → Option D
  | .obj C' ns ds => if C' = C then (ns.zip ds).lookup f else none
  | _ => none
def gFld (C : Addr) (f : Str) (d : D) (S : Sto) : Out D := match getF C f d with
  | some x => .ok x S
  | none => .bad
theorem reps_lookup {F : Hp} {f : Str} {d : D} : ∀ {ns : List Str} {ds : List D} {xs : List V}, Reps F ds xs → (ns.zip ds).lookup f = some d → ∃ x, (ns.zip xs).lookup f = some x ∧ Rep F d x
  | [], ds, xs, r, h => by simp at h
  | n :: ns, [], xs, r, h => by simp at h
  | n :: ns, d' :: ds, xs, r, h => by
    obtain ⟨x, rs, e, h1, h2⟩ := reps_cons.mp r
    rw [e]
    simp only [List.zip_cons_cons, List.lookup] at h ⊢
    by_cases c : (f == n) = true
    · rw [c] at h ⊢
      cases h
      exact ⟨x, rfl, h1⟩
    · have c' : (f == n) = false := by simpa using c
      rw [c'] at h ⊢
      exact reps_lookup h2 h
theorem et_fld {C : Addr} {f : Str} (hc : Cls K C) (hn : NoAttr K C f) (ha : ET W ta φa) : ET W (tFld K ta f) (m1 (gFld C f) φa) := fun F0 H0 st hs F H S ρ σ Q b h =>
  ha _ _ _ _ _ _ _ _ _ _ b (GW.bind rm_d h fun d S1 v F1 H1 b1 e1 r1 h1 => by
    unfold gFld at h1
    cases e : getF C f d with
    | none => rw [e] at h1; exact h1.elim
    | some x =>
      rw [e] at h1
      cases d <;> try (simp only [getF] at e; cases e; done)
      rename_i C' ns ds
      simp only [getF] at e
      by_cases c : C' = C
      · subst c
        rw [if_pos rfl] at e
        simp only [RD, Rep] at r1
        obtain ⟨a, dx, xs, ev, fa, hl, rs⟩ := r1
        obtain ⟨y, ey, ry⟩ := reps_lookup rs e
        exact ⟨a, _, dx, _, y, ev, b1.sub _ _ fa, hc, hn, ey, h1 _ F1 H1 b1 Ext.refl ry⟩
      · rw [if_neg c] at e; cases e)

/-! ### what a def gives, as a function of data -/
inductive Res where
  | d (x : D) | own (xs : List D)
def Res.toD : Res → D
  | .d x => x
  | .own xs => .lst xs
abbrev Fn := List D → Sto → Out Res
def RW (st : Addr) (hb : Bool) (F H : Hp) (o : Out Res) (Q : VK) (E : XK) : Prop := match o with
  | .ok (.d d) S' => ∀ (v : V) (F' H' : Hp), Ext st hb F H F' H' → Sub F' H' → (hb = true → StoAt F' H' st S') → Rep F' d v → Q v H'
  | .ok (.own xs) S' => ∀ (p : Addr) (vs : List V) (F' H' : Hp), Ext st hb F H F' H' → Sub F' H' → (hb = true → StoAt F' H' st S') → H' p = some (.lst vs) → F' p = none → H p = none → Reps F' xs vs → Q (.ref p) H'
  | .exc x _ S' => ∀ (cls : Value) (dx : Option Addr) (F' H' : Hp), Ext st hb F H F' H' → Sub F' H' → (hb = true → StoAt F' H' st S') → XRep F' H' x cls dx → E cls dx H'
  | .bad => False
/-- n: the count of parameters, the store apart -/
def spD (hb : Bool) (n : Nat) (m : Fn) : Sp := fun vs H Q E => ∃ (F : Hp) (st : Addr) (S : Sto) (ds : List D) (vs' : List V), Sub F H ∧ vs = (if hb = true then [.ref st] else []) ++ vs' ∧ (hb = true → StoAt F H st S) ∧ ds.length = n ∧ Reps F ds vs' ∧ RW st hb F H (m ds S) Q E
theorem spD_len {hb : Bool} {n k : Nat} {m : Fn} (hk : k = (if hb = true then 1 else 0) + n) : ∀ vs H Q E, spD hb n m vs H Q E → vs.length = k := by
  rintro vs H Q E ⟨F, st, S, ds, vs', _, rfl, _, hl, r, _⟩
  rw [List.length_append, r.length, hl, hk]
  cases hb <;> rfl
def startL (hb : Bool) (n : Nat) (ds : List D) : List L := (if hb = true then [.st] else []) ++ ds.map .d ++ List.replicate n .un
/-- a body's outcome as a def's -/
def runD (hb : Bool) (n : Nat) (φ : Ph Ctl) : Fn := fun ds S => match φ (startL hb n ds) S with
  | .ok (.rt d) S' => .ok (.d d) S'
  | .ok (.ro xs) S' => .ok (.own xs) S'
  | .ok (.nx _) S' => .ok (.d .non) S'
  | .exc x _ S' => .exc x [] S'
  | _ => .bad
/-- THE RULE: a body that keeps φ makes a def that keeps runD φ. n: the names that are no parameters -/
theorem fn_ok {hb : Bool} {k n : Nat} {N : List Str} {t : TS} {φ : Ph Ctl} {vs : List V} {H : Hp} {Q : VK} {E : XK} (hN : N.length = (if hb = true then 1 else 0) + k + n) (ht : ST (fun cls d _ H => E cls d H) t φ) (h : spD hb k (runD hb n φ) vs H Q E) :
    t { nx := fun _ H' => Q .non H', rt := Q } (L2.start N vs) H := by
  obtain ⟨F, st, S, ds, vs', sub, rfl, sto, hl, r, h⟩ := h
  have hst : hb = true → H st ≠ none := fun e => by
    obtain ⟨_, ca, q, _⟩ := sto e
    rw [q]; exact nofun
  have es : L2.start N ((if hb = true then [V.ref st] else []) ++ vs') = (if hb = true then [some (V.ref st)] else []) ++ vs'.map some ++ List.replicate n none := by
    unfold L2.start
    rw [List.map_append, List.length_append, r.length, hl, hN]
    congr 1
    · cases hb <;> rfl
    · congr 1
      cases hb
      · show 0 + k + n - (0 + k) = n
        omega
      · show 1 + k + n - (1 + k) = n
        omega
  have b : Bd F H st hb F H S (startL hb n ds) (L2.start N ((if hb = true then [V.ref st] else []) ++ vs')) := by
    rw [es]
    refine ⟨sub, Ext.refl, sto, hst, ?_, ?_, ?_⟩
    · intro i l hi
      unfold startL at hi
      have key : ∀ (i : Nat) (l : L), (ds.map L.d ++ List.replicate n L.un)[i]? = some l → LocAt F H H st hb (vs'.map some ++ List.replicate n none)[i]? l := fun i l hi => by
        rw [List.getElem?_append] at hi
        rw [List.length_map] at hi
        by_cases c : i < ds.length
        · rw [if_pos c, List.getElem?_map] at hi
          cases e : ds[i]? with
          | none => rw [e] at hi; cases hi
          | some d =>
            rw [e] at hi
            cases hi
            obtain ⟨x, ex, rx⟩ := r.get e
            refine ⟨x, ?_, rx⟩
            rw [List.getElem?_append, List.length_map, r.length, if_pos c, List.getElem?_map, ex]; rfl
        · rw [if_neg c] at hi
          rw [List.getElem?_replicate] at hi
          split at hi
          · cases hi; trivial
          · cases hi
      cases hb with
      | false => exact key i l hi
      | true =>
        cases i with
        | zero => cases hi; exact ⟨rfl, rfl⟩
        | succ i => exact key i l hi
    · intro i j p xs ys n' h1 h2
      have no : ∀ (i : Nat) (xs : List D), (startL hb n ds)[i]? ≠ some (.own xs) := fun i xs h => by
        have m : L.own xs ∈ startL hb n ds := List.mem_of_getElem? h
        unfold startL at m
        simp only [List.mem_append, List.mem_map, List.mem_replicate] at m
        rcases m with (m | ⟨d, _, m⟩) | ⟨_, m⟩
        · cases hb
          · simp at m
          · simp at m
        · cases m
        · cases m
      exact absurd h1 (no i xs)
    · unfold startL
      simp only [List.length_append, List.length_map, List.length_replicate]
      rw [r.length]
      cases hb <;> rfl
  refine ht _ _ _ _ _ _ _ _ _ _ b ?_
  unfold runD at h
  cases o : φ (startL hb n ds) S with
  | ok c S' =>
    rw [o] at h
    cases c with
    | nx ρ' => exact fun σ' F' H' b' => h .non F' H' b'.ext b'.sub b'.sto (by simp [Rep])
    | rt d => exact fun v F' H' b' r' => h v F' H' b'.ext b'.sub b'.sto r'
    | ro xs => exact fun p vs F' H' b' e1 e2 e3 r' => h p vs F' H' b'.ext b'.sub b'.sto e1 e2 e3 r'
    | bk ρ' => exact h.elim
    | ct ρ' => exact h.elim
  | exc x ρ' S' =>
    rw [o] at h
    exact fun cls dx σ' F' H' b' xr => h cls dx F' H' b'.ext b'.sub b'.sto xr
  | bad => rw [o] at h; exact h.elim

/-! ### calls -/
def sto0 : Sto := ⟨[], 0, 0, 0, 0, 0, .law⟩
/-- of a def without the store -/
def mCall0 (m : Fn) (dds : List D) (φl : Ph (List D)) : Ph D := fun ρ S => (φl ρ S).bind fun ds S1 => match m (ds ++ dds) sto0 with
  | .ok r _ => .ok r.toD S1
  | .exc x _ _ => .exc x ρ S1
  | .bad => .bad
theorem Ext.of_no {st st' : Addr} {hb : Bool} {F H F' H' : Hp} (e : Ext st' false F H F' H') : Ext st hb F H F' H' := ⟨e.ff, fun a o h _ => e.keep a o h nofun, e.new⟩
theorem Bd.after0 {F0 H0 F H F' H' : Hp} {st st' : Addr} {hb : Bool} {S : Sto} {ρ : List L} {σ : L2.St} (b : Bd F0 H0 st hb F H S ρ σ) (e : Ext st' false F H F' H') (s : Sub F' H') : Bd F0 H0 st hb F' H' S ρ σ :=
  b.go e.of_no s fun h => (b.sto h).ext (fun a o q => e.keep a o q nofun) e.ff (e.new st (b.sto h).1 (b.stH h))
/-- a result that is a new list, taken as data -/
theorem frz_after {F0 H0 F H F' H' : Hp} {st : Addr} {hb : Bool} {S S' : Sto} {ρ : List L} {σ : L2.St} {p : Addr} {vs : List V} (b : Bd F0 H0 st hb F H S ρ σ) (e : Ext st hb F H F' H') (b' : Bd F0 H0 st hb F' H' S' ρ σ) (hp : H' p = some (.lst vs)) (fp : F' p = none) (n : H p = none) :
    Bd F0 H0 st hb (upd F' p (.lst vs)) H' S' ρ σ ∧ Ext st hb F H (upd F' p (.lst vs)) H' := by
  refine ⟨b'.frz hp fp (b.h0none n) (fun j ys z => b.noOwn n j ys z), fun a u w => ?_, e.keep, fun a w1 w2 => ?_⟩
  · have w' := e.ff a u w
    rw [upd_ne (ne_of_none w' fp)]; exact w'
  · by_cases z : a = p
    · subst z; exact absurd n w2
    · rw [upd_ne z]; exact e.new a w1 w2
/-- a list of arguments of a known length -/
def LN (φl : Ph (List D)) (n : Nat) : Prop := ∀ ρ S ds S1, φl ρ S = .ok ds S1 → ds.length = n
theorem ln_nil : LN mNil 0 := fun ρ S ds S1 h => by unfold mNil at h; cases h; rfl
theorem ln_cons {n : Nat} (h : LN φl n) : LN (mCons φa φl) (n + 1) := fun ρ S ds S1 e => by
  unfold mCons at e
  cases o : φa ρ S with
  | ok x S2 =>
    rw [o] at e
    simp only [Out.bind] at e
    cases o2 : φl ρ S2 with
    | ok xs S3 =>
      rw [o2] at e
      cases e
      rw [List.length_cons, h _ _ _ _ o2]
    | exc x ρ' S1 => rw [o2] at e; cases e
    | bad => rw [o2] at e; cases e
  | exc x ρ' S1 => rw [o] at e; cases e
  | bad => rw [o] at e; cases e
theorem et_call0 {n k : Nat} {m : Fn} {dvs : List V} (dds : List D) (hd : ∀ F, Reps F dds dvs) (hn : LN φl k) (hk : n = k + dds.length) (hl : AT W tr φl) : ET W (tCallSD (spD false n m) dvs (WE W) tr) (mCall0 m dds φl) := fun F0 H0 st hb F H S ρ σ Q b h =>
  hl _ _ _ _ _ _ _ _ _ _ b (by
    unfold mCall0 at h
    cases o : φl ρ S with
    | ok ds S1 =>
      rw [o] at h
      have hlen : (ds ++ dds).length = n := by rw [List.length_append, hn ρ S ds S1 o, hk]
      refine fun vs F1 H1 b1 e1 r1 => ⟨F1, 0, sto0, ds ++ dds, vs ++ dvs, b1.sub, by rfl, nofun, hlen, Reps.append r1 (hd _), ?_⟩
      simp only [Out.bind] at h
      cases om : m (ds ++ dds) sto0 with
      | ok rr S2 =>
        rw [om] at h
        cases rr with
        | d d => exact fun v F2 H2 e2 s2 _ r2 => h v F2 H2 (b1.after0 e2 s2) (e1.trans e2.of_no b1.stH) r2
        | own xs =>
          intro p us F2 H2 e2 s2 _ hp fp n2 r2
          have b2 := b1.after0 (st' := 0) e2 s2
          obtain ⟨b3, e3⟩ := frz_after b1 e2.of_no b2 hp fp n2
          exact h _ _ H2 b3 (e1.trans e3 b1.stH) (rep_lst r2 fp)
      | exc x ρ' S2 =>
        rw [om] at h
        exact fun cls dx F2 H2 e2 s2 _ xr => h cls dx F2 H2 (b1.after0 e2 s2) xr
      | bad => rw [om] at h; exact h.elim
    | exc x ρ' S1 => rw [o] at h; exact h
    | bad => rw [o] at h; exact h.elim)
/-- .. whose new list is kept -/
def mCall0O (m : Fn) (dds : List D) (φl : Ph (List D)) : Ph (List D) := fun ρ S => (φl ρ S).bind fun ds S1 => match m (ds ++ dds) sto0 with
  | .ok (.own xs) _ => .ok xs S1
  | .exc x _ _ => .exc x ρ S1
  | _ => .bad
theorem ot_call0 {n k : Nat} {m : Fn} {dvs : List V} (dds : List D) (hd : ∀ F, Reps F dds dvs) (hn : LN φl k) (hk : n = k + dds.length) (hl : AT W tr φl) : OT W (tCallSD (spD false n m) dvs (WE W) tr) (mCall0O m dds φl) := fun F0 H0 st hb F H S ρ σ Q b h =>
  hl _ _ _ _ _ _ _ _ _ _ b (by
    unfold mCall0O at h
    cases o : φl ρ S with
    | ok ds S1 =>
      rw [o] at h
      have hlen : (ds ++ dds).length = n := by rw [List.length_append, hn ρ S ds S1 o, hk]
      refine fun vs F1 H1 b1 e1 r1 => ⟨F1, 0, sto0, ds ++ dds, vs ++ dvs, b1.sub, by rfl, nofun, hlen, Reps.append r1 (hd _), ?_⟩
      simp only [Out.bind] at h
      cases om : m (ds ++ dds) sto0 with
      | ok rr S2 =>
        rw [om] at h
        cases rr with
        | d d => exact h.elim
        | own xs =>
          intro p us F2 H2 e2 s2 _ hp fp n2 r2
          exact h _ F2 H2 (b1.after0 (st' := 0) e2 s2) (e1.trans e2.of_no b1.stH) ⟨p, us, rfl, e1.nones b1.stH p n2, hp, fp, r2⟩
      | exc x ρ' S2 =>
        rw [om] at h
        exact fun cls dx F2 H2 e2 s2 _ xr => h cls dx F2 H2 (b1.after0 e2 s2) xr
      | bad => rw [om] at h; exact h.elim
    | exc x ρ' S1 => rw [o] at h; exact h
    | bad => rw [o] at h; exact h.elim)
/-- of a def with the store -/
def mCall1 (m : Fn) (i : Nat) (φl : Ph (List D)) : Ph D := fun ρ S => match ρ[i]? with
  | some .st => (φl ρ S).bind fun ds S1 => (match m ds S1 with
    | .ok r S2 => .ok r.toD S2
    | .exc x _ S2 => .exc x ρ S2
    | .bad => .bad)
  | _ => .bad
theorem Bd.after1 {F0 H0 F H F' H' : Hp} {st : Addr} {S S' : Sto} {ρ : List L} {σ : L2.St} (b : Bd F0 H0 st true F H S ρ σ) (e : Ext st true F H F' H') (s : Sub F' H') (t : true = true → StoAt F' H' st S') : Bd F0 H0 st true F' H' S' ρ σ := b.go e s t
theorem et_call1 {n : Nat} {m : Fn} (i : Nat) (hn : LN φl n) (hl : AT W tr φl) : ET W (tCallSD (spD true n m) [] (WE W) (tCons (tVar i) tr)) (mCall1 m i φl) := fun F0 H0 st hb F H S ρ σ Q b h => by
  unfold mCall1 at h
  cases q : ρ[i]? with
  | none => rw [q] at h; exact h.elim
  | some l =>
    rw [q] at h
    cases l with
    | un => exact h.elim
    | own xs => exact h.elim
    | d x => exact h.elim
    | st =>
      obtain ⟨hbt, e⟩ := b.loc i _ q
      subst hbt
      refine ⟨.ref st, e, hl _ _ _ _ _ _ _ _ _ _ b ?_⟩
      simp only at h
      cases o : φl ρ S with
      | ok ds S1 =>
        rw [o] at h
        intro vs F1 H1 b1 e1 r1
        refine ⟨F1, st, S1, ds, vs, b1.sub, by rw [List.append_nil]; rfl, b1.sto, hn ρ S ds S1 o, r1, ?_⟩
        simp only [Out.bind] at h
        cases om : m ds S1 with
        | ok rr S2 =>
          rw [om] at h
          cases rr with
          | d d => exact fun v F2 H2 e2 s2 t2 r2 => h v F2 H2 (b1.go e2 s2 t2) (e1.trans e2 b1.stH) r2
          | own xs =>
            intro p us F2 H2 e2 s2 t2 hp fp n2 r2
            obtain ⟨b3, e3⟩ := frz_after b1 e2 (b1.go (S' := S2) e2 s2 t2) hp fp n2
            exact h _ _ H2 b3 (e1.trans e3 b1.stH) (rep_lst r2 fp)
        | exc x ρ' S2 =>
          rw [om] at h
          exact fun cls dx F2 H2 e2 s2 t2 xr => h cls dx F2 H2 (b1.go e2 s2 t2) xr
        | bad => rw [om] at h; exact h.elim
      | exc x ρ' S1 => rw [o] at h; exact h
      | bad => rw [o] at h; exact h.elim
end
end DL

set_option Elab.async false
set_option linter.all false
set_option maxRecDepth 100000
set_option maxHeartbeats 4000000
set_option autoImplicit false
namespace DL
open PySem PySem.Spec L2

section
variable {W : WX} {K : PySem.W.Frag} {ta te ti tb : TE} {φ φa φb φi φe : Ph D} {tr : TA} {φl : Ph (List D)}
/-- tuple(x), x a list of the def's own -/
def mTupO (i : Nat) : Ph D := fun ρ S => match ownAt ρ i with
  | some xs => .ok (.tup xs) S
  | none => .bad
theorem et_tupO (i : Nat) : ET W (tCB (fun xs H Q => ∃ p ys, xs = [.ref p] ∧ ((SqL K H p ys ∧ ∀ l, H l = none → Q (.ref l) (upd H l (.tup ys))) ∨ (SqT K H p ys ∧ Q (.ref p) H))) (tCons (tVar i) tNil)) (mTupO i) := fun F0 H0 st hs F H S ρ σ Q b h => by
  unfold mTupO at h
  cases e : ownAt ρ i with
  | none => rw [e] at h; exact h.elim
  | some xs =>
    rw [e] at h
    obtain ⟨p, vs, e1, hp, fp, h0, r⟩ := b.loc i _ (ownAt_of e)
    exact ⟨.ref p, e1, p, vs, rfl, .inl ⟨SqL.of hp, fun l hl => h _ _ _ (b.lay hl) (Ext.lay b.sub hl).1 (rep_tup r (b.sub.none hl))⟩⟩
/-- x[::-1], x a list of the def's own: a new list -/
def mRevO (i : Nat) : Ph (List D) := fun ρ S => match ownAt ρ i with
  | some xs => .ok xs.reverse S
  | none => .bad
theorem Reps.rev {F : Hp} {ds : List D} {xs : List V} (r : Reps F ds xs) : Reps F ds.reverse xs.reverse := by
  refine Reps.of_get (by rw [List.length_reverse, List.length_reverse, r.length]) fun i d x h1 h2 => ?_
  have hi : i < ds.length := by
    have z := (List.getElem?_eq_some_iff.mp h1).1
    rw [List.length_reverse] at z; exact z
  rw [List.getElem?_reverse hi] at h1
  rw [List.getElem?_reverse (by rw [r.length]; exact hi), r.length] at h2
  obtain ⟨y, hy, ry⟩ := r.get h1
  rw [h2] at hy; cases hy; exact ry
theorem ot_revO (i : Nat) : OT W (tRevL K (tVar i)) (mRevO i) := fun F0 H0 st hs F H S ρ σ Q b h => by
  unfold mRevO at h
  cases e : ownAt ρ i with
  | none => rw [e] at h; exact h.elim
  | some xs =>
    rw [e] at h
    obtain ⟨p, vs, e1, hp, fp, h0, r⟩ := b.loc i _ (ownAt_of e)
    exact ⟨.ref p, e1, p, vs, rfl, SqL.of hp, fun l hl => h _ _ _ (b.lay0 hl) (Ext.lay0 b.sub hl).1 ⟨l, _, rfl, hl, upd_same, b.sub.none hl, r.rev⟩⟩
/-- list(range(n)) -/
def mRangeL (φl : Ph (List D)) : Ph (List D) := fun ρ S => (φl ρ S).bind fun ds S1 => match ds with
  | [.int j] => if 0 ≤ j ∧ j ≤ 1000 then .ok (rangeD 0 j.toNat) S1 else .bad
  | _ => .bad
/-- x[i], x[j] = x[j], x[i], the names i and j -/
def mSwap (x i j : Nat) : Ph Ctl := fun ρ S => match ownAt ρ x, ρ[i]?, ρ[j]? with
  | some xs, some (.d (.int a)), some (.d (.int b)) => (match ixN xs.length a, ixN xs.length b with
    | some n, some k => (match xs[n]?, xs[k]? with
      | some d, some e => .ok (.nx (ρ.set x (.own ((xs.set n e).set k d)))) S
      | _, _ => .bad)
    | _, _ => .bad)
  | _, _, _ => .bad
theorem st_swap (x i j : Nat) : ST W (tAsg (tTup (tCons (tOp (rIx K) (tVar x) (tVar j)) (tCons (tOp (rIx K) (tVar x) (tVar i)) tNil))) (gTup K 2 (gCons (L2.gSub (tVar x) (tVar i) rSetL) (gCons (L2.gSub (tVar x) (tVar j) rSetL) gNil)))) (mSwap x i j) :=
  fun F0 H0 st hs F H S ρ σ Dn b h => by
    unfold mSwap at h
    cases e : ownAt ρ x with
    | none => rw [e] at h; exact h.elim
    | some xs =>
      rw [e] at h
      cases ei : ρ[i]? with
      | none => rw [ei] at h; exact h.elim
      | some li =>
        rw [ei] at h
        cases li <;> try exact h.elim
        rename_i di
        cases di <;> try exact h.elim
        rename_i a
        cases ej : ρ[j]? with
        | none => rw [ej] at h; exact h.elim
        | some lj =>
          rw [ej] at h
          cases lj <;> try exact h.elim
          rename_i dj
          cases dj <;> try exact h.elim
          rename_i c
          simp only at h
          cases en : ixN xs.length a with
          | none => rw [en] at h; exact h.elim
          | some n =>
            cases ek : ixN xs.length c with
            | none => rw [en, ek] at h; exact h.elim
            | some k =>
              rw [en, ek] at h
              simp only at h
              cases ed : xs[n]? with
              | none => rw [ed] at h; exact h.elim
              | some d =>
                cases ee : xs[k]? with
                | none => rw [ed, ee] at h; exact h.elim
                | some d' =>
                  rw [ed, ee] at h
                  obtain ⟨p, vs, e1, hp, fp, h0, r⟩ := b.loc x _ (ownAt_of e)
                  obtain ⟨vi, e2, ri⟩ := b.loc i _ ei
                  obtain ⟨vj, e3, rj⟩ := b.loc j _ ej
                  simp only [Rep] at ri rj
                  subst ri; subst rj
                  obtain ⟨u, hu, ru⟩ := r.get ed
                  obtain ⟨w, hw, rw'⟩ := r.get ee
                  have ai : atI vs a = some u := by unfold atI; rw [r.length, en]; exact hu
                  have aj : atI vs c = some w := by unfold atI; rw [r.length, ek]; exact hw
                  refine ⟨.ref p, e1, .int c, e3, .inl ⟨p, vs, c, w, rfl, rfl, SqL.of hp, aj, .ref p, e1, .int a, e2, .inl ⟨p, vs, a, u, rfl, rfl, SqL.of hp, ai, by show 2 ≤ sizeLine; decide, fun t ht => ?_⟩⟩⟩
                  have ntp : p ≠ t := ne_of_none hp ht
                  have bt := b.lay (o := .tup [w, u]) ht
                  have ft : upd F t (.tup [w, u]) p = none := by rw [upd_ne ntp]; exact fp
                  have r1 : Reps (upd F t (.tup [w, u])) (xs.set n d') (vs.set n w) := Reps.mono (Ext.lay (st := st) (hb := hs) b.sub ht).1.ff _ _ (r.set rw' n)
                  have b1 := bt.write (vs := vs) (us := vs.set n w) (ownAt_of e) e1 ft h0 r1
                  have hx : x < ρ.length := (List.getElem?_eq_some_iff.mp (ownAt_of e)).1
                  have e4 : (ρ.set x (.own (xs.set n d')))[x]? = some (.own (xs.set n d')) := by rw [List.getElem?_set, if_pos rfl, if_pos hx]
                  have r2 : Reps (upd F t (.tup [w, u])) ((xs.set n d').set k d) ((vs.set n w).set k u) := r1.set (Rep.mono (Ext.lay (st := st) (hb := hs) b.sub ht).1.ff _ _ ru) k
                  have b2 := b1.write (vs := vs) (us := (vs.set n w).set k u) e4 e1 ft h0 r2
                  rw [List.set_set] at b2
                  refine ⟨t, [w, u], rfl, SqT.of upd_same, rfl, w, [u], rfl, .ref p, e1, .int a, e2, p, vs, a, n, rfl, rfl, by rw [upd_ne ntp]; exact hp, by rw [r.length]; exact en, ?_⟩
                  refine ⟨u, [], rfl, .ref p, e1, .int c, e3, p, vs.set n w, c, k, rfl, rfl, upd_same, by rw [List.length_set, r.length]; exact ek, rfl, ?_⟩
                  exact h σ _ _ b2
/-! ### the store -/
def Sto.get (s : Sto) (k : Nat) : Option Int := match k with
  | 1 => some s.i
  | 2 => some s.two
  | 3 => some s.three
  | 4 => some s.seed
  | 5 => some s.cnt
  | _ => none
def Sto.set (s : Sto) (k : Nat) (v : Int) : Option Sto := match k with
  | 1 => some { s with i := v }
  | 2 => some { s with two := v }
  | 3 => some { s with three := v }
  | 4 => some { s with seed := v }
  | 5 => some { s with cnt := v }
  | _ => none
def isSt (ρ : List L) (i : Nat) (S : Sto) : Bool := match ρ[i]? with
  | some .st => (match S.mode with
    | .law => true
    | _ => false)
  | _ => false
theorem isSt_of {ρ : List L} {i : Nat} {S : Sto} (h : isSt ρ i S = true) : ρ[i]? = some .st ∧ S.mode = .law := by
  unfold isSt at h
  split at h
  · rename_i e
    refine ⟨e, ?_⟩
    split at h
    · assumption
    · cases h
  · cases h
theorem StoAt.list {F H : Hp} {st : Addr} {s : Sto} (h : StoAt F H st s) (e : s.mode = .law) : F st = none ∧ ∃ ca, H st = some (.lst [.ref ca, .int s.i, .int s.two, .int s.three, .int s.seed, .int s.cnt]) ∧ F ca = some (.lst (s.cells.map V.int)) := by
  obtain ⟨f, o, ho, hi⟩ := h
  unfold StoIn at hi
  rw [e] at hi
  obtain ⟨ca, rfl, h2⟩ := hi
  exact ⟨f, ca, ho, h2⟩
theorem StoAt.ofList {F H : Hp} {st ca : Addr} {s : Sto} (e : s.mode = .law) (f : F st = none) (h1 : H st = some (.lst [.ref ca, .int s.i, .int s.two, .int s.three, .int s.seed, .int s.cnt])) (h2 : F ca = some (.lst (s.cells.map V.int))) : StoAt F H st s :=
  ⟨f, _, h1, by unfold StoIn; rw [e]; exact ⟨ca, rfl, h2⟩⟩
/-- store[k], k one of 1 to 5 -/
def mStIx (i k : Nat) : Ph D := fun ρ S => if isSt ρ i S = true then (match S.get k with
  | some v => .ok (.int v) S
  | none => .bad) else .bad
theorem et_stIx (i k : Nat) : ET W (tOp (rIx K) (tVar i) (tC (.int (k : Nat)))) (mStIx i k) := fun F0 H0 st hs F H S ρ σ Q b h => by
  unfold mStIx at h
  by_cases c : isSt ρ i S = true
  · rw [if_pos c] at h
    obtain ⟨c1, c2⟩ := isSt_of c
    obtain ⟨hb, e⟩ := b.loc i _ c1
    obtain ⟨fs, ca, hst, hca⟩ := (b.sto hb).list c2
    cases g : S.get k with
    | none => rw [g] at h; exact h.elim
    | some v =>
      rw [g] at h
      refine ⟨.ref st, e, .inl ⟨st, _, (k : Nat), .int v, rfl, rfl, SqL.of hst, atI_nat ?_, h _ F H b Ext.refl (rep_int _)⟩⟩
      unfold Sto.get at g
      split at g <;> cases g <;> rfl
  · rw [if_neg c] at h; exact h.elim
/-- store[0] -/
def mStCells (i : Nat) : Ph D := fun ρ S => if isSt ρ i S = true then .ok (.lst (S.cells.map D.int)) S else .bad
theorem et_stCells (i : Nat) : ET W (tOp (rIx K) (tVar i) (tC (.int 0))) (mStCells i) := fun F0 H0 st hs F H S ρ σ Q b h => by
  unfold mStCells at h
  by_cases c : isSt ρ i S = true
  · rw [if_pos c] at h
    obtain ⟨c1, c2⟩ := isSt_of c
    obtain ⟨hb, e⟩ := b.loc i _ c1
    obtain ⟨fs, ca, hst, hca⟩ := (b.sto hb).list c2
    refine ⟨.ref st, e, .inl ⟨st, _, (0 : Nat), .ref ca, rfl, rfl, SqL.of hst, atI_nat rfl, h _ F H b Ext.refl ?_⟩⟩
    simp only [RD, Rep]
    exact ⟨ca, _, rfl, hca, Reps.ints.mpr rfl⟩
  · rw [if_neg c] at h; exact h.elim
/-- store[k] = e -/
def mStSet (i k : Nat) (φe : Ph D) : Ph Ctl := fun ρ S => (φe ρ S).bind fun d S1 => if isSt ρ i S1 = true then (match d with
  | .int v => (match S1.set k v with
    | some S2 => .ok (.nx ρ) S2
    | none => .bad)
  | _ => .bad) else .bad
theorem st_stSet (i k : Nat) (he : ET W te φe) : ST W (tAsg te (L2.gSub (tVar i) (tC (.int (k : Nat))) rSetL)) (mStSet i k φe) := fun F0 H0 st hs F H S ρ σ Dn b h =>
  he _ _ _ _ _ _ _ _ _ _ b (GW.stmt h fun d S1 v F1 H1 b1 e1 r1 h1 => by
    by_cases c : isSt ρ i S1 = true
    · rw [if_pos c] at h1
      cases d <;> try exact h1.elim
      rename_i z
      simp only at h1
      cases g : S1.set k z with
      | none => rw [g] at h1; exact h1.elim
      | some S2 =>
        rw [g] at h1
        obtain ⟨c1, c2⟩ := isSt_of c
        obtain ⟨hb, e⟩ := b1.loc i _ c1
        obtain ⟨fs, ca, hst, hca⟩ := (b1.sto hb).list c2
        simp only [RD, Rep] at r1
        subst r1
        have hk : k < 6 ∧ 0 < k ∧ ([V.ref ca, .int S1.i, .int S1.two, .int S1.three, .int S1.seed, .int S1.cnt].set k (.int z) = [V.ref ca, .int S2.i, .int S2.two, .int S2.three, .int S2.seed, .int S2.cnt]) ∧ S2.cells = S1.cells ∧ S2.mode = S1.mode := by
          unfold Sto.set at g
          split at g <;> cases g <;> exact ⟨by decide, by decide, rfl, rfl, rfl⟩
        obtain ⟨k1, k2, k3, k4, k5⟩ := hk
        refine ⟨.ref st, e, st, _, (k : Nat), k, rfl, rfl, hst, ?_, h1 σ F1 _ ?_⟩
        · show ixN 6 (k : Nat) = some k
          unfold ixN
          rw [if_pos (by omega), if_pos (by omega)]; rfl
        · rw [k3]
          have nca : ca ≠ st := fun z => by rw [z, fs] at hca; cases hca
          refine ⟨fun a u w => by rw [upd_ne (ne_of_none w fs)]; exact b1.sub a u w, ⟨b1.ext.ff, fun a u w n => by rw [upd_ne (n hb)]; exact b1.ext.keep a u w n, b1.ext.new⟩, fun _ => StoAt.ofList (by rw [k5]; exact c2) fs upd_same (by rw [k4]; exact hca), b1.st0, fun j l q => ?_, b1.dis, b1.len⟩
          have y := b1.loc j l q
          cases l with
          | un => trivial
          | d x => exact y
          | own xs =>
            obtain ⟨p, vs, y1, y2, y3, y4, y5⟩ := y
            exact ⟨p, vs, y1, by rw [upd_ne (fun w => b1.st0 hb (by rw [← w]; exact y4))]; exact y2, y3, y4, y5⟩
          | st => exact y
    · rw [if_neg c] at h1; exact h1.elim)
/-! ### in, not in -/
def flatD : D → Bool
  | .non => true
  | .bl _ => true
  | .int _ => true
  | .str _ => true
  | _ => false
theorem flat_rep {F : Hp} {d : D} {v : V} (r : Rep F d v) (h : flatD d = true) : flatV v = true := by
  cases d <;> simp only [Rep] at r <;> try (cases h; done)
  all_goals (rw [r]; rfl)
def eqF : D → D → Bool
  | .non, .non => true
  | .bl a, .bl b => a == b
  | .bl a, .int b => (if a then 1 else 0) == b
  | .int a, .bl b => a == (if b then 1 else 0)
  | .int a, .int b => a == b
  | .str a, .str b => a == b
  | _, _ => false
theorem eqF_rep {F : Hp} {d e : D} {v u : V} (r : Rep F d v) (s : Rep F e u) (h : flatD d = true) (k : flatD e = true) : eqV v u = eqF d e := by
  cases d <;> simp only [Rep] at r <;> try (cases h; done)
  all_goals (subst r; cases e <;> simp only [Rep] at s <;> try (cases k; done))
  all_goals (subst s; rfl)
def inF (x : D) (ds : List D) : Bool := ds.any fun y => eqF y x
theorem inF_rep {F : Hp} {x : D} {v : V} (r : Rep F x v) (h : flatD x = true) : ∀ {ds : List D} {xs : List V}, Reps F ds xs → ds.all flatD = true → xs.all flatV = true ∧ inV v xs = inF x ds
  | [], xs, rs, _ => by rw [reps_nil.mp rs]; exact ⟨rfl, rfl⟩
  | d :: ds, xs, rs, k => by
    obtain ⟨y, zs, e, h1, h2⟩ := reps_cons.mp rs
    simp only [List.all_cons, Bool.and_eq_true] at k
    obtain ⟨i1, i2⟩ := inF_rep r h h2 k.2
    rw [e]
    refine ⟨by simp only [List.all_cons, Bool.and_eq_true]; exact ⟨flat_rep h1 k.1, i1⟩, ?_⟩
    unfold inV inF at i2 ⊢
    simp only [List.any_cons]
    rw [eqF_rep h1 r k.1 h, i2]
def in2 (neg : Bool) : D → D → Option D := fun x y => match y with
  | .lst ds => if flatD x = true ∧ ds.all flatD = true then some (.bl (if neg then !inF x ds else inF x ds)) else none
  | .tup ds => if flatD x = true ∧ ds.all flatD = true then some (.bl (if neg then !inF x ds else inF x ds)) else none
  | _ => none
theorem o_in (neg : Bool) : O2 W (rIn K neg) (pure2 (in2 neg)) := o2_pure fun F H Q dx dy d x y s r1 r2 e q => by
  cases dy <;> simp only [in2] at e <;> try (cases e; done)
  · rename_i ds
    by_cases c : flatD dx = true ∧ ds.all flatD = true
    · rw [if_pos c] at e; cases e
      simp only [Rep] at r2
      obtain ⟨a, xs, ea, fa, ra⟩ := r2
      obtain ⟨i1, i2⟩ := inF_rep r1 c.1 ra c.2
      refine ⟨a, xs, ea, .inr (SqT.of (s _ _ fa)), flat_rep r1 c.1, i1, ?_⟩
      rw [i2]; exact q _ (rep_bl _)
    · rw [if_neg c] at e; cases e
  · rename_i ds
    by_cases c : flatD dx = true ∧ ds.all flatD = true
    · rw [if_pos c] at e; cases e
      simp only [Rep] at r2
      obtain ⟨a, xs, ea, fa, ra⟩ := r2
      obtain ⟨i1, i2⟩ := inF_rep r1 c.1 ra c.2
      refine ⟨a, xs, ea, .inl (SqL.of (s _ _ fa)), flat_rep r1 c.1, i1, ?_⟩
      rw [i2]; exact q _ (rep_bl _)
    · rw [if_neg c] at e; cases e
end
end DL

set_option Elab.async false
set_option linter.all false
set_option maxRecDepth 100000
set_option maxHeartbeats 4000000
set_option autoImplicit false
namespace DL
open PySem PySem.Spec L2
open PyProof.Rows (AllBare)

section
variable {W : WX} {K : PySem.W.Frag} {ta te ti tb : TE} {φ φa φb φi φe : Ph D} {tr : TA} {φl : Ph (List D)}
/-! ### list(range(n)), tuple(range(n)) -/
theorem reps_rg {F : Hp} (n : Int) : Reps F (rangeD 0 n.toNat) (rgV 0 n) := by
  refine Reps.of_get (by rw [rgV_length, rangeD_len]; simp) fun i d x h1 h2 => ?_
  unfold rangeD at h1
  unfold rgV at h2
  rw [List.getElem?_map] at h1 h2
  rw [Int.sub_zero] at h2
  cases e : (List.range n.toNat)[i]? with
  | none => rw [e] at h1; cases h1
  | some k => rw [e] at h1 h2; cases h1; cases h2; exact rep_int _
def mRg (φ : Ph D) : Ph (List D) := fun ρ S => (φ ρ S).bind fun d S1 => match d with
  | .int j => if 0 ≤ j ∧ j ≤ 1000 then .ok (rangeD 0 j.toNat) S1 else .bad
  | _ => .bad
theorem ot_listRg (ha : ET W ta φa) : OT W (tLstRg (tRg1 ta)) (mRg φa) := fun F0 H0 st hs F H S ρ σ Q b h =>
  ha _ _ _ _ _ _ _ _ _ _ b (GW.bind rm_o h fun x S1 v F1 H1 b1 e1 r1 h1 => by
    cases x <;> try exact h1.elim
    rename_i j
    simp only [RD, Rep] at r1
    simp only at h1
    by_cases c : 0 ≤ j ∧ j ≤ 1000
    · rw [if_pos c] at h1
      exact ⟨j, r1, RgOk.of_le (by omega) (by omega) (by omega) (by omega), fun q hq => h1 _ F1 _ (b1.lay0 hq) (Ext.lay0 b1.sub hq).1 ⟨q, _, rfl, hq, upd_same, b1.sub.none hq, reps_rg j⟩⟩
    · rw [if_neg c] at h1; exact h1.elim)
def mRgT (φ : Ph D) : Ph D := fun ρ S => (φ ρ S).bind fun d S1 => match d with
  | .int j => if 0 ≤ j ∧ j ≤ 1000 then .ok (.tup (rangeD 0 j.toNat)) S1 else .bad
  | _ => .bad
theorem et_tupRg (ha : ET W ta φa) : ET W (tTupRg (tRg1 ta)) (mRgT φa) := fun F0 H0 st hs F H S ρ σ Q b h =>
  ha _ _ _ _ _ _ _ _ _ _ b (GW.bind rm_d h fun x S1 v F1 H1 b1 e1 r1 h1 => by
    cases x <;> try exact h1.elim
    rename_i j
    simp only [RD, Rep] at r1
    simp only at h1
    by_cases c : 0 ≤ j ∧ j ≤ 1000
    · rw [if_pos c] at h1
      exact ⟨j, r1, RgOk.of_le (by omega) (by omega) (by omega) (by omega), fun q hq => h1 _ _ _ (b1.lay hq) (Ext.lay b1.sub hq).1 (rep_tup (reps_rg j) (b1.sub.none hq))⟩
    · rw [if_neg c] at h1; exact h1.elim)

/-! ### raise X(..), X with its own __init__ of plain stores -/
section
variable {X : Cx} {e : Expr} {es : List Expr} {p pos : Pos}
theorem made_end {pins : List (Addr × Obj)} {σ : L2.St} {A1 A2 : Hp} {Q : XK} {g1 g2 h2 : Heap} {n1 n2 : Array GenState} {r1 r2 : Drawn} {k1 k2 : Nat} {o1 o2 : OsState} {a C d : Addr} {fs : List (Str × V)} (T : Raises X (.ref C))
    (I1 : Inv X pins σ A1 ⟨g1, n1, r1, k1, o1⟩) (ha : g1.objs.size ≤ a) (k : ∀ b o, g1.get? b = some o → g2.get? b = some o) (un : Un (frs X.stack) [] (upd A1 a (exo a C none)) A2 g2 h2) (hok : HOk X.prog X.w A2 h2)
    (ho : o2 = o1) (hb : AllBare n2) (ea : A2 a = some (exo a C (some d))) (ed : A2 d = some (exd d fs)) (hd1 : A1 d = none) (q : Q (.ref C) (some d) (upd (del A2 a) d (.xd fs))) : L2N.MkP X pins σ Q (.ref a) ⟨h2, n2, r2, k2, o2⟩ := by
  obtain ⟨t0, G, J, kG, ge, hoe, na⟩ := mk_end0 (d2 := r2) (t2 := k2) I1 ha k un hok ho hb ea ed hd1
  refine ⟨a, _, _, ⟨G, n2, r2, k2, o2⟩, _, .ref C, some d, rfl, J, kG, ge, hoe, ⟨rfl, rfl, fun vs hv => ?_⟩, rfl, rfl, na, rfl, hb, T, q⟩
  cases hv
  rfl
theorem pmkN {CX : CXT} {x : Str} {C fI : Addr} {k : Nat} {fd : FuncData} {ps : List Str} {sp : Sp} {ta : TA} (T : OexC X.K C) (iC : PySem.W.findIn X.K (.ref C) "__init__" = some (some (.ref fI))) (tI : PySem.W.typeIn X.K (.ref fI) = some (.type "function"))
    (F1 : FnOk X.prog X.w X.K X.mg X.base CX k fI fd ps sp) (hr : Room (k + 1) X.A) (hb : Binds X.K fd ps []) (hx : Passes CX X (fun _ _ _ => False)) (hg : Gl X x) (hm : X.mg x = some (.ref C)) (ha : PA X (e :: es) ta)
    (hdb : (x == ("__debug__" : Str)) = false := by decide) (he : starEach (e :: es) X.env = (false, eval e X.env) :: starEach es X.env := by rfl) (hpl : (backTo pos (starEach es X.env)).any (·.1) = false := by rfl) :
    L2N.PMk X (.Call (.Name x p) (e :: es) [] pos) (tMkO C sp [] ta) := by
  intro pins s σ H Q I h
  obtain ⟨nm, q, N, bs, bm, sn, sub, ab, col, dd, k0, k1, k2, k3, k5, hC, hbm⟩ := T.cls
  refine wpAny_Call_Name_kw (ld_glob I hg hm ?_ hdb)
  refine PySem.W.callWith_K (h₀ := X.base) I.ok.mod.kin T.kC (thn (ha.run pos pins s σ H _ I h) fun us s1 ⟨vs, H1, I1, r1, hz, q1⟩ => ⟨I1.kIn, ?_⟩) he hpl
  show wpAny _ _ (call (.ref C) us) _ _ _
  obtain ⟨hp, g, dr, tk, os⟩ := s1
  generalize hN : hp.objs.size + 1 = nw
  have hle : hp.objs.size ≤ nw := by omega
  have hq := q1 nw (I1.hok.fresh hle)
  have kk : ∀ b o, hp.get? b = some o → ((hp.push (PySem.W.kdv_tup us)).push (PySem.HandSPX.excO C hp.objs.size)).get? b = some o := fun b o z => Heap.get?_push_of_some _ (Heap.get?_push_of_some _ z)
  have hgt : ((hp.push (PySem.W.kdv_tup us)).push (PySem.HandSPX.excO C hp.objs.size)).get? nw = some (PySem.HandSPX.excO C hp.objs.size) := by subst hN; heap_get
  have I2 := I1.laid (t' := tk) (a := nw) (o := exo nw C none) (h' := (hp.push (PySem.W.kdv_tup us)).push (PySem.HandSPX.excO C hp.objs.size)) kk hle (exo_ok hgt)
  have r2 : Vals (V.ref nw :: vs) (Value.ref nw :: us) := .cons rfl r1
  rw [List.append_nil] at hq
  have hl : (Value.ref nw :: us).length = ps.length := (r2.length.symm.trans (F1.len _ _ _ _ hq))
  have hus : us.length ≤ sizeLine := by
    rw [← Paired.length r1, sizeLine_eq]
    omega
  have bnd := hb ⟨_, g, dr, tk, os⟩ (Value.ref nw :: us) I2.kIn (by rw [List.append_nil]; exact hl)
  rw [List.append_nil] at bnd
  have run := F1.run (X.A.under (.builtin "type.__call__" ⟨.ref C :: us, []⟩)) X.stack _ _ ⟨Value.ref nw :: us, []⟩ (Value.ref nw :: us) _ _ (fun _ _ _ => False) (hr.make C us []) (I2.env0.make C us []) bnd r2 hq
  subst hN
  refine wpAny_call (PySem.HandSPX.call_own F.excBase_ValueError (fun Y => PySem.HandSPX.refsVE_contains Y bm hbm) (I1.kIn _ _ hC) (PySem.W.looks_findIn I1.kIn iC) (fun self => PySem.W.bind_fn I1.kIn self tI) hus (codeAny_mono run fun r s' hq' => ?_))
  cases r with
  | error er => exact hx pins σ _ _ er s' I2 hq'
  | ok fl =>
    cases fl with
    | ret u =>
      obtain ⟨v, H2, os2, bare2, un2, hok2, rv, ev, d, fs, ea, ed, hd1, q2⟩ := hq'
      subst ev
      obtain ⟨h2, g2, d2, t2, os'⟩ := s'
      exact ⟨rv, made_end (raises_own T.exC T.tyC) I1 hle kk un2 hok2 os2 bare2 ea ed hd1 q2⟩
    | next => exact False.elim hq'
    | brk => exact False.elim hq'
    | cont => exact False.elim hq'
end
/-- an __init__ of one store, of two -/
def spX1 (K : PySem.W.Frag) (f : Str) : Sp := fun vs H Q _ => ∃ (a C : Addr) (y : V), vs = [.ref a, y] ∧ H a = some (exo a C none) ∧ OexC K C ∧ PySem.W.findIn K (.ref C) f = some none ∧
  ∀ d, H d = none → d ≠ a → Q .non (upd (upd H d (exd d [(f, y)])) a (exo a C (some d)))
def spX2 (K : PySem.W.Frag) (f g : Str) : Sp := fun vs H Q _ => ∃ (a C : Addr) (y z : V), vs = [.ref a, y, z] ∧ H a = some (exo a C none) ∧ OexC K C ∧ PySem.W.findIn K (.ref C) f = some none ∧ PySem.W.findIn K (.ref C) g = some none ∧
  ∀ d, H d = none → d ≠ a → Q .non (upd (upd (upd H d (exd d [(f, y)])) a (exo a C (some d))) d (exd d [(g, z), (f, y)]))
theorem pure_x1 {f : Str} {vs : List V} {H : Hp} {Q : VK} {E : XK} (h : spX1 K f vs H Q E) : tOst K f (tVar 0) (tVar 1) { nx := fun _ H' => Q .non H', rt := Q } (L2.start ["self", "x"] vs) H := by
  obtain ⟨a, C, y, rfl, e, T, n, q⟩ := h
  exact ⟨y, rfl, .ref a, rfl, a, C, rfl, T, n, .inl ⟨e, q⟩⟩
theorem pure_x2 {f g : Str} {N : List Str} (hN : N.length = 3) {vs : List V} {H : Hp} {Q : VK} {E : XK} (h : spX2 K f g vs H Q E) : tSeq (tOst K f (tVar 0) (tVar 1)) (tOst K g (tVar 0) (tVar 2)) { nx := fun _ H' => Q .non H', rt := Q } (L2.start N vs) H := by
  obtain ⟨a, C, y, z, rfl, e, T, n, m, q⟩ := h
  have es : L2.start N [V.ref a, y, z] = [some (V.ref a), some y, some z] := by
    unfold L2.start
    rw [hN]; rfl
  rw [es]
  refine ⟨y, rfl, .ref a, rfl, a, C, rfl, T, n, .inl ⟨e, fun d hd nd => ?_⟩⟩
  exact ⟨z, rfl, .ref a, rfl, a, C, rfl, T, m, .inr ⟨d, [(f, y)], upd_same, by rw [upd_ne nd, upd_same], by show 1 ≤ 900; decide, q d hd nd⟩⟩
theorem xd_end1 {H : Hp} {a d C : Addr} {y : V} {f : Str} (ha : H a = none) (nd : d ≠ a) : upd (del (upd (upd (upd H a (exo a C none)) d (exd d [(f, y)])) a (exo a C (some d))) a) d (.xd [(f, y)]) = upd H d (.xd [(f, y)]) := by
  funext b
  by_cases e : b = d
  · subst e; rw [upd_same, upd_same]
  · rw [upd_ne e, upd_ne e]
    by_cases e2 : b = a
    · subst e2; rw [del_same, ha]
    · rw [del_ne e2, upd_ne e2, upd_ne e, upd_ne e2]
theorem xd_end2 {H : Hp} {a d : Addr} {o : HO} {fs : List (Str × V)} {w u : HO} (ha : H a = none) (nd : d ≠ a) : upd (del (upd (upd (upd (upd H a o) d w) a u) d (exd d fs)) a) d (.xd fs) = upd H d (.xd fs) := by
  funext b
  by_cases e : b = d
  · subst e; rw [upd_same, upd_same]
  · rw [upd_ne e, upd_ne e]
    by_cases e2 : b = a
    · subst e2; rw [del_same, ha]
    · rw [del_ne e2, upd_ne e, upd_ne e2, upd_ne e, upd_ne e2]
/-- raise C(x, y) -/
def mRaise (C : Addr) (ns : List Str) (φl : Ph (List D)) : Ph Ctl := fun ρ S => (φl ρ S).bind fun ds S1 => if ds.length = ns.length then .exc ⟨C, ns.reverse, ds.reverse⟩ ρ S1 else .bad
theorem st_raise2 {C : Addr} {f g : Str} (T : OexC K C) (nf : PySem.W.findIn K (.ref C) f = some none) (ng : PySem.W.findIn K (.ref C) g = some none) (hl : AT W tr φl) :
    ST W (fun _ σ H => tMkO C (spX2 K f g) [] tr σ H fun cls d H' => W cls d σ H') (mRaise C [f, g] φl) := fun F0 H0 st hs F H S ρ σ Dn b h =>
  hl _ _ _ _ _ _ _ _ _ _ b (GW.stmt h fun ds S1 vs F1 H1 b1 e1 r1 h1 => by
    rcases ds with _ | ⟨d1, _ | ⟨d2, _ | ⟨d3, ds⟩⟩⟩
    · exact h1.elim
    · exact h1.elim
    · obtain ⟨y, z, rfl, ry, rz⟩ := reps2 r1
      refine ⟨by show 2 ≤ 1000; decide, fun a ha => ⟨a, C, y, z, rfl, upd_same, T, nf, ng, fun d hd nd => ⟨rfl, d, [(g, z), (f, y)], ?_, ?_, ?_, ?_⟩⟩⟩
      · rw [upd_ne (Ne.symm nd), upd_same]
      · rw [upd_same]
      · rw [upd_ne nd] at hd; exact hd
      · have hd' : H1 d = none := by rw [upd_ne nd] at hd; exact hd
        rw [xd_end2 ha nd]
        exact h1 _ _ σ F1 _ (b1.lay0 hd') ⟨rfl, .inr ⟨d, [z, y], rfl, upd_same, rfl, reps_cons.mpr ⟨z, [y], rfl, rz, Reps.one ry⟩⟩⟩
    · exact h1.elim)
theorem st_raise1 {C : Addr} {f : Str} (T : OexC K C) (nf : PySem.W.findIn K (.ref C) f = some none) (hl : AT W tr φl) :
    ST W (fun _ σ H => tMkO C (spX1 K f) [] tr σ H fun cls d H' => W cls d σ H') (mRaise C [f] φl) := fun F0 H0 st hs F H S ρ σ Dn b h =>
  hl _ _ _ _ _ _ _ _ _ _ b (GW.stmt h fun ds S1 vs F1 H1 b1 e1 r1 h1 => by
    rcases ds with _ | ⟨d1, _ | ⟨d2, ds⟩⟩
    · exact h1.elim
    · obtain ⟨y, rfl, ry⟩ := reps1 r1
      refine ⟨by show 1 ≤ 1000; decide, fun a ha => ⟨a, C, y, rfl, upd_same, T, nf, fun d hd nd => ⟨rfl, d, [(f, y)], ?_, ?_, ?_, ?_⟩⟩⟩
      · rw [upd_same]
      · rw [upd_ne nd, upd_same]
      · rw [upd_ne nd] at hd; exact hd
      · have hd' : H1 d = none := by rw [upd_ne nd] at hd; exact hd
        rw [xd_end1 ha nd]
        exact h1 _ _ σ F1 _ (b1.lay0 hd') ⟨rfl, .inr ⟨d, [y], rfl, upd_same, rfl, Reps.one ry⟩⟩
    · exact h1.elim)

/-! ### an object that is made: self.f = e; C(..) -/
theorem putF_zip {f : Str} {v : V} : ∀ {ns : List Str} {vs : List V}, ns.length = vs.length → f ∉ ns → putF f v (ns.zip vs) = (ns ++ [f]).zip (vs ++ [v])
  | [], [], _, _ => rfl
  | [], v :: vs, h, _ => by simp at h
  | n :: ns, [], h, _ => by simp at h
  | n :: ns, u :: vs, h, k => by
    have h1 : n ≠ f := fun z => k (by rw [z]; exact List.mem_cons_self)
    have ih := putF_zip (f := f) (v := v) (ns := ns) (vs := vs) (by simpa using h) (fun z => k (List.mem_cons_of_mem _ z))
    show (if n = f then _ else (n, u) :: putF f v (ns.zip vs)) = _
    rw [if_neg h1, ih]; rfl
def mSelf (C : Addr) (i : Nat) (f : Str) (φe : Ph D) : Ph Ctl := fun ρ S => (φe ρ S).bind fun d S1 => match ρ[i]?, S1.mode with
  | some .st, .ob o => if o.C = C ∧ f ∉ o.ns ∧ o.ns.length < 900 then .ok (.nx ρ) { S1 with mode := .ob { o with ns := o.ns ++ [f], ds := o.ds ++ [d] } } else .bad
  | _, _ => .bad
theorem StoAt.obj {F H : Hp} {st : Addr} {s : Sto} {o : Ob} (h : StoAt F H st s) (e : s.mode = .ob o) : F st = none ∧ ∃ dx vs, H st = some (.ins o.C dx (o.ns.zip vs)) ∧ o.ns.length = vs.length ∧ Reps F o.ds vs := by
  obtain ⟨f, u, hu, hi⟩ := h
  unfold StoIn at hi
  rw [e] at hi
  obtain ⟨dx, vs, rfl, h2, h3⟩ := hi
  exact ⟨f, dx, vs, hu, h2, h3⟩
theorem StoAt.ofObj {F H : Hp} {st dx : Addr} {s : Sto} {o : Ob} {vs : List V} (e : s.mode = .ob o) (f : F st = none) (h1 : H st = some (.ins o.C dx (o.ns.zip vs))) (h2 : o.ns.length = vs.length) (h3 : Reps F o.ds vs) : StoAt F H st s :=
  ⟨f, _, h1, by unfold StoIn; rw [e]; exact ⟨dx, vs, rfl, h2, h3⟩⟩
/-- the store is written -/
theorem Bd.stUpd {F0 H0 F H : Hp} {st : Addr} {hb : Bool} {S S' : Sto} {ρ : List L} {σ : L2.St} (b : Bd F0 H0 st hb F H S ρ σ) (hb1 : hb = true) {o : HO} (h : StoAt F (upd H st o) st S') : Bd F0 H0 st hb F (upd H st o) S' ρ σ := by
  have fs := h.1
  refine ⟨fun a u w => by rw [upd_ne (ne_of_none w fs)]; exact b.sub a u w, ⟨b.ext.ff, fun a u w n => by rw [upd_ne (n hb1)]; exact b.ext.keep a u w n, b.ext.new⟩, fun _ => h, b.st0, fun j l q => ?_, b.dis, b.len⟩
  have y := b.loc j l q
  cases l with
  | un => trivial
  | d x => exact y
  | own xs =>
    obtain ⟨p, vs, y1, y2, y3, y4, y5⟩ := y
    exact ⟨p, vs, y1, by rw [upd_ne (fun w => b.st0 hb1 (by rw [← w]; exact y4))]; exact y2, y3, y4, y5⟩
  | st => exact y
theorem st_self {C : Addr} {f : Str} (i : Nat) (hc : Cls K C) (hn : NoAttr K C f) (he : ET W te φe) : ST W (sFld K (tVar i) te f) (mSelf C i f φe) := fun F0 H0 st hs F H S ρ σ Dn b h =>
  he _ _ _ _ _ _ _ _ _ _ b (GW.stmt h fun d S1 v F1 H1 b1 e1 r1 h1 => by
    cases e : ρ[i]? with
    | none => rw [e] at h1; exact h1.elim
    | some l =>
      rw [e] at h1
      cases l <;> try exact h1.elim
      cases eo : S1.mode with
      | law => rw [eo] at h1; exact h1.elim
      | dc kvs => rw [eo] at h1; exact h1.elim
      | ob o =>
        rw [eo] at h1
        simp only at h1
        by_cases c : o.C = C ∧ f ∉ o.ns ∧ o.ns.length < 900
        · rw [if_pos c] at h1
          obtain ⟨c1, c2, c3⟩ := c
          obtain ⟨hbt, ev⟩ := b1.loc i _ e
          obtain ⟨fs, dx, vs, hv, hl, rs⟩ := (b1.sto hbt).obj eo
          have hz : (o.ns.zip vs).length < 1000 := by rw [List.length_zip]; omega
          refine ⟨.ref st, ev, st, C, dx, _, rfl, by rw [← c1]; exact hv, hc, hn, hz, h1 σ F1 _ (b1.stUpd hbt ?_)⟩
          rw [putF_zip hl c2]
          refine StoAt.ofObj (o := { o with ns := o.ns ++ [f], ds := o.ds ++ [d] }) (vs := vs ++ [v]) (dx := dx) rfl fs ?_ ?_ (rs.append (Reps.one r1))
          · rw [upd_same, c1]
          · rw [List.length_append, List.length_append, hl]; rfl
        · rw [if_neg c] at h1; exact h1.elim)
/-- C(..) -/
def stoC (C : Addr) : Sto := { sto0 with mode := .ob ⟨C, [], []⟩ }
def mMake (C : Addr) (m : Fn) (φl : Ph (List D)) : Ph D := fun ρ S => (φl ρ S).bind fun ds S1 => match m ds (stoC C) with
  | .ok (.d .non) S2 => (match S2.mode with
    | .ob o => .ok (.obj o.C o.ns o.ds) S1
    | _ => .bad)
  | .exc x _ _ => .exc x ρ S1
  | _ => .bad
theorem et_make {E : XK} {C : Addr} {m : Fn} {n : Nat} (hn : LN φl n) (hl : AT (fun cls d _ H => E cls d H) tr φl) : ET (fun cls d _ H => E cls d H) (tMake C (spD true n m) [] E tr) (mMake C m φl) := fun F0 H0 st hb F H S ρ σ Q b h =>
  hl _ _ _ _ _ _ _ _ _ _ b (by
    unfold mMake at h
    cases o : φl ρ S with
    | ok ds S1 =>
      rw [o] at h
      intro vs F1 H1 b1 e1 r1 x dx hx hdx ndx
      have f1x : F1 x = none := b1.sub.none hx
      have f1d : F1 dx = none := b1.sub.none hdx
      generalize eH : upd (upd H1 dx (.own x)) x (.ins C dx []) = G
      have gx : G x = some (.ins C dx []) := by rw [← eH, upd_same]
      have gk : ∀ a u, H1 a = some u → G a = some u := fun a u w => by rw [← eH, upd_ne (ne_of_none w hx), upd_ne (ne_of_none w hdx)]; exact w
      have sG : Sub F1 G := fun a u w => gk a u (b1.sub a u w)
      refine ⟨F1, x, stoC C, ds, vs, sG, by rw [List.append_nil]; rfl, fun _ => StoAt.ofObj (o := ⟨C, [], []⟩) (vs := []) (dx := dx) rfl f1x gx rfl (reps_nil.mpr rfl), hn ρ S ds S1 o, r1, ?_⟩
      simp only [Out.bind] at h
      have exC : ∀ {F2 H2 : Hp}, Ext x true F1 G F2 H2 → Ext st hb F1 H1 F2 H2 := fun e => ⟨e.ff, fun a u w _ => e.keep a u (gk a u w) fun _ => ne_of_none w hx, fun a w1 w2 => by
        cases q : H1 a with
        | none => exact absurd q w2
        | some u => exact e.new a w1 (by rw [gk a u q]; exact nofun)⟩
      have stC : ∀ {F2 H2 : Hp}, Ext x true F1 G F2 H2 → hb = true → StoAt F2 H2 st S1 := fun e w => by
        have nst : st ≠ x := fun z => b1.stH w (by rw [z]; exact hx)
        obtain ⟨f, u, hu, hi⟩ := b1.sto w
        exact ⟨e.new st f (by rw [gk st u hu]; exact nofun), u, e.keep st u (gk st u hu) fun _ => nst, hi.mono e.ff⟩
      cases om : m ds (stoC C) with
      | ok rr S2 =>
        rw [om] at h
        cases rr with
        | own xs => exact h.elim
        | d d =>
          cases d <;> try exact h.elim
          simp only at h
          cases eo : S2.mode with
          | law => rw [eo] at h; exact h.elim
          | dc kvs => rw [eo] at h; exact h.elim
          | ob o =>
            rw [eo] at h
            intro v F2 H2 e2 s2 t2 rv
            simp only [Rep] at rv
            refine ⟨rv, ?_⟩
            obtain ⟨fx, dx', us, hu, hlen, rs⟩ := (t2 rfl).obj eo
            have e3 : Ext st hb F1 H1 (upd F2 x (.ins o.C dx' (o.ns.zip us))) H2 := by
              have z := exC e2
              refine ⟨fun a u w => ?_, z.keep, fun a w1 w2 => ?_⟩
              · have w' := z.ff a u w
                rw [upd_ne (ne_of_none w' fx)]; exact w'
              · have nax : a ≠ x := fun w => w2 (by rw [w]; exact hx)
                rw [upd_ne nax]; exact z.new a w1 w2
            have s3 : Sub (upd F2 x (.ins o.C dx' (o.ns.zip us))) H2 := fun a u w => by
              by_cases z : a = x
              · subst z; rw [upd_same] at w; rw [hu]; exact w
              · rw [upd_ne z] at w; exact s2 a u w
            have ff : Sub F2 (upd F2 x (.ins o.C dx' (o.ns.zip us))) := fun a u w => by rw [upd_ne (ne_of_none w fx)]; exact w
            have b3 : Bd F0 H0 st hb (upd F2 x (.ins o.C dx' (o.ns.zip us))) H2 S1 ρ σ := b1.go e3 s3 fun w => by
              have nst : st ≠ x := fun z => b1.stH w (by rw [z]; exact hx)
              obtain ⟨f, u, hu', hi⟩ := stC e2 w
              exact ⟨by rw [upd_ne nst]; exact f, u, hu', hi.mono ff⟩
            refine h _ _ _ b3 (e1.trans e3 b1.stH) ?_
            simp only [RD, Rep]
            exact ⟨x, dx', us, rfl, upd_same, hlen, Reps.mono ff _ _ rs⟩
      | exc y ρ' S2 =>
        rw [om] at h
        intro cls d F2 H2 e2 s2 t2 xr
        exact h cls d F2 H2 (b1.go (exC e2) s2 (stC e2)) xr
      | bad => rw [om] at h; exact h.elim
    | exc x ρ' S1 => rw [o] at h; exact h
    | bad => rw [o] at h; exact h.elim)
end
end DL

set_option Elab.async false
set_option linter.all false
set_option maxRecDepth 100000
set_option maxHeartbeats 4000000
set_option autoImplicit false
namespace DL
open PySem PySem.Spec L2
open PyProof.Rows (envOfC)

/-- a def of the module that may be called by its name -/
structure Cal (P : Program) (w : World) (K : PySem.W.Frag) (mg : Str → Option Value) (base : Heap) (x : Str) (k : Nat) (ps : List Str) (sp : Sp) : Prop where
  ex : ∃ (f : Addr) (fd : FuncData), FnOk P w K mg base (L2N.CX P w) k f fd ps sp ∧ mg x = some (.ref f) ∧ PySem.W.keepIn K (.ref f) = true ∧ Binds K fd ps []
theorem Cal.mono {P : Program} {w : World} {K : PySem.W.Frag} {mg : Str → Option Value} {base : Heap} {x : Str} {k j : Nat} {ps : List Str} {sp : Sp} (c : Cal P w K mg base x k ps sp) (h : k ≤ j) : Cal P w K mg base x j ps sp := by
  obtain ⟨f, fd, a, b⟩ := c.ex
  exact ⟨f, fd, a.mono h, b⟩
/-- a def of the text as it stands behind the top -/
structure Df (K : PySem.W.Frag) (mg : Str → Option Value) (x : Str) (st : Stmt) (ps : List Str) (f : Addr) (fd : FuncData) : Prop where
  fn : FunD K x x (defArgs st) (defBody st) (defScope st) [] [] f fd
  mgf : mg x = some (.ref f)
  b : Binds K fd ps []
theorem cal_ok {P : Program} {w : World} {K : PySem.W.Frag} {mg : Str → Option Value} {base : Heap} {x : Str} {st : Stmt} {f : Addr} {fd : FuncData} {N ps : List Str} {k n nn : Nat} {hb : Bool} {φ : Ph Ctl} (D : Df K mg x st ps f fd) (S : FnScope N ps (defScope st))
    (hp : ps.length = (if hb = true then 1 else 0) + n) (hN : N.length = (if hb = true then 1 else 0) + n + nn)
    (body : ∀ (cdv : Value) (A : Around) (outer : List Env) (s : Shared) (H : Hp) (E : XK), Room k (A.deeper (envOfC x (defScope st) s.heap.objs.size f cdv)) →
      ∃ t, PSs (cxOf (L2N.CX P w) P w K mg base N x (defScope st) f cdv A outer s H E) (defBody st) t ∧ ST (fun cls d _ H => E cls d H) t φ) : Cal P w K mg base x (k + 1) ps (spD hb n (runD hb nn φ)) :=
  ⟨f, fd, D.fn.ok S (spD_len hp) (fun cdv A outer s H vs Q E hr h => by
    obtain ⟨t, h1, h2⟩ := body cdv A outer s H E hr
    exact ⟨t, h1, fn_ok hN h2 h⟩), D.mgf, D.fn.kp, D.b⟩
theorem Cal.none {P : Program} {w : World} {K : PySem.W.Frag} {mg : Str → Option Value} {base : Heap} {x : Str} {st : Stmt} {ps : List Str} {f : Addr} {fd : FuncData} {k n : Nat} {hb : Bool} (D : Df K mg x st ps f fd) (hp : ps.length = (if hb = true then 1 else 0) + n) : Cal P w K mg base x k ps (spD hb n fun _ _ => .bad) :=
  ⟨f, fd, ⟨spD_len hp, fun A outer s H args us vs Q E hr e0 hb' hv h => by
    obtain ⟨_, _, _, _, _, _, _, _, _, _, z⟩ := h
    exact z.elim⟩, D.mgf, D.fn.kp, D.b⟩
theorem passN0 {X : Cx} (σ : L2.St) : PassesAt (L2N.CX X.prog X.w) X σ (WE W0 σ) := fun _ _ _ e s' I c => by
  obtain ⟨_, _, _, _, _, _, _, _, _, _, _, _, z⟩ := c
  exact z.elim
theorem pe_cl {X : Cx} {W : WX} {x : Str} {k j : Nat} {ps : List Str} {sp : Sp} {e : Expr} {es : List Expr} {p pos : Pos} {t : TA} (c : Cal X.prog X.w X.K X.mg X.base x k ps sp) (hr : Room j X.A) (hk : k ≤ j) (hg : Gl X x) (hx : ∀ σ, PassesAt (L2N.CX X.prog X.w) X σ (WE W σ)) (ha : PA X (e :: es) t)
    (hdb : (x == ("__debug__" : Str)) = false := by decide) (he : starEach (e :: es) X.env = (false, eval e X.env) :: starEach es X.env := by rfl) (hpl : (backTo pos (starEach es X.env)).any (·.1) = false := by rfl) :
    PE X (.Call (.Name x p) (e :: es) [] pos) (tCallSD sp [] (WE W) t) := by
  obtain ⟨f, fd, F, m, kp, b⟩ := c.ex
  exact pe_callSD F (hr.mono hk) hg m kp b .nil hx ha hdb he hpl
theorem bt_len : bootBuiltins "len" = some (.builtin "len") := by decide +kernel
theorem bt_abs : bootBuiltins "abs" = some (.builtin "abs") := by decide +kernel
theorem bt_max : bootBuiltins "max" = some (.builtin "max") := by decide +kernel
theorem bt_min : bootBuiltins "min" = some (.builtin "min") := by decide +kernel
theorem bt_sum : bootBuiltins "sum" = some (.builtin "sum") := by decide +kernel
theorem bt_sorted : bootBuiltins "sorted" = some (.builtin "sorted") := by decide +kernel
theorem bt_isinstance : bootBuiltins "isinstance" = some (.builtin "isinstance") := by decide +kernel
theorem bt_int : bootBuiltins "int" = some (.type "int") := by decide +kernel
theorem bt_bool : bootBuiltins "bool" = some (.type "bool") := by decide +kernel
theorem bt_str : bootBuiltins "str" = some (.type "str") := by decide +kernel
theorem bt_tuple : bootBuiltins "tuple" = some (.type "tuple") := by decide +kernel
theorem bt_list : bootBuiltins "list" = some (.type "list") := by decide +kernel
/-- a built-in class as a value -/
theorem pe_ty {X : Cx} {x : Str} {n : String} {pos : Pos} (hg : Gl X x) (hm : X.mg x = none) (hv : bootBuiltins x = some (.type n)) (hn : x ≠ "__name__" := by decide) (hd : (x == ("__debug__" : Str)) = false := by decide) : PE X (.Name x pos) (tC (.ty n)) := pe_bltn (v := .ty n) hg hm hv rfl hn hd
end DL

set_option Elab.async false
set_option linter.all false
set_option maxRecDepth 100000
set_option maxHeartbeats 4000000
set_option autoImplicit false
/-! set(xs) of a list of ints, in the form that sorted asks -/
namespace L2
open PySem PySem.Spec PyProof.Rows
section
variable {P : Program} {w : World} {A : Around} {E : Value → Shared → Prop} {s : Shared}
abbrev setNew (w : World) : Obj := { cls := .type "set", dict := none, data := .set #[] 0 (.fresh 0 0 (!w.params.followText "set-order")) }
set_option maxRecDepth 100000 in
set_option maxHeartbeats 3200000 in
theorem set_of_listI {lA : Addr} {its : Array Value} (ns : List Int) {Q : Value → Shared → Prop} (hand : A.handled = none) (isL : s.heap.IsList lA its) (hAre : IntsAre its.toList ns) (few : ns.length + 1 < scanBound)
    (fin : ∀ (h' : Heap) (tk c : Nat), SetR w h' s.heap.objs.size (fun j => decide (j ∈ ns)) c → c ≤ ns.length → (∀ b o, s.heap.get? b = some o → h'.get? b = some o) → Q (.ref s.heap.objs.size) { s with heap := h', toks := tk }) :
    wpAny (model P w) A (call (.type "set") [.ref lA]) Q E s := by
  have siz : its.size = ns.length := by have q := IntsAre.length hAre; rwa [Array.length_toList] at q
  obtain ⟨mc, mt, mm⟩ := F.called_set.mro
  have f1 := F.called_set.made; have f2 := F.called_set.sub
  refine wpAny_call (codeAny_of_tree (show wpAny _ _ (callAny (.type "set") _) _ _ _ from ?_))
  refine wpAny_pure ⟨Code.quiet_builtin _ (by decide +kernel), codeAny_builtin F.entry_type_call ?_⟩; rw [Around.under_plain (weight_type_call_type "set" [.ref lA] []) rfl]
  have f3 := F.called_set.notType; have f4 := F.called_set.canCreate; have f5 := F.typeCall_set_1 (.ref lA)
  repeat (any_goals (first | assumption | wp_step))

  refine codeAny_mono (code_set_led1 (.ref lA) (E := E) (Q₁ := fun obj s1 => obj = .ref s.heap.objs.size ∧ s1 = { s with heap := s.heap.push (setNew w) }) ⟨rfl, rfl⟩) fun r1 s1 hr1 => ?_
  cases r1 with
  | error e => exact hr1
  | ok fl => cases fl with
    | ret obj =>
      obtain ⟨rfl, rfl⟩ := hr1
      have gS : (s.heap.push (setNew w)).get? s.heap.objs.size = some (setNew w) := Heap.get?_push_size _ rfl
      have tS : Shared.TypeIs { s with heap := s.heap.push (setNew w) } (.ref s.heap.objs.size) "set" := ⟨_, gS, rfl⟩
      have f6 := F.called_set.init.lookup; have f7 := F.called_set.init.bind (.ref s.heap.objs.size)
      repeat (any_goals (first | assumption | wp_step))

      refine codeAny_mono (codeAny_call_builtin (R := wants (fun r s2 => r = .none ∧ ∃ h' tk c, s2 = { s with heap := h', toks := tk } ∧ SetR w h' s.heap.objs.size (fun j => decide (j ∈ ns)) c ∧ c ≤ ns.length ∧ (∀ b o, s.heap.get? b = some o → h'.get? b = some o)) E)
        F.called_set.init.plain F.entry_set_init (check_set_init_1 tS ?_)) fun r2 s2 hr2 => ?_
      · obtain ⟨oL, gL, cL, nL, dL⟩ := isL
        obtain ⟨xc, xd, xdat, xsl⟩ := oL
        simp only at cL dL; subst cL; subst dL
        have gL' : (s.heap.push (setNew w)).get? lA = some { cls := .type "list", dict := xd, data := .seq its nL, slots := xsl } := Heap.get?_push_of_some _ gL
        have f8 := F.sub_list_set; have f9 := F.sub_list_frozenset; have f10 : (Value.type "list" == Value.type "dict") = false := by decide
        have isL1 : (s.heap.push (setNew w)).IsList lA its := ⟨_, gL', rfl, nL, rfl⟩
        unfold Builtin.«set.__init__» noKeywords Builtin.Frozenset.updateFrom; generalize hIt : pyIter = PIt; wp_walk
        subst hIt
        refine wpAny_pyIter_list isL1 (wpAny_bind (wpAny_runValue ?_))
        have ltL : lA < s.heap.objs.size := Heap.lt_size gL
        have hn3 : A.in1.in1.in1.handled = none := by simp [hand]
        have neI : lA ≠ (s.heap.push (setNew w)).objs.size := by rw [Heap.size_push]; exact Nat.ne_of_lt (Nat.lt_succ_of_lt ltL)
        have nfp : s.heap.objs.size ∉ [(s.heap.push (setNew w)).objs.size, lA] := by
          rw [Heap.size_push]
          simp only [List.mem_cons, List.mem_singleton, List.not_mem_nil, or_false, not_or]; exact ⟨Nat.ne_of_lt (Nat.lt_succ_self _), Nat.ne_of_gt ltL⟩
        have vals : ∀ (i : Nat) (v : Value), its[i]? = some v → ∃ k t, ns[i]? = some k ∧ v = .int k t := fun i v hv => by
          have li : i < ns.length := by rw [← siz]; exact (Array.getElem?_eq_some_iff.mp hv).1
          obtain ⟨t, e⟩ := IntsAre.int_at hAre i v (by rw [Array.getElem?_toList]; exact hv)
          exact ⟨ns[i], t, List.getElem?_eq_getElem li, by rw [e, List.getD_eq_getElem?_getD, List.getElem?_eq_getElem li] <;> rfl⟩
        refine set_update_ints ((Walks.list hn3 _ lA neI its).toS) s.heap.objs.size nfp ns siz few vals (its.size - 0) 0 _ (by omega) (Nat.zero_le _) ⟨⟨_, Heap.get?_push_size _ rfl, rfl, rfl⟩, (isL1.push _)⟩ ⟨0, Nat.le_refl 0, setR_new_at (Heap.get?_push_of_some _ gS)⟩ ?_
        intro s3 c3 mv le3 sr3
        obtain ⟨h3, g3, d3, tk3, os3⟩ := s3
        have eg : g3 = s.gens := mv.gens; have ed : d3 = s.drawn := mv.drawn; have eo : os3 = s.os := mv.os
        subst eg; subst ed; subst eo
        refine wpAny_pure (show wpAny _ _ (ret Value.none) _ _ _ from ?_)
        rw [siz] at le3
        refine wpAny_pure ⟨rfl, h3, tk3, c3, rfl, sr3, le3, fun b o e => ?_⟩
        have lt0 : b < s.heap.objs.size := Heap.lt_size e
        have ne2 : b ≠ (s.heap.push (setNew w)).objs.size := by rw [Heap.size_push]; exact Nat.ne_of_lt (Nat.lt_succ_of_lt lt0)
        refine mv.heap b o ?_ (Heap.get?_push_of_some _ (Heap.get?_push_of_some _ e))
        simp only [List.mem_cons, List.mem_singleton, List.not_mem_nil, or_false, not_or]; exact ⟨Nat.ne_of_lt lt0, ne2⟩
      · cases r2 with
        | error e => exact hr2
        | ok fl2 => cases fl2 with
          | ret r =>
            obtain ⟨rfl, h4, tk4, c4, rfl, sr4, le4, k4⟩ := hr2
            repeat (any_goals (first | assumption | wp_step))
            exact fin _ _ _ sr4 le4 k4
          | _ => exact hr2.elim
    | _ => exact hr1.elim
end
section
variable {X : Cx}
/-- set(xs), a list of ints -/
def rSetLi (K : PySem.W.Frag) (w : World) : List V → Hp → VK → Prop := fun xs H Q => ∃ (l : Addr) (ns : List Int), xs = [V.ref l] ∧ SqL K H l (ns.map V.int) ∧ ns.length ≤ 1000 ∧
  ∀ p c, H p = none → c ≤ ns.length → Q (.ref p) (upd H p (SetO w p (fun j => decide (j ∈ ns)) c))
theorem cr_setL (hc : X.calm = true) : CallR X (.type "set") (rSetLi X.K X.w) := by
  intro pins s σ H xs us Q I r h
  obtain ⟨l, ns, rfl, hl, hz, q⟩ := h
  rw [Vals.ref1 r]
  obtain ⟨its, rv, pl, _⟩ := I.list hl
  refine set_of_listI (P := X.prog) (w := X.w) ns (I.ok.hd hc) pl.isList (by simpa using Vals.ints rv) (by unfold scanBound; omega) fun h' tk c R hcn k => ?_
  exact ⟨.ref s.heap.objs.size, upd H s.heap.objs.size (SetO X.w s.heap.objs.size (fun j => decide (j ∈ ns)) c), I.laid (t' := tk) k (Nat.le_refl _) (setO_new R), rfl, q _ c (I.hok.fresh (Nat.le_refl _)) hcn⟩
end
end L2
namespace DL
open PySem PySem.Spec L2
theorem bt_set : bootBuiltins "set" = some (.type "set") := by decide +kernel

/-- ascending lists with the same members are equal -/
theorem asc_eq : ∀ {a b : List Int}, a.Pairwise (· < ·) → b.Pairwise (· < ·) → (∀ k, k ∈ a ↔ k ∈ b) → a = b
  | [], [], _, _, _ => rfl
  | [], y :: b, _, _, h => by have := (h y).mpr List.mem_cons_self; simp at this
  | x :: a, [], _, _, h => by have := (h x).mp List.mem_cons_self; simp at this
  | x :: a, y :: b, ha, hb, h => by
    rw [List.pairwise_cons] at ha hb
    have e : x = y := by
      have h1 := (h x).mp List.mem_cons_self
      have h2 := (h y).mpr List.mem_cons_self
      rcases List.mem_cons.mp h1 with e | m
      · exact e
      · rcases List.mem_cons.mp h2 with e | m2
        · exact e.symm
        · have l1 := hb.1 x m
          have l2 := ha.1 y m2
          omega
    subst e
    congr 1
    refine asc_eq ha.2 hb.2 fun k => ?_
    constructor
    · intro m
      rcases List.mem_cons.mp ((h k).mp (List.mem_cons_of_mem _ m)) with e | m2
      · subst e; have := ha.1 k m; omega
      · exact m2
    · intro m
      rcases List.mem_cons.mp ((h k).mpr (List.mem_cons_of_mem _ m)) with e | m2
      · subst e; have := hb.1 k m; omega
      · exact m2
/-- insertion into an ascending list -/
def insU (k : Int) : List Int → List Int
  | [] => [k]
  | x :: xs => if k < x then k :: x :: xs else if k = x then x :: xs else x :: insU k xs
def ascU (ns : List Int) : List Int := ns.foldr insU []
theorem mem_insU {k j : Int} : ∀ {xs : List Int}, j ∈ insU k xs ↔ j = k ∨ j ∈ xs
  | [] => by simp [insU]
  | x :: xs => by
    unfold insU
    split
    · simp
    · split
      · rename_i h; subst h; simp
      · simp only [List.mem_cons, mem_insU (xs := xs)]
        constructor
        · rintro (h | h | h)
          · exact .inr (.inl h)
          · exact .inl h
          · exact .inr (.inr h)
        · rintro (h | h | h)
          · exact .inr (.inl h)
          · exact .inl h
          · exact .inr (.inr h)
theorem asc_insU {k : Int} : ∀ {xs : List Int}, xs.Pairwise (· < ·) → (insU k xs).Pairwise (· < ·)
  | [], _ => by simp [insU]
  | x :: xs, h => by
    unfold insU
    rw [List.pairwise_cons] at h
    split
    · rename_i c
      refine List.pairwise_cons.mpr ⟨fun y hy => ?_, List.pairwise_cons.mpr h⟩
      rcases List.mem_cons.mp hy with e | m
      · omega
      · have := h.1 y m; omega
    · split
      · exact List.pairwise_cons.mpr h
      · rename_i c1 c2
        refine List.pairwise_cons.mpr ⟨fun y hy => ?_, asc_insU h.2⟩
        rcases mem_insU.mp hy with e | m
        · omega
        · exact h.1 y m
theorem mem_ascU {j : Int} : ∀ {ns : List Int}, j ∈ ascU ns ↔ j ∈ ns
  | [] => by simp [ascU]
  | n :: ns => by
    show j ∈ insU n (ascU ns) ↔ _
    rw [mem_insU, mem_ascU (ns := ns), List.mem_cons]
theorem asc_ascU : ∀ ns : List Int, (ascU ns).Pairwise (· < ·)
  | [] => List.Pairwise.nil
  | n :: ns => asc_insU (asc_ascU ns)
section
variable {W : WX} {K : PySem.W.Frag} {ta : TE} {φa : Ph D} {w : World}
/-- sorted(set(xs)) -/
def mSortedSet (φa : Ph D) : Ph (List D) := fun ρ S => (φa ρ S).bind fun d S1 => match d with
  | .lst ds => (match intsOf ds with
    | some ns => if ns.length < 64 then .ok ((ascU ns).map D.int) S1 else .bad
    | none => .bad)
  | _ => .bad
theorem ot_sortedSet (ha : ET W ta φa) : OT W (tCB (rSortedSet w) (tCons (tCB (rSetLi K w) (tCons ta tNil)) tNil)) (mSortedSet φa) := fun F0 H0 st hs F H S ρ σ Q b h =>
  ha _ _ _ _ _ _ _ _ _ _ b (GW.bind rm_o h fun d S1 v F1 H1 b1 e1 r1 h1 => by
    cases d <;> try exact h1.elim
    rename_i ds
    simp only at h1
    cases ei : intsOf ds with
    | none => rw [ei] at h1; exact h1.elim
    | some ns =>
      rw [ei] at h1
      simp only at h1
      by_cases c : ns.length < 64
      · rw [if_pos c] at h1
        simp only [RD, Rep] at r1
        obtain ⟨a, xs, e, f, r⟩ := r1
        rw [intsOf_eq ei] at r
        rw [Reps.ints.mp r] at f
        refine ⟨a, ns, by rw [e], SqL.of (b1.sub _ _ f), by omega, fun p n hp hn => ?_⟩
        refine ⟨p, _, n, rfl, upd_same, by omega, fun ms q hms hm hl hq => ?_⟩
        have hq1 : H1 q = none := by
          cases z : H1 q with
          | none => rfl
          | some u => rw [upd_ne (ne_of_none z hp), z] at hq; cases hq
        have npq : p ≠ q := fun z => by subst z; rw [upd_same] at hq; cases hq
        have b2 := b1.lay0 (o := SetO w p (fun j => decide (j ∈ ns)) n) hp
        have e2 := (Ext.lay0 (st := st) (hb := hs) (o := SetO w p (fun j => decide (j ∈ ns)) n) b1.sub hp).1
        have b3 := b2.lay0 (o := .lst (ms.map V.int)) hq
        have e3 := (Ext.lay0 (st := st) (hb := hs) (o := .lst (ms.map V.int)) b2.sub hq).1
        have em : ms = ascU ns := asc_eq hms (asc_ascU ns) fun k => by rw [hm k, mem_ascU]; simp
        refine h1 _ F1 _ b3 (e2.trans e3 b2.stH) ⟨q, ms.map V.int, rfl, hq1, upd_same, b1.sub.none hq1, ?_⟩
        rw [em]
        exact Reps.ints.mpr rfl
      · rw [if_neg c] at h1; exact h1.elim)
end
end DL

set_option Elab.async false
set_option linter.all false
set_option maxRecDepth 100000
set_option maxHeartbeats 4000000
set_option autoImplicit false
namespace DL
open PySem PySem.Spec L2
open PyProof.Rows (envOfC)

/-! ### a dict of numbers as the one object that a def may change -/
def keyD : D → Option Key
  | .int i => some (.inl i)
  | .str x => some (.inr x)
  | _ => none
theorem keyD_rep {F : Hp} {d : D} {v : V} {k : Key} (r : Rep F d v) (h : keyD d = some k) : v = kV k := by
  cases d <;> simp only [keyD] at h <;> cases h <;> simp only [Rep] at r <;> rw [r] <;> rfl
def dcOf (ρ : List L) (i : Nat) (S : Sto) : Option (List (Key × Int)) := match ρ[i]? with
  | some .st => (match S.mode with
    | .dc kvs => some kvs
    | _ => none)
  | _ => none
theorem dcOf_of {ρ : List L} {i : Nat} {S : Sto} {kvs : List (Key × Int)} (h : dcOf ρ i S = some kvs) : ρ[i]? = some .st ∧ S.mode = .dc kvs := by
  unfold dcOf at h
  split at h
  · rename_i e
    split at h
    · rename_i e2; cases h; exact ⟨e, e2⟩
    · cases h
  · cases h
def lookI (kvs : List (Key × Int)) (k : Key) : Option Int := (kvs.find? fun p => decide (p.1 = k)).map (·.2)
theorem lookI_V (kvs : List (Key × Int)) (k : Key) : valV (kvs.map fun p => (p.1, V.int p.2)) k = (lookI kvs k).map V.int := by
  induction kvs with
  | nil => rfl
  | cons p r ih =>
    unfold lookI at ih ⊢
    simp only [List.map_cons, List.find?_cons]
    by_cases e : p.1 = k
    · rw [valV_pos e]; simp [e]
    · rw [valV_neg e, ih]; simp [e]
theorem StoAt.dict {F H : Hp} {st : Addr} {s : Sto} {kvs : List (Key × Int)} (h : StoAt F H st s) (e : s.mode = .dc kvs) : F st = none ∧ H st = some (.dK (kvs.map fun p => (p.1, V.int p.2))) := by
  obtain ⟨f, u, hu, hi⟩ := h
  unfold StoIn at hi
  rw [e] at hi
  rw [hi] at hu
  exact ⟨f, hu⟩
theorem StoAt.ofDict {F H : Hp} {st : Addr} {s : Sto} {kvs : List (Key × Int)} (e : s.mode = .dc kvs) (f : F st = none) (h : H st = some (.dK (kvs.map fun p => (p.1, V.int p.2)))) : StoAt F H st s :=
  ⟨f, _, h, by unfold StoIn; rw [e]⟩
section
variable {W : WX} {K : PySem.W.Frag} {ta te tk : TE} {φa φk φe : Ph D}
/-- k not in d -/
def mDNotIn (i : Nat) (φk : Ph D) : Ph Bool := fun ρ S => (φk ρ S).bind fun k S1 => match dcOf ρ i S1, keyD k with
  | some kvs, some key => .ok (!(lookI kvs key).isSome) S1
  | _, _ => .bad
theorem bt_dnotin (i : Nat) (hk : ET W tk φk) : BT W (L2.tB (tDNotIn tk (tVar i))) (mDNotIn i φk) := fun F0 H0 st hs F H S ρ σ Q b h =>
  hk _ _ _ _ _ _ _ _ _ _ b (GW.bind rm_b h fun k S1 v F1 H1 b1 e1 r1 h1 => by
    cases ed : dcOf ρ i S1 with
    | none => rw [ed] at h1; exact h1.elim
    | some kvs =>
      rw [ed] at h1
      cases ek : keyD k with
      | none => rw [ek] at h1; exact h1.elim
      | some key =>
        rw [ek] at h1
        obtain ⟨c1, c2⟩ := dcOf_of ed
        obtain ⟨hb, ev⟩ := b1.loc i _ c1
        obtain ⟨fs, hd⟩ := (b1.sto hb).dict c2
        rw [keyD_rep r1 ek]
        refine ⟨.ref st, ev, st, _, rfl, DGet.k hd, _, rfl, ?_⟩
        rw [lookI_V]
        refine h1 _ F1 H1 b1 Ext.refl ?_
        show _ = _
        cases lookI kvs key <;> rfl)
/-- d[k] = e -/
def mDPut (i : Nat) (φk φe : Ph D) : Ph Ctl := fun ρ S => (φe ρ S).bind fun v S0 => match ρ[i]? with
  | some .st => (φk ρ S0).bind fun k S1 => (match dcOf ρ i S1, keyD k, v with
    | some kvs, some key, .int z => if (lookI kvs key).isSome = false ∧ kvs.length < 1000 then .ok (.nx ρ) { S1 with mode := .dc (kvs ++ [(key, z)]) } else .bad
    | _, _, _ => .bad)
  | _ => .bad
theorem putK_V {kvs : List (Key × Int)} {k : Key} {z : Int} (h : (lookI kvs k).isSome = false) : putK (kvs.map fun p => (p.1, V.int p.2)) k (.int z) = (kvs ++ [(k, z)]).map fun p => (p.1, V.int p.2) := by
  rw [putK_new]
  · rw [List.map_append]; rfl
  · rw [lookI_V]
    cases e : lookI kvs k with
    | none => rfl
    | some v => rw [e] at h; cases h
theorem st_dput (i : Nat) (hk : ET W tk φk) (he : ET W te φe) : ST W (sDPut (tVar i) tk te) (mDPut i φk φe) := fun F0 H0 st hs F H S ρ σ Dn b h =>
  he _ _ _ _ _ _ _ _ _ _ b (GW.stmt h fun x S0 u F0' H0' b0 e0 r0 h0 => by
    cases es : ρ[i]? with
    | none => rw [es] at h0; exact h0.elim
    | some l =>
      rw [es] at h0
      cases l <;> try exact h0.elim
      obtain ⟨hb, ev⟩ := b0.loc i _ es
      refine ⟨.ref st, ev, hk _ _ _ _ _ _ _ _ _ _ b0 (GW.stmt h0 fun k S1 v F1 H1 b1 e1 r1 h1 => ?_)⟩
      cases ed : dcOf ρ i S1 with
      | none => rw [ed] at h1; exact h1.elim
      | some kvs =>
        rw [ed] at h1
        cases ek : keyD k with
        | none => rw [ek] at h1; exact h1.elim
        | some key =>
          rw [ek] at h1
          cases x <;> try exact h1.elim
          rename_i z
          simp only at h1
          by_cases c : (lookI kvs key).isSome = false ∧ kvs.length < 1000
          · rw [if_pos c] at h1
            obtain ⟨c1, c2⟩ := dcOf_of ed
            obtain ⟨fs, hd⟩ := (b1.sto hb).dict c2
            simp only [RD, Rep] at r0
            rw [keyD_rep r1 ek, r0]
            refine ⟨st, _, rfl, DPut.k hd (by rw [List.length_map]; exact small1000 (by omega)), h1 σ F1 _ (b1.stUpd hb ?_)⟩
            rw [putK_V c.1]
            exact StoAt.ofDict rfl fs upd_same
          · rw [if_neg c] at h1; exact h1.elim)
/-- d[k] -/
def mDGet (i : Nat) (φk : Ph D) : Ph D := fun ρ S => match ρ[i]? with
  | some .st => (φk ρ S).bind fun k S1 => (match dcOf ρ i S1, keyD k with
    | some kvs, some key => (match lookI kvs key with
      | some z => .ok (.int z) S1
      | none => .bad)
    | _, _ => .bad)
  | _ => .bad
theorem et_dget (i : Nat) (hk : ET W tk φk) : ET W (tDGet (tVar i) tk) (mDGet i φk) := fun F0 H0 st hs F H S ρ σ Q b h => by
  unfold mDGet at h
  cases es : ρ[i]? with
  | none => rw [es] at h; exact h.elim
  | some l =>
    rw [es] at h
    cases l <;> try exact h.elim
    obtain ⟨hb, ev⟩ := b.loc i _ es
    refine ⟨.ref st, ev, hk _ _ _ _ _ _ _ _ _ _ b (GW.bind rm_d h fun k S1 v F1 H1 b1 e1 r1 h1 => ?_)⟩
    cases ed : dcOf ρ i S1 with
    | none => rw [ed] at h1; exact h1.elim
    | some kvs =>
      rw [ed] at h1
      cases ek : keyD k with
      | none => rw [ek] at h1; exact h1.elim
      | some key =>
        rw [ek] at h1
        simp only at h1
        cases el : lookI kvs key with
        | none => rw [el] at h1; exact h1.elim
        | some z =>
          rw [el] at h1
          obtain ⟨c1, c2⟩ := dcOf_of ed
          obtain ⟨fs, hd⟩ := (b1.sto hb).dict c2
          rw [keyD_rep r1 ek]
          have g := DGet.k (k := key) hd
          rw [lookI_V, el] at g
          exact ⟨st, .int z, rfl, g, h1 _ F1 H1 b1 Ext.refl (rep_int _)⟩
end
/-! ### a def that makes its one object first: x = {} -/
def stoD : Sto := { sto0 with mode := .dc [] }
/-- the outcome of what stands behind, as a def's: the names' count is n, the dict's name is the one behind the parameters -/
def runN (n : Nat) (φ : Ph Ctl) : Fn := fun ds _ => match φ (ds.map .d ++ [.st] ++ List.replicate n .un) stoD with
  | .ok (.rt d) _ => .ok (.d d) sto0
  | .ok (.ro xs) _ => .ok (.own xs) sto0
  | .ok (.nx _) _ => .ok (.d .non) sto0
  | .exc x _ _ => .exc x [] sto0
  | _ => .bad
theorem fn_dict {k n : Nat} {N : List Str} {t : TS} {φ : Ph Ctl} {vs : List V} {H : Hp} {Q : VK} {E : XK} (hN : N.length = k + 1 + n) (ht : ST (fun cls d _ H => E cls d H) t φ) (h : spD false k (runN n φ) vs H Q E) :
    tSeq (tAsg tDNewK (gName k)) t { nx := fun _ H' => Q .non H', rt := Q } (L2.start N vs) H := by
  obtain ⟨F, st0, S0, ds, vs', sub, ev, _, hl, r, h⟩ := h
  have ev' : vs = vs' := ev
  subst ev'
  intro d hd
  have fd := sub.none hd
  have es : (L2.start N vs).set k (some (.ref d)) = vs.map some ++ [some (.ref d)] ++ List.replicate n none := by
    unfold L2.start
    have e1 : N.length - vs.length = n + 1 := by rw [hN, r.length, hl]; omega
    rw [e1, List.replicate_succ, List.set_append, List.length_map, r.length, hl, if_neg (by omega), Nat.sub_self]
    simp
  show t _ ((L2.start N vs).set k (some (.ref d))) (upd H d (.dK []))
  rw [es]
  obtain ⟨e1, s1⟩ := Ext.lay0 (st := d) (hb := true) (o := .dK []) sub hd
  have kp : ∀ a u, H a = some u → upd H d (.dK []) a = some u := fun a u w => by rw [upd_ne (ne_of_none w hd)]; exact w
  have key : ∀ (i : Nat) (l : L), (ds.map L.d ++ [L.st] ++ List.replicate n L.un)[i]? = some l → LocAt F (upd H d (.dK [])) (upd H d (.dK [])) d true (vs.map some ++ [some (.ref d)] ++ List.replicate n none)[i]? l := fun i l hi => by
    rw [List.append_assoc] at hi ⊢
    rw [List.getElem?_append] at hi
    rw [List.length_map] at hi
    by_cases c : i < ds.length
    · rw [if_pos c, List.getElem?_map] at hi
      cases e : ds[i]? with
      | none => rw [e] at hi; cases hi
      | some x =>
        rw [e] at hi
        cases hi
        obtain ⟨y, ey, ry⟩ := r.get e
        exact ⟨y, by rw [List.getElem?_append, List.length_map, r.length, if_pos c, List.getElem?_map, ey]; rfl, ry⟩
    · rw [if_neg c] at hi
      rw [List.getElem?_append, List.length_map, r.length, if_neg c]
      cases z : i - ds.length with
      | zero => rw [z] at hi; cases hi; exact ⟨rfl, rfl⟩
      | succ j =>
        rw [z] at hi
        simp only [List.singleton_append, List.getElem?_cons_succ, List.getElem?_replicate] at hi
        split at hi
        · cases hi; trivial
        · cases hi
  have b : Bd F (upd H d (.dK [])) d true F (upd H d (.dK [])) stoD (ds.map L.d ++ [L.st] ++ List.replicate n L.un) (vs.map some ++ [some (.ref d)] ++ List.replicate n none) := by
    refine ⟨s1, Ext.refl, fun _ => StoAt.ofDict (kvs := []) rfl fd upd_same, fun _ => by rw [upd_same]; exact nofun, key, fun i j p xs ys _ h1 => ?_, ?_⟩
    · have m : L.own xs ∈ ds.map L.d ++ [L.st] ++ List.replicate n L.un := List.mem_of_getElem? h1
      simp only [List.mem_append, List.mem_map, List.mem_replicate, List.mem_singleton] at m
      rcases m with (⟨x, _, m⟩ | m) | ⟨_, m⟩ <;> cases m
    · simp only [List.length_append, List.length_map, List.length_replicate, List.length_singleton, r.length]
  refine ht _ _ _ _ _ _ _ _ _ _ b ?_
  have ex : ∀ {F' H' : Hp}, Ext d true F (upd H d (.dK [])) F' H' → Ext st0 false F H F' H' := fun e => ⟨e.ff, fun a u w _ => e.keep a u (kp a u w) fun _ => ne_of_none w hd, fun a w1 w2 => by
    cases q : H a with
    | none => exact absurd q w2
    | some u => exact e.new a w1 (by rw [kp a u q]; exact nofun)⟩
  unfold runN at h
  cases o : φ (ds.map L.d ++ [L.st] ++ List.replicate n L.un) stoD with
  | ok c S' =>
    rw [o] at h
    cases c with
    | nx ρ' => exact fun σ' F' H' b' => h .non F' H' (ex b'.ext) b'.sub nofun (by simp [Rep])
    | rt x => exact fun v F' H' b' r' => h v F' H' (ex b'.ext) b'.sub nofun r'
    | ro xs =>
      refine fun p us F' H' b' q1 q2 q3 r' => h p us F' H' (ex b'.ext) b'.sub nofun q1 q2 ?_ r'
      cases z : H p with
      | none => rfl
      | some u => rw [kp p u z] at q3; cases q3
    | bk ρ' => exact h.elim
    | ct ρ' => exact h.elim
  | exc x ρ' S' =>
    rw [o] at h
    exact fun cls dx σ' F' H' b' xr => h cls dx F' H' (ex b'.ext) b'.sub nofun xr
  | bad => rw [o] at h; exact h.elim
end DL

set_option Elab.async false
set_option linter.all false
set_option maxRecDepth 100000
set_option maxHeartbeats 4000000
set_option autoImplicit false
namespace DL
open PySem PySem.Spec L2
open PyProof.Rows (envOfC)

/-- a module's number -/
theorem pe_k {X : Cx} {x : Str} {i : Int} {pos : Pos} (hg : Gl X x) (hm : ∃ t, X.mg x = some (.int i t)) (hd : (x == ("__debug__" : Str)) = false := by decide) : PE X (.Name x pos) (tC (.int i)) := by
  obtain ⟨t, e⟩ := hm
  exact pe_glob hg e ⟨t, rfl⟩ hd
/-- a method (or __init__) of the text as it stands behind the top -/
structure Dm (K : PySem.W.Frag) (x qual : Str) (st : Stmt) (ps : List Str) (f : Addr) (fd : FuncData) : Prop where
  fn : FunD K x qual (defArgs st) (defBody st) (defScope st) [] [] f fd
  b : Binds K fd ps []
theorem dm_ok {P : Program} {w : World} {K : PySem.W.Frag} {mg : Str → Option Value} {base : Heap} {x qual : Str} {st : Stmt} {f : Addr} {fd : FuncData} {N ps : List Str} {k n nn : Nat} {hb : Bool} {φ : Ph Ctl} (D : Dm K x qual st ps f fd) (S : FnScope N ps (defScope st))
    (hp : ps.length = (if hb = true then 1 else 0) + n) (hN : N.length = (if hb = true then 1 else 0) + n + nn)
    (body : ∀ (cdv : Value) (A : Around) (outer : List Env) (s : Shared) (H : Hp) (E : XK), Room k (A.deeper (envOfC qual (defScope st) s.heap.objs.size f cdv)) →
      ∃ t, PSs (cxOf (L2N.CX P w) P w K mg base N qual (defScope st) f cdv A outer s H E) (defBody st) t ∧ ST (fun cls d _ H => E cls d H) t φ) : FnOk P w K mg base (L2N.CX P w) (k + 1) f fd ps (spD hb n (runD hb nn φ)) :=
  D.fn.ok S (spD_len hp) (fun cdv A outer s H vs Q E hr h => by
    obtain ⟨t, h1, h2⟩ := body cdv A outer s H E hr
    exact ⟨t, h1, fn_ok hN h2 h⟩)
/-- a def whose first row is x = {} -/
theorem cal_dict {P : Program} {w : World} {K : PySem.W.Frag} {mg : Str → Option Value} {base : Heap} {x : Str} {st : Stmt} {f : Addr} {fd : FuncData} {N ps : List Str} {k n nn : Nat} {φ : Ph Ctl} (D : Df K mg x st ps f fd) (S : FnScope N ps (defScope st))
    (hp : ps.length = n) (hN : N.length = n + 1 + nn)
    (body : ∀ (cdv : Value) (A : Around) (outer : List Env) (s : Shared) (H : Hp) (E : XK), Room k (A.deeper (envOfC x (defScope st) s.heap.objs.size f cdv)) →
      ∃ t, PSs (cxOf (L2N.CX P w) P w K mg base N x (defScope st) f cdv A outer s H E) (defBody st) (tSeq (tAsg tDNewK (gName n)) t) ∧ ST (fun cls d _ H => E cls d H) t φ) : Cal P w K mg base x (k + 1) ps (spD false n (runN nn φ)) :=
  ⟨f, fd, D.fn.ok S (spD_len (by rw [hp]; simp)) (fun cdv A outer s H vs Q E hr h => by
    obtain ⟨t, h1, h2⟩ := body cdv A outer s H E hr
    exact ⟨_, h1, fn_dict hN h2 h⟩), D.mgf, D.fn.kp, D.b⟩
/-- a class whose objects are made by its name -/
structure Mke (P : Program) (w : World) (K : PySem.W.Frag) (mg : Str → Option Value) (base : Heap) (x : Str) (C : Addr) (k n : Nat) (m : Fn) : Prop where
  ex : ∃ (f : Addr) (fd : FuncData) (ps : List Str), Mk K C f ∧ FnOk P w K mg base (L2N.CX P w) k f fd ps (spD true n m) ∧ mg x = some (.ref C) ∧ Binds K fd ps []
theorem passE {X : Cx} {E : XK} (tk : L2N.Takes X (fun cls d _ H => E cls d H)) : Passes (L2N.CX X.prog X.w) X E := L2N.passes_call tk fun _ _ _ _ h => h
theorem pe_mke {X : Cx} {E : XK} {x : Str} {C : Addr} {k j n : Nat} {m : Fn} {e : Expr} {es : List Expr} {p pos : Pos} {t : TA} (c : Mke X.prog X.w X.K X.mg X.base x C k n m) (hr : Room j X.A) (hk : k + 1 ≤ j) (hg : Gl X x) (tk : L2N.Takes X (fun cls d _ H => E cls d H)) (ha : PA X (e :: es) t)
    (hdb : (x == ("__debug__" : Str)) = false := by decide) (he : starEach (e :: es) X.env = (false, eval e X.env) :: starEach es X.env := by rfl) (hpl : (backTo pos (starEach es X.env)).any (·.1) = false := by rfl) :
    PE X (.Call (.Name x p) (e :: es) [] pos) (tMake C (spD true n m) [] E t) := by
  obtain ⟨f, fd, ps, M, F, g, b⟩ := c.ex
  exact pe_make M F (hr.mono hk) hg g b .nil (passE tk) ha hdb he hpl
/-- an own error class with an __init__ of two stores -/
structure X2 (P : Program) (w : World) (K : PySem.W.Frag) (mg : Str → Option Value) (base : Heap) (x : Str) (C : Addr) (f g : Str) : Prop where
  oc : OexC K C
  nf : PySem.W.findIn K (.ref C) f = some none
  ng : PySem.W.findIn K (.ref C) g = some none
  mgc : mg x = some (.ref C)
  ex : ∃ (fI : Addr) (fd : FuncData) (ps : List Str), PySem.W.findIn K (.ref C) "__init__" = some (some (.ref fI)) ∧ PySem.W.typeIn K (.ref fI) = some (.type "function") ∧ FnOk P w K mg base CX0 1 fI fd ps (spX2 K f g) ∧ Binds K fd ps []
structure X1 (P : Program) (w : World) (K : PySem.W.Frag) (mg : Str → Option Value) (base : Heap) (x : Str) (C : Addr) (f : Str) : Prop where
  oc : OexC K C
  nf : PySem.W.findIn K (.ref C) f = some none
  mgc : mg x = some (.ref C)
  ex : ∃ (fI : Addr) (fd : FuncData) (ps : List Str), PySem.W.findIn K (.ref C) "__init__" = some (some (.ref fI)) ∧ PySem.W.typeIn K (.ref fI) = some (.type "function") ∧ FnOk P w K mg base CX0 1 fI fd ps (spX1 K f) ∧ Binds K fd ps []
theorem raise_x2 {X : Cx} {W : WX} {x : Str} {C : Addr} {f g : Str} {j : Nat} {e : Expr} {es : List Expr} {p pos pos2 : Pos} {t : TA} (c : X2 X.prog X.w X.K X.mg X.base x C f g) (hr : Room j X.A) (hk : 2 ≤ j) (hc : X.calm = true) (tk : L2N.Takes X W) (hg : Gl X x) (ha : PA X (e :: es) t)
    (hdb : (x == ("__debug__" : Str)) = false := by decide) (he : starEach (e :: es) X.env = (false, eval e X.env) :: starEach es X.env := by rfl) (hpl : (backTo pos (starEach es X.env)).any (·.1) = false := by rfl) :
    PS X (.Raise (some (.Call (.Name x p) (e :: es) [] pos)) none pos2) (fun _ σ H => tMkO C (spX2 X.K f g) [] t σ H fun cls d H' => W cls d σ H') := by
  obtain ⟨fI, fd, ps, h1, h2, h3, h4⟩ := c.ex
  exact L2N.ps_raise hc tk (pmkN c.oc h1 h2 h3 (hr.mono hk) h4 (fun _ _ _ _ _ _ _ z => z.elim) hg c.mgc ha hdb he hpl)
theorem raise_x1 {X : Cx} {W : WX} {x : Str} {C : Addr} {f : Str} {j : Nat} {e : Expr} {es : List Expr} {p pos pos2 : Pos} {t : TA} (c : X1 X.prog X.w X.K X.mg X.base x C f) (hr : Room j X.A) (hk : 2 ≤ j) (hc : X.calm = true) (tk : L2N.Takes X W) (hg : Gl X x) (ha : PA X (e :: es) t)
    (hdb : (x == ("__debug__" : Str)) = false := by decide) (he : starEach (e :: es) X.env = (false, eval e X.env) :: starEach es X.env := by rfl) (hpl : (backTo pos (starEach es X.env)).any (·.1) = false := by rfl) :
    PS X (.Raise (some (.Call (.Name x p) (e :: es) [] pos)) none pos2) (fun _ σ H => tMkO C (spX1 X.K f) [] t σ H fun cls d H' => W cls d σ H') := by
  obtain ⟨fI, fd, ps, h1, h2, h3, h4⟩ := c.ex
  exact L2N.ps_raise hc tk (pmkN c.oc h1 h2 h3 (hr.mono hk) h4 (fun _ _ _ _ _ _ _ z => z.elim) hg c.mgc ha hdb he hpl)
/-- such an __init__, by its text -/
theorem init_x2 {P : Program} {w : World} {K : PySem.W.Frag} {mg : Str → Option Value} {base : Heap} {qual : Str} {st : Stmt} {f : Addr} {fd : FuncData} {a b s1 : Str} (D : Dm K "__init__" qual st [s1, a, b] f fd) (S : FnScope [s1, a, b] [s1, a, b] (defScope st))
    (body : ∀ (cdv : Value) (A : Around) (outer : List Env) (s : Shared) (H : Hp) (E : XK), PSs (cxOf CX0 P w K mg base [s1, a, b] qual (defScope st) f cdv A outer s H E) (defBody st) (tSeq (tOst K a (tVar 0) (tVar 1)) (tOst K b (tVar 0) (tVar 2)))) : FnOk P w K mg base CX0 1 f fd [s1, a, b] (spX2 K a b) :=
  D.fn.ok S (fun vs H Q E h => by obtain ⟨_, _, _, _, rfl, _⟩ := h; rfl) (fun cdv A outer s H vs Q E hr h => ⟨_, body cdv A outer s H E, pure_x2 rfl h⟩)
theorem init_x1 {P : Program} {w : World} {K : PySem.W.Frag} {mg : Str → Option Value} {base : Heap} {qual : Str} {st : Stmt} {f : Addr} {fd : FuncData} {a s1 : Str} (D : Dm K "__init__" qual st [s1, a] f fd) (S : FnScope [s1, a] [s1, a] (defScope st))
    (body : ∀ (cdv : Value) (A : Around) (outer : List Env) (s : Shared) (H : Hp) (E : XK), PSs (cxOf CX0 P w K mg base [s1, a] qual (defScope st) f cdv A outer s H E) (defBody st) (tOst K a (tVar 0) (tVar 1))) : FnOk P w K mg base CX0 1 f fd [s1, a] (spX1 K a) :=
  D.fn.ok S (fun vs H Q E h => by obtain ⟨_, _, _, rfl, _⟩ := h; rfl) (fun cdv A outer s H vs Q E hr h => ⟨_, body cdv A outer s H E, by
    obtain ⟨x, C, y, rfl, e, T, n, q⟩ := h
    exact ⟨y, rfl, .ref x, rfl, x, C, rfl, T, n, .inl ⟨e, q⟩⟩⟩)
end DL

set_option Elab.async false
set_option linter.all false
set_option maxRecDepth 100000
set_option maxHeartbeats 4000000
set_option autoImplicit false
namespace DL
open PySem PySem.Spec L2
open PyProof.Rows (envOfC)

/-! ### values all of whose objects are new -/
/-- G: objects that stand, that nothing else holds: they were not tracked in H, they aren't frozen -/
def New (G H F' H' : Hp) : Prop := ∀ a o, G a = some o → H a = none ∧ H' a = some o ∧ F' a = none
theorem new_nil {H F' H' : Hp} : New (fun _ => none) H F' H' := fun a o e => nomatch e
/-- no two of a new list's members are one object -/
def DR (vs : List V) : Prop := ∀ (i j : Nat) (a : Addr), vs[i]? = some (.ref a) → vs[j]? = some (.ref a) → i = j
def Dst (G : Hp) (v : V) : Prop := ∀ (p : Addr) (vs : List V), v = .ref p → G p = some (.lst vs) → DR vs
def RN : RR D V := fun _ H F' H' d v => ∃ G, New G H F' H' ∧ Rep G d v ∧ Dst G v
theorem rep_dom {G : Hp} {d : D} {a : Addr} (r : Rep G d (.ref a)) : G a ≠ none := by
  cases d <;> simp only [Rep] at r <;> try (cases r; done)
  all_goals (first
    | (obtain ⟨b, xs, e, f, _⟩ := r; cases e; rw [f]; exact nofun)
    | (obtain ⟨b, dx, xs, e, f, _⟩ := r; cases e; rw [f]; exact nofun))
theorem reps_dom {G : Hp} {ds : List D} {vs : List V} (r : Reps G ds vs) {i : Nat} {a : Addr} (h : vs[i]? = some (.ref a)) : G a ≠ none := by
  obtain ⟨d, _, rd⟩ := r.get' h
  exact rep_dom rd
theorem DR.snoc {vs : List V} {v : V} (h : DR vs) (n : ∀ (i : Nat) (a : Addr), vs[i]? = some (V.ref a) → v ≠ V.ref a) : DR (vs ++ [v]) := by
  have at' : ∀ {i : Nat} {a : Addr}, (vs ++ [v])[i]? = some (V.ref a) → vs[i]? = some (V.ref a) ∨ (i = vs.length ∧ v = V.ref a) := fun {i a} e => by
    rw [List.getElem?_append] at e
    by_cases c : i < vs.length
    · rw [if_pos c] at e; exact .inl e
    · rw [if_neg c] at e
      by_cases z : i - vs.length = 0
      · rw [z] at e; cases e; exact .inr ⟨by omega, rfl⟩
      · rw [List.getElem?_cons, if_neg z] at e; cases e
  intro i j a h1 h2
  rcases at' h1 with h1 | ⟨e1, z1⟩ <;> rcases at' h2 with h2 | ⟨e2, z2⟩
  · exact h i j a h1 h2
  · exact absurd z2 (n i a h1)
  · exact absurd z1 (n j a h2)
  · rw [e1, e2]
theorem rm_n : RM RN := fun _ _ _ _ _ _ _ k h => by
  obtain ⟨G, n, r, z⟩ := h
  exact ⟨G, fun a o e => ⟨k a (n a o e).1, (n a o e).2⟩, r, z⟩
abbrev NT (W : WX) (t : TE) (φ : Ph D) : Prop := GT RN W t φ
def scD : D → Bool
  | .tup _ => false
  | .lst _ => false
  | .obj _ _ _ => false
  | _ => true
theorem sc_rep {F G : Hp} {d : D} {v : V} (h : scD d = true) (r : Rep F d v) : Rep G d v := by
  cases d <;> simp only [scD] at h <;> try (cases h; done)
  all_goals (simp only [Rep] at r ⊢; exact r)
def mSc (φ : Ph D) : Ph D := fun ρ S => (φ ρ S).bind fun d S1 => if scD d = true then .ok d S1 else .bad
theorem nt_sc {W : WX} {t : TE} {φ : Ph D} (h : ET W t φ) : NT W t (mSc φ) := fun F0 H0 st hb F H S ρ σ Q b q =>
  h _ _ _ _ _ _ _ _ _ _ b (GW.bind rm_n q fun d S1 v F1 H1 b1 e1 r1 q1 => by
    by_cases c : scD d = true
    · rw [if_pos c] at q1
      exact q1 v F1 H1 b1 Ext.refl ⟨fun _ => none, new_nil, sc_rep c r1, nofun⟩
    · rw [if_neg c] at q1; exact q1.elim)
def join (G G' : Hp) : Hp := fun a => match G a with
  | some o => some o
  | none => G' a
theorem join_l {G G' : Hp} {a : Addr} {o : HO} (h : G a = some o) : join G G' a = some o := by unfold join; rw [h]
theorem join_r {G G' : Hp} {a : Addr} (h : G a = none) : join G G' a = G' a := by unfold join; rw [h]
theorem sub_joinL (G G' : Hp) : Sub G (join G G') := fun a o h => join_l h
theorem sub_joinR {G G' : Hp} (d : ∀ a o, G' a = some o → G a = none) : Sub G' (join G G') := fun a o h => by rw [join_r (d a o h)]; exact h
theorem nt_lc {W : WX} {K : PySem.W.Frag} {wi : TI} {tt : TT} {te : TE} {φi : Ph (List D)} {φt : Ph Bool} {φe : Ph D} (g : Tgt) (vs : List Nat) (hgv : ∀ i ∈ g.names, i ∈ vs) (hi : IT W wi φi) (ht : BT W0 tt φt) (he : NT W0 te φe) :
    NT W (tLc wi (TgtT K g) tt te vs) (mFrz (mLc g vs φi φt φe)) := fun F0 H0 st hb F H S ρ σ Q b q =>
  hi _ _ _ _ _ _ _ _ _ _ b (by
    have q' : GW RN W F0 H0 st hb F H ρ σ ((φi ρ S).bind fun ds S1 => (if line ds.length = true then compD g φt φe ds (wipeL ρ vs) S1 else .bad).bind fun xs S2 => .ok (.lst xs) S2) Q := by
      have e : mFrz (mLc g vs φi φt φe) ρ S = (φi ρ S).bind fun ds S1 => (if line ds.length = true then compD g φt φe ds (wipeL ρ vs) S1 else .bad).bind fun xs S2 => .ok (.lst xs) S2 := by
        unfold mFrz mLc
        cases φi ρ S <;> rfl
      rw [← e]; exact q
    refine GW.bind rm_n q' fun ds S1 J F1 H1 b1 e1 r1 q1 D hD => ?_
    have w : Walk J ds.length (fun H => Sub F1 H) (YD F1 ds) := r1
    by_cases hz : line ds.length = true
    · rw [if_pos hz] at q1
      have hz' : ds.length ≤ 1000 := of_decide_eq_true hz
      have h0D : H0 D = none := b1.h0none hD
      have f1D : F1 D = none := b1.sub.none hD
      have nwD : ∀ (j : Nat) (ys : List DL.D), ρ[j]? = some (.own ys) → σ[j]? ≠ some (some (.ref D)) := fun j ys h => b1.noOwn hD j ys h
      refine lc_it w (fun i H2 => ∃ F2 S2 acc accD G, Bd F1 H0 st hb F2 H2 S2 ρ σ ∧ Ext st hb F1 H1 F2 H2 ∧ H2 D = some (.lst acc) ∧ F2 D = none ∧ Reps G accD acc ∧ New G H1 F2 H2 ∧ G D = none ∧ DR acc ∧ accD.length ≤ i ∧
          GW RN W F0 H0 st hb F1 H1 ρ σ ((compD g φt φe (ds.drop i) (wipeL ρ vs) S2).bind fun xs S3 => .ok (.lst (accD ++ xs)) S3) Q)
        ⟨F1, S1, [], [], fun _ => none, b1.up.updN h0D f1D nwD, Ext.refl.updN hD, upd_same, f1D, reps_nil.mpr rfl, new_nil, rfl, (fun i j a h => by simp at h), Nat.le_refl _, ?_⟩ ?_ ?_ ?_
      · rw [List.drop_zero]
        cases o : compD g φt φe ds (wipeL ρ vs) S1 with
        | ok xs S3 => rw [o] at q1; exact q1
        | exc x ρ' S3 => rw [o] at q1; exact q1
        | bad => rw [o] at q1; exact q1
      · rintro i H2 _ ⟨F2, S2, acc, accD, G, b2, e2, _⟩
        exact e2.ff.trans b2.sub
      · rintro i x H2 H3 hi ⟨F2, S2, acc, accD, G, b2, e2, hH, fD, ra, nG, gD, dr, hl, q2⟩ y
        obtain ⟨d, F3, ed, b3, e3, r3⟩ := y.go e2.ff b2
        have hD3 : H3 D = some (.lst acc) := e3.keep D _ hH fun h z => by subst z; exact b2.st0 h h0D
        have fD3 : F3 D = none := e3.new D fD (by rw [hH]; exact nofun)
        have stG : ∀ a o, G a = some o → hb = true → a ≠ st := fun a o e h z => by
          subst z; exact b1.stH h (nG a o e).1
        have nG3 : New G H1 F3 H3 := fun a o e => by
          obtain ⟨n1, n2, n3⟩ := nG a o e
          exact ⟨n1, e3.keep a o n2 fun h => stG a o e h, e3.new a n3 (by rw [n2]; exact nofun)⟩
        have edr : ds.drop i = d :: ds.drop (i + 1) := by
          rw [List.getElem?_eq_some_iff] at ed
          obtain ⟨h1, h2⟩ := ed
          rw [← h2]
          exact List.drop_eq_getElem_cons h1
        rw [edr] at q2
        simp only [compD] at q2
        cases p : g.put d (wipeL ρ vs) with
        | none => rw [p] at q2; exact q2.elim
        | some ρ3 =>
          rw [p] at q2
          simp only at q2
          refine tgt_ok2 (b3.wipes vs) r3 p fun σ' b4 hlen hnm => ⟨?_, ?_⟩
          · refine wipe_same (by rw [hlen, wipe_length]) fun j hj => ?_
            rw [hnm j fun z => hj (hgv j z), wipe_get, if_neg hj]
          · have b4' := b4.up
            refine ht _ _ _ _ _ _ _ _ _ _ b4' ?_
            have asc : ∀ {α β : Type} (o : Out α) (k : α → Sto → Out (List DL.D)) (l : List DL.D → Sto → Out DL.D), (o.bind k).bind l = o.bind fun a S => (k a S).bind l := fun o k l => by cases o <;> rfl
            rw [asc (β := Nat)] at q2
            refine GW.noX q2 fun c S5 c' F5 H5 b5 e5 rc q3 => ?_
            cases (show c = c' from rc)
            have ex5 : Ext st hb F1 H1 F5 H5 := (e2.trans e3 b2.stH).trans e5 b3.stH
            have hD5 : H5 D = some (.lst acc) := e5.keep D _ hD3 fun h z => by subst z; exact b2.st0 h h0D
            have fD5 : F5 D = none := e5.new D fD3 (by rw [hD3]; exact nofun)
            have bρ5 : Bd F1 H0 st hb F5 H5 S5 ρ σ := b3.go (S' := S5) e5 b5.sub b5.sto
            have nG5 : New G H1 F5 H5 := fun a o e => by
              obtain ⟨n1, n2, n3⟩ := nG3 a o e
              exact ⟨n1, e5.keep a o n2 fun h => stG a o e h, e5.new a n3 (by rw [n2]; exact nofun)⟩
            cases c
            · refine iteF ?_
              rw [if_neg Bool.false_ne_true] at q3
              exact ⟨F5, S5, acc, accD, G, bρ5, ex5, hD5, fD5, ra, nG5, gD, dr, by omega, q3⟩
            · refine iteT ?_
              rw [if_pos rfl, asc (β := Nat)] at q3
              refine he _ _ _ _ _ _ _ _ _ _ (b5.up) ?_
              refine GW.noX q3 fun z S6 u F6 H6 b6 e6 rz q4 => ?_
              obtain ⟨G', nG', rz', _⟩ := rz
              have hD6 : H6 D = some (.lst acc) := e6.keep D _ hD5 fun h z => by subst z; exact b2.st0 h h0D
              have fD6 : F6 D = none := e6.new D fD5 (by rw [hD5]; exact nofun)
              have nG6 : New G H1 F6 H6 := fun a o e => by
                obtain ⟨n1, n2, n3⟩ := nG5 a o e
                exact ⟨n1, e6.keep a o n2 fun h => stG a o e h, e6.new a n3 (by rw [n2]; exact nofun)⟩
              have dis : ∀ a o, G' a = some o → G a = none := fun a o e => by
                cases z : G a with
                | none => rfl
                | some w => exact absurd (nG' a o e).1 (by rw [(nG5 a w z).2.1]; exact nofun)
              have g'D : G' D = none := by
                cases z : G' D with
                | none => rfl
                | some w => exact absurd (nG' D w z).1 (by rw [hD5]; exact nofun)
              have n1' : ∀ a o, G' a = some o → H1 a = none := fun a o e => ex5.nones b5.stH a (nG' a o e).1
              refine ⟨acc, hD6, ?_, F6, S6, acc ++ [u], accD ++ [z], join G G', (bρ5.go (S' := S6) e6 b6.sub b6.sto).updN h0D fD6 nwD, ((ex5.trans e6 b5.stH)).updN hD, upd_same, fD6, ?_, ?_, ?_, dr.snoc (fun i a e1 e2 => ?_), ?_, ?_⟩
              · rw [ra.length]; exact small1000 (by omega)
              · exact (Reps.mono (sub_joinL G G') _ _ ra).append (Reps.one (Rep.mono (sub_joinR dis) _ _ rz'))
              · intro a o e
                have key : H1 a = none ∧ H6 a = some o ∧ F6 a = none := by
                  cases zg : G a with
                  | some w => rw [join_l zg] at e; cases e; exact nG6 a _ zg
                  | none => rw [join_r zg] at e; exact ⟨n1' a o e, (nG' a o e).2⟩
                have na : a ≠ D := fun w => by
                  subst w
                  rw [join_r gD, g'D] at e; cases e
                exact ⟨key.1, by rw [upd_ne na]; exact key.2.1, key.2.2⟩
              · rw [join_r gD]; exact g'D
              · subst e2
                have h1 := reps_dom ra e1
                cases z : G' a with
                | none => exact rep_dom rz' z
                | some o => exact h1 (dis a o z)
              · rw [List.length_append]; simp only [List.length_cons, List.length_nil]; omega
              · rw [asc (β := Nat)] at q4
                have e : ∀ (o : Out (List DL.D)), (o.bind fun a S => ((Out.ok (z :: a) S : Out (List DL.D)).bind fun xs S3 => (Out.ok (.lst (accD ++ xs)) S3 : Out DL.D))) = o.bind fun xs S3 => .ok (.lst (accD ++ [z] ++ xs)) S3 := fun o => by
                  cases o
                  · simp [Out.bind]
                  · rfl
                  · rfl
                rw [e] at q4
                exact q4
      · rintro H2 ⟨F2, S2, acc, accD, G, b2, e2, hH, fD, ra, nG, gD, dr, hl, q2⟩
        rw [List.drop_length] at q2
        simp only [compD, Out.bind, List.append_nil] at q2
        refine q2 (.ref D) F2 H2 (b1.down b2) e2 ⟨upd G D (.lst acc), fun a o e => ?_, rep_lst ra gD, fun p vs e g => by cases e; rw [upd_same] at g; cases g; exact dr⟩
        by_cases z : a = D
        · subst z; rw [upd_same] at e; cases e; exact ⟨hD, hH, fD⟩
        · rw [upd_ne z] at e; exact nG a o e
    · rw [if_neg hz] at q1; exact q1.elim)
end DL

set_option Elab.async false
set_option linter.all false
set_option maxRecDepth 100000
set_option maxHeartbeats 4000000
set_option autoImplicit false
namespace DL
open PySem PySem.Spec L2
open PyProof.Rows (envOfC)

def mTupN (φ : Ph D) : Ph D := m1 (fun d S => match d with
      | .lst xs => .ok (.tup xs) S
      | _ => .bad) φ
theorem nt_tuple {W : WX} {K : PySem.W.Frag} {t : TE} {φ : Ph D} (h : NT W t φ) : NT W (tCB (fun xs H Q => ∃ p ys, xs = [.ref p] ∧ ((SqL K H p ys ∧ ∀ l, H l = none → Q (.ref l) (upd H l (.tup ys))) ∨ (SqT K H p ys ∧ Q (.ref p) H))) (tCons t tNil))
    (mTupN φ) := fun F0 H0 st hb F H S ρ σ Q b q =>
  h _ _ _ _ _ _ _ _ _ _ b (by
    unfold mTupN m1 at q
    cases o : φ ρ S with
    | ok d S1 =>
      rw [o] at q
      intro v F1 H1 b1 e1 r1
      simp only [Out.bind] at q
      cases d <;> try exact q.elim
      rename_i xs
      obtain ⟨G, nG, r, _⟩ := r1
      simp only [Rep] at r
      obtain ⟨a, ys, rfl, ga, rs⟩ := r
      refine ⟨a, ys, rfl, .inl ⟨SqL.of (nG a _ ga).2.1, fun l hl => ?_⟩⟩
      have f1l : F1 l = none := b1.sub.none hl
      have gl : G l = none := by
        cases z : G l with
        | none => rfl
        | some w => rw [(nG l w z).2.1] at hl; cases hl
      refine q _ F1 _ (b1.lay0 hl) (e1.trans (Ext.lay0 b1.sub hl).1 b1.stH) ⟨upd G l (.tup ys), fun x u e => ?_, rep_tup rs gl, fun p vs e g => by cases e; rw [upd_same] at g; cases g⟩
      by_cases z : x = l
      · subst z; rw [upd_same] at e; cases e; exact ⟨e1.nones b1.stH _ hl, upd_same, f1l⟩
      · rw [upd_ne z] at e
        obtain ⟨n1, n2, n3⟩ := nG x u e
        exact ⟨n1, by rw [upd_ne z]; exact n2, n3⟩
    | exc x ρ' S1 => rw [o] at q; exact q
    | bad => rw [o] at q; exact q.elim)
/-! ### statements whose return gives what is new -/
def SN (W : WX) (F0 H0 : Hp) (st : Addr) (hb : Bool) (o : Out Ctl) (Dn : Ends) : Prop := match o with
  | .ok (.nx ρ') S' => ∀ (σ' : L2.St) (F' H' : Hp), Bd F0 H0 st hb F' H' S' ρ' σ' → Dn.nx σ' H'
  | .ok (.rt d) S' => ∀ (v : V) (G F' H' : Hp), Bd F0 H0 st hb F' H' S' [] [] → New G H0 F' H' → Rep G d v → Dst G v → Dn.rt v H'
  | .exc x ρ' S' => ∀ (cls : Value) (dx : Option Addr) (σ' : L2.St) (F' H' : Hp), Bd F0 H0 st hb F' H' S' ρ' σ' → XRep F' H' x cls dx → W cls dx σ' H'
  | _ => False
def TN (W : WX) (t : TS) (φ : Ph Ctl) : Prop :=
  ∀ (F0 H0 : Hp) (st : Addr) (hb : Bool) (F H : Hp) (S : Sto) (ρ : List L) (σ : L2.St) (Dn : Ends), Bd F0 H0 st hb F H S ρ σ → SN W F0 H0 st hb (φ ρ S) Dn → t Dn σ H
theorem GW.stn {α β : Type} {R : RR α β} {W : WX} {F0 H0 F H : Hp} {st : Addr} {hb : Bool} {ρ : List L} {σ : L2.St} {o : Out α} {k : α → Sto → Out Ctl} {Dn : Ends} {Q1 : β → Hp → Prop} (h : SN W F0 H0 st hb (o.bind k) Dn)
    (hk : ∀ a S1 b F1 H1, Bd F0 H0 st hb F1 H1 S1 ρ σ → Ext st hb F H F1 H1 → R st H F1 H1 a b → SN W F0 H0 st hb (k a S1) Dn → Q1 b H1) : GW R W F0 H0 st hb F H ρ σ o Q1 := by
  cases o with
  | ok a S1 => exact fun v F2 H2 b2 e2 r => hk a S1 v F2 H2 b2 e2 r h
  | exc x ρ' S1 => exact fun cls dx F' H' b' xr => h cls dx σ F' H' b' xr
  | bad => exact h
section
variable {W : WX} {K : PySem.W.Frag} {te : TE} {φ : Ph D} {t u : TS} {φt φu : Ph Ctl} {tc : TT} {φc : Ph Bool} {tr : TA} {φl : Ph (List D)}
theorem tn_ret (h : NT W te φ) : TN W (tRet te) (mRet φ) := fun F0 H0 st hb F H S ρ σ Dn b q =>
  h _ _ _ _ _ _ _ _ _ _ b (GW.stn q fun d S1 v F1 H1 b1 e1 r1 q1 => by
    obtain ⟨G, nG, r, z⟩ := r1
    exact q1 v G F1 H1 b1.bare (fun a o e => ⟨b.h0none (nG a o e).1, (nG a o e).2⟩) r z)
theorem tn_next : TN W tNext mNext := fun F0 H0 st hb F H S ρ σ Dn b h => h σ F H b
def mSeqN (φt φu : Ph Ctl) : Ph Ctl := fun ρ S => match φt ρ S with
  | .ok (.nx ρ') S' => φu ρ' S'
  | .exc x ρ' S' => .exc x ρ' S'
  | _ => .bad
theorem tn_seq (h1 : ST W t φt) (h2 : TN W u φu) : TN W (tSeq t u) (mSeqN φt φu) := fun F0 H0 st hb F H S ρ σ Dn b h =>
  h1 _ _ _ _ _ _ _ _ _ _ b (by
    unfold mSeqN at h
    cases o : φt ρ S with
    | ok c S1 =>
      rw [o] at h
      cases c with
      | nx ρ' => exact fun σ' F' H' b' => h2 _ _ _ _ _ _ _ _ _ _ b' h
      | rt d => exact h.elim
      | ro xs => exact h.elim
      | bk ρ' => exact h.elim
      | ct ρ' => exact h.elim
    | exc x ρ' S1 => rw [o] at h; exact h
    | bad => rw [o] at h; exact h.elim)
theorem tn_seqN (h1 : TN W t φt) (h2 : TN W u φu) : TN W (tSeq t u) (mSeq φt φu) := fun F0 H0 st hb F H S ρ σ Dn b h =>
  h1 _ _ _ _ _ _ _ _ _ _ b (by
    unfold mSeq Out.seq at h
    cases o : φt ρ S with
    | ok c S1 =>
      rw [o] at h
      cases c with
      | nx ρ' => exact fun σ' F' H' b' => h2 _ _ _ _ _ _ _ _ _ _ b' h
      | rt d => exact h
      | ro xs => exact h
      | bk ρ' => exact h
      | ct ρ' => exact h
    | exc x ρ' S1 => rw [o] at h; exact h
    | bad => rw [o] at h; exact h.elim)
theorem tn_if (hc : BT W tc φc) (h1 : TN W t φt) (h2 : TN W u φu) : TN W (tIfS tc t u) (mIfS φc φt φu) := fun F0 H0 st hb F H S ρ σ Dn b h =>
  hc _ _ _ _ _ _ _ _ _ _ b (GW.stn h fun c S1 v F1 H1 b1 e1 r1 h1' => by
    cases (show c = v from r1)
    cases c
    · exact iteF (h2 _ _ _ _ _ _ _ _ _ _ b1 h1')
    · exact iteT (h1 _ _ _ _ _ _ _ _ _ _ b1 h1'))
/-! ### a def's promise of what is new -/
def RWN (F H : Hp) (o : Out Res) (Q : VK) (E : XK) : Prop := match o with
  | .ok (.d d) _ => ∀ (v : V) (G F' H' : Hp), Ext 0 false F H F' H' → Sub F' H' → New G H F' H' → Rep G d v → Dst G v → Q v H'
  | .exc x _ _ => ∀ (cls : Value) (dx : Option Addr) (F' H' : Hp), Ext 0 false F H F' H' → Sub F' H' → XRep F' H' x cls dx → E cls dx H'
  | _ => False
def spN (n : Nat) (m : Fn) : Sp := fun vs H Q E => ∃ (F : Hp) (ds : List D), Sub F H ∧ ds.length = n ∧ Reps F ds vs ∧ RWN F H (m ds sto0) Q E
theorem spN_len {n k : Nat} {m : Fn} (hk : k = n) : ∀ vs H Q E, spN n m vs H Q E → vs.length = k := by
  rintro vs H Q E ⟨F, ds, _, hl, r, _⟩
  rw [r.length, hl, hk]
theorem fn_okN {k n : Nat} {N : List Str} {t : TS} {φ : Ph Ctl} {vs : List V} {H : Hp} {Q : VK} {E : XK} (hN : N.length = k + n) (ht : TN (fun cls d _ H => E cls d H) t φ) (h : spN k (runD false n φ) vs H Q E) :
    t { nx := fun _ H' => Q .non H', rt := Q } (L2.start N vs) H := by
  obtain ⟨F, ds, sub, hl, r, h⟩ := h
  have b : Bd F H 0 false F H sto0 (startL false n ds) (L2.start N vs) := by
    have es : L2.start N vs = vs.map some ++ List.replicate n none := by
      unfold L2.start
      have e : N.length - vs.length = n := by rw [hN, r.length, hl]; omega
      rw [e]
    rw [es]
    refine ⟨sub, Ext.refl, nofun, nofun, ?_, ?_, ?_⟩
    · intro i l hi
      have hi' : (ds.map L.d ++ List.replicate n L.un)[i]? = some l := hi
      rw [List.getElem?_append, List.length_map] at hi'
      by_cases c : i < ds.length
      · rw [if_pos c, List.getElem?_map] at hi'
        cases e : ds[i]? with
        | none => rw [e] at hi'; cases hi'
        | some d =>
          rw [e] at hi'
          cases hi'
          obtain ⟨x, ex, rx⟩ := r.get e
          exact ⟨x, by rw [List.getElem?_append, List.length_map, r.length, if_pos c, List.getElem?_map, ex]; rfl, rx⟩
      · rw [if_neg c, List.getElem?_replicate] at hi'
        split at hi'
        · cases hi'; trivial
        · cases hi'
    · intro i j p xs ys n' h1
      have m : L.own xs ∈ ds.map L.d ++ List.replicate n L.un := List.mem_of_getElem? (show (ds.map L.d ++ List.replicate n L.un)[i]? = _ from h1)
      simp only [List.mem_append, List.mem_map, List.mem_replicate] at m
      rcases m with ⟨d, _, m⟩ | ⟨_, m⟩ <;> cases m
    · show _ = (ds.map L.d ++ List.replicate n L.un).length
      simp only [List.length_append, List.length_map, List.length_replicate, r.length]
  refine ht _ _ _ _ _ _ _ _ _ _ b ?_
  unfold runD at h
  cases o : φ (startL false n ds) sto0 with
  | ok c S' =>
    rw [o] at h
    cases c with
    | nx ρ' => exact fun σ' F' H' b' => h .non (fun _ => none) F' H' b'.ext b'.sub new_nil (by simp [Rep]) nofun
    | rt d => exact fun v G F' H' b' nG r' z => h v G F' H' b'.ext b'.sub nG r' z
    | ro xs => exact h.elim
    | bk ρ' => exact h.elim
    | ct ρ' => exact h.elim
  | exc x ρ' S' =>
    rw [o] at h
    exact fun cls dx σ' F' H' b' xr => h cls dx F' H' b'.ext b'.sub xr
  | bad => rw [o] at h; exact h.elim
theorem cal_okN {P : Program} {w : World} {K : PySem.W.Frag} {mg : Str → Option Value} {base : Heap} {x : Str} {st : Stmt} {f : Addr} {fd : FuncData} {N ps : List Str} {k n nn : Nat} {φ : Ph Ctl} (D : Df K mg x st ps f fd) (S : FnScope N ps (defScope st))
    (hp : ps.length = n) (hN : N.length = n + nn)
    (body : ∀ (cdv : Value) (A : Around) (outer : List Env) (s : Shared) (H : Hp) (E : XK), Room k (A.deeper (envOfC x (defScope st) s.heap.objs.size f cdv)) →
      ∃ t, PSs (cxOf (L2N.CX P w) P w K mg base N x (defScope st) f cdv A outer s H E) (defBody st) t ∧ TN (fun cls d _ H => E cls d H) t φ) : Cal P w K mg base x (k + 1) ps (spN n (runD false nn φ)) :=
  ⟨f, fd, D.fn.ok S (spN_len hp) (fun cdv A outer s H vs Q E hr h => by
    obtain ⟨t, h1, h2⟩ := body cdv A outer s H E hr
    exact ⟨t, h1, fn_okN hN h2 h⟩), D.mgf, D.fn.kp, D.b⟩
theorem Cal.noneN {P : Program} {w : World} {K : PySem.W.Frag} {mg : Str → Option Value} {base : Heap} {x : Str} {st : Stmt} {ps : List Str} {f : Addr} {fd : FuncData} {k n : Nat} (D : Df K mg x st ps f fd) (hp : ps.length = n) : Cal P w K mg base x k ps (spN n fun _ _ => .bad) :=
  ⟨f, fd, ⟨spN_len hp, fun A outer s H args us vs Q E hr e0 hb' hv h => by
    obtain ⟨_, _, _, _, _, z⟩ := h
    exact z.elim⟩, D.mgf, D.fn.kp, D.b⟩
/-- what is new is frozen -/
theorem Bd.frzG {F0 H0 F H F' H' G : Hp} {st : Addr} {hb : Bool} {S S' : Sto} {ρ : List L} {σ : L2.St} (b : Bd F0 H0 st hb F H S ρ σ) (e : Ext st hb F H F' H') (b' : Bd F0 H0 st hb F' H' S' ρ σ) (nG : New G H F' H') :
    Bd F0 H0 st hb (DL.join F' G) H' S' ρ σ ∧ Ext st hb F H (DL.join F' G) H' := by
  have ff : Sub F' (DL.join F' G) := sub_joinL _ _
  have jn : ∀ a, F' a = none → H a ≠ none → DL.join F' G a = none := fun a h1 h2 => by
    rw [join_r h1]
    cases z : G a with
    | none => rfl
    | some w => exact absurd (nG a w z).1 h2
  refine ⟨⟨fun a o h => ?_, ⟨b'.ext.ff.trans ff, b'.ext.keep, fun a h1 h2 => ?_⟩, fun h => ?_, b'.st0, fun i l h => ?_, b'.dis, b'.len⟩, ⟨e.ff.trans ff, e.keep, fun a h1 h2 => jn a (e.new a h1 h2) h2⟩⟩
  · cases z : F' a with
    | some w => rw [join_l z] at h; cases h; exact b'.sub a _ z
    | none => rw [join_r z] at h; exact (nG a o h).2.1
  · have h3 := b'.ext.new a h1 h2
    refine jn a h3 fun z => h2 (b.h0none z)
  · obtain ⟨f, u, hu, hi⟩ := b'.sto h
    exact ⟨jn st f (b.stH h), u, hu, hi.mono ff⟩
  · have q := b'.loc i l h
    cases l with
    | un => trivial
    | d x => obtain ⟨v, e1, r⟩ := q; exact ⟨v, e1, Rep.mono ff x v r⟩
    | own xs =>
      obtain ⟨p, vs, e1, e2, e3, e4, r⟩ := q
      obtain ⟨p', vs', e1', e2', _⟩ := b.loc i _ h
      rw [e1] at e1'
      cases e1'
      exact ⟨p, vs, e1, e2, jn p e3 (by rw [e2']; exact nofun), e4, Reps.mono ff xs vs r⟩
    | st => exact q
/-- its call, as what is new -/
def mCallN (m : Fn) (φl : Ph (List D)) : Ph D := fun ρ S => (φl ρ S).bind fun ds S1 => match m ds sto0 with
  | .ok (.d d) _ => .ok d S1
  | .exc x _ _ => .exc x ρ S1
  | _ => .bad
/-- its call, as data -/
theorem et_callN {n k : Nat} {m : Fn} (hn : LN φl k) (hk : n = k) (hl : AT W tr φl) : ET W (tCallSD (spN n m) [] (WE W) tr) (mCallN m φl) := fun F0 H0 st hb F H S ρ σ Q b h =>
  hl _ _ _ _ _ _ _ _ _ _ b (by
    unfold mCallN at h
    cases o : φl ρ S with
    | ok ds S1 =>
      rw [o] at h
      simp only [Out.bind] at h
      refine fun vs F1 H1 b1 e1 r1 => ⟨F1, ds, b1.sub, by rw [hk]; exact hn ρ S ds S1 o, by rw [List.append_nil]; exact r1, ?_⟩
      cases om : m ds sto0 with
      | ok rr S2 =>
        rw [om] at h
        cases rr with
        | d d =>
          intro v G F2 H2 e2 s2 nG r2 _
          have b2 := b1.after0 (st' := 0) e2 s2
          obtain ⟨b3, e3⟩ := b1.frzG e2.of_no b2 nG
          exact h v _ H2 b3 (e1.trans e3 b1.stH) (Rep.mono (sub_joinR fun a o w => by
            cases z : F2 a with
            | none => rfl
            | some u => exact absurd (nG a o w).2.2 (by rw [z]; exact nofun)) _ _ r2)
        | own xs => exact h.elim
      | exc x ρ' S2 =>
        rw [om] at h
        exact fun cls dx F2 H2 e2 s2 xr => h cls dx F2 H2 (b1.after0 e2 s2) xr
      | bad => rw [om] at h; exact h.elim
    | exc x ρ' S1 => rw [o] at h; exact h
    | bad => rw [o] at h; exact h.elim)
theorem nt_callN {n k : Nat} {m : Fn} (hn : LN φl k) (hk : n = k) (hl : AT W tr φl) : NT W (tCallSD (spN n m) [] (WE W) tr) (mCallN m φl) := fun F0 H0 st hb F H S ρ σ Q b h =>
  hl _ _ _ _ _ _ _ _ _ _ b (by
    unfold mCallN at h
    cases o : φl ρ S with
    | ok ds S1 =>
      rw [o] at h
      simp only [Out.bind] at h
      refine fun vs F1 H1 b1 e1 r1 => ⟨F1, ds, b1.sub, by rw [hk]; exact hn ρ S ds S1 o, by rw [List.append_nil]; exact r1, ?_⟩
      cases om : m ds sto0 with
      | ok rr S2 =>
        rw [om] at h
        cases rr with
        | d d =>
          intro v G F2 H2 e2 s2 nG r2 z
          exact h v F2 H2 (b1.after0 (st' := 0) e2 s2) (e1.trans e2.of_no b1.stH) ⟨G, fun a o w => ⟨e1.nones b1.stH a (nG a o w).1, (nG a o w).2⟩, r2, z⟩
        | own xs => exact h.elim
      | exc x ρ' S2 =>
        rw [om] at h
        exact fun cls dx F2 H2 e2 s2 xr => h cls dx F2 H2 (b1.after0 e2 s2) xr
      | bad => rw [om] at h; exact h.elim
    | exc x ρ' S1 => rw [o] at h; exact h
    | bad => rw [o] at h; exact h.elim)
end
end DL

set_option Elab.async false
set_option linter.all false
set_option maxRecDepth 100000
set_option maxHeartbeats 4000000
set_option autoImplicit false
namespace DL
open PySem PySem.Spec L2
open PyProof.Rows (envOfC AllBare)

/-! ### defs called within an except suite -/
structure CalH (P : Program) (w : World) (K : PySem.W.Frag) (mg : Str → Option Value) (base : Heap) (x : Str) (k : Nat) (ps : List Str) (sp : Sp) : Prop where
  ex : ∃ (f : Addr) (fd : FuncData), L2H.FnH P w K mg base (L2N.CX P w) k f fd ps sp ∧ mg x = some (.ref f) ∧ PySem.W.keepIn K (.ref f) = true ∧ Binds K fd ps []
theorem cal_okH {P : Program} {w : World} {K : PySem.W.Frag} {mg : Str → Option Value} {base : Heap} {x : Str} {st : Stmt} {f : Addr} {fd : FuncData} {N ps : List Str} {k n nn : Nat} {hb : Bool} {φ : Ph Ctl} (D : Df K mg x st ps f fd) (S : FnScope N ps (defScope st))
    (hp : ps.length = (if hb = true then 1 else 0) + n) (hN : N.length = (if hb = true then 1 else 0) + n + nn)
    (body : ∀ (cdv : Value) (A : Around) (outer : List Env) (s : Shared) (H : Hp) (E : XK) (p : Addr × Obj), L2H.HotC (L2H.cxH (L2N.CX P w) P w K mg base N x (defScope st) f cdv A outer s H E p) → L2H.RoomH k (A.deeper (envOfC x (defScope st) s.heap.objs.size f cdv)) →
      ∃ t, PSs (L2H.cxH (L2N.CX P w) P w K mg base N x (defScope st) f cdv A outer s H E p) (defBody st) t ∧ ST (fun cls d _ H => E cls d H) t φ) : CalH P w K mg base x (k + 1) ps (spD hb n (runD hb nn φ)) := by
  obtain ⟨oc, od, dV, kV, doc, pm, an, cdv, ct, osl, rfl, lk, hcd, _, _⟩ := D.fn.ex
  exact ⟨f, _, L2H.fn_ofH lk hcd S (spD_len hp) (fun A outer s H vs Q E p hot hr h => by
    obtain ⟨t, h1, h2⟩ := body cdv A outer s H E p ⟨p, hot, List.mem_singleton.mpr rfl⟩ hr
    exact ⟨t, h1, fn_ok hN h2 h⟩), D.mgf, D.fn.kp, D.b⟩
theorem CalH.none {P : Program} {w : World} {K : PySem.W.Frag} {mg : Str → Option Value} {base : Heap} {x : Str} {st : Stmt} {ps : List Str} {f : Addr} {fd : FuncData} {k n : Nat} {hb : Bool} (D : Df K mg x st ps f fd) (hp : ps.length = (if hb = true then 1 else 0) + n) : CalH P w K mg base x k ps (spD hb n fun _ _ => .bad) :=
  ⟨f, fd, ⟨spD_len hp, fun A outer s H args us vs Q E p hr hot hpin e0 hb' hv h => by
    obtain ⟨_, _, _, _, _, _, _, _, _, _, z⟩ := h
    exact z.elim⟩, D.mgf, D.fn.kp, D.b⟩
theorem pe_clH {X : Cx} {W : WX} {x : Str} {k j : Nat} {ps : List Str} {sp : Sp} {e : Expr} {es : List Expr} {p pos : Pos} {t : TA} (c : CalH X.prog X.w X.K X.mg X.base x k ps sp) (hr : L2H.RoomH j X.A) (hk : k ≤ j) (hc : L2H.HotC X) (hg : Gl X x) (hx : ∀ σ, PassesAt (L2N.CX X.prog X.w) X σ (WE W σ)) (ha : PA X (e :: es) t)
    (hdb : (x == ("__debug__" : Str)) = false := by decide) (he : starEach (e :: es) X.env = (false, eval e X.env) :: starEach es X.env := by rfl) (hpl : (backTo pos (starEach es X.env)).any (·.1) = false := by rfl) :
    PE X (.Call (.Name x p) (e :: es) [] pos) (tCallSD sp [] (WE W) t) := by
  obtain ⟨f, fd, F, m, kp, b⟩ := c.ex
  have q : PE X (.Call (.Name x p) (e :: es) [] pos) (tCallS sp (WE W) t) := L2H.pe_callH F ⟨by have := hr.dp; omega, by have := hr.un; omega⟩ hc hg m kp b hx ha hdb he hpl
  have ee : tCallSD sp [] (WE W) t = tCallS sp (WE W) t := by
    unfold tCallSD tCallS
    funext σ H Q
    simp only [List.append_nil]
  rw [ee]
  exact q
theorem hot_in {X : Cx} {a : Addr} {oe : Obj} {cls : Value} {d : Option Addr} {pn : List (Addr × Obj)} (hz : L2N.Zn cls d oe) (hf : ∃ vs, oe.data = .fields vs) : L2H.HotC (X.suite a ((a, oe) :: pn)) := by
  obtain ⟨vs, e⟩ := hf
  exact ⟨(a, oe), ⟨rfl, vs, e, hz.2.2 vs e⟩, List.mem_cons_self⟩
theorem unitsH {k : Nat} {A : Around} (r : L2H.RoomH k A) : A.units + 64 < cLine := by have := r.un; omega
/-! ### isinstance of a caught error that has fields -/
def rIsX (K : PySem.W.Frag) (D a : Addr) (dx : Option Addr) : List V → Hp → VK → Prop := fun xs H Q => ∃ (c : V) (cv : Value) (b : Bool), xs = [.ref a, c] ∧ (∀ u, RelV c u → u = cv) ∧ PySem.W.kitOne K (.ref D) cv = some b ∧ (∀ dd, dx = some dd → ∃ fs, H dd = some (.xd fs)) ∧ Q (.bl b) H
theorem call_isX {X : Cx} {a D : Addr} {oe : Obj} {cls : Value} {dx : Option Addr} {pn : List (Addr × Obj)} (C : L2.ExcC X.K D) (hz : Zc cls dx oe) (hf : ∃ vs, oe.data = .fields vs) :
    CallR (X.suite a ((a, oe) :: pn)) (.builtin "isinstance") (fun xs H Q => cls = .ref D ∧ rIsX X.K D a dx xs H Q) := by
  intro pins s σ H xs us Q I r h
  obtain ⟨rfl, c, cv, b, rfl, hcv, e, hdx, q⟩ := h
  cases r with
  | cons rx rr =>
    cases rr with
    | cons rt rr =>
      cases rr
      cases rx
      have ec := hcv _ rt
      subst ec
      obtain ⟨hget, _⟩ := I.pin (a, oe) (List.mem_append.mpr (.inl List.mem_cons_self))
      obtain ⟨vs, hv⟩ := hf
      have nc : PySem.W.notCls oe = true := by unfold PySem.W.notCls; rw [hv] <;> rfl
      have hcl : (PySem.W.clsIn X.K D).isSome = true := by
        obtain ⟨cdD, hcD, _⟩ := PySem.W.any_some C.hd
        rw [hcD]; rfl
      cases dx with
      | none =>
        have J : PySem.W.InstAt s.heap a oe D none := ⟨hget, hz.1, nc, by rw [hz.2]; trivial⟩
        exact PySem.W.kia_one (PySem.W.kitx_exc hcl C.hg C.hk C.hs C.ha C.hn C.ht C.hm) I.kIn J e (fun z => nomatch z) fun tk => ⟨.bl b, H, I.kept (t' := tk) fun _ _ z => z, rfl, q⟩
      | some dd =>
        obtain ⟨fs, hdd⟩ := hdx dd rfl
        have hx : ObjOk X.prog X.w H s.heap dd (.xd fs) := I.hok dd _ hdd
        obtain ⟨mA, hns, _⟩ := hx
        obtain ⟨od, ho, _⟩ := lookIn_ns hns
        have J : PySem.W.InstAt s.heap a oe D (some od) := ⟨hget, hz.1, nc, by rw [hz.2]; exact ho⟩
        exact PySem.W.kia_one (PySem.W.kitx_exc hcl C.hg C.hk C.hs C.ha C.hn C.ht C.hm) I.kIn J e (fun z => nomatch z) fun tk => ⟨.bl b, H, I.kept (t' := tk) fun _ _ z => z, rfl, q⟩
end DL

set_option Elab.async false
set_option linter.all false
set_option maxRecDepth 100000
set_option maxHeartbeats 4000000
set_option autoImplicit false
namespace DL
open PySem PySem.Spec L2
open PyProof.Rows (envOfC)

/-! ### x[1:] of a list -/
def gSl1 (d : D) (S : Sto) : Out D := match d with
  | .lst xs => .ok (.lst (xs.drop 1)) S
  | _ => .bad
theorem cut_tail (xs : List V) : cutV xs (some 1) none = xs.drop 1 := by
  have h1 : HT.sIx xs.length 0 (some 1) = min 1 xs.length := HT.sIx_nat xs.length 0 1
  unfold cutV
  rw [h1, HT.sIx_none]
  rcases xs with _ | ⟨x, r⟩
  · rfl
  · have h2 : min 1 (x :: r).length = 1 := by simp [List.length_cons]
    rw [h2]
    show List.take _ r = r
    exact List.take_of_length_le (by simp [List.length_cons])
theorem et_sl1 {W : WX} {K : PySem.W.Frag} {te : TE} {φ : Ph D} (h : ET W te φ) : ET W (tSl (rSlL K) te (tPart (tC (.int 1))) tNoPart) (m1 gSl1 φ) := fun F0 H0 st hs F H S ρ σ Q b q =>
  h _ _ _ _ _ _ _ _ _ _ b (GW.bind rm_d q fun d S1 v F1 H1 b1 e1 r1 q1 => by
    cases d <;> try exact q1.elim
    rename_i ds
    simp only [RD, Rep] at r1
    obtain ⟨a, xs, rfl, f, r⟩ := r1
    refine ⟨1, rfl, a, xs, rfl, SqL.of (b1.sub _ _ f), fun p hp => ?_⟩
    rw [cut_tail]
    exact q1 _ _ _ (b1.lay hp) (Ext.lay b1.sub hp).1 (rep_lst (r.drop 1) (b1.sub.none hp)))
/-! ### a body in which nothing is told of, but data -/
structure Gd (F H : Hp) (ρ : List L) (σ : L2.St) : Prop where
  sub : Sub F H
  loc : ∀ (i : Nat) (l : L), ρ[i]? = some l → l = .un ∨ ∃ (d : D) (u : V), l = .d d ∧ σ[i]? = some (some u) ∧ Rep F d u
  len : σ.length = ρ.length
section
variable {F H F' H' G : Hp} {ρ : List L} {σ : L2.St} {W : WX} {te : TE} {tc : TT} {φ : Ph D} {φc : Ph Bool} {d : D} {v : V} {c : Bool} {S' : Sto}
theorem Gd.bd (g : Gd F H ρ σ) : Bd F H 0 false F H sto0 ρ σ := ⟨g.sub, Ext.refl, nofun, nofun, fun i l e => by
  rcases g.loc i l e with rfl | ⟨d, u, rfl, e1, r⟩
  · trivial
  · exact ⟨u, e1, r⟩, fun i j p xs ys _ e _ => (g.loc i _ e).elim (fun h => by cases h) (fun ⟨_, _, h, _⟩ => by cases h), g.len⟩
theorem Gd.go (g : Gd F H ρ σ) (ff : Sub F F') (s : Sub F' H') : Gd F' H' ρ σ := ⟨s, fun i l e => by
  rcases g.loc i l e with rfl | ⟨d, u, rfl, e1, r⟩
  · exact .inl rfl
  · exact .inr ⟨d, u, rfl, e1, Rep.mono ff _ _ r⟩, g.len⟩
theorem Gd.keep (g : Gd F H ρ σ) (k : ∀ a o, H a = some o → H' a = some o) : Gd F H' ρ σ := g.go (Sub.refl F) fun a o e => k a o (g.sub a o e)
theorem Gd.set (g : Gd F H ρ σ) (i : Nat) (r : Rep F d v) : Gd F H (ρ.set i (.d d)) (σ.set i (some v)) := ⟨g.sub, fun j l e => by
  rw [List.getElem?_set] at e ⊢
  by_cases z : i = j
  · subst z
    rw [if_pos rfl] at e ⊢
    by_cases hi : i < ρ.length
    · rw [if_pos hi] at e
      cases e
      exact .inr ⟨d, v, rfl, by rw [if_pos (by rw [g.len]; exact hi)], r⟩
    · rw [if_neg hi] at e; cases e
  · rw [if_neg z] at e ⊢
    exact g.loc j l e, by rw [List.length_set, List.length_set, g.len]⟩
theorem Gd.wipe (g : Gd F H ρ σ) (i : Nat) {x : Option V} : Gd F H (ρ.set i .un) (σ.set i x) := ⟨g.sub, fun j l e => by
  rw [List.getElem?_set] at e ⊢
  by_cases z : i = j
  · rw [if_pos z] at e
    split at e
    · cases e; exact .inl rfl
    · cases e
  · rw [if_neg z] at e ⊢
    exact g.loc j l e, by rw [List.length_set, List.length_set, g.len]⟩
/-- what stands apart of what is frozen -/
def Ap (G F H : Hp) : Prop := ∀ a o, G a = some o → H a = some o ∧ F a = none
theorem Gd.frz (g : Gd F H ρ σ) (ap : Ap G F H) (i : Nat) (e : σ[i]? = some (some v)) (r : Rep G d v) : Gd (join F G) H (ρ.set i (.d d)) σ := by
  have s : Sub (join F G) H := fun a o h => by
    cases z : F a with
    | some w => rw [join_l z] at h; cases h; exact g.sub a _ z
    | none => rw [join_r z] at h; exact (ap a o h).1
  have g1 := (g.go (sub_joinL F G) s).set i (d := d) (v := v) (Rep.mono (sub_joinR fun a o w => (ap a o w).2) _ _ r)
  rw [set_self e] at g1
  exact g1
theorem Ap.go (ap : Ap G F H) (e : Ext 0 false F H F' H') : Ap G F' H' := fun a o w => ⟨e.keep a o (ap a o w).1 nofun, e.new a (ap a o w).2 (by rw [(ap a o w).1]; exact nofun)⟩
theorem Ap.keep (ap : Ap G F H) (k : ∀ a o, H a = some o → H' a = some o) : Ap G F H' := fun a o w => ⟨k a o (ap a o w).1, (ap a o w).2⟩
theorem ev_D {Q : VK} (g : Gd F H ρ σ) (t : ET W te φ) (e : φ ρ sto0 = .ok d S') (q : ∀ (v : V) (F' H' : Hp), Ext 0 false F H F' H' → Gd F' H' ρ σ → Rep F' d v → Q v H') : te σ H Q :=
  t _ _ _ _ _ _ _ _ _ _ g.bd (by rw [e]; exact fun v F' H' b' e' r => q v F' H' e' (g.go e'.ff b'.sub) r)
theorem ev_N {Q : VK} (g : Gd F H ρ σ) (t : NT W te φ) (e : φ ρ sto0 = .ok d S') (q : ∀ (v : V) (F' H' G : Hp), Ext 0 false F H F' H' → Gd F' H' ρ σ → New G H F' H' → Rep G d v → Dst G v → Q v H') : te σ H Q :=
  t _ _ _ _ _ _ _ _ _ _ g.bd (by rw [e]; exact fun v F' H' b' e' ⟨G, n, r, z⟩ => q v F' H' G e' (g.go e'.ff b'.sub) n r z)
theorem ev_T {Q : Bool → Hp → Prop} (g : Gd F H ρ σ) (t : BT W tc φc) (e : φc ρ sto0 = .ok c S') (q : ∀ (H' : Hp), (∀ a o, H a = some o → H' a = some o) → Q c H') : tc σ H Q :=
  t _ _ _ _ _ _ _ _ _ _ g.bd (by rw [e]; exact fun b F' H' b' e' r => by cases (show c = b from r); exact q H' fun a o w => e'.keep a o w nofun)
end
end DL

set_option Elab.async false
set_option linter.all false
set_option maxRecDepth 100000
set_option maxHeartbeats 8000000
set_option autoImplicit false
namespace K23
open PySem PySem.Spec L2 DL
def top (i : Nat) : Stmt := PySem.Challenge.pw_crossmeans_k23_count_table.main.body.getD i (.Pass ⟨0, 0, 0, 0⟩)
structure Blt (mg : Str → Option Value) : Prop where
  n_abs : mg "abs" = none
  n_bool : mg "bool" = none
  n_enumerate : mg "enumerate" = none
  n_int : mg "int" = none
  n_isinstance : mg "isinstance" = none
  n_len : mg "len" = none
  n_list : mg "list" = none
  n_max : mg "max" = none
  n_min : mg "min" = none
  n_range : mg "range" = none
  n_set : mg "set" = none
  n_sorted : mg "sorted" = none
  n_str : mg "str" = none
  n_sum : mg "sum" = none
  n_tuple : mg "tuple" = none
  k_MOST : ∃ t, mg "MOST" = some (.int 16 t)
structure Txt_Parting (K : PySem.W.Frag) (C : Addr) : Prop where
  cl : Cls K C
  na_plots : NoAttr K C "plots"
  na_many : NoAttr K C "many"
  na_names : NoAttr K C "names"
  na_lots : NoAttr K C "lots"
  na_sizes : NoAttr K C "sizes"
section
variable {P : Program} {w : World} {K : PySem.W.Frag} {mg : Str → Option Value} {base : Heap}
/-! ### is_whole -/
abbrev s_is_whole : Stmt := top 13
abbrev N_is_whole : List Str := ["value"]
theorem sc_is_whole : FnScope N_is_whole ["value"] (defScope s_is_whole) := ⟨rfl, rfl, rfl, by decide +kernel, rfl, by decide +kernel, by decide +kernel⟩
def b_is_whole  : Ph Ctl := (mRet (mAndV (m1 (gIsi "int") (mVar 0)) (mNotV (m1 (gIsi "bool") (mVar 0)))))
def m_is_whole  : Fn := runD false 0 (b_is_whole )
theorem ok_is_whole {f : Addr} {fd : FuncData}  (B : Blt mg) (D : Df K mg "is_whole" s_is_whole ["value"] f fd)  : Cal P w K mg base "is_whole" 1 ["value"] (spD false 1 (m_is_whole )) :=
  cal_ok D sc_is_whole rfl rfl fun cdv A outer s H E hr => by
  have tk : L2N.Takes (cxOf (L2N.CX P w) P w K mg base N_is_whole "is_whole" (defScope s_is_whole) f cdv A outer s H E) (fun cls d _ H => E cls d H) := L2N.takes_of rfl rfl rfl rfl
  exact ⟨_, (pss_one (ps_ret (pe_and (pe_callB call_isi (by rfl) B.n_isinstance bt_isinstance (pa_cons (pv 0) (pa_cons (pe_ty (by rfl) B.n_int bt_int) pa_nil))) (pe_one (pe_not (pe_callB call_isi (by rfl) B.n_isinstance bt_isinstance (pa_cons (pv 0) (pa_cons (pe_ty (by rfl) B.n_bool bt_bool) pa_nil)))))))),
  (st_ret (et_and (et_isi "int" (et_var 0)) (et_not (et_isi "bool" (et_var 0)))))⟩
/-! ### check_most -/
abbrev s_check_most : Stmt := top 15
abbrev N_check_most : List Str := ["amount", "what"]
theorem sc_check_most : FnScope N_check_most ["amount", "what"] (defScope s_check_most) := ⟨rfl, rfl, rfl, by decide +kernel, rfl, by decide +kernel, by decide +kernel⟩
def b_check_most  : Ph Ctl := (mIfS (mB (m2 gGt (mVar 0) (mC (.int 16)))) mBad
   mNext)
def m_check_most  : Fn := runD false 0 (b_check_most )
theorem ok_check_most {f : Addr} {fd : FuncData}  (B : Blt mg) (D : Df K mg "check_most" s_check_most ["amount", "what"] f fd)  : Cal P w K mg base "check_most" 1 ["amount", "what"] (spD false 2 (m_check_most )) :=
  cal_ok D sc_check_most rfl rfl fun cdv A outer s H E hr => by
  have tk : L2N.Takes (cxOf (L2N.CX P w) P w K mg base N_check_most "check_most" (defScope s_check_most) f cdv A outer s H E) (fun cls d _ H => E cls d H) := L2N.takes_of rfl rfl rfl rfl
  exact ⟨_, (pss_one (ps_if (pt_cmpR op_gt (pv 0) (pe_k (by rfl) B.k_MOST) (nomark _)) (pss_one ps_never)
   pss_nil)),
  (st_if (bt_test (et_op o_gt (et_var 0) (et_int _))) st_never
   st_next)⟩
/-! ### check_amount -/
abbrev s_check_amount : Stmt := top 16
abbrev N_check_amount : List Str := ["amount", "what"]
theorem sc_check_amount : FnScope N_check_amount ["amount", "what"] (defScope s_check_amount) := ⟨rfl, rfl, rfl, by decide +kernel, rfl, by decide +kernel, by decide +kernel⟩
def b_check_amount  : Ph Ctl := (mSeq (mIfS (mB (m2 gLt (mVar 0) (mC (.int 1)))) mBad
   mNext)
  (mDrop (mCall0 m_check_most [] (mCons (mVar 0) (mCons (mVar 1) mNil)))))
def m_check_amount  : Fn := runD false 0 (b_check_amount )
theorem ok_check_amount {f : Addr} {fd : FuncData}  (B : Blt mg) (D : Df K mg "check_amount" s_check_amount ["amount", "what"] f fd) (C_check_most : Cal P w K mg base "check_most" 1 ["amount", "what"] (spD false 2 m_check_most)) : Cal P w K mg base "check_amount" 2 ["amount", "what"] (spD false 2 (m_check_amount )) :=
  cal_ok D sc_check_amount rfl rfl fun cdv A outer s H E hr => by
  have tk : L2N.Takes (cxOf (L2N.CX P w) P w K mg base N_check_amount "check_amount" (defScope s_check_amount) f cdv A outer s H E) (fun cls d _ H => E cls d H) := L2N.takes_of rfl rfl rfl rfl
  exact ⟨_, (pss_cons (ps_if (pt_cmpR op_lt (pv 0) pe_int (nomark _)) (pss_one ps_never)
   pss_nil)
  (pss_one (ps_expr (pe_cl C_check_most hr (by decide) (by rfl) (fun σ => L2N.passAt tk σ) (pa_cons (pv 0) (pa_cons (pv 1) pa_nil)))))),
  (st_seq (st_if (bt_test (et_op o_lt (et_var 0) (et_int _))) st_never
   st_next)
  (st_drop (et_call0 [] (fun _ => reps_nil.mpr rfl) (ln_cons (ln_cons ln_nil)) rfl (at_cons (et_var 0) (at_cons (et_var 1) at_nil)))))⟩
/-! ### check_alike -/
abbrev s_check_alike : Stmt := top 18
abbrev N_check_alike : List Str := ["plots", "things", "thing"]
theorem sc_check_alike : FnScope N_check_alike ["plots", "things"] (defScope s_check_alike) := ⟨rfl, rfl, rfl, by decide +kernel, rfl, by decide +kernel, by decide +kernel⟩
def b_check_alike (cParting : Addr) (cUnlikePlots : Addr) : Ph Ctl := (mFor (.one 2) (mSeqI (mVar 1)) (mIfS (mB (m2 gNe (m1 (gFld cParting "plots") (mVar 2)) (mVar 0))) (mRaise cUnlikePlots ["left_plots", "right_plots"] (mCons (mVar 0) (mCons (m1 (gFld cParting "plots") (mVar 2)) mNil)))
   mNext))
def m_check_alike (cParting : Addr) (cUnlikePlots : Addr) : Fn := runD false 1 (b_check_alike cParting cUnlikePlots)
theorem ok_check_alike {f : Addr} {fd : FuncData} {cParting : Addr} {cUnlikePlots : Addr} (B : Blt mg) (D : Df K mg "check_alike" s_check_alike ["plots", "things"] f fd) (T_Parting : Txt_Parting K cParting) (X_UnlikePlots : X2 P w K mg base "UnlikePlots" cUnlikePlots "left_plots" "right_plots") : Cal P w K mg base "check_alike" 3 ["plots", "things"] (spD false 2 (m_check_alike cParting cUnlikePlots)) :=
  cal_ok D sc_check_alike rfl rfl fun cdv A outer s H E hr => by
  have tk : L2N.Takes (cxOf (L2N.CX P w) P w K mg base N_check_alike "check_alike" (defScope s_check_alike) f cdv A outer s H E) (fun cls d _ H => E cls d H) := L2N.takes_of rfl rfl rfl rfl
  exact ⟨_, (pss_one (ps_for (passes_of rfl) rfl (pi_seq (pv 1)) (pg_name (i := 2) sc_check_alike.nd rfl (by first | exact .inl rfl | exact .inr rfl)) (pss_one (ps_if (pt_cmpR (op_neD hr.units) (pe_fld (pv 2) rfl) (pv 0) (nomark _)) (pss_one (raise_x2 X_UnlikePlots hr (by decide) rfl tk (by rfl) (pa_cons (pv 0) (pa_cons (pe_fld (pv 2) rfl) pa_nil))))
   pss_nil)))),
  (st_for (K := K) (.one 2) (it_seq (et_var 1)) (st_if (bt_test (et_op o_ne (et_fld T_Parting.cl T_Parting.na_plots (et_var 2)) (et_var 0))) (st_raise2 X_UnlikePlots.oc X_UnlikePlots.nf X_UnlikePlots.ng (at_cons (et_var 0) (at_cons (et_fld T_Parting.cl T_Parting.na_plots (et_var 2)) at_nil)))
   st_next))⟩
/-! ### count_table -/
abbrev s_count_table : Stmt := top 20
abbrev N_count_table : List Str := ["first", "second", "left", "right", "plot"]
theorem sc_count_table : FnScope N_count_table ["first", "second"] (defScope s_count_table) := ⟨rfl, rfl, rfl, by decide +kernel, rfl, by decide +kernel, by decide +kernel⟩
def b_count_table (cParting : Addr) (cUnlikePlots : Addr) : Ph Ctl := (mSeqN (mDrop (mCall0 (m_check_alike cParting cUnlikePlots) [] (mCons (m1 (gFld cParting "plots") (mVar 0)) (mCons (mFrz (mLst (mCons (mVar 1) mNil))) mNil))))
  (mRet (mFrz (mLc (.one 2) [2] (mSeqI (m1 (gFld cParting "lots") (mVar 0))) mYes (mFrz (mLc (.one 3) [3] (mSeqI (m1 (gFld cParting "lots") (mVar 1))) mYes (mSc (mCB (pureC lenC) (mCons (mFrz (mLc (.one 4) [4] (mSeqI (mVar 2)) (mB (m2 (pure2 (in2 false)) (mVar 4) (mVar 3))) (mVar 4))) mNil)))))))))
def m_count_table (cParting : Addr) (cUnlikePlots : Addr) : Fn := runD false 3 (b_count_table cParting cUnlikePlots)
theorem ok_count_table {f : Addr} {fd : FuncData} {cParting : Addr} {cUnlikePlots : Addr} (B : Blt mg) (D : Df K mg "count_table" s_count_table ["first", "second"] f fd) (T_Parting : Txt_Parting K cParting) (C_check_alike : Cal P w K mg base "check_alike" 3 ["plots", "things"] (spD false 2 (m_check_alike cParting cUnlikePlots))) : Cal P w K mg base "count_table" 4 ["first", "second"] (spN 2 (m_count_table cParting cUnlikePlots)) :=
  cal_okN D sc_count_table rfl rfl fun cdv A outer s H E hr => by
  have tk : L2N.Takes (cxOf (L2N.CX P w) P w K mg base N_count_table "count_table" (defScope s_count_table) f cdv A outer s H E) (fun cls d _ H => E cls d H) := L2N.takes_of rfl rfl rfl rfl
  exact ⟨_, (pss_cons (ps_expr (pe_cl C_check_alike hr (by decide) (by rfl) (fun σ => L2N.passAt tk σ) (pa_cons (pe_fld (pv 0) rfl) (pa_cons (pe_lst (pa_cons (pv 1) pa_nil)) pa_nil))))
  (pss_one (ps_ret (pe_lc (own := [("left", 2)]) (scope := { kind := PySem.ScopeKind.function, names := [ (PySem.Str.ofString ".0", PySem.NameKind.local), (PySem.Str.ofString "left", PySem.NameKind.cell), (PySem.Str.ofString "second", PySem.NameKind.free)], isGenerator := false, isCoroutine := false, more := [] : PySem.Scope }) rfl sc_count_table.nd (pi_seq (pe_fld (pv 0) rfl)) (blkOk_by (N := N_count_table) (sc := (defScope s_count_table)) (by decide +kernel)) (fun _ _ _ _ _ => (pg_name (i := 2) sc_count_table.nd rfl (by first | exact .inl rfl | exact .inr rfl))) (fun _ _ _ _ _ => pts_nil) (fun _ _ _ _ _ => (pe_lc (own := [("right", 3)]) (scope := { kind := PySem.ScopeKind.function, names := [ (PySem.Str.ofString ".0", PySem.NameKind.local), (PySem.Str.ofString "right", PySem.NameKind.cell), (PySem.Str.ofString "len", PySem.NameKind.globalImplicit), (PySem.Str.ofString "left", PySem.NameKind.free)], isGenerator := false, isCoroutine := false, more := [] : PySem.Scope }) rfl sc_count_table.nd (pi_seq (pe_fld (pv 1) rfl)) (blkOk_by (N := N_count_table) (sc := (relS { kind := PySem.ScopeKind.function, names := [ (PySem.Str.ofString ".0", PySem.NameKind.local), (PySem.Str.ofString "left", PySem.NameKind.cell), (PySem.Str.ofString "second", PySem.NameKind.free)], isGenerator := false, isCoroutine := false, more := [] : PySem.Scope } (defScope s_count_table))) (by decide +kernel)) (fun _ _ _ _ _ => (pg_name (i := 3) sc_count_table.nd rfl (by first | exact .inl rfl | exact .inr rfl))) (fun _ _ _ _ _ => pts_nil) (fun _ _ _ _ _ => (pe_callB call_len (by rfl) B.n_len bt_len (pa_cons (pe_lc (own := [("plot", 4)]) (scope := { kind := PySem.ScopeKind.function, names := [ (PySem.Str.ofString ".0", PySem.NameKind.local), (PySem.Str.ofString "plot", PySem.NameKind.local), (PySem.Str.ofString "right", PySem.NameKind.free)], isGenerator := false, isCoroutine := false, more := [] : PySem.Scope }) rfl sc_count_table.nd (pi_seq (pv 2)) (blkOk_by (N := N_count_table) (sc := (relS { kind := PySem.ScopeKind.function, names := [ (PySem.Str.ofString ".0", PySem.NameKind.local), (PySem.Str.ofString "right", PySem.NameKind.cell), (PySem.Str.ofString "len", PySem.NameKind.globalImplicit), (PySem.Str.ofString "left", PySem.NameKind.free)], isGenerator := false, isCoroutine := false, more := [] : PySem.Scope } (relS { kind := PySem.ScopeKind.function, names := [ (PySem.Str.ofString ".0", PySem.NameKind.local), (PySem.Str.ofString "left", PySem.NameKind.cell), (PySem.Str.ofString "second", PySem.NameKind.free)], isGenerator := false, isCoroutine := false, more := [] : PySem.Scope } (defScope s_count_table)))) (by decide +kernel)) (fun _ _ _ _ _ => (pg_name (i := 4) sc_count_table.nd rfl (by first | exact .inl rfl | exact .inr rfl))) (fun _ _ _ _ _ => (pts_one (pt_cmpR op_in_seq (pv 4) (pv 3) (by rfl)))) (fun _ _ _ _ _ => (pv 4))) pa_nil))))))))),
  (tn_seq (st_drop (et_call0 [] (fun _ => reps_nil.mpr rfl) (ln_cons (ln_cons ln_nil)) rfl (at_cons (et_fld T_Parting.cl T_Parting.na_plots (et_var 0)) (at_cons (et_frz (ot_lst (at_cons (et_var 1) at_nil))) at_nil))))
  (tn_ret (nt_lc (K := K) (.one 2) [2] (by decide) (it_seq (et_fld T_Parting.cl T_Parting.na_lots (et_var 0))) bt_yes (nt_lc (K := K) (.one 3) [3] (by decide) (it_seq (et_fld T_Parting.cl T_Parting.na_lots (et_var 1))) bt_yes (nt_sc (et_cb c_len (at_cons (et_frz (ot_lc (K := K) (.one 4) [4] (by decide) (it_seq (et_var 2)) (bt_test (et_op (o_in false) (et_var 4) (et_var 3))) (et_var 4))) at_nil)))))))⟩
/-! ### _first_places -/
abbrev s_first_places : Stmt := top 23
abbrev N_first_places : List Str := ["keys", "places", "at", "key"]
theorem sc_first_places : FnScope N_first_places ["keys"] (defScope s_first_places) := ⟨rfl, rfl, rfl, by decide +kernel, rfl, by decide +kernel, by decide +kernel⟩
def b_first_places  : Ph Ctl := (mSeq (mFor (.many [2, 3]) (mEnum (mCons (mVar 0) mNil)) (mIfS (mDNotIn 1 (mVar 3)) (mDPut 1 (mVar 3) (mVar 2))
   mNext))
  (mRetO (mLc (.one 3) [3] (mSeqI (mVar 0)) mYes (mDGet 1 (mVar 3)))))
def m_first_places  : Fn := runN 2 (b_first_places )
theorem ok_first_places {f : Addr} {fd : FuncData}  (B : Blt mg) (D : Df K mg "_first_places" s_first_places ["keys"] f fd)  : Cal P w K mg base "_first_places" 1 ["keys"] (spD false 1 (m_first_places )) :=
  cal_dict D sc_first_places rfl rfl fun cdv A outer s H E hr => by
  have tk : L2N.Takes (cxOf (L2N.CX P w) P w K mg base N_first_places "_first_places" (defScope s_first_places) f cdv A outer s H E) (fun cls d _ H => E cls d H) := L2N.takes_of rfl rfl rfl rfl
  exact ⟨_, (pss_cons (ps_set (i := 1) sc_first_places.nd rfl (by first | exact .inl rfl | exact .inr rfl) pe_dnewK) (pss_cons (ps_for (passes_of rfl) rfl (pi_enum (by rfl) B.n_enumerate (pa_cons (pv 0) pa_nil)) (pg_tup rfl (pgs_cons (pg_name (i := 2) sc_first_places.nd rfl (by first | exact .inl rfl | exact .inr rfl)) (pgs_cons (pg_name (i := 3) sc_first_places.nd rfl (by first | exact .inl rfl | exact .inr rfl)) pgs_nil))) (pss_one (ps_if (pt_cmp (pc_dnotin (hu_of hr) (pv 3) (pv 1))) (pss_one (ps_dput (hu_of hr) (pv 1) (pv 3) (pv 2) rfl))
   pss_nil)))
  (pss_one (ps_ret (pe_lc (own := [("key", 3)]) (scope := { kind := PySem.ScopeKind.function, names := [ (PySem.Str.ofString ".0", PySem.NameKind.local), (PySem.Str.ofString "key", PySem.NameKind.local), (PySem.Str.ofString "places", PySem.NameKind.free)], isGenerator := false, isCoroutine := false, more := [] : PySem.Scope }) rfl sc_first_places.nd (pi_seq (pv 0)) (blkOk_by (N := N_first_places) (sc := (defScope s_first_places)) (by decide +kernel)) (fun _ _ _ _ _ => (pg_name (i := 3) sc_first_places.nd rfl (by first | exact .inl rfl | exact .inr rfl))) (fun _ _ _ _ _ => pts_nil) (fun _ _ _ _ _ => (pe_dget (hu_of hr) (pv 1) (pv 3) (fun _ _ => rfl)))))))),
  (st_seq (st_for (K := K) (.many [2, 3]) (it_enum (at_cons (et_var 0) at_nil)) (st_if (bt_dnotin 1 (et_var 3)) (st_dput 1 (et_var 3) (et_var 2))
   st_next))
  (st_retO (ot_lc (K := K) (.one 3) [3] (by decide) (it_seq (et_var 0)) bt_yes (et_dget 1 (et_var 3)))))⟩
/-! ### _lots_by_name -/
abbrev s_lots_by_name : Stmt := top 24
abbrev N_lots_by_name : List Str := ["names", "name", "plot", "own"]
theorem sc_lots_by_name : FnScope N_lots_by_name ["names"] (defScope s_lots_by_name) := ⟨rfl, rfl, rfl, by decide +kernel, rfl, by decide +kernel, by decide +kernel⟩
def b_lots_by_name  : Ph Ctl := (mRetO (mLc (.one 1) [1] (mSeqI (mFrz (mSortedSet (mVar 0)))) mYes (mCB gTuple (mCons (mFrz (mLc (.many [2, 3]) [2, 3] (mEnum (mCons (mVar 0) mNil)) (mB (m2 gEq (mVar 3) (mVar 1))) (mVar 2))) mNil))))
def m_lots_by_name  : Fn := runD false 3 (b_lots_by_name )
theorem ok_lots_by_name {f : Addr} {fd : FuncData}  (B : Blt mg) (D : Df K mg "_lots_by_name" s_lots_by_name ["names"] f fd)  : Cal P w K mg base "_lots_by_name" 1 ["names"] (spD false 1 (m_lots_by_name )) :=
  cal_ok D sc_lots_by_name rfl rfl fun cdv A outer s H E hr => by
  have tk : L2N.Takes (cxOf (L2N.CX P w) P w K mg base N_lots_by_name "_lots_by_name" (defScope s_lots_by_name) f cdv A outer s H E) (fun cls d _ H => E cls d H) := L2N.takes_of rfl rfl rfl rfl
  exact ⟨_, (pss_one (ps_ret (pe_lc (own := [("name", 1)]) (scope := { kind := PySem.ScopeKind.function, names := [ (PySem.Str.ofString ".0", PySem.NameKind.local), (PySem.Str.ofString "name", PySem.NameKind.cell), (PySem.Str.ofString "tuple", PySem.NameKind.globalImplicit), (PySem.Str.ofString "enumerate", PySem.NameKind.globalImplicit), (PySem.Str.ofString "names", PySem.NameKind.free)], isGenerator := false, isCoroutine := false, more := [] : PySem.Scope }) rfl sc_lots_by_name.nd (pi_seq (pe_callB (cr_sortedSet rfl) (by rfl) B.n_sorted bt_sorted (pa_cons (pe_callTy (cr_setL rfl) (by rfl) B.n_set bt_set (pa_cons (pv 0) pa_nil)) pa_nil))) (blkOk_by (N := N_lots_by_name) (sc := (defScope s_lots_by_name)) (by decide +kernel)) (fun _ _ _ _ _ => (pg_name (i := 1) sc_lots_by_name.nd rfl (by first | exact .inl rfl | exact .inr rfl))) (fun _ _ _ _ _ => pts_nil) (fun _ _ _ _ _ => (pe_callTy call_tuple_of (by rfl) B.n_tuple bt_tuple (pa_cons (pe_lc (own := [("plot", 2), ("own", 3)]) (scope := { kind := PySem.ScopeKind.function, names := [ (PySem.Str.ofString ".0", PySem.NameKind.local), (PySem.Str.ofString "plot", PySem.NameKind.local), (PySem.Str.ofString "own", PySem.NameKind.local), (PySem.Str.ofString "name", PySem.NameKind.free)], isGenerator := false, isCoroutine := false, more := [] : PySem.Scope }) rfl sc_lots_by_name.nd (pi_enum (by rfl) B.n_enumerate (pa_cons (pv 0) pa_nil)) (blkOk_by (N := N_lots_by_name) (sc := (relS { kind := PySem.ScopeKind.function, names := [ (PySem.Str.ofString ".0", PySem.NameKind.local), (PySem.Str.ofString "name", PySem.NameKind.cell), (PySem.Str.ofString "tuple", PySem.NameKind.globalImplicit), (PySem.Str.ofString "enumerate", PySem.NameKind.globalImplicit), (PySem.Str.ofString "names", PySem.NameKind.free)], isGenerator := false, isCoroutine := false, more := [] : PySem.Scope } (defScope s_lots_by_name))) (by decide +kernel)) (fun _ _ _ _ _ => (pg_tup rfl (pgs_cons (pg_name (i := 2) sc_lots_by_name.nd rfl (by first | exact .inl rfl | exact .inr rfl)) (pgs_cons (pg_name (i := 3) sc_lots_by_name.nd rfl (by first | exact .inl rfl | exact .inr rfl)) pgs_nil)))) (fun _ _ _ _ _ => (pts_one (pt_cmpR (op_eqD hr.units) (pv 3) (pv 1) (nomark _)))) (fun _ _ _ _ _ => (pv 2))) pa_nil)))))),
  (st_retO (ot_lc (K := K) (.one 1) [1] (by decide) (it_seq (et_frz (ot_sortedSet (et_var 0)))) bt_yes (et_cb c_tuple (at_cons (et_frz (ot_lc (K := K) (.many [2, 3]) [2, 3] (by decide) (it_enum (at_cons (et_var 0) at_nil)) (bt_test (et_op o_eq (et_var 3) (et_var 1))) (et_var 2))) at_nil))))⟩
/-! ### Parting.__init__ -/
abbrev s_Parting_init : Stmt := inClass (top 22) 0
abbrev N_Parting_init : List Str := ["self", "labels", "at", "label", "names", "lots", "lot"]
theorem sc_Parting_init : FnScope N_Parting_init ["self", "labels"] (defScope s_Parting_init) := ⟨rfl, rfl, rfl, by decide +kernel, rfl, by decide +kernel, by decide +kernel⟩
def b_Parting_init (cParting : Addr) : Ph Ctl := (mSeq (mDrop (mCall0 m_check_amount [] (mCons (mCB (pureC lenC) (mCons (mVar 1) mNil)) (mCons (mC (.str "plots")) mNil))))
  (mSeq (mFor (.many [2, 3]) (mEnum (mCons (mVar 1) mNil)) (mIfS (mNot (mOr (mB (mCall0 m_is_whole [] (mCons (mVar 3) mNil))) (mB (m1 (gIsi "str") (mVar 3))))) mBad
   mNext))
  (mSeq (mSet 4 (mCall0 m_first_places [] (mCons (mVar 1) mNil)))
  (mSeq (mSet 5 (mCall0 m_lots_by_name [] (mCons (mVar 4) mNil)))
  (mSeq (mSelf cParting 0 "plots" (mCB (pureC lenC) (mCons (mVar 4) mNil)))
  (mSeq (mSelf cParting 0 "many" (mCB (pureC lenC) (mCons (mVar 5) mNil)))
  (mSeq (mSelf cParting 0 "names" (mCB gTuple (mCons (mVar 4) mNil)))
  (mSeq (mSelf cParting 0 "lots" (mCB gTuple (mCons (mVar 5) mNil)))
  (mSelf cParting 0 "sizes" (mCB gTuple (mCons (mFrz (mLc (.one 6) [6] (mSeqI (mVar 5)) mYes (mCB (pureC lenC) (mCons (mVar 6) mNil)))) mNil)))))))))))
def m_Parting_init (cParting : Addr) : Fn := runD true 5 (b_Parting_init cParting)
theorem ok_Parting_init {f : Addr} {fd : FuncData} {cParting : Addr} (B : Blt mg) (D : Dm K "__init__" "Parting.__init__" s_Parting_init ["self", "labels"] f fd) (T_Parting : Txt_Parting K cParting) (C_check_amount : Cal P w K mg base "check_amount" 2 ["amount", "what"] (spD false 2 m_check_amount)) (C_is_whole : Cal P w K mg base "is_whole" 1 ["value"] (spD false 1 m_is_whole)) (C_first_places : Cal P w K mg base "_first_places" 1 ["keys"] (spD false 1 m_first_places)) (C_lots_by_name : Cal P w K mg base "_lots_by_name" 1 ["names"] (spD false 1 m_lots_by_name)) : FnOk P w K mg base (L2N.CX P w) 3 f fd ["self", "labels"] (spD true 1 (m_Parting_init cParting)) :=
  dm_ok D sc_Parting_init rfl rfl fun cdv A outer s H E hr => by
  have tk : L2N.Takes (cxOf (L2N.CX P w) P w K mg base N_Parting_init "Parting.__init__" (defScope s_Parting_init) f cdv A outer s H E) (fun cls d _ H => E cls d H) := L2N.takes_of rfl rfl rfl rfl
  exact ⟨_, (pss_cons (ps_expr (pe_cl C_check_amount hr (by decide) (by rfl) (fun σ => L2N.passAt tk σ) (pa_cons (pe_callB call_len (by rfl) B.n_len bt_len (pa_cons (pv 1) pa_nil)) (pa_cons pe_str pa_nil))))
  (pss_cons (ps_for (passes_of rfl) rfl (pi_enum (by rfl) B.n_enumerate (pa_cons (pv 1) pa_nil)) (pg_tup rfl (pgs_cons (pg_name (i := 2) sc_Parting_init.nd rfl (by first | exact .inl rfl | exact .inr rfl)) (pgs_cons (pg_name (i := 3) sc_Parting_init.nd rfl (by first | exact .inl rfl | exact .inr rfl)) pgs_nil))) (pss_one (ps_if (pt_not (PW.pt (pw_or (pt_val (pe_cl C_is_whole hr (by decide) (by rfl) (fun σ => L2N.passAt tk σ) (pa_cons (pv 3) pa_nil))) (pw_or1 (pt_val (pe_callB call_isi (by rfl) B.n_isinstance bt_isinstance (pa_cons (pv 3) (pa_cons (pe_ty (by rfl) B.n_str bt_str) pa_nil)))))))) (pss_one ps_never)
   pss_nil)))
  (pss_cons (ps_set (i := 4) sc_Parting_init.nd rfl (by first | exact .inl rfl | exact .inr rfl) (pe_cl C_first_places hr (by decide) (by rfl) (fun σ => L2N.passAt tk σ) (pa_cons (pv 1) pa_nil)))
  (pss_cons (ps_set (i := 5) sc_Parting_init.nd rfl (by first | exact .inl rfl | exact .inr rfl) (pe_cl C_lots_by_name hr (by decide) (by rfl) (fun σ => L2N.passAt tk σ) (pa_cons (pv 4) pa_nil)))
  (pss_cons (ps_fld (pv 0) (pe_callB call_len (by rfl) B.n_len bt_len (pa_cons (pv 4) pa_nil)) rfl)
  (pss_cons (ps_fld (pv 0) (pe_callB call_len (by rfl) B.n_len bt_len (pa_cons (pv 5) pa_nil)) rfl)
  (pss_cons (ps_fld (pv 0) (pe_callTy call_tuple_of (by rfl) B.n_tuple bt_tuple (pa_cons (pv 4) pa_nil)) rfl)
  (pss_cons (ps_fld (pv 0) (pe_callTy call_tuple_of (by rfl) B.n_tuple bt_tuple (pa_cons (pv 5) pa_nil)) rfl)
  (pss_one (ps_fld (pv 0) (pe_callTy call_tuple_of (by rfl) B.n_tuple bt_tuple (pa_cons (pe_lc (own := [("lot", 6)]) (scope := { kind := PySem.ScopeKind.function, names := [ (PySem.Str.ofString ".0", PySem.NameKind.local), (PySem.Str.ofString "lot", PySem.NameKind.local), (PySem.Str.ofString "len", PySem.NameKind.globalImplicit)], isGenerator := false, isCoroutine := false, more := [] : PySem.Scope }) rfl sc_Parting_init.nd (pi_seq (pv 5)) (blkOk_by (N := N_Parting_init) (sc := (defScope s_Parting_init)) (by decide +kernel)) (fun _ _ _ _ _ => (pg_name (i := 6) sc_Parting_init.nd rfl (by first | exact .inl rfl | exact .inr rfl))) (fun _ _ _ _ _ => pts_nil) (fun _ _ _ _ _ => (pe_callB call_len (by rfl) B.n_len bt_len (pa_cons (pv 6) pa_nil)))) pa_nil)) rfl)))))))))),
  (st_seq (st_drop (et_call0 [] (fun _ => reps_nil.mpr rfl) (ln_cons (ln_cons ln_nil)) rfl (at_cons (et_cb c_len (at_cons (et_var 1) at_nil)) (at_cons (et_str _) at_nil))))
  (st_seq (st_for (K := K) (.many [2, 3]) (it_enum (at_cons (et_var 1) at_nil)) (st_if (bt_not (bt_or (bt_val (et_call0 [] (fun _ => reps_nil.mpr rfl) (ln_cons ln_nil) rfl (at_cons (et_var 3) at_nil))) (bt_val (et_isi "str" (et_var 3))))) st_never
   st_next))
  (st_seq (st_set 4 (et_call0 [] (fun _ => reps_nil.mpr rfl) (ln_cons ln_nil) rfl (at_cons (et_var 1) at_nil)))
  (st_seq (st_set 5 (et_call0 [] (fun _ => reps_nil.mpr rfl) (ln_cons ln_nil) rfl (at_cons (et_var 4) at_nil)))
  (st_seq (st_self 0 T_Parting.cl T_Parting.na_plots (et_cb c_len (at_cons (et_var 4) at_nil)))
  (st_seq (st_self 0 T_Parting.cl T_Parting.na_many (et_cb c_len (at_cons (et_var 5) at_nil)))
  (st_seq (st_self 0 T_Parting.cl T_Parting.na_names (et_cb c_tuple (at_cons (et_var 4) at_nil)))
  (st_seq (st_self 0 T_Parting.cl T_Parting.na_lots (et_cb c_tuple (at_cons (et_var 5) at_nil)))
  (st_self 0 T_Parting.cl T_Parting.na_sizes (et_cb c_tuple (at_cons (et_frz (ot_lc (K := K) (.one 6) [6] (by decide) (it_seq (et_var 5)) bt_yes (et_cb c_len (at_cons (et_var 6) at_nil)))) at_nil)))))))))))⟩
/-! ### _law_iswhole -/
abbrev s_law_iswhole : Stmt := top 33
abbrev N_law_iswhole : List Str := ["value"]
theorem sc_law_iswhole : FnScope N_law_iswhole ["value"] (defScope s_law_iswhole) := ⟨rfl, rfl, rfl, by decide +kernel, rfl, by decide +kernel, by decide +kernel⟩
def b_law_iswhole  : Ph Ctl := (mRet (mAndV (m1 (gIsi "int") (mVar 0)) (mNotV (m1 (gIsi "bool") (mVar 0)))))
def m_law_iswhole  : Fn := runD false 0 (b_law_iswhole )
theorem ok_law_iswhole {f : Addr} {fd : FuncData}  (B : Blt mg) (D : Df K mg "_law_iswhole" s_law_iswhole ["value"] f fd)  : Cal P w K mg base "_law_iswhole" 1 ["value"] (spD false 1 (m_law_iswhole )) :=
  cal_ok D sc_law_iswhole rfl rfl fun cdv A outer s H E hr => by
  have tk : L2N.Takes (cxOf (L2N.CX P w) P w K mg base N_law_iswhole "_law_iswhole" (defScope s_law_iswhole) f cdv A outer s H E) (fun cls d _ H => E cls d H) := L2N.takes_of rfl rfl rfl rfl
  exact ⟨_, (pss_one (ps_ret (pe_and (pe_callB call_isi (by rfl) B.n_isinstance bt_isinstance (pa_cons (pv 0) (pa_cons (pe_ty (by rfl) B.n_int bt_int) pa_nil))) (pe_one (pe_not (pe_callB call_isi (by rfl) B.n_isinstance bt_isinstance (pa_cons (pv 0) (pa_cons (pe_ty (by rfl) B.n_bool bt_bool) pa_nil)))))))),
  (st_ret (et_and (et_isi "int" (et_var 0)) (et_not (et_isi "bool" (et_var 0)))))⟩
/-! ### _law_mixed -/
abbrev s_law_mixed : Stmt := top 28
abbrev N_law_mixed : List Str := ["number", "turn", "mix"]
theorem sc_law_mixed : FnScope N_law_mixed ["number", "turn"] (defScope s_law_mixed) := ⟨rfl, rfl, rfl, by decide +kernel, rfl, by decide +kernel, by decide +kernel⟩
def b_law_mixed  : Ph Ctl := (mSeq (mSet 2 (m2 gMod (mCB (pureC intC) (mCons (m2 gAdd (m2 gAdd (m2 gMul (mVar 0) (mC (.int 1181783497276652981))) (m2 gMul (mVar 1) (mC (.int 1865811235122147685)))) (mC (.int 2862933555777941757))) mNil)) (mC (.int 2305843009213693951))))
  (mSeq (mSet 2 (m2 gMod (mCB (pureC intC) (mCons (m2 gMul (mVar 2) (mVar 2)) mNil)) (mC (.int 1000000000000000003))))
  (mSeq (mSet 2 (m2 gMod (mCB (pureC intC) (mCons (m2 gAdd (m2 gAdd (m2 gMul (mVar 2) (mC (.int 3935559000370003845))) (mVar 1)) (mC (.int 7))) mNil)) (mC (.int 2305843009213693951))))
  (mRet (m2 gMod (mCB (pureC intC) (mCons (m2 gMul (mVar 2) (mVar 2)) mNil)) (mC (.int 1000000000000000003)))))))
def m_law_mixed  : Fn := runD false 1 (b_law_mixed )
theorem ok_law_mixed {f : Addr} {fd : FuncData}  (B : Blt mg) (D : Df K mg "_law_mixed" s_law_mixed ["number", "turn"] f fd)  : Cal P w K mg base "_law_mixed" 1 ["number", "turn"] (spD false 2 (m_law_mixed )) :=
  cal_ok D sc_law_mixed rfl rfl fun cdv A outer s H E hr => by
  have tk : L2N.Takes (cxOf (L2N.CX P w) P w K mg base N_law_mixed "_law_mixed" (defScope s_law_mixed) f cdv A outer s H E) (fun cls d _ H => E cls d H) := L2N.takes_of rfl rfl rfl rfl
  exact ⟨_, (pss_cons (ps_set (i := 2) sc_law_mixed.nd rfl (by first | exact .inl rfl | exact .inr rfl) (pe_op op_mod (pe_callTy call_int1 (by rfl) B.n_int bt_int (pa_cons (pe_op op_add (pe_op op_add (pe_op op_mulW (pv 0) pe_int) (pe_op op_mulW (pv 1) pe_int)) pe_int) pa_nil)) pe_int))
  (pss_cons (ps_set (i := 2) sc_law_mixed.nd rfl (by first | exact .inl rfl | exact .inr rfl) (pe_op op_mod (pe_callTy call_int1 (by rfl) B.n_int bt_int (pa_cons (pe_op op_mulW (pv 2) (pv 2)) pa_nil)) pe_int))
  (pss_cons (ps_set (i := 2) sc_law_mixed.nd rfl (by first | exact .inl rfl | exact .inr rfl) (pe_op op_mod (pe_callTy call_int1 (by rfl) B.n_int bt_int (pa_cons (pe_op op_add (pe_op op_add (pe_op op_mulW (pv 2) pe_int) (pv 1)) pe_int) pa_nil)) pe_int))
  (pss_one (ps_ret (pe_op op_mod (pe_callTy call_int1 (by rfl) B.n_int bt_int (pa_cons (pe_op op_mulW (pv 2) (pv 2)) pa_nil)) pe_int)))))),
  (st_seq (st_set 2 (et_op o_mod (et_cb c_int (at_cons (et_op o_add (et_op o_add (et_op o_mul (et_var 0) (et_int _)) (et_op o_mul (et_var 1) (et_int _))) (et_int _)) at_nil)) (et_int _)))
  (st_seq (st_set 2 (et_op o_mod (et_cb c_int (at_cons (et_op o_mul (et_var 2) (et_var 2)) at_nil)) (et_int _)))
  (st_seq (st_set 2 (et_op o_mod (et_cb c_int (at_cons (et_op o_add (et_op o_add (et_op o_mul (et_var 2) (et_int _)) (et_var 1)) (et_int _)) at_nil)) (et_int _)))
  (st_ret (et_op o_mod (et_cb c_int (at_cons (et_op o_mul (et_var 2) (et_var 2)) at_nil)) (et_int _))))))⟩
/-! ### _law_take -/
abbrev s_law_take : Stmt := top 29
abbrev N_law_take : List Str := ["store", "many", "cell", "digit", "number", "mix", "k"]
theorem sc_law_take : FnScope N_law_take ["store", "many"] (defScope s_law_take) := ⟨rfl, rfl, rfl, by decide +kernel, rfl, by decide +kernel, by decide +kernel⟩
def b_law_take  : Ph Ctl := (mSeq (mIfS (mB (m2 gLt (mVar 1) (mC (.int 2)))) (mRet (mC (.int 0)))
   mNext)
  (mSeq (mIfS (mAnd (mB (m2 gLt (mStIx 0 2) (mC (.int 2)))) (mAnd (mB (m2 gLt (mStIx 0 3) (mC (.int 1)))) (mB (m2 gLt (mStIx 0 1) (mCB (pureC lenC) (mCons (mStCells 0) mNil)))))) (mSeq (mSet 2 (mCB (pureC absC) (mCons (m2 gIx (mStCells 0) (mStIx 0 1)) mNil)))
  (mSeq (mStSet 0 1 (m2 gAdd (mStIx 0 1) (mC (.int 1))))
  (mIfS (mB (m2 gLt (mVar 2) (m2 gPow (mC (.int 10)) (mC (.int 18))))) (mStSet 0 3 (mC (.int 4)))
   (mStSet 0 2 (mVar 2)))))
   mNext)
  (mSeq (mIfS (mB (m2 gGt (mStIx 0 2) (mC (.int 1)))) (mSeq (mSet 3 (m2 gMod (mCB (pureC intC) (mCons (mStIx 0 2) mNil)) (mVar 1)))
  (mSeq (mStSet 0 2 (m2 gFdiv (mCB (pureC intC) (mCons (mStIx 0 2) mNil)) (mVar 1)))
  (mRet (mVar 3))))
   mNext)
  (mSeq (mSet 4 (mStIx 0 4))
  (mSeq (mIfS (mB (m2 gGt (mStIx 0 3) (mC (.int 0)))) (mSeq (mStSet 0 3 (m2 gMinus (mStIx 0 3) (mC (.int 1))))
  (mSet 4 (m2 gAdd (mVar 4) (m2 gMul (mC (.int 1000003)) (m2 gIx (mStCells 0) (m2 gMinus (mStIx 0 1) (mC (.int 1))))))))
   mNext)
  (mSeq (mStSet 0 5 (m2 gAdd (mStIx 0 5) (mC (.int 1))))
  (mSeq (mSet 5 (mC (.int 0)))
  (mSeq (mFor (.one 6) (mRange1 (mCons (m2 gAdd (mC (.int 1)) (m2 gMul (mC (.int 2)) (mCB (pureC intC) (mCons (m2 gGt (mVar 1) (m2 gPow (mC (.int 10)) (mC (.int 12)))) mNil)))) mNil)) (mSet 5 (m2 gAdd (m2 gMul (mVar 5) (m2 gPow (mC (.int 10)) (mC (.int 18)))) (mCall0 m_law_mixed [] (mCons (mVar 4) (mCons (m2 gAdd (m2 gMul (mC (.int 3)) (mStIx 0 5)) (mVar 6)) mNil))))))
  (mRet (m2 gMod (mCB (pureC intC) (mCons (mVar 5) mNil)) (mVar 1)))))))))))
def m_law_take  : Fn := runD true 5 (b_law_take )
theorem ok_law_take {f : Addr} {fd : FuncData}  (B : Blt mg) (D : Df K mg "_law_take" s_law_take ["store", "many"] f fd) (C_law_mixed : Cal P w K mg base "_law_mixed" 1 ["number", "turn"] (spD false 2 m_law_mixed)) : Cal P w K mg base "_law_take" 2 ["store", "many"] (spD true 1 (m_law_take )) :=
  cal_ok D sc_law_take rfl rfl fun cdv A outer s H E hr => by
  have tk : L2N.Takes (cxOf (L2N.CX P w) P w K mg base N_law_take "_law_take" (defScope s_law_take) f cdv A outer s H E) (fun cls d _ H => E cls d H) := L2N.takes_of rfl rfl rfl rfl
  exact ⟨_, (pss_cons (ps_if (pt_cmpR op_lt (pv 1) pe_int (nomark _)) (pss_one (ps_ret pe_int))
   pss_nil)
  (pss_cons (ps_if (PW.pt (pw_and (pt_cmpR op_lt (pe_ix ix_seq (pv 0) pe_int (fun _ _ => rfl)) pe_int (nomark _)) (pw_and (pt_cmpR op_lt (pe_ix ix_seq (pv 0) pe_int (fun _ _ => rfl)) pe_int (nomark _)) (pw_and1 (pt_cmpR op_lt (pe_ix ix_seq (pv 0) pe_int (fun _ _ => rfl)) (pe_callB call_len (by rfl) B.n_len bt_len (pa_cons (pe_ix ix_seq (pv 0) pe_int (fun _ _ => rfl)) pa_nil)) (nomark _)))))) (pss_cons (ps_set (i := 2) sc_law_take.nd rfl (by first | exact .inl rfl | exact .inr rfl) (pe_callB call_abs (by rfl) B.n_abs bt_abs (pa_cons (pe_ix ix_seq (pe_ix ix_seq (pv 0) pe_int (fun _ _ => rfl)) (pe_ix ix_seq (pv 0) pe_int (fun _ _ => rfl)) (fun _ _ => rfl)) pa_nil)))
  (pss_cons (ps_asg (pe_op op_add (pe_ix ix_seq (pv 0) pe_int (fun _ _ => rfl)) pe_int) (pg_sub (pv 0) pe_int set_list))
  (pss_one (ps_if (pt_cmpR op_lt (pv 2) (pe_op op_pow pe_int pe_int) (nomark _)) (pss_one (ps_asg pe_int (pg_sub (pv 0) pe_int set_list)))
   (pss_one (ps_asg (pv 2) (pg_sub (pv 0) pe_int set_list)))))))
   pss_nil)
  (pss_cons (ps_if (pt_cmpR op_gt (pe_ix ix_seq (pv 0) pe_int (fun _ _ => rfl)) pe_int (nomark _)) (pss_cons (ps_set (i := 3) sc_law_take.nd rfl (by first | exact .inl rfl | exact .inr rfl) (pe_op op_mod (pe_callTy call_int1 (by rfl) B.n_int bt_int (pa_cons (pe_ix ix_seq (pv 0) pe_int (fun _ _ => rfl)) pa_nil)) (pv 1)))
  (pss_cons (ps_asg (pe_op op_fdivW (pe_callTy call_int1 (by rfl) B.n_int bt_int (pa_cons (pe_ix ix_seq (pv 0) pe_int (fun _ _ => rfl)) pa_nil)) (pv 1)) (pg_sub (pv 0) pe_int set_list))
  (pss_one (ps_ret (pv 3)))))
   pss_nil)
  (pss_cons (ps_set (i := 4) sc_law_take.nd rfl (by first | exact .inl rfl | exact .inr rfl) (pe_ix ix_seq (pv 0) pe_int (fun _ _ => rfl)))
  (pss_cons (ps_if (pt_cmpR op_gt (pe_ix ix_seq (pv 0) pe_int (fun _ _ => rfl)) pe_int (nomark _)) (pss_cons (ps_asg (pe_op op_sub (pe_ix ix_seq (pv 0) pe_int (fun _ _ => rfl)) pe_int) (pg_sub (pv 0) pe_int set_list))
  (pss_one (ps_set (i := 4) sc_law_take.nd rfl (by first | exact .inl rfl | exact .inr rfl) (pe_op op_add (pv 4) (pe_op op_mulW pe_int (pe_ix ix_seq (pe_ix ix_seq (pv 0) pe_int (fun _ _ => rfl)) (pe_op op_sub (pe_ix ix_seq (pv 0) pe_int (fun _ _ => rfl)) pe_int) (fun _ _ => rfl)))))))
   pss_nil)
  (pss_cons (ps_asg (pe_op op_add (pe_ix ix_seq (pv 0) pe_int (fun _ _ => rfl)) pe_int) (pg_sub (pv 0) pe_int set_list))
  (pss_cons (ps_set (i := 5) sc_law_take.nd rfl (by first | exact .inl rfl | exact .inr rfl) pe_int)
  (pss_cons (ps_for (passes_of rfl) rfl (pi_range1 (by rfl) B.n_range (pa_cons (pe_op op_add pe_int (pe_op op_mulW pe_int (pe_callTy call_int1 (by rfl) B.n_int bt_int (pa_cons (pe_cmpR op_gt (pv 1) (pe_op op_pow pe_int pe_int) (nomark _)) pa_nil)))) pa_nil)) (pg_name (i := 6) sc_law_take.nd rfl (by first | exact .inl rfl | exact .inr rfl)) (pss_one (ps_set (i := 5) sc_law_take.nd rfl (by first | exact .inl rfl | exact .inr rfl) (pe_op op_add (pe_op op_mulW (pv 5) (pe_op op_pow pe_int pe_int)) (pe_cl C_law_mixed hr (by decide) (by rfl) (fun σ => L2N.passAt tk σ) (pa_cons (pv 4) (pa_cons (pe_op op_add (pe_op op_mulW pe_int (pe_ix ix_seq (pv 0) pe_int (fun _ _ => rfl))) (pv 6)) pa_nil)))))))
  (pss_one (ps_ret (pe_op op_mod (pe_callTy call_int1 (by rfl) B.n_int bt_int (pa_cons (pv 5) pa_nil)) (pv 1)))))))))))),
  (st_seq (st_if (bt_test (et_op o_lt (et_var 1) (et_int _))) (st_ret (et_int _))
   st_next)
  (st_seq (st_if (bt_and (bt_test (et_op o_lt (et_stIx 0 2) (et_int _))) (bt_and (bt_test (et_op o_lt (et_stIx 0 3) (et_int _))) (bt_test (et_op o_lt (et_stIx 0 1) (et_cb c_len (at_cons (et_stCells 0) at_nil)))))) (st_seq (st_set 2 (et_cb c_abs (at_cons (et_op o_ix (et_stCells 0) (et_stIx 0 1)) at_nil)))
  (st_seq (st_stSet 0 1 (et_op o_add (et_stIx 0 1) (et_int _)))
  (st_if (bt_test (et_op o_lt (et_var 2) (et_op o_pow (et_int _) (et_int _)))) (st_stSet 0 3 (et_int _))
   (st_stSet 0 2 (et_var 2)))))
   st_next)
  (st_seq (st_if (bt_test (et_op o_gt (et_stIx 0 2) (et_int _))) (st_seq (st_set 3 (et_op o_mod (et_cb c_int (at_cons (et_stIx 0 2) at_nil)) (et_var 1)))
  (st_seq (st_stSet 0 2 (et_op o_fdiv (et_cb c_int (at_cons (et_stIx 0 2) at_nil)) (et_var 1)))
  (st_ret (et_var 3))))
   st_next)
  (st_seq (st_set 4 (et_stIx 0 4))
  (st_seq (st_if (bt_test (et_op o_gt (et_stIx 0 3) (et_int _))) (st_seq (st_stSet 0 3 (et_op o_sub (et_stIx 0 3) (et_int _)))
  (st_set 4 (et_op o_add (et_var 4) (et_op o_mul (et_int _) (et_op o_ix (et_stCells 0) (et_op o_sub (et_stIx 0 1) (et_int _)))))))
   st_next)
  (st_seq (st_stSet 0 5 (et_op o_add (et_stIx 0 5) (et_int _)))
  (st_seq (st_set 5 (et_int _))
  (st_seq (st_for (K := K) (.one 6) (it_range1 (at_cons (et_op o_add (et_int _) (et_op o_mul (et_int _) (et_cb c_int (at_cons (et_op o_gt (et_var 1) (et_op o_pow (et_int _) (et_int _))) at_nil)))) at_nil)) (st_set 5 (et_op o_add (et_op o_mul (et_var 5) (et_op o_pow (et_int _) (et_int _))) (et_call0 [] (fun _ => reps_nil.mpr rfl) (ln_cons (ln_cons ln_nil)) rfl (at_cons (et_var 4) (at_cons (et_op o_add (et_op o_mul (et_int _) (et_stIx 0 5)) (et_var 6)) at_nil))))))
  (st_ret (et_op o_mod (et_cb c_int (at_cons (et_var 5) at_nil)) (et_var 1)))))))))))⟩
/-! ### _law_once -/
abbrev s_law_once : Stmt := top 30
abbrev N_law_once : List Str := ["store", "many"]
theorem sc_law_once : FnScope N_law_once ["store", "many"] (defScope s_law_once) := ⟨rfl, rfl, rfl, by decide +kernel, rfl, by decide +kernel, by decide +kernel⟩
def b_law_once  : Ph Ctl := (mRet (m2 gEq (mCall1 m_law_take 0 (mCons (mVar 1) mNil)) (mC (.int 0))))
def m_law_once  : Fn := runD true 0 (b_law_once )
theorem ok_law_once {f : Addr} {fd : FuncData}  (B : Blt mg) (D : Df K mg "_law_once" s_law_once ["store", "many"] f fd) (C_law_take : Cal P w K mg base "_law_take" 2 ["store", "many"] (spD true 1 m_law_take)) : Cal P w K mg base "_law_once" 3 ["store", "many"] (spD true 1 (m_law_once )) :=
  cal_ok D sc_law_once rfl rfl fun cdv A outer s H E hr => by
  have tk : L2N.Takes (cxOf (L2N.CX P w) P w K mg base N_law_once "_law_once" (defScope s_law_once) f cdv A outer s H E) (fun cls d _ H => E cls d H) := L2N.takes_of rfl rfl rfl rfl
  exact ⟨_, (pss_one (ps_ret (pe_cmpR (op_eqD hr.units) (pe_cl C_law_take hr (by decide) (by rfl) (fun σ => L2N.passAt tk σ) (pa_cons (pv 0) (pa_cons (pv 1) pa_nil))) pe_int (nomark _)))),
  (st_ret (et_op o_eq (et_call1 0 (ln_cons ln_nil) (at_cons (et_var 1) at_nil)) (et_int _)))⟩
/-! ### _law_shuffle -/
abbrev s_law_shuffle : Stmt := top 31
abbrev N_law_shuffle : List Str := ["store", "many", "row", "kind", "one", "two", "mixed", "k"]
theorem sc_law_shuffle : FnScope N_law_shuffle ["store", "many"] (defScope s_law_shuffle) := ⟨rfl, rfl, rfl, by decide +kernel, rfl, by decide +kernel, by decide +kernel⟩
def b_law_shuffle  : Ph Ctl := (mSeq (mSetO 2 (mRg (mVar 1)))
  (mSeq (mIfS (mAnd (mB (m2 gGt (mVar 1) (mC (.int 1)))) (mB (mCall1 m_law_once 0 (mCons (mC (.int 3)) mNil)))) (mSeq (mSet 3 (mCall1 m_law_take 0 (mCons (mC (.int 3)) mNil)))
  (mSeq (mIfS (mB (m2 gEq (mVar 3) (mC (.int 1)))) (mSetO 2 (mRevO 2))
   mNext)
  (mSeq (mIfS (mB (m2 gEq (mVar 3) (mC (.int 2)))) (mSeq (mSet 4 (mCall1 m_law_take 0 (mCons (mVar 1) mNil)))
  (mSeq (mSet 5 (mCall1 m_law_take 0 (mCons (mVar 1) mNil)))
  (mSwap 2 4 5)))
   mNext)
  (mRet (mTupO 2)))))
   mNext)
  (mSeq (mSetO 6 (mLst mNil))
  (mSeq (mFor (.one 7) (mRange1 (mCons (mVar 1) mNil)) (mAppPop 6 2 (mCall1 m_law_take 0 (mCons (mLenO 2) mNil))))
  (mRet (mTupO 6))))))
def m_law_shuffle  : Fn := runD true 6 (b_law_shuffle )
theorem ok_law_shuffle {f : Addr} {fd : FuncData}  (B : Blt mg) (D : Df K mg "_law_shuffle" s_law_shuffle ["store", "many"] f fd) (C_law_once : Cal P w K mg base "_law_once" 3 ["store", "many"] (spD true 1 m_law_once)) (C_law_take : Cal P w K mg base "_law_take" 2 ["store", "many"] (spD true 1 m_law_take)) : Cal P w K mg base "_law_shuffle" 4 ["store", "many"] (spD true 1 (m_law_shuffle )) :=
  cal_ok D sc_law_shuffle rfl rfl fun cdv A outer s H E hr => by
  have tk : L2N.Takes (cxOf (L2N.CX P w) P w K mg base N_law_shuffle "_law_shuffle" (defScope s_law_shuffle) f cdv A outer s H E) (fun cls d _ H => E cls d H) := L2N.takes_of rfl rfl rfl rfl
  exact ⟨_, (pss_cons (ps_set (i := 2) sc_law_shuffle.nd rfl (by first | exact .inl rfl | exact .inr rfl) (pe_listRg rfl (by rfl) B.n_list (prg_1 (by rfl) B.n_range (pv 1))))
  (pss_cons (ps_if (PW.pt (pw_and (pt_cmpR op_gt (pv 1) pe_int (nomark _)) (pw_and1 (pt_val (pe_cl C_law_once hr (by decide) (by rfl) (fun σ => L2N.passAt tk σ) (pa_cons (pv 0) (pa_cons pe_int pa_nil))))))) (pss_cons (ps_set (i := 3) sc_law_shuffle.nd rfl (by first | exact .inl rfl | exact .inr rfl) (pe_cl C_law_take hr (by decide) (by rfl) (fun σ => L2N.passAt tk σ) (pa_cons (pv 0) (pa_cons pe_int pa_nil))))
  (pss_cons (ps_if (pt_cmpR (op_eqD hr.units) (pv 3) pe_int (nomark _)) (pss_one (ps_set (i := 2) sc_law_shuffle.nd rfl (by first | exact .inl rfl | exact .inr rfl) (pe_revL (pv 2))))
   pss_nil)
  (pss_cons (ps_if (pt_cmpR (op_eqD hr.units) (pv 3) pe_int (nomark _)) (pss_cons (ps_set (i := 4) sc_law_shuffle.nd rfl (by first | exact .inl rfl | exact .inr rfl) (pe_cl C_law_take hr (by decide) (by rfl) (fun σ => L2N.passAt tk σ) (pa_cons (pv 0) (pa_cons (pv 1) pa_nil))))
  (pss_cons (ps_set (i := 5) sc_law_shuffle.nd rfl (by first | exact .inl rfl | exact .inr rfl) (pe_cl C_law_take hr (by decide) (by rfl) (fun σ => L2N.passAt tk σ) (pa_cons (pv 0) (pa_cons (pv 1) pa_nil))))
  (pss_one (ps_asg (pe_tup (pa_cons (pe_ix ix_seq (pv 2) (pv 5) (fun _ _ => rfl)) (pa_cons (pe_ix ix_seq (pv 2) (pv 4) (fun _ _ => rfl)) pa_nil))) (pg_tup rfl (pgs_cons (pg_sub (pv 2) (pv 4) set_list) (pgs_cons (pg_sub (pv 2) (pv 5) set_list) pgs_nil)))))))
   pss_nil)
  (pss_one (ps_ret (pe_callTy call_tuple_of (by rfl) B.n_tuple bt_tuple (pa_cons (pv 2) pa_nil)))))))
   pss_nil)
  (pss_cons (ps_set (i := 6) sc_law_shuffle.nd rfl (by first | exact .inl rfl | exact .inr rfl) (pe_lst pa_nil))
  (pss_cons (ps_for (passes_of rfl) rfl (pi_range1 (by rfl) B.n_range (pa_cons (pv 1) pa_nil)) (pg_name (i := 7) sc_law_shuffle.nd rfl (by first | exact .inl rfl | exact .inr rfl)) (pss_one (ps_expr (pe_bm PySem.F.plainAttrs_list PySem.F.slot_list_append PySem.F.type_list_append mt_append (pv 6) (pa_cons (pe_bm PySem.F.plainAttrs_list PySem.F.slot_list_pop PySem.F.type_list_pop mt_popAt (pv 2) (pa_cons (pe_cl C_law_take hr (by decide) (by rfl) (fun σ => L2N.passAt tk σ) (pa_cons (pv 0) (pa_cons (pe_callB call_len (by rfl) B.n_len bt_len (pa_cons (pv 2) pa_nil)) pa_nil))) pa_nil)) pa_nil)))))
  (pss_one (ps_ret (pe_callTy call_tuple_of (by rfl) B.n_tuple bt_tuple (pa_cons (pv 6) pa_nil)))))))),
  (st_seq (st_setO 2 (ot_listRg (et_var 1)))
  (st_seq (st_if (bt_and (bt_test (et_op o_gt (et_var 1) (et_int _))) (bt_val (et_call1 0 (ln_cons ln_nil) (at_cons (et_int _) at_nil)))) (st_seq (st_set 3 (et_call1 0 (ln_cons ln_nil) (at_cons (et_int _) at_nil)))
  (st_seq (st_if (bt_test (et_op o_eq (et_var 3) (et_int _))) (st_setO 2 (ot_revO 2))
   st_next)
  (st_seq (st_if (bt_test (et_op o_eq (et_var 3) (et_int _))) (st_seq (st_set 4 (et_call1 0 (ln_cons ln_nil) (at_cons (et_var 1) at_nil)))
  (st_seq (st_set 5 (et_call1 0 (ln_cons ln_nil) (at_cons (et_var 1) at_nil)))
  (st_swap 2 4 5)))
   st_next)
  (st_ret (et_tupO 2)))))
   st_next)
  (st_seq (st_setO 6 (ot_lst at_nil))
  (st_seq (st_for (K := K) (.one 7) (it_range1 (at_cons (et_var 1) at_nil)) (st_appPop 6 2 (et_call1 0 (ln_cons ln_nil) (at_cons (et_lenO 2) at_nil))))
  (st_ret (et_tupO 6))))))⟩
/-! ### _law_same -/
abbrev s_law_same : Stmt := top 32
abbrev N_law_same : List Str := ["left", "right", "k"]
theorem sc_law_same : FnScope N_law_same ["left", "right"] (defScope s_law_same) := ⟨rfl, rfl, rfl, by decide +kernel, rfl, by decide +kernel, by decide +kernel⟩
def b_law_same (r : Fn) : Ph Ctl := (mSeq (mIfS (mB (m2 gIsN (mVar 1) (mC .non))) (mRet (m2 gIsN (mVar 0) (mC .non)))
   mNext)
  (mSeq (mIfS (mB (m1 (gIsi "bool") (mVar 1))) (mRet (mAndV (m1 (gIsi "bool") (mVar 0)) (m2 gEq (mVar 0) (mVar 1))))
   mNext)
  (mSeq (mIfS (mB (m1 (gIsi "int") (mVar 1))) (mRet (mAndV (m1 (gIsi "int") (mVar 0)) (mAndV (mNotV (m1 (gIsi "bool") (mVar 0))) (m2 gEq (mVar 0) (mVar 1)))))
   mNext)
  (mSeq (mIfS (mB (m1 (gIsi "str") (mVar 1))) (mRet (mAndV (m1 (gIsi "str") (mVar 0)) (m2 gEq (mVar 0) (mVar 1))))
   mNext)
  (mSeq (mIfS (mB (m1 (gIsi "tuple") (mVar 1))) (mIfS (mOr (mNot (mB (m1 (gIsi "tuple") (mVar 0)))) (mB (m2 gNe (mCB (pureC lenC) (mCons (mVar 0) mNil)) (mCB (pureC lenC) (mCons (mVar 1) mNil))))) (mRet (mC (.bl false)))
   mNext)
   (mIfS (mOr (mNot (mB (m1 (gIsi "list") (mVar 1)))) (mOr (mNot (mB (m1 (gIsi "list") (mVar 0)))) (mB (m2 gNe (mCB (pureC lenC) (mCons (mVar 0) mNil)) (mCB (pureC lenC) (mCons (mVar 1) mNil)))))) (mRet (mC (.bl false)))
   mNext))
  (mSeq (mFor (.one 2) (mRange1 (mCons (mCB (pureC lenC) (mCons (mVar 1) mNil)) mNil)) (mIfS (mNot (mB (mCall0 r [] (mCons (m2 gIx (mVar 0) (mVar 2)) (mCons (m2 gIx (mVar 1) (mVar 2)) mNil))))) (mRet (mC (.bl false)))
   mNext))
  (mRet (mC (.bl true)))))))))
def m_law_same : Nat → Fn
  | 0 => fun _ _ => .bad
  | n + 1 => runD false 1 (b_law_same (m_law_same n))
theorem ok_law_same {f : Addr} {fd : FuncData} (B : Blt mg) (D : Df K mg "_law_same" s_law_same ["left", "right"] f fd)  : ∀ n : Nat, Cal P w K mg base "_law_same" (n + 1) ["left", "right"] (spD false 2 (m_law_same n))
  | 0 => Cal.none D (by decide)
  | n + 1 => by
    have R := ok_law_same B D  n
    refine cal_ok (k := n + 1) D sc_law_same rfl rfl fun cdv A outer s H E hr => ?_
    have tk : L2N.Takes (cxOf (L2N.CX P w) P w K mg base N_law_same "_law_same" (defScope s_law_same) f cdv A outer s H E) (fun cls d _ H => E cls d H) := L2N.takes_of rfl rfl rfl rfl
    exact ⟨_, (pss_cons (ps_if (pt_cmpR op_isN (pv 1) pe_non (nomark _)) (pss_one (ps_ret (pe_cmpR op_isN (pv 0) pe_non (nomark _))))
   pss_nil)
  (pss_cons (ps_if (pt_val (pe_callB call_isi (by rfl) B.n_isinstance bt_isinstance (pa_cons (pv 1) (pa_cons (pe_ty (by rfl) B.n_bool bt_bool) pa_nil)))) (pss_one (ps_ret (pe_and (pe_callB call_isi (by rfl) B.n_isinstance bt_isinstance (pa_cons (pv 0) (pa_cons (pe_ty (by rfl) B.n_bool bt_bool) pa_nil))) (pe_one (pe_cmpR (op_eqD hr.units) (pv 0) (pv 1) (nomark _))))))
   pss_nil)
  (pss_cons (ps_if (pt_val (pe_callB call_isi (by rfl) B.n_isinstance bt_isinstance (pa_cons (pv 1) (pa_cons (pe_ty (by rfl) B.n_int bt_int) pa_nil)))) (pss_one (ps_ret (pe_and (pe_callB call_isi (by rfl) B.n_isinstance bt_isinstance (pa_cons (pv 0) (pa_cons (pe_ty (by rfl) B.n_int bt_int) pa_nil))) (pe_and (pe_not (pe_callB call_isi (by rfl) B.n_isinstance bt_isinstance (pa_cons (pv 0) (pa_cons (pe_ty (by rfl) B.n_bool bt_bool) pa_nil)))) (pe_one (pe_cmpR (op_eqD hr.units) (pv 0) (pv 1) (nomark _)))))))
   pss_nil)
  (pss_cons (ps_if (pt_val (pe_callB call_isi (by rfl) B.n_isinstance bt_isinstance (pa_cons (pv 1) (pa_cons (pe_ty (by rfl) B.n_str bt_str) pa_nil)))) (pss_one (ps_ret (pe_and (pe_callB call_isi (by rfl) B.n_isinstance bt_isinstance (pa_cons (pv 0) (pa_cons (pe_ty (by rfl) B.n_str bt_str) pa_nil))) (pe_one (pe_cmpR (op_eqD hr.units) (pv 0) (pv 1) (nomark _))))))
   pss_nil)
  (pss_cons (ps_if (pt_val (pe_callB call_isi (by rfl) B.n_isinstance bt_isinstance (pa_cons (pv 1) (pa_cons (pe_ty (by rfl) B.n_tuple bt_tuple) pa_nil)))) (pss_one (ps_if (PW.pt (pw_or (pt_not (pt_val (pe_callB call_isi (by rfl) B.n_isinstance bt_isinstance (pa_cons (pv 0) (pa_cons (pe_ty (by rfl) B.n_tuple bt_tuple) pa_nil))))) (pw_or1 (pt_cmpR (op_neD hr.units) (pe_callB call_len (by rfl) B.n_len bt_len (pa_cons (pv 0) pa_nil)) (pe_callB call_len (by rfl) B.n_len bt_len (pa_cons (pv 1) pa_nil)) (nomark _))))) (pss_one (ps_ret pe_bl))
   pss_nil))
   (pss_one (ps_if (PW.pt (pw_or (pt_not (pt_val (pe_callB call_isi (by rfl) B.n_isinstance bt_isinstance (pa_cons (pv 1) (pa_cons (pe_ty (by rfl) B.n_list bt_list) pa_nil))))) (pw_or (pt_not (pt_val (pe_callB call_isi (by rfl) B.n_isinstance bt_isinstance (pa_cons (pv 0) (pa_cons (pe_ty (by rfl) B.n_list bt_list) pa_nil))))) (pw_or1 (pt_cmpR (op_neD hr.units) (pe_callB call_len (by rfl) B.n_len bt_len (pa_cons (pv 0) pa_nil)) (pe_callB call_len (by rfl) B.n_len bt_len (pa_cons (pv 1) pa_nil)) (nomark _)))))) (pss_one (ps_ret pe_bl))
   pss_nil)))
  (pss_cons (ps_for (passes_of rfl) rfl (pi_range1 (by rfl) B.n_range (pa_cons (pe_callB call_len (by rfl) B.n_len bt_len (pa_cons (pv 1) pa_nil)) pa_nil)) (pg_name (i := 2) sc_law_same.nd rfl (by first | exact .inl rfl | exact .inr rfl)) (pss_one (ps_if (pt_not (pt_val (pe_cl R hr (Nat.le_refl _) (by rfl) (fun σ => L2N.passAt tk σ) (pa_cons (pe_ix ix_seq (pv 0) (pv 2) (fun _ _ => rfl)) (pa_cons (pe_ix ix_seq (pv 1) (pv 2) (fun _ _ => rfl)) pa_nil))))) (pss_one (ps_ret pe_bl))
   pss_nil)))
  (pss_one (ps_ret pe_bl)))))))),
     (st_seq (st_if (bt_test (et_op o_isN (et_var 1) et_non)) (st_ret (et_op o_isN (et_var 0) et_non))
   st_next)
  (st_seq (st_if (bt_val (et_isi "bool" (et_var 1))) (st_ret (et_and (et_isi "bool" (et_var 0)) (et_op o_eq (et_var 0) (et_var 1))))
   st_next)
  (st_seq (st_if (bt_val (et_isi "int" (et_var 1))) (st_ret (et_and (et_isi "int" (et_var 0)) (et_and (et_not (et_isi "bool" (et_var 0))) (et_op o_eq (et_var 0) (et_var 1)))))
   st_next)
  (st_seq (st_if (bt_val (et_isi "str" (et_var 1))) (st_ret (et_and (et_isi "str" (et_var 0)) (et_op o_eq (et_var 0) (et_var 1))))
   st_next)
  (st_seq (st_if (bt_val (et_isi "tuple" (et_var 1))) (st_if (bt_or (bt_not (bt_val (et_isi "tuple" (et_var 0)))) (bt_test (et_op o_ne (et_cb c_len (at_cons (et_var 0) at_nil)) (et_cb c_len (at_cons (et_var 1) at_nil))))) (st_ret (et_bl _))
   st_next)
   (st_if (bt_or (bt_not (bt_val (et_isi "list" (et_var 1)))) (bt_or (bt_not (bt_val (et_isi "list" (et_var 0)))) (bt_test (et_op o_ne (et_cb c_len (at_cons (et_var 0) at_nil)) (et_cb c_len (at_cons (et_var 1) at_nil)))))) (st_ret (et_bl _))
   st_next))
  (st_seq (st_for (K := K) (.one 2) (it_range1 (at_cons (et_cb c_len (at_cons (et_var 1) at_nil)) at_nil)) (st_if (bt_not (bt_val (et_call0 [] (fun _ => reps_nil.mpr rfl) (ln_cons (ln_cons ln_nil)) rfl (at_cons (et_op o_ix (et_var 0) (et_var 2)) (at_cons (et_op o_ix (et_var 1) (et_var 2)) at_nil))))) (st_ret (et_bl _))
   st_next))
  (st_ret (et_bl _))))))))⟩
theorem okH_law_same {f : Addr} {fd : FuncData} (B : Blt mg) (D : Df K mg "_law_same" s_law_same ["left", "right"] f fd)  : ∀ n : Nat, CalH P w K mg base "_law_same" (n + 1) ["left", "right"] (spD false 2 (m_law_same n))
  | 0 => CalH.none D (by decide)
  | n + 1 => by
    have R := okH_law_same B D  n
    refine cal_okH (k := n + 1) D sc_law_same rfl rfl fun cdv A outer s H E p hc hr => ?_
    have tk : L2N.Takes (L2H.cxH (L2N.CX P w) P w K mg base N_law_same "_law_same" (defScope s_law_same) f cdv A outer s H E p) (fun cls d _ H => E cls d H) := L2N.takes_of rfl rfl rfl rfl
    exact ⟨_, (pss_cons (ps_if (pt_cmpR op_isN (pv 1) pe_non (nomark _)) (pss_one (ps_ret (pe_cmpR op_isN (pv 0) pe_non (nomark _))))
   pss_nil)
  (pss_cons (ps_if (pt_val (pe_callB call_isi (by rfl) B.n_isinstance bt_isinstance (pa_cons (pv 1) (pa_cons (pe_ty (by rfl) B.n_bool bt_bool) pa_nil)))) (pss_one (ps_ret (pe_and (pe_callB call_isi (by rfl) B.n_isinstance bt_isinstance (pa_cons (pv 0) (pa_cons (pe_ty (by rfl) B.n_bool bt_bool) pa_nil))) (pe_one (pe_cmpR (op_eqD (unitsH hr)) (pv 0) (pv 1) (nomark _))))))
   pss_nil)
  (pss_cons (ps_if (pt_val (pe_callB call_isi (by rfl) B.n_isinstance bt_isinstance (pa_cons (pv 1) (pa_cons (pe_ty (by rfl) B.n_int bt_int) pa_nil)))) (pss_one (ps_ret (pe_and (pe_callB call_isi (by rfl) B.n_isinstance bt_isinstance (pa_cons (pv 0) (pa_cons (pe_ty (by rfl) B.n_int bt_int) pa_nil))) (pe_and (pe_not (pe_callB call_isi (by rfl) B.n_isinstance bt_isinstance (pa_cons (pv 0) (pa_cons (pe_ty (by rfl) B.n_bool bt_bool) pa_nil)))) (pe_one (pe_cmpR (op_eqD (unitsH hr)) (pv 0) (pv 1) (nomark _)))))))
   pss_nil)
  (pss_cons (ps_if (pt_val (pe_callB call_isi (by rfl) B.n_isinstance bt_isinstance (pa_cons (pv 1) (pa_cons (pe_ty (by rfl) B.n_str bt_str) pa_nil)))) (pss_one (ps_ret (pe_and (pe_callB call_isi (by rfl) B.n_isinstance bt_isinstance (pa_cons (pv 0) (pa_cons (pe_ty (by rfl) B.n_str bt_str) pa_nil))) (pe_one (pe_cmpR (op_eqD (unitsH hr)) (pv 0) (pv 1) (nomark _))))))
   pss_nil)
  (pss_cons (ps_if (pt_val (pe_callB call_isi (by rfl) B.n_isinstance bt_isinstance (pa_cons (pv 1) (pa_cons (pe_ty (by rfl) B.n_tuple bt_tuple) pa_nil)))) (pss_one (ps_if (PW.pt (pw_or (pt_not (pt_val (pe_callB call_isi (by rfl) B.n_isinstance bt_isinstance (pa_cons (pv 0) (pa_cons (pe_ty (by rfl) B.n_tuple bt_tuple) pa_nil))))) (pw_or1 (pt_cmpR (op_neD (unitsH hr)) (pe_callB call_len (by rfl) B.n_len bt_len (pa_cons (pv 0) pa_nil)) (pe_callB call_len (by rfl) B.n_len bt_len (pa_cons (pv 1) pa_nil)) (nomark _))))) (pss_one (ps_ret pe_bl))
   pss_nil))
   (pss_one (ps_if (PW.pt (pw_or (pt_not (pt_val (pe_callB call_isi (by rfl) B.n_isinstance bt_isinstance (pa_cons (pv 1) (pa_cons (pe_ty (by rfl) B.n_list bt_list) pa_nil))))) (pw_or (pt_not (pt_val (pe_callB call_isi (by rfl) B.n_isinstance bt_isinstance (pa_cons (pv 0) (pa_cons (pe_ty (by rfl) B.n_list bt_list) pa_nil))))) (pw_or1 (pt_cmpR (op_neD (unitsH hr)) (pe_callB call_len (by rfl) B.n_len bt_len (pa_cons (pv 0) pa_nil)) (pe_callB call_len (by rfl) B.n_len bt_len (pa_cons (pv 1) pa_nil)) (nomark _)))))) (pss_one (ps_ret pe_bl))
   pss_nil)))
  (pss_cons (L2H.ps_forH (passes_of rfl) hc (L2H.pi_range1H (by rfl) B.n_range (pa_cons (pe_callB call_len (by rfl) B.n_len bt_len (pa_cons (pv 1) pa_nil)) pa_nil)) (pg_name (i := 2) sc_law_same.nd rfl (by first | exact .inl rfl | exact .inr rfl)) (pss_one (ps_if (pt_not (pt_val (pe_clH R hr (Nat.le_refl _) hc (by rfl) (fun σ => L2N.passAt tk σ) (pa_cons (pe_ix ix_seq (pv 0) (pv 2) (fun _ _ => rfl)) (pa_cons (pe_ix ix_seq (pv 1) (pv 2) (fun _ _ => rfl)) pa_nil))))) (pss_one (ps_ret pe_bl))
   pss_nil)))
  (pss_one (ps_ret pe_bl)))))))),
     (st_seq (st_if (bt_test (et_op o_isN (et_var 1) et_non)) (st_ret (et_op o_isN (et_var 0) et_non))
   st_next)
  (st_seq (st_if (bt_val (et_isi "bool" (et_var 1))) (st_ret (et_and (et_isi "bool" (et_var 0)) (et_op o_eq (et_var 0) (et_var 1))))
   st_next)
  (st_seq (st_if (bt_val (et_isi "int" (et_var 1))) (st_ret (et_and (et_isi "int" (et_var 0)) (et_and (et_not (et_isi "bool" (et_var 0))) (et_op o_eq (et_var 0) (et_var 1)))))
   st_next)
  (st_seq (st_if (bt_val (et_isi "str" (et_var 1))) (st_ret (et_and (et_isi "str" (et_var 0)) (et_op o_eq (et_var 0) (et_var 1))))
   st_next)
  (st_seq (st_if (bt_val (et_isi "tuple" (et_var 1))) (st_if (bt_or (bt_not (bt_val (et_isi "tuple" (et_var 0)))) (bt_test (et_op o_ne (et_cb c_len (at_cons (et_var 0) at_nil)) (et_cb c_len (at_cons (et_var 1) at_nil))))) (st_ret (et_bl _))
   st_next)
   (st_if (bt_or (bt_not (bt_val (et_isi "list" (et_var 1)))) (bt_or (bt_not (bt_val (et_isi "list" (et_var 0)))) (bt_test (et_op o_ne (et_cb c_len (at_cons (et_var 0) at_nil)) (et_cb c_len (at_cons (et_var 1) at_nil)))))) (st_ret (et_bl _))
   st_next))
  (st_seq (st_for (K := K) (.one 2) (it_range1 (at_cons (et_cb c_len (at_cons (et_var 1) at_nil)) at_nil)) (st_if (bt_not (bt_val (et_call0 [] (fun _ => reps_nil.mpr rfl) (ln_cons (ln_cons ln_nil)) rfl (at_cons (et_op o_ix (et_var 0) (et_var 2)) (at_cons (et_op o_ix (et_var 1) (et_var 2)) at_nil))))) (st_ret (et_bl _))
   st_next))
  (st_ret (et_bl _))))))))⟩
/-! ### _law_copy -/
abbrev s_law_copy : Stmt := top 34
abbrev N_law_copy : List Str := ["value", "entry"]
theorem sc_law_copy : FnScope N_law_copy ["value"] (defScope s_law_copy) := ⟨rfl, rfl, rfl, by decide +kernel, rfl, by decide +kernel, by decide +kernel⟩
def b_law_copy (r : Fn) : Ph Ctl := (mSeq (mIfS (mB (m1 (gIsi "tuple") (mVar 0))) (mRet (mTupN (mFrz (mLc (.one 1) [1] (mSeqI (mVar 0)) mYes (mCallN r (mCons (mVar 1) mNil))))))
   mNext)
  (mSeq (mIfS (mB (m1 (gIsi "list") (mVar 0))) (mRet (mFrz (mLc (.one 1) [1] (mSeqI (mVar 0)) mYes (mCallN r (mCons (mVar 1) mNil)))))
   mNext)
  (mRet (mSc (mVar 0)))))
def m_law_copy : Nat → Fn
  | 0 => fun _ _ => .bad
  | n + 1 => runD false 1 (b_law_copy (m_law_copy n))
theorem ok_law_copy {f : Addr} {fd : FuncData} (B : Blt mg) (D : Df K mg "_law_copy" s_law_copy ["value"] f fd)  : ∀ n : Nat, Cal P w K mg base "_law_copy" (n + 1) ["value"] (spN 1 (m_law_copy n))
  | 0 => Cal.noneN D (by decide)
  | n + 1 => by
    have R := ok_law_copy B D  n
    refine cal_okN (k := n + 1) D sc_law_copy rfl rfl fun cdv A outer s H E hr => ?_
    have tk : L2N.Takes (cxOf (L2N.CX P w) P w K mg base N_law_copy "_law_copy" (defScope s_law_copy) f cdv A outer s H E) (fun cls d _ H => E cls d H) := L2N.takes_of rfl rfl rfl rfl
    exact ⟨_, (pss_cons (ps_if (pt_val (pe_callB call_isi (by rfl) B.n_isinstance bt_isinstance (pa_cons (pv 0) (pa_cons (pe_ty (by rfl) B.n_tuple bt_tuple) pa_nil)))) (pss_one (ps_ret (pe_callTy call_tuple_of (by rfl) B.n_tuple bt_tuple (pa_cons (pe_lc (own := [("entry", 1)]) (scope := { kind := PySem.ScopeKind.function, names := [ (PySem.Str.ofString ".0", PySem.NameKind.local), (PySem.Str.ofString "entry", PySem.NameKind.local), (PySem.Str.ofString "_law_copy", PySem.NameKind.globalImplicit)], isGenerator := false, isCoroutine := false, more := [] : PySem.Scope }) rfl sc_law_copy.nd (pi_seq (pv 0)) (blkOk_by (N := N_law_copy) (sc := (defScope s_law_copy)) (by decide +kernel)) (fun _ _ _ _ _ => (pg_name (i := 1) sc_law_copy.nd rfl (by first | exact .inl rfl | exact .inr rfl))) (fun _ _ _ _ _ => pts_nil) (fun _ _ _ _ _ => (pe_cl R hr (Nat.le_refl _) (by rfl) (fun σ => passN0 σ) (pa_cons (pv 1) pa_nil)))) pa_nil))))
   pss_nil)
  (pss_cons (ps_if (pt_val (pe_callB call_isi (by rfl) B.n_isinstance bt_isinstance (pa_cons (pv 0) (pa_cons (pe_ty (by rfl) B.n_list bt_list) pa_nil)))) (pss_one (ps_ret (pe_lc (own := [("entry", 1)]) (scope := { kind := PySem.ScopeKind.function, names := [ (PySem.Str.ofString ".0", PySem.NameKind.local), (PySem.Str.ofString "entry", PySem.NameKind.local), (PySem.Str.ofString "_law_copy", PySem.NameKind.globalImplicit)], isGenerator := false, isCoroutine := false, more := [] : PySem.Scope }) rfl sc_law_copy.nd (pi_seq (pv 0)) (blkOk_by (N := N_law_copy) (sc := (defScope s_law_copy)) (by decide +kernel)) (fun _ _ _ _ _ => (pg_name (i := 1) sc_law_copy.nd rfl (by first | exact .inl rfl | exact .inr rfl))) (fun _ _ _ _ _ => pts_nil) (fun _ _ _ _ _ => (pe_cl R hr (Nat.le_refl _) (by rfl) (fun σ => passN0 σ) (pa_cons (pv 1) pa_nil))))))
   pss_nil)
  (pss_one (ps_ret (pv 0))))),
     (tn_seqN (tn_if (bt_val (et_isi "tuple" (et_var 0))) (tn_ret (nt_tuple (nt_lc (K := K) (.one 1) [1] (by decide) (it_seq (et_var 0)) bt_yes (nt_callN (ln_cons ln_nil) rfl (at_cons (et_var 1) at_nil)))))
   tn_next)
  (tn_seqN (tn_if (bt_val (et_isi "list" (et_var 0))) (tn_ret (nt_lc (K := K) (.one 1) [1] (by decide) (it_seq (et_var 0)) bt_yes (nt_callN (ln_cons ln_nil) rfl (at_cons (et_var 1) at_nil))))
   tn_next)
  (tn_ret (nt_sc (et_var 0)))))⟩
/-! ### _law_canon -/
abbrev s_law_canon : Stmt := top 35
abbrev N_law_canon : List Str := ["labels", "names", "k", "at", "j"]
theorem sc_law_canon : FnScope N_law_canon ["labels"] (defScope s_law_canon) := ⟨rfl, rfl, rfl, by decide +kernel, rfl, by decide +kernel, by decide +kernel⟩
def b_law_canon  : Ph Ctl := (mSeq (mSetO 1 (mLst mNil))
  (mSeq (mFor (.one 2) (mRange1 (mCons (mCB (pureC lenC) (mCons (mVar 0) mNil)) mNil)) (mSeq (mSet 3 (mVar 2))
  (mSeq (mFor (.one 4) (mRange1 (mCons (mVar 2) mNil)) (mIfS (mB (m2 gEq (m2 gIx (mVar 0) (mVar 4)) (m2 gIx (mVar 0) (mVar 2)))) (mSeq (mSet 3 (mVar 4))
  mBreak)
   mNext))
  (mApp 1 (mVar 3)))))
  (mRet (mTupO 1))))
def m_law_canon  : Fn := runD false 4 (b_law_canon )
theorem ok_law_canon {f : Addr} {fd : FuncData}  (B : Blt mg) (D : Df K mg "_law_canon" s_law_canon ["labels"] f fd)  : Cal P w K mg base "_law_canon" 1 ["labels"] (spD false 1 (m_law_canon )) :=
  cal_ok D sc_law_canon rfl rfl fun cdv A outer s H E hr => by
  have tk : L2N.Takes (cxOf (L2N.CX P w) P w K mg base N_law_canon "_law_canon" (defScope s_law_canon) f cdv A outer s H E) (fun cls d _ H => E cls d H) := L2N.takes_of rfl rfl rfl rfl
  exact ⟨_, (pss_cons (ps_set (i := 1) sc_law_canon.nd rfl (by first | exact .inl rfl | exact .inr rfl) (pe_lst pa_nil))
  (pss_cons (ps_for (passes_of rfl) rfl (pi_range1 (by rfl) B.n_range (pa_cons (pe_callB call_len (by rfl) B.n_len bt_len (pa_cons (pv 0) pa_nil)) pa_nil)) (pg_name (i := 2) sc_law_canon.nd rfl (by first | exact .inl rfl | exact .inr rfl)) (pss_cons (ps_set (i := 3) sc_law_canon.nd rfl (by first | exact .inl rfl | exact .inr rfl) (pv 2))
  (pss_cons (ps_for (passes_of rfl) rfl (pi_range1 (by rfl) B.n_range (pa_cons (pv 2) pa_nil)) (pg_name (i := 4) sc_law_canon.nd rfl (by first | exact .inl rfl | exact .inr rfl)) (pss_one (ps_if (pt_cmpR (op_eqD hr.units) (pe_ix ix_seq (pv 0) (pv 4) (fun _ _ => rfl)) (pe_ix ix_seq (pv 0) (pv 2) (fun _ _ => rfl)) (nomark _)) (pss_cons (ps_set (i := 3) sc_law_canon.nd rfl (by first | exact .inl rfl | exact .inr rfl) (pv 4))
  (pss_one ps_break))
   pss_nil)))
  (pss_one (ps_expr (pe_bm PySem.F.plainAttrs_list PySem.F.slot_list_append PySem.F.type_list_append mt_append (pv 1) (pa_cons (pv 3) pa_nil)))))))
  (pss_one (ps_ret (pe_callTy call_tuple_of (by rfl) B.n_tuple bt_tuple (pa_cons (pv 1) pa_nil)))))),
  (st_seq (st_setO 1 (ot_lst at_nil))
  (st_seq (st_for (K := K) (.one 2) (it_range1 (at_cons (et_cb c_len (at_cons (et_var 0) at_nil)) at_nil)) (st_seq (st_set 3 (et_var 2))
  (st_seq (st_for (K := K) (.one 4) (it_range1 (at_cons (et_var 2) at_nil)) (st_if (bt_test (et_op o_eq (et_op o_ix (et_var 0) (et_var 4)) (et_op o_ix (et_var 0) (et_var 2)))) (st_seq (st_set 3 (et_var 4))
  st_break)
   st_next))
  (st_app 1 (et_var 3)))))
  (st_ret (et_tupO 1))))⟩
/-! ### _law_parting -/
abbrev s_law_parting : Stmt := top 36
abbrev N_law_parting : List Str := ["store", "plots", "kind", "size", "k"]
theorem sc_law_parting : FnScope N_law_parting ["store", "plots"] (defScope s_law_parting) := ⟨rfl, rfl, rfl, by decide +kernel, rfl, by decide +kernel, by decide +kernel⟩
def b_law_parting  : Ph Ctl := (mSeq (mSet 2 (mCall1 m_law_take 0 (mCons (mC (.int 8)) mNil)))
  (mSeq (mSet 3 (m2 gAdd (mC (.int 1)) (mCall1 m_law_take 0 (mCons (mVar 1) mNil))))
  (mSeq (mIfS (mB (m2 gEq (mVar 2) (mC (.int 0)))) (mRet (mCall0 m_law_canon [] (mCons (mFrz (mLc (.one 4) [4] (mRange1 (mCons (mVar 1) mNil)) mYes (mC (.int 0)))) mNil)))
   mNext)
  (mSeq (mIfS (mB (m2 gEq (mVar 2) (mC (.int 1)))) (mRet (mRgT (mVar 1)))
   mNext)
  (mSeq (mIfS (mB (m2 gEq (mVar 2) (mC (.int 2)))) (mRet (mCall0 m_law_canon [] (mCons (mFrz (mLc (.one 4) [4] (mRange1 (mCons (mVar 1) mNil)) mYes (m2 gFdiv (mVar 4) (mVar 3)))) mNil)))
   mNext)
  (mSeq (mIfS (mB (m2 gEq (mVar 2) (mC (.int 3)))) (mRet (mCall0 m_law_canon [] (mCons (mFrz (mLc (.one 4) [4] (mRange1 (mCons (mVar 1) mNil)) mYes (m2 gMod (mCB (pureC intC) (mCons (mVar 4) mNil)) (mVar 3)))) mNil)))
   mNext)
  (mSeq (mIfS (mB (m2 gEq (mVar 2) (mC (.int 4)))) (mRet (mCall0 m_law_canon [] (mCons (mFrz (mLc (.one 4) [4] (mRange1 (mCons (mVar 1) mNil)) mYes (mCB (pureC intC) (mCons (m2 gEq (mVar 4) (m2 gMinus (mVar 3) (mC (.int 1)))) mNil)))) mNil)))
   mNext)
  (mSeq (mIfS (mB (m2 gEq (mVar 2) (mC (.int 5)))) (mSet 3 (mCB (pureC minC) (mCons (mVar 1) (mCons (mC (.int 2)) mNil))))
   mNext)
  (mRet (mCall0 m_law_canon [] (mCons (mFrz (mLc (.one 4) [4] (mRange1 (mCons (mVar 1) mNil)) mYes (mCall1 m_law_take 0 (mCons (mVar 3) mNil)))) mNil)))))))))))
def m_law_parting  : Fn := runD true 3 (b_law_parting )
theorem ok_law_parting {f : Addr} {fd : FuncData}  (B : Blt mg) (D : Df K mg "_law_parting" s_law_parting ["store", "plots"] f fd) (C_law_take : Cal P w K mg base "_law_take" 2 ["store", "many"] (spD true 1 m_law_take)) (C_law_canon : Cal P w K mg base "_law_canon" 1 ["labels"] (spD false 1 m_law_canon)) : Cal P w K mg base "_law_parting" 3 ["store", "plots"] (spD true 1 (m_law_parting )) :=
  cal_ok D sc_law_parting rfl rfl fun cdv A outer s H E hr => by
  have tk : L2N.Takes (cxOf (L2N.CX P w) P w K mg base N_law_parting "_law_parting" (defScope s_law_parting) f cdv A outer s H E) (fun cls d _ H => E cls d H) := L2N.takes_of rfl rfl rfl rfl
  exact ⟨_, (pss_cons (ps_set (i := 2) sc_law_parting.nd rfl (by first | exact .inl rfl | exact .inr rfl) (pe_cl C_law_take hr (by decide) (by rfl) (fun σ => L2N.passAt tk σ) (pa_cons (pv 0) (pa_cons pe_int pa_nil))))
  (pss_cons (ps_set (i := 3) sc_law_parting.nd rfl (by first | exact .inl rfl | exact .inr rfl) (pe_op op_add pe_int (pe_cl C_law_take hr (by decide) (by rfl) (fun σ => L2N.passAt tk σ) (pa_cons (pv 0) (pa_cons (pv 1) pa_nil)))))
  (pss_cons (ps_if (pt_cmpR (op_eqD hr.units) (pv 2) pe_int (nomark _)) (pss_one (ps_ret (pe_cl C_law_canon hr (by decide) (by rfl) (fun σ => L2N.passAt tk σ) (pa_cons (pe_lc (own := [("k", 4)]) (scope := { kind := PySem.ScopeKind.function, names := [(PySem.Str.ofString ".0", PySem.NameKind.local), (PySem.Str.ofString "k", PySem.NameKind.local)], isGenerator := false, isCoroutine := false, more := [] : PySem.Scope }) rfl sc_law_parting.nd (pi_range1 (by rfl) B.n_range (pa_cons (pv 1) pa_nil)) (blkOk_by (N := N_law_parting) (sc := (defScope s_law_parting)) (by decide +kernel)) (fun _ _ _ _ _ => (pg_name (i := 4) sc_law_parting.nd rfl (by first | exact .inl rfl | exact .inr rfl))) (fun _ _ _ _ _ => pts_nil) (fun _ _ _ _ _ => pe_int)) pa_nil))))
   pss_nil)
  (pss_cons (ps_if (pt_cmpR (op_eqD hr.units) (pv 2) pe_int (nomark _)) (pss_one (ps_ret (pe_tupRg rfl (by rfl) B.n_tuple (prg_1 (by rfl) B.n_range (pv 1)))))
   pss_nil)
  (pss_cons (ps_if (pt_cmpR (op_eqD hr.units) (pv 2) pe_int (nomark _)) (pss_one (ps_ret (pe_cl C_law_canon hr (by decide) (by rfl) (fun σ => L2N.passAt tk σ) (pa_cons (pe_lc (own := [("k", 4)]) (scope := { kind := PySem.ScopeKind.function, names := [ (PySem.Str.ofString ".0", PySem.NameKind.local), (PySem.Str.ofString "k", PySem.NameKind.local), (PySem.Str.ofString "size", PySem.NameKind.free)], isGenerator := false, isCoroutine := false, more := [] : PySem.Scope }) rfl sc_law_parting.nd (pi_range1 (by rfl) B.n_range (pa_cons (pv 1) pa_nil)) (blkOk_by (N := N_law_parting) (sc := (defScope s_law_parting)) (by decide +kernel)) (fun _ _ _ _ _ => (pg_name (i := 4) sc_law_parting.nd rfl (by first | exact .inl rfl | exact .inr rfl))) (fun _ _ _ _ _ => pts_nil) (fun _ _ _ _ _ => (pe_op op_fdivW (pv 4) (pv 3)))) pa_nil))))
   pss_nil)
  (pss_cons (ps_if (pt_cmpR (op_eqD hr.units) (pv 2) pe_int (nomark _)) (pss_one (ps_ret (pe_cl C_law_canon hr (by decide) (by rfl) (fun σ => L2N.passAt tk σ) (pa_cons (pe_lc (own := [("k", 4)]) (scope := { kind := PySem.ScopeKind.function, names := [ (PySem.Str.ofString ".0", PySem.NameKind.local), (PySem.Str.ofString "k", PySem.NameKind.local), (PySem.Str.ofString "int", PySem.NameKind.globalImplicit), (PySem.Str.ofString "size", PySem.NameKind.free)], isGenerator := false, isCoroutine := false, more := [] : PySem.Scope }) rfl sc_law_parting.nd (pi_range1 (by rfl) B.n_range (pa_cons (pv 1) pa_nil)) (blkOk_by (N := N_law_parting) (sc := (defScope s_law_parting)) (by decide +kernel)) (fun _ _ _ _ _ => (pg_name (i := 4) sc_law_parting.nd rfl (by first | exact .inl rfl | exact .inr rfl))) (fun _ _ _ _ _ => pts_nil) (fun _ _ _ _ _ => (pe_op op_mod (pe_callTy call_int1 (by rfl) B.n_int bt_int (pa_cons (pv 4) pa_nil)) (pv 3)))) pa_nil))))
   pss_nil)
  (pss_cons (ps_if (pt_cmpR (op_eqD hr.units) (pv 2) pe_int (nomark _)) (pss_one (ps_ret (pe_cl C_law_canon hr (by decide) (by rfl) (fun σ => L2N.passAt tk σ) (pa_cons (pe_lc (own := [("k", 4)]) (scope := { kind := PySem.ScopeKind.function, names := [ (PySem.Str.ofString ".0", PySem.NameKind.local), (PySem.Str.ofString "k", PySem.NameKind.local), (PySem.Str.ofString "int", PySem.NameKind.globalImplicit), (PySem.Str.ofString "size", PySem.NameKind.free)], isGenerator := false, isCoroutine := false, more := [] : PySem.Scope }) rfl sc_law_parting.nd (pi_range1 (by rfl) B.n_range (pa_cons (pv 1) pa_nil)) (blkOk_by (N := N_law_parting) (sc := (defScope s_law_parting)) (by decide +kernel)) (fun _ _ _ _ _ => (pg_name (i := 4) sc_law_parting.nd rfl (by first | exact .inl rfl | exact .inr rfl))) (fun _ _ _ _ _ => pts_nil) (fun _ _ _ _ _ => (pe_callTy call_int1 (by rfl) B.n_int bt_int (pa_cons (pe_cmpR (op_eqD hr.units) (pv 4) (pe_op op_sub (pv 3) pe_int) (nomark _)) pa_nil)))) pa_nil))))
   pss_nil)
  (pss_cons (ps_if (pt_cmpR (op_eqD hr.units) (pv 2) pe_int (nomark _)) (pss_one (ps_set (i := 3) sc_law_parting.nd rfl (by first | exact .inl rfl | exact .inr rfl) (pe_callB (call_min2 rfl) (by rfl) B.n_min bt_min (pa_cons (pv 1) (pa_cons pe_int pa_nil)))))
   pss_nil)
  (pss_one (ps_ret (pe_cl C_law_canon hr (by decide) (by rfl) (fun σ => L2N.passAt tk σ) (pa_cons (pe_lc (own := [("k", 4)]) (scope := { kind := PySem.ScopeKind.function, names := [ (PySem.Str.ofString ".0", PySem.NameKind.local), (PySem.Str.ofString "k", PySem.NameKind.local), (PySem.Str.ofString "_law_take", PySem.NameKind.globalImplicit), (PySem.Str.ofString "size", PySem.NameKind.free), (PySem.Str.ofString "store", PySem.NameKind.free)], isGenerator := false, isCoroutine := false, more := [] : PySem.Scope }) rfl sc_law_parting.nd (pi_range1 (by rfl) B.n_range (pa_cons (pv 1) pa_nil)) (blkOk_by (N := N_law_parting) (sc := (defScope s_law_parting)) (by decide +kernel)) (fun _ _ _ _ _ => (pg_name (i := 4) sc_law_parting.nd rfl (by first | exact .inl rfl | exact .inr rfl))) (fun _ _ _ _ _ => pts_nil) (fun _ _ _ _ _ => (pe_cl C_law_take hr (by decide) (by rfl) (fun σ => passN0 σ) (pa_cons (pv 0) (pa_cons (pv 3) pa_nil))))) pa_nil)))))))))))),
  (st_seq (st_set 2 (et_call1 0 (ln_cons ln_nil) (at_cons (et_int _) at_nil)))
  (st_seq (st_set 3 (et_op o_add (et_int _) (et_call1 0 (ln_cons ln_nil) (at_cons (et_var 1) at_nil))))
  (st_seq (st_if (bt_test (et_op o_eq (et_var 2) (et_int _))) (st_ret (et_call0 [] (fun _ => reps_nil.mpr rfl) (ln_cons ln_nil) rfl (at_cons (et_frz (ot_lc (K := K) (.one 4) [4] (by decide) (it_range1 (at_cons (et_var 1) at_nil)) bt_yes (et_int _))) at_nil)))
   st_next)
  (st_seq (st_if (bt_test (et_op o_eq (et_var 2) (et_int _))) (st_ret (et_tupRg (et_var 1)))
   st_next)
  (st_seq (st_if (bt_test (et_op o_eq (et_var 2) (et_int _))) (st_ret (et_call0 [] (fun _ => reps_nil.mpr rfl) (ln_cons ln_nil) rfl (at_cons (et_frz (ot_lc (K := K) (.one 4) [4] (by decide) (it_range1 (at_cons (et_var 1) at_nil)) bt_yes (et_op o_fdiv (et_var 4) (et_var 3)))) at_nil)))
   st_next)
  (st_seq (st_if (bt_test (et_op o_eq (et_var 2) (et_int _))) (st_ret (et_call0 [] (fun _ => reps_nil.mpr rfl) (ln_cons ln_nil) rfl (at_cons (et_frz (ot_lc (K := K) (.one 4) [4] (by decide) (it_range1 (at_cons (et_var 1) at_nil)) bt_yes (et_op o_mod (et_cb c_int (at_cons (et_var 4) at_nil)) (et_var 3)))) at_nil)))
   st_next)
  (st_seq (st_if (bt_test (et_op o_eq (et_var 2) (et_int _))) (st_ret (et_call0 [] (fun _ => reps_nil.mpr rfl) (ln_cons ln_nil) rfl (at_cons (et_frz (ot_lc (K := K) (.one 4) [4] (by decide) (it_range1 (at_cons (et_var 1) at_nil)) bt_yes (et_cb c_int (at_cons (et_op o_eq (et_var 4) (et_op o_sub (et_var 3) (et_int _))) at_nil)))) at_nil)))
   st_next)
  (st_seq (st_if (bt_test (et_op o_eq (et_var 2) (et_int _))) (st_set 3 (et_cb c_min (at_cons (et_var 1) (at_cons (et_int _) at_nil))))
   st_next)
  (st_ret (et_call0 [] (fun _ => reps_nil.mpr rfl) (ln_cons ln_nil) rfl (at_cons (et_frz (ot_lc (K := K) (.one 4) [4] (by decide) (it_range1 (at_cons (et_var 1) at_nil)) bt_yes (et_call1 0 (ln_cons ln_nil) (at_cons (et_var 3) at_nil)))) at_nil)))))))))))⟩
/-! ### _law_nudged -/
abbrev s_law_nudged : Stmt := top 37
abbrev N_law_nudged : List Str := ["store", "names", "labels"]
theorem sc_law_nudged : FnScope N_law_nudged ["store", "names"] (defScope s_law_nudged) := ⟨rfl, rfl, rfl, by decide +kernel, rfl, by decide +kernel, by decide +kernel⟩
def b_law_nudged  : Ph Ctl := (mSeq (mSetO 2 (mCBo gList (mCons (mVar 1) mNil)))
  (mSeq (mSetI 2 (mCall1 m_law_take 0 (mCons (m2 gAdd (mLenO 2) (mC (.int 1))) mNil)) (mCall1 m_law_take 0 (mCons (mLenO 2) mNil)))
  (mGh 2 (mRet (mCall0 m_law_canon [] (mCons (mVar 2) mNil))))))
def m_law_nudged  : Fn := runD true 1 (b_law_nudged )
theorem ok_law_nudged {f : Addr} {fd : FuncData}  (B : Blt mg) (D : Df K mg "_law_nudged" s_law_nudged ["store", "names"] f fd) (C_law_take : Cal P w K mg base "_law_take" 2 ["store", "many"] (spD true 1 m_law_take)) (C_law_canon : Cal P w K mg base "_law_canon" 1 ["labels"] (spD false 1 m_law_canon)) : Cal P w K mg base "_law_nudged" 3 ["store", "names"] (spD true 1 (m_law_nudged )) :=
  cal_ok D sc_law_nudged rfl rfl fun cdv A outer s H E hr => by
  have tk : L2N.Takes (cxOf (L2N.CX P w) P w K mg base N_law_nudged "_law_nudged" (defScope s_law_nudged) f cdv A outer s H E) (fun cls d _ H => E cls d H) := L2N.takes_of rfl rfl rfl rfl
  exact ⟨_, (pss_cons (ps_set (i := 2) sc_law_nudged.nd rfl (by first | exact .inl rfl | exact .inr rfl) (pe_callTy call_list_of (by rfl) B.n_list bt_list (pa_cons (pv 1) pa_nil)))
  (pss_cons (ps_asg (pe_cl C_law_take hr (by decide) (by rfl) (fun σ => L2N.passAt tk σ) (pa_cons (pv 0) (pa_cons (pe_op op_add (pe_callB call_len (by rfl) B.n_len bt_len (pa_cons (pv 2) pa_nil)) pe_int) pa_nil))) (pg_sub (pv 2) (pe_cl C_law_take hr (by decide) (by rfl) (fun σ => L2N.passAt tk σ) (pa_cons (pv 0) (pa_cons (pe_callB call_len (by rfl) B.n_len bt_len (pa_cons (pv 2) pa_nil)) pa_nil))) set_list))
  (pss_one (ps_ret (pe_cl C_law_canon hr (by decide) (by rfl) (fun σ => L2N.passAt tk σ) (pa_cons (pv 2) pa_nil)))))),
  (st_seq (st_setO 2 (ot_cb c_list (at_cons (et_var 1) at_nil)))
  (st_seq (st_setI 2 (et_call1 0 (ln_cons ln_nil) (at_cons (et_op o_add (et_lenO 2) (et_int _)) at_nil)) (et_call1 0 (ln_cons ln_nil) (at_cons (et_lenO 2) at_nil)))
  (st_gh 2 (st_ret (et_call0 [] (fun _ => reps_nil.mpr rfl) (ln_cons ln_nil) rfl (at_cons (et_var 2) at_nil))))))⟩
/-! ### _law_otherplots -/
abbrev s_law_otherplots : Stmt := top 38
abbrev N_law_otherplots : List Str := ["store", "plots", "other"]
theorem sc_law_otherplots : FnScope N_law_otherplots ["store", "plots"] (defScope s_law_otherplots) := ⟨rfl, rfl, rfl, by decide +kernel, rfl, by decide +kernel, by decide +kernel⟩
def b_law_otherplots  : Ph Ctl := (mSeq (mSet 2 (m2 gAdd (mC (.int 1)) (mCall1 m_law_take 0 (mCons (mC (.int 15)) mNil))))
  (mSeq (mIfS (mB (mCall1 m_law_once 0 (mCons (mC (.int 2)) mNil))) (mSet 2 (mCB (pureC maxC) (mCons (mC (.int 1)) (mCons (m2 gMinus (mVar 1) (mC (.int 1))) mNil))))
   mNext)
  (mSeq (mIfS (mB (m2 gGe (mVar 2) (mVar 1))) (mSet 2 (m2 gAdd (mVar 2) (mC (.int 1))))
   mNext)
  (mRet (mVar 2)))))
def m_law_otherplots  : Fn := runD true 1 (b_law_otherplots )
theorem ok_law_otherplots {f : Addr} {fd : FuncData}  (B : Blt mg) (D : Df K mg "_law_otherplots" s_law_otherplots ["store", "plots"] f fd) (C_law_take : Cal P w K mg base "_law_take" 2 ["store", "many"] (spD true 1 m_law_take)) (C_law_once : Cal P w K mg base "_law_once" 3 ["store", "many"] (spD true 1 m_law_once)) : Cal P w K mg base "_law_otherplots" 4 ["store", "plots"] (spD true 1 (m_law_otherplots )) :=
  cal_ok D sc_law_otherplots rfl rfl fun cdv A outer s H E hr => by
  have tk : L2N.Takes (cxOf (L2N.CX P w) P w K mg base N_law_otherplots "_law_otherplots" (defScope s_law_otherplots) f cdv A outer s H E) (fun cls d _ H => E cls d H) := L2N.takes_of rfl rfl rfl rfl
  exact ⟨_, (pss_cons (ps_set (i := 2) sc_law_otherplots.nd rfl (by first | exact .inl rfl | exact .inr rfl) (pe_op op_add pe_int (pe_cl C_law_take hr (by decide) (by rfl) (fun σ => L2N.passAt tk σ) (pa_cons (pv 0) (pa_cons pe_int pa_nil)))))
  (pss_cons (ps_if (pt_val (pe_cl C_law_once hr (by decide) (by rfl) (fun σ => L2N.passAt tk σ) (pa_cons (pv 0) (pa_cons pe_int pa_nil)))) (pss_one (ps_set (i := 2) sc_law_otherplots.nd rfl (by first | exact .inl rfl | exact .inr rfl) (pe_callB (call_max2 rfl) (by rfl) B.n_max bt_max (pa_cons pe_int (pa_cons (pe_op op_sub (pv 1) pe_int) pa_nil)))))
   pss_nil)
  (pss_cons (ps_if (pt_cmpR op_ge (pv 2) (pv 1) (nomark _)) (pss_one (ps_set (i := 2) sc_law_otherplots.nd rfl (by first | exact .inl rfl | exact .inr rfl) (pe_op op_add (pv 2) pe_int)))
   pss_nil)
  (pss_one (ps_ret (pv 2)))))),
  (st_seq (st_set 2 (et_op o_add (et_int _) (et_call1 0 (ln_cons ln_nil) (at_cons (et_int _) at_nil))))
  (st_seq (st_if (bt_val (et_call1 0 (ln_cons ln_nil) (at_cons (et_int _) at_nil))) (st_set 2 (et_cb c_max (at_cons (et_int _) (at_cons (et_op o_sub (et_var 1) (et_int _)) at_nil))))
   st_next)
  (st_seq (st_if (bt_test (et_op o_ge (et_var 2) (et_var 1))) (st_set 2 (et_op o_add (et_var 2) (et_int _)))
   st_next)
  (st_ret (et_var 2)))))⟩
/-! ### _law_lots -/
abbrev s_law_lots : Stmt := top 39
abbrev N_law_lots : List Str := ["names", "lots", "name", "k"]
theorem sc_law_lots : FnScope N_law_lots ["names"] (defScope s_law_lots) := ⟨rfl, rfl, rfl, by decide +kernel, rfl, by decide +kernel, by decide +kernel⟩
def b_law_lots  : Ph Ctl := (mSeq (mSetO 1 (mLst mNil))
  (mSeq (mFor (.one 2) (mRange1 (mCons (mCB (pureC lenC) (mCons (mVar 0) mNil)) mNil)) (mIfS (mB (m2 gEq (m2 gIx (mVar 0) (mVar 2)) (mVar 2))) (mApp 1 (mCB gTuple (mCons (mFrz (mLc (.one 3) [3] (mRange1 (mCons (mCB (pureC lenC) (mCons (mVar 0) mNil)) mNil)) (mB (m2 gEq (m2 gIx (mVar 0) (mVar 3)) (mVar 2))) (mVar 3))) mNil)))
   mNext))
  (mRet (mTupO 1))))
def m_law_lots  : Fn := runD false 3 (b_law_lots )
theorem ok_law_lots {f : Addr} {fd : FuncData}  (B : Blt mg) (D : Df K mg "_law_lots" s_law_lots ["names"] f fd)  : Cal P w K mg base "_law_lots" 1 ["names"] (spD false 1 (m_law_lots )) :=
  cal_ok D sc_law_lots rfl rfl fun cdv A outer s H E hr => by
  have tk : L2N.Takes (cxOf (L2N.CX P w) P w K mg base N_law_lots "_law_lots" (defScope s_law_lots) f cdv A outer s H E) (fun cls d _ H => E cls d H) := L2N.takes_of rfl rfl rfl rfl
  exact ⟨_, (pss_cons (ps_set (i := 1) sc_law_lots.nd rfl (by first | exact .inl rfl | exact .inr rfl) (pe_lst pa_nil))
  (pss_cons (ps_for (passes_of rfl) rfl (pi_range1 (by rfl) B.n_range (pa_cons (pe_callB call_len (by rfl) B.n_len bt_len (pa_cons (pv 0) pa_nil)) pa_nil)) (pg_name (i := 2) sc_law_lots.nd rfl (by first | exact .inl rfl | exact .inr rfl)) (pss_one (ps_if (pt_cmpR (op_eqD hr.units) (pe_ix ix_seq (pv 0) (pv 2) (fun _ _ => rfl)) (pv 2) (nomark _)) (pss_one (ps_expr (pe_bm PySem.F.plainAttrs_list PySem.F.slot_list_append PySem.F.type_list_append mt_append (pv 1) (pa_cons (pe_callTy call_tuple_of (by rfl) B.n_tuple bt_tuple (pa_cons (pe_lc (own := [("k", 3)]) (scope := { kind := PySem.ScopeKind.function, names := [ (PySem.Str.ofString ".0", PySem.NameKind.local), (PySem.Str.ofString "k", PySem.NameKind.local), (PySem.Str.ofString "name", PySem.NameKind.free), (PySem.Str.ofString "names", PySem.NameKind.free)], isGenerator := false, isCoroutine := false, more := [] : PySem.Scope }) rfl sc_law_lots.nd (pi_range1 (by rfl) B.n_range (pa_cons (pe_callB call_len (by rfl) B.n_len bt_len (pa_cons (pv 0) pa_nil)) pa_nil)) (blkOk_by (N := N_law_lots) (sc := (defScope s_law_lots)) (by decide +kernel)) (fun _ _ _ _ _ => (pg_name (i := 3) sc_law_lots.nd rfl (by first | exact .inl rfl | exact .inr rfl))) (fun _ _ _ _ _ => (pts_one (pt_cmpR (op_eqD hr.units) (pe_ix ix_seq (pv 0) (pv 3) (fun _ _ => rfl)) (pv 2) (nomark _)))) (fun _ _ _ _ _ => (pv 3))) pa_nil)) pa_nil))))
   pss_nil)))
  (pss_one (ps_ret (pe_callTy call_tuple_of (by rfl) B.n_tuple bt_tuple (pa_cons (pv 1) pa_nil)))))),
  (st_seq (st_setO 1 (ot_lst at_nil))
  (st_seq (st_for (K := K) (.one 2) (it_range1 (at_cons (et_cb c_len (at_cons (et_var 0) at_nil)) at_nil)) (st_if (bt_test (et_op o_eq (et_op o_ix (et_var 0) (et_var 2)) (et_var 2))) (st_app 1 (et_cb c_tuple (at_cons (et_frz (ot_lc (K := K) (.one 3) [3] (by decide) (it_range1 (at_cons (et_cb c_len (at_cons (et_var 0) at_nil)) at_nil)) (bt_test (et_op o_eq (et_op o_ix (et_var 0) (et_var 3)) (et_var 2))) (et_var 3))) at_nil)))
   st_next))
  (st_ret (et_tupO 1))))⟩
/-! ### _law_pair -/
abbrev s_law_pair : Stmt := top 40
abbrev N_law_pair : List Str := ["store", "most", "kind", "first", "one", "two", "three", "coarse", "order", "pair", "j", "rules", "labels", "plot", "point", "many", "k"]
theorem sc_law_pair : FnScope N_law_pair ["store", "most"] (defScope s_law_pair) := ⟨rfl, rfl, rfl, by decide +kernel, rfl, by decide +kernel, by decide +kernel⟩
def b_law_pair  : Ph Ctl := (mSeq (mSet 2 (mCall1 m_law_take 0 (mCons (mC (.int 8)) mNil)))
  (mSeq (mIfS (mB (m2 gLt (mVar 2) (mC (.int 2)))) (mSeq (mSet 3 (mCall1 m_law_parting 0 (mCons (m2 gAdd (mC (.int 1)) (mCall1 m_law_take 0 (mCons (mVar 1) mNil))) mNil)))
  (mRet (mTup (mCons (mVar 3) (mCons (mCall1 m_law_parting 0 (mCons (mCB (pureC lenC) (mCons (mVar 3) mNil)) mNil)) mNil)))))
   mNext)
  (mSeq (mSet 4 (m2 gAdd (mC (.int 1)) (mCall1 m_law_take 0 (mCons (mCB (pureC minC) (mCons (mVar 1) (mCons (mC (.int 4)) mNil))) mNil))))
  (mSeq (mSet 5 (m2 gAdd (mC (.int 1)) (mCall1 m_law_take 0 (mCons (mCB (pureC minC) (mCons (m2 gFdiv (mVar 1) (mVar 4)) (mCons (mC (.int 4)) mNil))) mNil))))
  (mSeq (mSet 6 (m2 gAdd (mC (.int 1)) (mCall1 m_law_take 0 (mCons (mCB (pureC minC) (mCons (m2 gFdiv (mVar 1) (m2 gMul (mVar 4) (mVar 5))) (mCons (mC (.int 3)) mNil))) mNil))))
  (mSeq (mSet 7 (mFrz (mLc (.one 15) [15] (mSeqI (mTup (mCons (mVar 4) (mCons (mVar 5) (mCons (mVar 6) mNil))))) mYes (mCall1 m_law_parting 0 (mCons (mVar 15) mNil)))))
  (mSeq (mSet 8 (mCall1 m_law_shuffle 0 (mCons (m2 gMul (m2 gMul (mVar 4) (mVar 5)) (mVar 6)) mNil)))
  (mSeq (mSetO 9 (mLst mNil))
  (mSeq (mFor (.one 10) (mRange1 (mCons (mC (.int 2)) mNil)) (mSeq (mSet 11 (mFrz (mLc (.one 16) [16] (mRange1 (mCons (mC (.int 3)) mNil)) mYes (mCall1 m_law_take 0 (mCons (mC (.int 3)) mNil)))))
  (mSeq (mSetO 12 (mCBo gList (mCons (mVar 8) mNil)))
  (mSeq (mFor (.one 13) (mRange1 (mCons (mCB (pureC lenC) (mCons (mVar 8) mNil)) mNil)) (mSeq (mSet 14 (mTup (mCons (m2 gFdiv (mVar 13) (m2 gMul (mVar 5) (mVar 6))) (mCons (m2 gMod (mCB (pureC intC) (mCons (m2 gFdiv (mVar 13) (mVar 6)) mNil)) (mVar 5)) (mCons (m2 gMod (mCB (pureC intC) (mCons (mVar 13) mNil)) (mVar 6)) mNil)))))
  (mSetI 12 (mCB gTuple (mCons (mFrz (mLc (.one 16) [16] (mRange1 (mCons (mC (.int 3)) mNil)) mYes (m2 gIx (mTup (mCons (mC (.int 0)) (mCons (m2 gIx (m2 gIx (mVar 7) (mVar 16)) (m2 gIx (mVar 14) (mVar 16))) (mCons (m2 gIx (mVar 14) (mVar 16)) mNil)))) (m2 gIx (mVar 11) (mVar 16))))) mNil)) (m2 gIx (mVar 8) (mVar 13)))))
  (mGh 12 (mApp 9 (mCall0 m_law_canon [] (mCons (mVar 12) mNil))))))))
  (mSeq (mIfS (mOr (mB (m2 gEq (mVar 2) (mC (.int 2)))) (mAnd (mB (m2 gGt (mVar 2) (mC (.int 4)))) (mB (m2 gEq (mIxO 9 (mC (.int 0))) (mIxO 9 (mC (.int 1))))))) (mRet (mTup (mCons (mIxO 9 (mC (.int 0))) (mCons (mCall1 m_law_nudged 0 (mCons (mIxO 9 (mC (.int 1))) mNil)) mNil))))
   mNext)
  (mSeq (mIfS (mB (m2 gEq (mVar 2) (mC (.int 3)))) (mRet (mTup (mCons (mIxO 9 (mC (.int 0))) (mCons (mCall0 m_law_canon [] (mCons (mFrz (mLc (.one 16) [16] (mRange1 (mCons (mCB (pureC lenC) (mCons (mVar 8) mNil)) mNil)) mYes (mTup (mCons (m2 gIx (mIxO 9 (mC (.int 0))) (mVar 16)) (mCons (m2 gIx (mIxO 9 (mC (.int 1))) (mVar 16)) mNil))))) mNil)) mNil))))
   mNext)
  (mRet (mTup (mCons (mIxO 9 (mC (.int 0))) (mCons (mIxO 9 (mC (.int 1))) mNil)))))))))))))))
def m_law_pair  : Fn := runD true 15 (b_law_pair )
theorem ok_law_pair {f : Addr} {fd : FuncData}  (B : Blt mg) (D : Df K mg "_law_pair" s_law_pair ["store", "most"] f fd) (C_law_take : Cal P w K mg base "_law_take" 2 ["store", "many"] (spD true 1 m_law_take)) (C_law_parting : Cal P w K mg base "_law_parting" 3 ["store", "plots"] (spD true 1 m_law_parting)) (C_law_shuffle : Cal P w K mg base "_law_shuffle" 4 ["store", "many"] (spD true 1 m_law_shuffle)) (C_law_canon : Cal P w K mg base "_law_canon" 1 ["labels"] (spD false 1 m_law_canon)) (C_law_nudged : Cal P w K mg base "_law_nudged" 3 ["store", "names"] (spD true 1 m_law_nudged)) : Cal P w K mg base "_law_pair" 5 ["store", "most"] (spD true 1 (m_law_pair )) :=
  cal_ok D sc_law_pair rfl rfl fun cdv A outer s H E hr => by
  have tk : L2N.Takes (cxOf (L2N.CX P w) P w K mg base N_law_pair "_law_pair" (defScope s_law_pair) f cdv A outer s H E) (fun cls d _ H => E cls d H) := L2N.takes_of rfl rfl rfl rfl
  exact ⟨_, (pss_cons (ps_set (i := 2) sc_law_pair.nd rfl (by first | exact .inl rfl | exact .inr rfl) (pe_cl C_law_take hr (by decide) (by rfl) (fun σ => L2N.passAt tk σ) (pa_cons (pv 0) (pa_cons pe_int pa_nil))))
  (pss_cons (ps_if (pt_cmpR op_lt (pv 2) pe_int (nomark _)) (pss_cons (ps_set (i := 3) sc_law_pair.nd rfl (by first | exact .inl rfl | exact .inr rfl) (pe_cl C_law_parting hr (by decide) (by rfl) (fun σ => L2N.passAt tk σ) (pa_cons (pv 0) (pa_cons (pe_op op_add pe_int (pe_cl C_law_take hr (by decide) (by rfl) (fun σ => L2N.passAt tk σ) (pa_cons (pv 0) (pa_cons (pv 1) pa_nil)))) pa_nil))))
  (pss_one (ps_ret (pe_tup (pa_cons (pv 3) (pa_cons (pe_cl C_law_parting hr (by decide) (by rfl) (fun σ => L2N.passAt tk σ) (pa_cons (pv 0) (pa_cons (pe_callB call_len (by rfl) B.n_len bt_len (pa_cons (pv 3) pa_nil)) pa_nil))) pa_nil))))))
   pss_nil)
  (pss_cons (ps_set (i := 4) sc_law_pair.nd rfl (by first | exact .inl rfl | exact .inr rfl) (pe_op op_add pe_int (pe_cl C_law_take hr (by decide) (by rfl) (fun σ => L2N.passAt tk σ) (pa_cons (pv 0) (pa_cons (pe_callB (call_min2 rfl) (by rfl) B.n_min bt_min (pa_cons (pv 1) (pa_cons pe_int pa_nil))) pa_nil)))))
  (pss_cons (ps_set (i := 5) sc_law_pair.nd rfl (by first | exact .inl rfl | exact .inr rfl) (pe_op op_add pe_int (pe_cl C_law_take hr (by decide) (by rfl) (fun σ => L2N.passAt tk σ) (pa_cons (pv 0) (pa_cons (pe_callB (call_min2 rfl) (by rfl) B.n_min bt_min (pa_cons (pe_op op_fdivW (pv 1) (pv 4)) (pa_cons pe_int pa_nil))) pa_nil)))))
  (pss_cons (ps_set (i := 6) sc_law_pair.nd rfl (by first | exact .inl rfl | exact .inr rfl) (pe_op op_add pe_int (pe_cl C_law_take hr (by decide) (by rfl) (fun σ => L2N.passAt tk σ) (pa_cons (pv 0) (pa_cons (pe_callB (call_min2 rfl) (by rfl) B.n_min bt_min (pa_cons (pe_op op_fdivW (pv 1) (pe_op op_mulW (pv 4) (pv 5))) (pa_cons pe_int pa_nil))) pa_nil)))))
  (pss_cons (by first | exact (ps_setLc (i := 7) (own := [("many", 15)]) (scope := { kind := PySem.ScopeKind.function, names := [ (PySem.Str.ofString ".0", PySem.NameKind.local), (PySem.Str.ofString "many", PySem.NameKind.local), (PySem.Str.ofString "_law_parting", PySem.NameKind.globalImplicit), (PySem.Str.ofString "store", PySem.NameKind.free)], isGenerator := false, isCoroutine := false, more := [] : PySem.Scope }) rfl sc_law_pair.nd rfl rfl (sw_true rfl rfl rfl (by decide +kernel)) (pi_seq (pe_tup (pa_cons (pv 4) (pa_cons (pv 5) (pa_cons (pv 6) pa_nil))))) (blkOk_by (N := N_law_pair) (sc := (defScope s_law_pair)) (by decide +kernel)) (fun _ _ _ _ _ => (pg_name (i := 15) sc_law_pair.nd rfl (by first | exact .inl rfl | exact .inr rfl))) (fun _ _ _ _ _ => pts_nil) (fun _ _ _ _ _ => (pe_cl C_law_parting hr (by decide) (by rfl) (fun σ => passN0 σ) (pa_cons (pv 0) (pa_cons (pv 15) pa_nil))))) | exact (ps_set (i := 7) sc_law_pair.nd rfl (by first | exact .inl rfl | exact .inr rfl) (pe_lc (own := [("many", 15)]) (scope := { kind := PySem.ScopeKind.function, names := [ (PySem.Str.ofString ".0", PySem.NameKind.local), (PySem.Str.ofString "many", PySem.NameKind.local), (PySem.Str.ofString "_law_parting", PySem.NameKind.globalImplicit), (PySem.Str.ofString "store", PySem.NameKind.free)], isGenerator := false, isCoroutine := false, more := [] : PySem.Scope }) rfl sc_law_pair.nd (pi_seq (pe_tup (pa_cons (pv 4) (pa_cons (pv 5) (pa_cons (pv 6) pa_nil))))) (blkOk_by (N := N_law_pair) (sc := (defScope s_law_pair)) (by decide +kernel)) (fun _ _ _ _ _ => (pg_name (i := 15) sc_law_pair.nd rfl (by first | exact .inl rfl | exact .inr rfl))) (fun _ _ _ _ _ => pts_nil) (fun _ _ _ _ _ => (pe_cl C_law_parting hr (by decide) (by rfl) (fun σ => passN0 σ) (pa_cons (pv 0) (pa_cons (pv 15) pa_nil)))))))
  (pss_cons (ps_set (i := 8) sc_law_pair.nd rfl (by first | exact .inl rfl | exact .inr rfl) (pe_cl C_law_shuffle hr (by decide) (by rfl) (fun σ => L2N.passAt tk σ) (pa_cons (pv 0) (pa_cons (pe_op op_mulW (pe_op op_mulW (pv 4) (pv 5)) (pv 6)) pa_nil))))
  (pss_cons (ps_set (i := 9) sc_law_pair.nd rfl (by first | exact .inl rfl | exact .inr rfl) (pe_lst pa_nil))
  (pss_cons (ps_for (passes_of rfl) rfl (pi_range1 (by rfl) B.n_range (pa_cons pe_int pa_nil)) (pg_name (i := 10) sc_law_pair.nd rfl (by first | exact .inl rfl | exact .inr rfl)) (pss_cons (by first | exact (ps_setLc (i := 11) (own := [("k", 16)]) (scope := { kind := PySem.ScopeKind.function, names := [ (PySem.Str.ofString ".0", PySem.NameKind.local), (PySem.Str.ofString "k", PySem.NameKind.local), (PySem.Str.ofString "_law_take", PySem.NameKind.globalImplicit), (PySem.Str.ofString "store", PySem.NameKind.free)], isGenerator := false, isCoroutine := false, more := [] : PySem.Scope }) rfl sc_law_pair.nd rfl rfl (sw_true rfl rfl rfl (by decide +kernel)) (pi_range1 (by rfl) B.n_range (pa_cons pe_int pa_nil)) (blkOk_by (N := N_law_pair) (sc := (defScope s_law_pair)) (by decide +kernel)) (fun _ _ _ _ _ => (pg_name (i := 16) sc_law_pair.nd rfl (by first | exact .inl rfl | exact .inr rfl))) (fun _ _ _ _ _ => pts_nil) (fun _ _ _ _ _ => (pe_cl C_law_take hr (by decide) (by rfl) (fun σ => passN0 σ) (pa_cons (pv 0) (pa_cons pe_int pa_nil))))) | exact (ps_set (i := 11) sc_law_pair.nd rfl (by first | exact .inl rfl | exact .inr rfl) (pe_lc (own := [("k", 16)]) (scope := { kind := PySem.ScopeKind.function, names := [ (PySem.Str.ofString ".0", PySem.NameKind.local), (PySem.Str.ofString "k", PySem.NameKind.local), (PySem.Str.ofString "_law_take", PySem.NameKind.globalImplicit), (PySem.Str.ofString "store", PySem.NameKind.free)], isGenerator := false, isCoroutine := false, more := [] : PySem.Scope }) rfl sc_law_pair.nd (pi_range1 (by rfl) B.n_range (pa_cons pe_int pa_nil)) (blkOk_by (N := N_law_pair) (sc := (defScope s_law_pair)) (by decide +kernel)) (fun _ _ _ _ _ => (pg_name (i := 16) sc_law_pair.nd rfl (by first | exact .inl rfl | exact .inr rfl))) (fun _ _ _ _ _ => pts_nil) (fun _ _ _ _ _ => (pe_cl C_law_take hr (by decide) (by rfl) (fun σ => passN0 σ) (pa_cons (pv 0) (pa_cons pe_int pa_nil)))))))
  (pss_cons (ps_set (i := 12) sc_law_pair.nd rfl (by first | exact .inl rfl | exact .inr rfl) (pe_callTy call_list_of (by rfl) B.n_list bt_list (pa_cons (pv 8) pa_nil)))
  (pss_cons (ps_for (passes_of rfl) rfl (pi_range1 (by rfl) B.n_range (pa_cons (pe_callB call_len (by rfl) B.n_len bt_len (pa_cons (pv 8) pa_nil)) pa_nil)) (pg_name (i := 13) sc_law_pair.nd rfl (by first | exact .inl rfl | exact .inr rfl)) (pss_cons (ps_set (i := 14) sc_law_pair.nd rfl (by first | exact .inl rfl | exact .inr rfl) (pe_tup (pa_cons (pe_op op_fdivW (pv 13) (pe_op op_mulW (pv 5) (pv 6))) (pa_cons (pe_op op_mod (pe_callTy call_int1 (by rfl) B.n_int bt_int (pa_cons (pe_op op_fdivW (pv 13) (pv 6)) pa_nil)) (pv 5)) (pa_cons (pe_op op_mod (pe_callTy call_int1 (by rfl) B.n_int bt_int (pa_cons (pv 13) pa_nil)) (pv 6)) pa_nil)))))
  (pss_one (ps_asg (pe_callTy call_tuple_of (by rfl) B.n_tuple bt_tuple (pa_cons (pe_lc (own := [("k", 16)]) (scope := { kind := PySem.ScopeKind.function, names := [ (PySem.Str.ofString ".0", PySem.NameKind.local), (PySem.Str.ofString "k", PySem.NameKind.local), (PySem.Str.ofString "coarse", PySem.NameKind.free), (PySem.Str.ofString "point", PySem.NameKind.free), (PySem.Str.ofString "rules", PySem.NameKind.free)], isGenerator := false, isCoroutine := false, more := [] : PySem.Scope }) rfl sc_law_pair.nd (pi_range1 (by rfl) B.n_range (pa_cons pe_int pa_nil)) (blkOk_by (N := N_law_pair) (sc := (defScope s_law_pair)) (by decide +kernel)) (fun _ _ _ _ _ => (pg_name (i := 16) sc_law_pair.nd rfl (by first | exact .inl rfl | exact .inr rfl))) (fun _ _ _ _ _ => pts_nil) (fun _ _ _ _ _ => (pe_ix ix_seq (pe_tup (pa_cons pe_int (pa_cons (pe_ix ix_seq (pe_ix ix_seq (pv 7) (pv 16) (fun _ _ => rfl)) (pe_ix ix_seq (pv 14) (pv 16) (fun _ _ => rfl)) (fun _ _ => rfl)) (pa_cons (pe_ix ix_seq (pv 14) (pv 16) (fun _ _ => rfl)) pa_nil)))) (pe_ix ix_seq (pv 11) (pv 16) (fun _ _ => rfl)) (fun _ _ => rfl)))) pa_nil)) (pg_sub (pv 12) (pe_ix ix_seq (pv 8) (pv 13) (fun _ _ => rfl)) set_list)))))
  (pss_one (ps_expr (pe_bm PySem.F.plainAttrs_list PySem.F.slot_list_append PySem.F.type_list_append mt_append (pv 9) (pa_cons (pe_cl C_law_canon hr (by decide) (by rfl) (fun σ => L2N.passAt tk σ) (pa_cons (pv 12) pa_nil)) pa_nil))))))))
  (pss_cons (ps_if (PW.pt (pw_or (pt_cmpR (op_eqD hr.units) (pv 2) pe_int (nomark _)) (pw_or1 (PW.pt (pw_and (pt_cmpR op_gt (pv 2) pe_int (nomark _)) (pw_and1 (pt_cmpR (op_eqD hr.units) (pe_ix ix_seq (pv 9) pe_int (fun _ _ => rfl)) (pe_ix ix_seq (pv 9) pe_int (fun _ _ => rfl)) (nomark _)))))))) (pss_one (ps_ret (pe_tup (pa_cons (pe_ix ix_seq (pv 9) pe_int (fun _ _ => rfl)) (pa_cons (pe_cl C_law_nudged hr (by decide) (by rfl) (fun σ => L2N.passAt tk σ) (pa_cons (pv 0) (pa_cons (pe_ix ix_seq (pv 9) pe_int (fun _ _ => rfl)) pa_nil))) pa_nil)))))
   pss_nil)
  (pss_cons (ps_if (pt_cmpR (op_eqD hr.units) (pv 2) pe_int (nomark _)) (pss_one (ps_ret (pe_tup (pa_cons (pe_ix ix_seq (pv 9) pe_int (fun _ _ => rfl)) (pa_cons (pe_cl C_law_canon hr (by decide) (by rfl) (fun σ => L2N.passAt tk σ) (pa_cons (pe_lc (own := [("k", 16)]) (scope := { kind := PySem.ScopeKind.function, names := [ (PySem.Str.ofString ".0", PySem.NameKind.local), (PySem.Str.ofString "k", PySem.NameKind.local), (PySem.Str.ofString "pair", PySem.NameKind.free)], isGenerator := false, isCoroutine := false, more := [] : PySem.Scope }) rfl sc_law_pair.nd (pi_range1 (by rfl) B.n_range (pa_cons (pe_callB call_len (by rfl) B.n_len bt_len (pa_cons (pv 8) pa_nil)) pa_nil)) (blkOk_by (N := N_law_pair) (sc := (defScope s_law_pair)) (by decide +kernel)) (fun _ _ _ _ _ => (pg_name (i := 16) sc_law_pair.nd rfl (by first | exact .inl rfl | exact .inr rfl))) (fun _ _ _ _ _ => pts_nil) (fun _ _ _ _ _ => (pe_tup (pa_cons (pe_ix ix_seq (pe_ix ix_seq (pv 9) pe_int (fun _ _ => rfl)) (pv 16) (fun _ _ => rfl)) (pa_cons (pe_ix ix_seq (pe_ix ix_seq (pv 9) pe_int (fun _ _ => rfl)) (pv 16) (fun _ _ => rfl)) pa_nil))))) pa_nil)) pa_nil)))))
   pss_nil)
  (pss_one (ps_ret (pe_tup (pa_cons (pe_ix ix_seq (pv 9) pe_int (fun _ _ => rfl)) (pa_cons (pe_ix ix_seq (pv 9) pe_int (fun _ _ => rfl)) pa_nil)))))))))))))))),
  (st_seq (st_set 2 (et_call1 0 (ln_cons ln_nil) (at_cons (et_int _) at_nil)))
  (st_seq (st_if (bt_test (et_op o_lt (et_var 2) (et_int _))) (st_seq (st_set 3 (et_call1 0 (ln_cons ln_nil) (at_cons (et_op o_add (et_int _) (et_call1 0 (ln_cons ln_nil) (at_cons (et_var 1) at_nil))) at_nil)))
  (st_ret (et_tup (at_cons (et_var 3) (at_cons (et_call1 0 (ln_cons ln_nil) (at_cons (et_cb c_len (at_cons (et_var 3) at_nil)) at_nil)) at_nil)))))
   st_next)
  (st_seq (st_set 4 (et_op o_add (et_int _) (et_call1 0 (ln_cons ln_nil) (at_cons (et_cb c_min (at_cons (et_var 1) (at_cons (et_int _) at_nil))) at_nil))))
  (st_seq (st_set 5 (et_op o_add (et_int _) (et_call1 0 (ln_cons ln_nil) (at_cons (et_cb c_min (at_cons (et_op o_fdiv (et_var 1) (et_var 4)) (at_cons (et_int _) at_nil))) at_nil))))
  (st_seq (st_set 6 (et_op o_add (et_int _) (et_call1 0 (ln_cons ln_nil) (at_cons (et_cb c_min (at_cons (et_op o_fdiv (et_var 1) (et_op o_mul (et_var 4) (et_var 5))) (at_cons (et_int _) at_nil))) at_nil))))
  (st_seq (st_set 7 (et_frz (ot_lc (K := K) (.one 15) [15] (by decide) (it_seq (et_tup (at_cons (et_var 4) (at_cons (et_var 5) (at_cons (et_var 6) at_nil))))) bt_yes (et_call1 0 (ln_cons ln_nil) (at_cons (et_var 15) at_nil)))))
  (st_seq (st_set 8 (et_call1 0 (ln_cons ln_nil) (at_cons (et_op o_mul (et_op o_mul (et_var 4) (et_var 5)) (et_var 6)) at_nil)))
  (st_seq (st_setO 9 (ot_lst at_nil))
  (st_seq (st_for (K := K) (.one 10) (it_range1 (at_cons (et_int _) at_nil)) (st_seq (st_set 11 (et_frz (ot_lc (K := K) (.one 16) [16] (by decide) (it_range1 (at_cons (et_int _) at_nil)) bt_yes (et_call1 0 (ln_cons ln_nil) (at_cons (et_int _) at_nil)))))
  (st_seq (st_setO 12 (ot_cb c_list (at_cons (et_var 8) at_nil)))
  (st_seq (st_for (K := K) (.one 13) (it_range1 (at_cons (et_cb c_len (at_cons (et_var 8) at_nil)) at_nil)) (st_seq (st_set 14 (et_tup (at_cons (et_op o_fdiv (et_var 13) (et_op o_mul (et_var 5) (et_var 6))) (at_cons (et_op o_mod (et_cb c_int (at_cons (et_op o_fdiv (et_var 13) (et_var 6)) at_nil)) (et_var 5)) (at_cons (et_op o_mod (et_cb c_int (at_cons (et_var 13) at_nil)) (et_var 6)) at_nil)))))
  (st_setI 12 (et_cb c_tuple (at_cons (et_frz (ot_lc (K := K) (.one 16) [16] (by decide) (it_range1 (at_cons (et_int _) at_nil)) bt_yes (et_op o_ix (et_tup (at_cons (et_int _) (at_cons (et_op o_ix (et_op o_ix (et_var 7) (et_var 16)) (et_op o_ix (et_var 14) (et_var 16))) (at_cons (et_op o_ix (et_var 14) (et_var 16)) at_nil)))) (et_op o_ix (et_var 11) (et_var 16))))) at_nil)) (et_op o_ix (et_var 8) (et_var 13)))))
  (st_gh 12 (st_app 9 (et_call0 [] (fun _ => reps_nil.mpr rfl) (ln_cons ln_nil) rfl (at_cons (et_var 12) at_nil))))))))
  (st_seq (st_if (bt_or (bt_test (et_op o_eq (et_var 2) (et_int _))) (bt_and (bt_test (et_op o_gt (et_var 2) (et_int _))) (bt_test (et_op o_eq (et_ixO 9 (et_int _)) (et_ixO 9 (et_int _)))))) (st_ret (et_tup (at_cons (et_ixO 9 (et_int _)) (at_cons (et_call1 0 (ln_cons ln_nil) (at_cons (et_ixO 9 (et_int _)) at_nil)) at_nil))))
   st_next)
  (st_seq (st_if (bt_test (et_op o_eq (et_var 2) (et_int _))) (st_ret (et_tup (at_cons (et_ixO 9 (et_int _)) (at_cons (et_call0 [] (fun _ => reps_nil.mpr rfl) (ln_cons ln_nil) rfl (at_cons (et_frz (ot_lc (K := K) (.one 16) [16] (by decide) (it_range1 (at_cons (et_cb c_len (at_cons (et_var 8) at_nil)) at_nil)) bt_yes (et_tup (at_cons (et_op o_ix (et_ixO 9 (et_int _)) (et_var 16)) (at_cons (et_op o_ix (et_ixO 9 (et_int _)) (et_var 16)) at_nil))))) at_nil)) at_nil))))
   st_next)
  (st_ret (et_tup (at_cons (et_ixO 9 (et_int _)) (at_cons (et_ixO 9 (et_int _)) at_nil)))))))))))))))⟩
/-! ### _law_right -/
abbrev s_law_right : Stmt := top 41
abbrev N_law_right : List Str := ["value", "first", "second", "left", "right", "j", "row", "k", "plot"]
theorem sc_law_right : FnScope N_law_right ["value", "first", "second"] (defScope s_law_right) := ⟨rfl, rfl, rfl, by decide +kernel, rfl, by decide +kernel, by decide +kernel⟩
def b_law_right  : Ph Ctl := (mSeq (mSet 3 (mCall0 m_law_lots [] (mCons (mVar 1) mNil)))
  (mSeq (mSet 4 (mCall0 m_law_lots [] (mCons (mVar 2) mNil)))
  (mSeq (mIfS (mOr (mNot (mB (m1 (gIsi "list") (mVar 0)))) (mB (m2 gNe (mCB (pureC lenC) (mCons (mVar 0) mNil)) (mCB (pureC lenC) (mCons (mVar 3) mNil))))) (mRet (mC (.bl false)))
   mNext)
  (mSeq (mFor (.one 5) (mRange1 (mCons (mCB (pureC lenC) (mCons (mVar 3) mNil)) mNil)) (mSeq (mSet 6 (m2 gIx (mVar 0) (mVar 5)))
  (mSeq (mIfS (mOr (mNot (mB (m1 (gIsi "list") (mVar 6)))) (mB (m2 gNe (mCB (pureC lenC) (mCons (mVar 6) mNil)) (mCB (pureC lenC) (mCons (mVar 4) mNil))))) (mRet (mC (.bl false)))
   mNext)
  (mSeq (mFor (.one 7) (mRange1 (mCons (mCB (pureC lenC) (mCons (mVar 4) mNil)) mNil)) (mIfS (mOr (mNot (mB (mCall0 m_law_iswhole [] (mCons (m2 gIx (mVar 6) (mVar 7)) mNil)))) (mB (m2 gNe (m2 gIx (mVar 6) (mVar 7)) (mCB (pureC lenC) (mCons (mFrz (mLc (.one 8) [8] (mSeqI (m2 gIx (mVar 3) (mVar 5))) (mB (m2 (pure2 (in2 false)) (mVar 8) (m2 gIx (mVar 4) (mVar 7)))) (mVar 8))) mNil))))) (mRet (mC (.bl false)))
   mNext))
  (mIfS (mB (m2 gNe (mCB (pureC sumC) (mCons (mVar 6) mNil)) (mCB (pureC lenC) (mCons (m2 gIx (mVar 3) (mVar 5)) mNil)))) (mRet (mC (.bl false)))
   mNext)))))
  (mSeq (mFor (.one 7) (mRange1 (mCons (mCB (pureC lenC) (mCons (mVar 4) mNil)) mNil)) (mIfS (mB (m2 gNe (mCB (pureC sumC) (mCons (mFrz (mLc (.one 6) [6] (mSeqI (mVar 0)) mYes (m2 gIx (mVar 6) (mVar 7)))) mNil)) (mCB (pureC lenC) (mCons (m2 gIx (mVar 4) (mVar 7)) mNil)))) (mRet (mC (.bl false)))
   mNext))
  (mRet (mC (.bl true))))))))
def m_law_right  : Fn := runD false 6 (b_law_right )
theorem ok_law_right {f : Addr} {fd : FuncData}  (B : Blt mg) (D : Df K mg "_law_right" s_law_right ["value", "first", "second"] f fd) (C_law_lots : Cal P w K mg base "_law_lots" 1 ["names"] (spD false 1 m_law_lots)) (C_law_iswhole : Cal P w K mg base "_law_iswhole" 1 ["value"] (spD false 1 m_law_iswhole)) : Cal P w K mg base "_law_right" 2 ["value", "first", "second"] (spD false 3 (m_law_right )) :=
  cal_ok D sc_law_right rfl rfl fun cdv A outer s H E hr => by
  have tk : L2N.Takes (cxOf (L2N.CX P w) P w K mg base N_law_right "_law_right" (defScope s_law_right) f cdv A outer s H E) (fun cls d _ H => E cls d H) := L2N.takes_of rfl rfl rfl rfl
  exact ⟨_, (pss_cons (ps_set (i := 3) sc_law_right.nd rfl (by first | exact .inl rfl | exact .inr rfl) (pe_cl C_law_lots hr (by decide) (by rfl) (fun σ => L2N.passAt tk σ) (pa_cons (pv 1) pa_nil)))
  (pss_cons (ps_set (i := 4) sc_law_right.nd rfl (by first | exact .inl rfl | exact .inr rfl) (pe_cl C_law_lots hr (by decide) (by rfl) (fun σ => L2N.passAt tk σ) (pa_cons (pv 2) pa_nil)))
  (pss_cons (ps_if (PW.pt (pw_or (pt_not (pt_val (pe_callB call_isi (by rfl) B.n_isinstance bt_isinstance (pa_cons (pv 0) (pa_cons (pe_ty (by rfl) B.n_list bt_list) pa_nil))))) (pw_or1 (pt_cmpR (op_neD hr.units) (pe_callB call_len (by rfl) B.n_len bt_len (pa_cons (pv 0) pa_nil)) (pe_callB call_len (by rfl) B.n_len bt_len (pa_cons (pv 3) pa_nil)) (nomark _))))) (pss_one (ps_ret pe_bl))
   pss_nil)
  (pss_cons (ps_for (passes_of rfl) rfl (pi_range1 (by rfl) B.n_range (pa_cons (pe_callB call_len (by rfl) B.n_len bt_len (pa_cons (pv 3) pa_nil)) pa_nil)) (pg_name (i := 5) sc_law_right.nd rfl (by first | exact .inl rfl | exact .inr rfl)) (pss_cons (ps_set (i := 6) sc_law_right.nd rfl (by first | exact .inl rfl | exact .inr rfl) (pe_ix ix_seq (pv 0) (pv 5) (fun _ _ => rfl)))
  (pss_cons (ps_if (PW.pt (pw_or (pt_not (pt_val (pe_callB call_isi (by rfl) B.n_isinstance bt_isinstance (pa_cons (pv 6) (pa_cons (pe_ty (by rfl) B.n_list bt_list) pa_nil))))) (pw_or1 (pt_cmpR (op_neD hr.units) (pe_callB call_len (by rfl) B.n_len bt_len (pa_cons (pv 6) pa_nil)) (pe_callB call_len (by rfl) B.n_len bt_len (pa_cons (pv 4) pa_nil)) (nomark _))))) (pss_one (ps_ret pe_bl))
   pss_nil)
  (pss_cons (ps_for (passes_of rfl) rfl (pi_range1 (by rfl) B.n_range (pa_cons (pe_callB call_len (by rfl) B.n_len bt_len (pa_cons (pv 4) pa_nil)) pa_nil)) (pg_name (i := 7) sc_law_right.nd rfl (by first | exact .inl rfl | exact .inr rfl)) (pss_one (ps_if (PW.pt (pw_or (pt_not (pt_val (pe_cl C_law_iswhole hr (by decide) (by rfl) (fun σ => L2N.passAt tk σ) (pa_cons (pe_ix ix_seq (pv 6) (pv 7) (fun _ _ => rfl)) pa_nil)))) (pw_or1 (pt_cmpR (op_neD hr.units) (pe_ix ix_seq (pv 6) (pv 7) (fun _ _ => rfl)) (pe_callB call_len (by rfl) B.n_len bt_len (pa_cons (pe_lc (own := [("plot", 8)]) (scope := { kind := PySem.ScopeKind.function, names := [ (PySem.Str.ofString ".0", PySem.NameKind.local), (PySem.Str.ofString "plot", PySem.NameKind.local), (PySem.Str.ofString "k", PySem.NameKind.free), (PySem.Str.ofString "right", PySem.NameKind.free)], isGenerator := false, isCoroutine := false, more := [] : PySem.Scope }) rfl sc_law_right.nd (pi_seq (pe_ix ix_seq (pv 3) (pv 5) (fun _ _ => rfl))) (blkOk_by (N := N_law_right) (sc := (defScope s_law_right)) (by decide +kernel)) (fun _ _ _ _ _ => (pg_name (i := 8) sc_law_right.nd rfl (by first | exact .inl rfl | exact .inr rfl))) (fun _ _ _ _ _ => (pts_one (pt_cmpR op_in_seq (pv 8) (pe_ix ix_seq (pv 4) (pv 7) (fun _ _ => rfl)) (by rfl)))) (fun _ _ _ _ _ => (pv 8))) pa_nil)) (nomark _))))) (pss_one (ps_ret pe_bl))
   pss_nil)))
  (pss_one (ps_if (pt_cmpR (op_neD hr.units) (pe_callB (cr_sum rfl) (by rfl) B.n_sum bt_sum (pa_cons (pv 6) pa_nil)) (pe_callB call_len (by rfl) B.n_len bt_len (pa_cons (pe_ix ix_seq (pv 3) (pv 5) (fun _ _ => rfl)) pa_nil)) (nomark _)) (pss_one (ps_ret pe_bl))
   pss_nil))))))
  (pss_cons (ps_for (passes_of rfl) rfl (pi_range1 (by rfl) B.n_range (pa_cons (pe_callB call_len (by rfl) B.n_len bt_len (pa_cons (pv 4) pa_nil)) pa_nil)) (pg_name (i := 7) sc_law_right.nd rfl (by first | exact .inl rfl | exact .inr rfl)) (pss_one (ps_if (pt_cmpR (op_neD hr.units) (pe_callB (cr_sum rfl) (by rfl) B.n_sum bt_sum (pa_cons (pe_lc (own := [("row", 6)]) (scope := { kind := PySem.ScopeKind.function, names := [ (PySem.Str.ofString ".0", PySem.NameKind.local), (PySem.Str.ofString "row", PySem.NameKind.local), (PySem.Str.ofString "k", PySem.NameKind.free)], isGenerator := false, isCoroutine := false, more := [] : PySem.Scope }) rfl sc_law_right.nd (pi_seq (pv 0)) (blkOk_by (N := N_law_right) (sc := (defScope s_law_right)) (by decide +kernel)) (fun _ _ _ _ _ => (pg_name (i := 6) sc_law_right.nd rfl (by first | exact .inl rfl | exact .inr rfl))) (fun _ _ _ _ _ => pts_nil) (fun _ _ _ _ _ => (pe_ix ix_seq (pv 6) (pv 7) (fun _ _ => rfl)))) pa_nil)) (pe_callB call_len (by rfl) B.n_len bt_len (pa_cons (pe_ix ix_seq (pv 4) (pv 7) (fun _ _ => rfl)) pa_nil)) (nomark _)) (pss_one (ps_ret pe_bl))
   pss_nil)))
  (pss_one (ps_ret pe_bl))))))),
  (st_seq (st_set 3 (et_call0 [] (fun _ => reps_nil.mpr rfl) (ln_cons ln_nil) rfl (at_cons (et_var 1) at_nil)))
  (st_seq (st_set 4 (et_call0 [] (fun _ => reps_nil.mpr rfl) (ln_cons ln_nil) rfl (at_cons (et_var 2) at_nil)))
  (st_seq (st_if (bt_or (bt_not (bt_val (et_isi "list" (et_var 0)))) (bt_test (et_op o_ne (et_cb c_len (at_cons (et_var 0) at_nil)) (et_cb c_len (at_cons (et_var 3) at_nil))))) (st_ret (et_bl _))
   st_next)
  (st_seq (st_for (K := K) (.one 5) (it_range1 (at_cons (et_cb c_len (at_cons (et_var 3) at_nil)) at_nil)) (st_seq (st_set 6 (et_op o_ix (et_var 0) (et_var 5)))
  (st_seq (st_if (bt_or (bt_not (bt_val (et_isi "list" (et_var 6)))) (bt_test (et_op o_ne (et_cb c_len (at_cons (et_var 6) at_nil)) (et_cb c_len (at_cons (et_var 4) at_nil))))) (st_ret (et_bl _))
   st_next)
  (st_seq (st_for (K := K) (.one 7) (it_range1 (at_cons (et_cb c_len (at_cons (et_var 4) at_nil)) at_nil)) (st_if (bt_or (bt_not (bt_val (et_call0 [] (fun _ => reps_nil.mpr rfl) (ln_cons ln_nil) rfl (at_cons (et_op o_ix (et_var 6) (et_var 7)) at_nil)))) (bt_test (et_op o_ne (et_op o_ix (et_var 6) (et_var 7)) (et_cb c_len (at_cons (et_frz (ot_lc (K := K) (.one 8) [8] (by decide) (it_seq (et_op o_ix (et_var 3) (et_var 5))) (bt_test (et_op (o_in false) (et_var 8) (et_op o_ix (et_var 4) (et_var 7)))) (et_var 8))) at_nil))))) (st_ret (et_bl _))
   st_next))
  (st_if (bt_test (et_op o_ne (et_cb c_sum (at_cons (et_var 6) at_nil)) (et_cb c_len (at_cons (et_op o_ix (et_var 3) (et_var 5)) at_nil)))) (st_ret (et_bl _))
   st_next)))))
  (st_seq (st_for (K := K) (.one 7) (it_range1 (at_cons (et_cb c_len (at_cons (et_var 4) at_nil)) at_nil)) (st_if (bt_test (et_op o_ne (et_cb c_sum (at_cons (et_frz (ot_lc (K := K) (.one 6) [6] (by decide) (it_seq (et_var 0)) bt_yes (et_op o_ix (et_var 6) (et_var 7)))) at_nil)) (et_cb c_len (at_cons (et_op o_ix (et_var 4) (et_var 7)) at_nil)))) (st_ret (et_bl _))
   st_next))
  (st_ret (et_bl _)))))))⟩
end
end K23

set_option Elab.async false
set_option linter.all false
set_option maxRecDepth 100000
set_option maxHeartbeats 4000000
set_option autoImplicit false
namespace K23
open PySem PySem.Spec L2 DL
open PyProof.Rows (envOfC)
/-! ### _law_refused -/
abbrev s_law_refused : Stmt := top 42
abbrev N_law_refused : List Str := ["one", "two", "fields", "e"]
theorem sc_law_refused : FnScope N_law_refused ["one", "two", "fields"] (defScope s_law_refused) := ⟨rfl, rfl, rfl, by decide +kernel, rfl, by decide +kernel, by decide +kernel⟩
section
variable {P : Program} {w : World} {K : PySem.W.Frag} {mg : Str → Option Value} {base : Heap}
/-- what the suite needs of the classes -/
structure TxtU (K : PySem.W.Frag) (mg : Str → Option Value) (cU cLi cAn cTo cIn cCr : Addr) : Prop where
  xf : XfC K cU
  ec : L2.ExcC K cU
  nl : PySem.W.findIn K (.ref cU) "left_plots" = some none
  nr : PySem.W.findIn K (.ref cU) "right_plots" = some none
  ex : PySem.W.exmOne K (.ref cU) (.ref cU) = some true
  gU : mg "UnlikePlots" = some (.ref cU)
  gLi : mg "LimitError" = some (.ref cLi)
  gAn : mg "AnswerError" = some (.ref cAn)
  gTo : mg "TooMany" = some (.ref cTo)
  gIn : mg "InputError" = some (.ref cIn)
  gCr : mg "CrossError" = some (.ref cCr)
  gVa : mg "ValueError" = none
  gis : mg "isinstance" = none
  kLi : PySem.W.kitOne K (.ref cU) (.ref cLi) = some false
  kAn : PySem.W.kitOne K (.ref cU) (.ref cAn) = some false
  kTo : PySem.W.kitOne K (.ref cU) (.ref cTo) = some false
  kIn : PySem.W.kitOne K (.ref cU) (.ref cIn) = some true
  kCr : PySem.W.kitOne K (.ref cU) (.ref cCr) = some true
  kVa : PySem.W.kitOne K (.ref cU) (.type "ValueError") = some true
def b_law_refused (cParting cUnlikePlots : Addr) : Ph Ctl := fun ρ S => match mCallN (m_count_table cParting cUnlikePlots) (mCons (mVar 0) (mCons (mVar 1) mNil)) ρ S with
  | .exc x ρ' S1 => if x.c = cUnlikePlots ∧ x.ns = (["right_plots", "left_plots"] : List Str) ∧ ρ'.length = 4 then (match x.ds, ρ'[2]? with
    | [r, l], some (L.d f) => (match m_law_same 6 [.tup [l, r], f] sto0 with
      | .ok (.d d) _ => .ok (.rt d) S1
      | _ => .bad)
    | _, _ => .bad) else .bad
  | _ => .bad
def m_law_refused (cParting cUnlikePlots : Addr) : Fn := runD false 1 (b_law_refused cParting cUnlikePlots)
theorem isx {cU a : Addr} {dx : Option Addr} {c : V} {cv : Value} {b : Bool} {σ : L2.St} {H : Hp} {Q : Bool → Hp → Prop} (e : σ[3]? = some (some (.ref a))) (hc : ∀ u, RelV c u → u = cv) (k : PySem.W.kitOne K (.ref cU) cv = some b) (hd : ∀ dd, dx = some dd → ∃ fs, H dd = some (.xd fs)) (q : Q b H) :
    tB (tCB (fun xs H Q => Value.ref cU = .ref cU ∧ rIsX K cU a dx xs H Q) (tCons (tVar 3) (tCons (tC c) tNil))) σ H Q :=
  ⟨_, e, rfl, c, cv, b, rfl, hc, k, hd, b, rfl, q⟩
theorem bt_VE : bootBuiltins "ValueError" = some (.type "ValueError") := by decide +kernel
theorem ok_law_refused {f : Addr} {fd : FuncData} {cParting cUnlikePlots cLi cAn cTo cIn cCr : Addr} (B : Blt mg) (D : Df K mg "_law_refused" s_law_refused ["one", "two", "fields"] f fd) (T : TxtU K mg cUnlikePlots cLi cAn cTo cIn cCr)
    (C_count_table : Cal P w K mg base "count_table" 4 ["first", "second"] (spN 2 (m_count_table cParting cUnlikePlots))) (C_same : CalH P w K mg base "_law_same" 7 ["left", "right"] (spD false 2 (m_law_same 6))) :
    Cal P w K mg base "_law_refused" 8 ["one", "two", "fields"] (spD false 3 (m_law_refused cParting cUnlikePlots)) :=
  cal_ok D sc_law_refused rfl rfl fun cdv A outer s H E hr => by
  have tk : L2N.Takes (cxOf (L2N.CX P w) P w K mg base N_law_refused "_law_refused" (defScope s_law_refused) f cdv A outer s H E) (fun cls d _ H => E cls d H) := L2N.takes_of rfl rfl rfl rfl
  refine ⟨_, pss_cons (L2N.ps_try_as (i := 3) (c := .ref cUnlikePlots) (tb := fun W => tDrop (tCallSD (spN 2 (m_count_table cParting cUnlikePlots)) [] (WE W) (tCons (tVar 0) (tCons (tVar 1) tNil)))) (Wout := fun cls d _ H => E cls d H) rfl rfl sc_law_refused.nd rfl rfl ⟨rfl, by decide, .inl T.gU⟩ tk
      (fun W pn xe tk' _ => pss_one (ps_expr (by exact pe_cl C_count_table hr (by decide) (by rfl) (fun σ => L2N.passAt tk' σ) (pa_cons (pv 0) (pa_cons (pv 1) pa_nil)))))
      (fun a oe cls d pn hz hf => by exact (pss_cons (ps_if (PW.pt (pw_or (pt_val (pe_callB (call_isX T.ec hz.zc hf) (by rfl) T.gis bt_isinstance (pa_cons (pv 3) (pa_cons (pe_glob (v := .ref cLi) (by rfl) T.gLi rfl) pa_nil)))) (pw_or (pt_val (pe_callB (call_isX T.ec hz.zc hf) (by rfl) T.gis bt_isinstance (pa_cons (pv 3) (pa_cons (pe_glob (v := .ref cAn) (by rfl) T.gAn rfl) pa_nil)))) (pw_or1 (pt_val (pe_callB (call_isX T.ec hz.zc hf) (by rfl) T.gis bt_isinstance (pa_cons (pv 3) (pa_cons (pe_glob (v := .ref cTo) (by rfl) T.gTo rfl) pa_nil)))))))) (pss_one (ps_ret pe_bl)) pss_nil)
        (pss_cons (ps_if (PW.pt (pw_or (pt_not (pt_val (pe_callB (call_isX T.ec hz.zc hf) (by rfl) T.gis bt_isinstance (pa_cons (pv 3) (pa_cons (pe_glob (v := .ref cIn) (by rfl) T.gIn rfl) pa_nil))))) (pw_or (pt_not (pt_val (pe_callB (call_isX T.ec hz.zc hf) (by rfl) T.gis bt_isinstance (pa_cons (pv 3) (pa_cons (pe_glob (v := .ref cCr) (by rfl) T.gCr rfl) pa_nil))))) (pw_or1 (pt_not (pt_val (pe_callB (call_isX T.ec hz.zc hf) (by rfl) T.gis bt_isinstance (pa_cons (pv 3) (pa_cons (pe_ty (by rfl) T.gVa bt_VE) pa_nil))))))))) (pss_one (ps_ret pe_bl)) pss_nil)
        (pss_one (ps_ret (pe_clH C_same (j := 7) (by exact ⟨hr.dp, hr.un⟩) (Nat.le_refl _) (hot_in hz hf) (by rfl) (fun σ => passN0 σ) (pa_cons (pe_tup (pa_cons (pe_xf T.xf T.nl hz.zc hf (pv 3)) (pa_cons (pe_xf T.xf T.nr hz.zc hf (pv 3)) pa_nil))) (pa_cons (pv 2) pa_nil)))))))))
    (pss_one (ps_ret pe_bl)), ?_⟩
  intro F0 H0 st hb F H S ρ σ Dn b h
  refine st_drop (et_callN (ln_cons (ln_cons ln_nil)) rfl (at_cons (et_var 0) (at_cons (et_var 1) at_nil))) _ _ _ _ _ _ _ _ _ _ b ?_
  unfold b_law_refused at h
  unfold mDrop
  cases o : mCallN (m_count_table cParting cUnlikePlots) (mCons (mVar 0) (mCons (mVar 1) mNil)) ρ S with
  | ok d S1 => rw [o] at h; exact h.elim
  | bad => rw [o] at h; exact h.elim
  | exc x ρ' S1 =>
    rw [o] at h
    by_cases c : x.c = cUnlikePlots ∧ x.ns = (["right_plots", "left_plots"] : List Str) ∧ ρ'.length = 4
    · simp only [if_pos c] at h
      rintro cls dx σ' F' H' b' ⟨rfl, hx⟩
      obtain ⟨c1, c2, c3⟩ := c
      cases e1 : x.ds with
      | nil => rw [e1] at h; exact h.elim
      | cons r ds =>
        cases ds with
        | nil => rw [e1] at h; exact h.elim
        | cons l ds =>
          cases ds with
          | cons _ _ => rw [e1] at h; exact h.elim
          | nil =>
            cases e2 : ρ'[2]? with
            | none => rw [e1, e2] at h; exact h.elim
            | some u =>
              cases u with
              | un => rw [e1, e2] at h; exact h.elim
              | own _ => rw [e1, e2] at h; exact h.elim
              | st => rw [e1, e2] at h; exact h.elim
              | d f =>
                rw [e1, e2] at h
                simp only at h
                obtain ⟨fv, ef, rf⟩ := b'.loc 2 _ e2
                rcases hx with hx | ⟨dd, vs, rfl, hdd, hl, rr⟩
                · rw [c2] at hx; cases hx
                rw [e1] at rr
                rw [c2] at hdd
                obtain ⟨vr, r1, rfl, rr1, rr'⟩ := reps_cons.mp rr
                obtain ⟨vl, r2, rfl, rr2, rr''⟩ := reps_cons.mp rr'
                cases reps_nil.mp rr''
                rw [c1]
                refine ⟨true, T.ex, fun _ a na => ?_, fun z => Bool.noConfusion z⟩
                have l3 : 3 < σ'.length := by rw [b'.len, c3]; decide
                have s3 : (σ'.set 3 (some (.ref a)))[3]? = some (some (.ref a)) := by rw [List.getElem?_set, if_pos rfl, if_pos l3]
                have s2 : (σ'.set 3 (some (.ref a)))[2]? = some (some fv) := by rw [List.getElem?_set, if_neg (by decide)]; exact ef
                have hD : ∀ dd', some dd = some dd' → ∃ fs, H' dd' = some (.xd fs) := fun dd' e => by cases e; exact ⟨_, hdd⟩
                have cr : ∀ (C : Addr) (u : Value), RelV (.ref C) u → u = .ref C := fun C u z => z
                refine isx s3 (cr cLi) T.kLi hD (iteF (isx s3 (cr cAn) T.kAn hD (iteF (isx s3 (cr cTo) T.kTo hD (iteF ?_)))))
                refine isx s3 (cr cIn) T.kIn hD (iteF (isx s3 (cr cCr) T.kCr hD (iteF (isx s3 (fun u z => z) T.kVa hD (iteF ?_)))))
                refine ⟨_, s3, rfl, rfl, dd, _, vl, rfl, hdd, rfl, _, s3, rfl, rfl, dd, _, vr, rfl, hdd, rfl, (show 2 ≤ sizeLine by decide), fun p hp => ⟨fv, s2, ?_⟩⟩
                have b2 := b'.lay (o := .tup [vl, vr]) hp
                refine ⟨_, 0, sto0, [.tup [l, r], f], [.ref p, fv], b2.sub, rfl, nofun, rfl, reps_cons.mpr ⟨_, _, rfl, rep_tup (reps_cons.mpr ⟨_, _, rfl, rr2, Reps.one rr1⟩) (b'.sub.none hp), Reps.one (Rep.mono (Ext.lay (st := st) (hb := hb) b'.sub hp).1.ff _ _ rf)⟩, ?_⟩
                cases om : m_law_same 6 [.tup [l, r], f] sto0 with
                | ok rr S2 =>
                  rw [om] at h
                  cases rr with
                  | own _ => exact h.elim
                  | d d => exact fun v F2 H2 e2 s2 _ r2 => h v F2 H2 (b2.after0 e2 s2).bare r2
                | exc x2 ρ2 S2 => rw [om] at h; exact h.elim
                | bad => rw [om] at h; exact h.elim
    · simp only [if_neg c] at h; exact h.elim
end
end K23

set_option Elab.async false
set_option linter.all false
set_option maxRecDepth 100000
set_option maxHeartbeats 4000000
set_option autoImplicit false
namespace K23
open PySem PySem.Spec L2 DL
open PyProof.Rows (envOfC)

/-! ### _law_store -/
abbrev s_law_store : Stmt := top 27
abbrev N_law_store : List Str := ["script", "cells", "seed", "cell"]
theorem sc_law_store : FnScope N_law_store ["script"] (defScope s_law_store) := ⟨rfl, rfl, rfl, by decide +kernel, rfl, by decide +kernel, by decide +kernel⟩
def b_store : Ph Ctl := (mSeq (mSet 2 (m2 gMul (mC (.int 862933555777941)) (m2 gAdd (mCB (pureC lenC) (mCons (mVar 1) mNil)) (mC (.int 1)))))
  (mSeq (mFor (.one 3) (mSeqI (mVar 1)) (mSet 2 (m2 gMod (mCB (pureC intC) (mCons (m2 gAdd (m2 gMul (mVar 2) (mC (.int 1000003))) (mVar 3)) mNil)) (mC (.int 2305843009213693951)))))
  (mRetO (mLst (mCons (mVar 1) (mCons (mC (.int 0)) (mCons (mC (.int 0)) (mCons (mC (.int 0)) (mCons (mVar 2) (mCons (mC (.int 0)) mNil))))))))))
section
variable {P : Program} {w : World} {K : PySem.W.Frag} {mg : Str → Option Value} {base : Heap}
/-- the store that a law makes of its script: any seed -/
def spStore (K : PySem.W.Frag) : Sp := fun vs H Q _ => ∃ (a : Addr) (ns : List Int), vs = [.ref a] ∧ SqL K H a (ns.map V.int) ∧ ns.length ≤ 63 ∧ ∀ (p ca : Addr) (seed : Int) (H' : Hp), (∀ b o, H b = some o → H' b = some o) → H p = none → H ca = none → ca ≠ p →
  H' p = some (.lst [.ref ca, .int 0, .int 0, .int 0, .int seed, .int 0]) → H' ca = some (.lst (ns.map V.int)) → seed.natAbs < 2 ^ 70 → Q (.ref p) H'
theorem sqL_keep {H H' : Hp} {a : Addr} {xs : List V} (h : SqL K H a xs) (k : ∀ b o, H b = some o → H' b = some o) : SqL K H' a xs := by
  rcases h with (h | ⟨o, h⟩) | h
  · exact .inl (.inl (k _ _ h))
  · exact .inl (.inr ⟨o, k _ _ h⟩)
  · exact .inr h
theorem seq_asg {te : TE} {g : TG} {t : TS} {D : Ends} {σ : L2.St} {H : Hp} (h : te σ H fun x H1 => g x σ H1 fun σ' H' => t D σ' H') : tSeq (tAsg te g) t D σ H := h
theorem lc_raw {σ : L2.St} {H : Hp} {a : Addr} {ns : List Int} {Q : VK} (h3 : 3 < σ.length) (e0 : σ[0]? = some (some (.ref a))) (hS : SqL K H a (ns.map V.int)) (hl : ns.length ≤ 63)
    (q : ∀ (D : Addr) (H' : Hp), H D = none → (∀ b o, H b = some o → H' b = some o) → H' D = some (.lst (ns.map V.int)) → Q (.ref D) H') :
    tLc (fun σ H R => iList K (tVar 0) σ H R ∨ iTup K (tVar 0) σ H R) (gName 3) tYes (tCB (fun xs H Q => (∃ i, xs = [.int i] ∧ Q (.int i) H) ∨ ∃ k, xs = [.bl k] ∧ Q (.int (if k then 1 else 0)) H) (tCons (tVar 3) tNil)) [3] σ H Q := by
  refine .inl ⟨.ref a, e0, a, rfl, ⟨_, hS⟩, fun D hD => ?_⟩
  have w : Walk (Itl K a) (ns.map V.int).length (fun H => SqL K H a (ns.map V.int)) (YAt (ns.map V.int)) := walk_list
  refine lc_it w (fun i H2 => (∀ b o, H b = some o → H2 b = some o) ∧ H2 D = some (.lst ((ns.take i).map V.int))) ⟨fun b o h => by rw [upd_ne (ne_of_none h hD)]; exact h, by rw [upd_same]; rfl⟩ (fun i H2 _ h => sqL_keep hS h.1) ?_ ?_
  · rintro i x H2 H3 hi ⟨k, hd⟩ ⟨rfl, y⟩
    rw [List.length_map] at hi
    rw [List.getElem?_map, List.getElem?_eq_getElem hi] at y
    cases y
    refine ⟨?_, ?_⟩
    · refine wipe_same (by rw [List.length_set, wipe_length]) fun j hj => ?_
      simp only [List.mem_singleton] at hj
      rw [List.getElem?_set, if_neg (fun z => hj z.symm), wipe_get, if_neg (by simpa using hj)]
    · simp only [tYes, if_true]
      refine ⟨.int ns[i], ?_, .inl ⟨_, rfl, _, hd, ?_, fun b o h => ?_, ?_⟩⟩
      · rw [List.getElem?_set, if_pos rfl, wipe_length, if_pos h3]
      · rw [List.length_map, List.length_take]; exact small1000 (by omega)
      · rw [upd_ne (ne_of_none h hD)]; exact k b o h
      · rw [upd_same, List.take_add_one, List.getElem?_eq_getElem hi, List.map_append]; rfl
  · rintro H2 ⟨k, hd⟩
    rw [List.length_map, List.take_length] at hd
    exact q D H2 hD k hd
theorem ok_law_store {f : Addr} {fd : FuncData} (B : Blt mg) (D : Df K mg "_law_store" s_law_store ["script"] f fd) (hb : ∀ ns : List Int, ns.length ≤ 63 → ∃ seed : Int, seed.natAbs < 2 ^ 70 ∧ ∃ S, b_store [.un, .d (.lst (ns.map DL.D.int)), .un, .un] sto0 = .ok (.ro [.lst (ns.map DL.D.int), .int 0, .int 0, .int 0, .int seed, .int 0]) S) : FnOk P w K mg base (L2N.CX P w) 1 f fd ["script"] (spStore K) :=
  D.fn.ok sc_law_store (fun vs H Q E h => by obtain ⟨_, _, rfl, _⟩ := h; rfl) (fun cdv A outer s H vs Q E hr h => by
  have tk : L2N.Takes (cxOf (L2N.CX P w) P w K mg base N_law_store "_law_store" (defScope s_law_store) f cdv A outer s H E) (fun cls d _ H => E cls d H) := L2N.takes_of rfl rfl rfl rfl
  refine ⟨_, (pss_cons (by first | exact (ps_setLc (i := 1) (own := [("cell", 3)]) (scope := { kind := PySem.ScopeKind.function, names := [ (PySem.Str.ofString ".0", PySem.NameKind.local), (PySem.Str.ofString "cell", PySem.NameKind.local), (PySem.Str.ofString "int", PySem.NameKind.globalImplicit)], isGenerator := false, isCoroutine := false, more := [] : PySem.Scope }) rfl sc_law_store.nd rfl rfl (sw_true rfl rfl rfl (by decide +kernel)) (pi_seq (pv 0)) (blkOk_by (N := N_law_store) (sc := (defScope s_law_store)) (by decide +kernel)) (fun _ _ _ _ _ => (pg_name (i := 3) sc_law_store.nd rfl (by first | exact .inl rfl | exact .inr rfl))) (fun _ _ _ _ _ => pts_nil) (fun _ _ _ _ _ => (pe_callTy call_int1 (by rfl) B.n_int bt_int (pa_cons (pv 3) pa_nil)))) | exact (ps_set (i := 1) sc_law_store.nd rfl (by first | exact .inl rfl | exact .inr rfl) (pe_lc (own := [("cell", 3)]) (scope := { kind := PySem.ScopeKind.function, names := [ (PySem.Str.ofString ".0", PySem.NameKind.local), (PySem.Str.ofString "cell", PySem.NameKind.local), (PySem.Str.ofString "int", PySem.NameKind.globalImplicit)], isGenerator := false, isCoroutine := false, more := [] : PySem.Scope }) rfl sc_law_store.nd (pi_seq (pv 0)) (blkOk_by (N := N_law_store) (sc := (defScope s_law_store)) (by decide +kernel)) (fun _ _ _ _ _ => (pg_name (i := 3) sc_law_store.nd rfl (by first | exact .inl rfl | exact .inr rfl))) (fun _ _ _ _ _ => pts_nil) (fun _ _ _ _ _ => (pe_callTy call_int1 (by rfl) B.n_int bt_int (pa_cons (pv 3) pa_nil))))))
  (pss_cons (ps_set (i := 2) sc_law_store.nd rfl (by first | exact .inl rfl | exact .inr rfl) (pe_op op_mulW pe_int (pe_op op_add (pe_callB call_len (by rfl) B.n_len bt_len (pa_cons (pv 1) pa_nil)) pe_int)))
  (pss_cons (ps_for (passes_of rfl) rfl (pi_seq (pv 1)) (pg_name (i := 3) sc_law_store.nd rfl (by first | exact .inl rfl | exact .inr rfl)) (pss_one (ps_set (i := 2) sc_law_store.nd rfl (by first | exact .inl rfl | exact .inr rfl) (pe_op op_mod (pe_callTy call_int1 (by rfl) B.n_int bt_int (pa_cons (pe_op op_add (pe_op op_mulW (pv 2) pe_int) (pv 3)) pa_nil)) pe_int))))
  (pss_one (ps_ret (pe_lst (pa_cons (pv 1) (pa_cons pe_int (pa_cons pe_int (pa_cons pe_int (pa_cons (pv 2) (pa_cons pe_int pa_nil)))))))))))), ?_⟩
  obtain ⟨a, ns, rfl, hS, hl, q⟩ := h
  refine seq_asg (lc_raw (σ := [some (.ref a), none, none, none]) (a := a) (ns := ns) (show 3 < 4 by decide) rfl hS hl fun D H' hD k hd => ?_)
  obtain ⟨seed, hs, S', es⟩ := hb ns hl
  have b : Bd (fun _ => none) H 0 false (upd (fun _ => none) D (.lst (ns.map V.int))) H' sto0 [.un, .d (.lst (ns.map DL.D.int)), .un, .un] [some (.ref a), some (.ref D), none, none] := by
    have nD : ∀ b o, upd (fun _ => (none : Option HO)) D (.lst (ns.map V.int)) b = some o → b = D ∧ o = .lst (ns.map V.int) := fun b o e => by
      by_cases z : b = D
      · subst z; rw [upd_same] at e; cases e; exact ⟨rfl, rfl⟩
      · rw [upd_ne z] at e; cases e
    refine ⟨fun b o e => ?_, ⟨nofun, fun b o e _ => k b o e, fun b _ e => ?_⟩, nofun, nofun, fun i l e => ?_, fun i j p xs ys _ e => ?_, rfl⟩
    · obtain ⟨rfl, rfl⟩ := nD b o e; exact hd
    · rw [upd_ne (fun z => e (by rw [z]; exact hD))]
    · match i, e with
      | 0, e => cases e; trivial
      | 1, e => cases e; exact ⟨_, rfl, by simp only [Rep]; exact ⟨D, _, rfl, upd_same, Reps.ints.mpr rfl⟩⟩
      | 2, e => cases e; trivial
      | 3, e => cases e; trivial
      | i + 4, e => cases e
    · match i, e with
      | 0, e => cases e
      | 1, e => cases e
      | 2, e => cases e
      | 3, e => cases e
      | i + 4, e => cases e
  refine (show ST (fun _ _ _ _ => False) _ _ from (st_seq (st_set 2 (et_op o_mul (et_int _) (et_op o_add (et_cb c_len (at_cons (et_var 1) at_nil)) (et_int _))))
  (st_seq (st_for (K := K) (.one 3) (it_seq (et_var 1)) (st_set 2 (et_op o_mod (et_cb c_int (at_cons (et_op o_add (et_op o_mul (et_var 2) (et_int _)) (et_var 3)) at_nil)) (et_int _))))
  (st_retO (ot_lst (at_cons (et_var 1) (at_cons (et_int _) (at_cons (et_int _) (at_cons (et_int _) (at_cons (et_var 2) (at_cons (et_int _) at_nil))))))))))) _ _ _ _ _ _ _ _ _ _ b ?_
  show SW _ _ _ _ _ (b_store _ _) _
  rw [es]
  rintro p vs F2 H2 b2 e1 e2 e3 r
  obtain ⟨v0, r0, rfl, h0, r⟩ := reps_cons.mp r
  obtain ⟨v1, r1, rfl, h1, r⟩ := reps_cons.mp r
  obtain ⟨v2, r2, rfl, h2, r⟩ := reps_cons.mp r
  obtain ⟨v3, r3, rfl, h3, r⟩ := reps_cons.mp r
  obtain ⟨v4, r4, rfl, h4, r⟩ := reps_cons.mp r
  obtain ⟨v5, r5, rfl, h5, r⟩ := reps_cons.mp r
  cases reps_nil.mp r
  simp only [Rep] at h0 h1 h2 h3 h4 h5
  obtain ⟨ca, xs, rfl, hca, rx⟩ := h0
  subst h1 h2 h3 h4 h5
  have hxs := Reps.ints.mp rx
  subst hxs
  have c0 : H ca = none := by
    cases z : H ca with
    | none => rfl
    | some o =>
      have := b2.ext.new ca rfl (by rw [z]; exact nofun)
      rw [hca] at this; cases this
  exact q p ca seed H2 (fun b o e => b2.ext.keep b o e nofun) e3 c0 (fun z => by subst z; rw [e2] at hca; cases hca) e1 (b2.sub _ _ hca) hs)
end
end K23

set_option Elab.async false
set_option linter.all false
set_option maxRecDepth 100000
set_option maxHeartbeats 8000000
set_option autoImplicit false
namespace DL
open PySem PySem.Spec L2
def gdL : L → L
  | .d x => .d x
  | _ => .un
theorem Bd.gd {F0 H0 F H : Hp} {st : Addr} {hb : Bool} {S : Sto} {ρ : List L} {σ : L2.St} (b : Bd F0 H0 st hb F H S ρ σ) : Gd F H (ρ.map gdL) σ := ⟨b.sub, fun i l e => by
  rw [List.getElem?_map] at e
  cases q : ρ[i]? with
  | none => rw [q] at e; cases e
  | some x =>
    rw [q] at e
    cases e
    cases x with
    | d x => obtain ⟨u, e1, r⟩ := b.loc i _ q; exact .inr ⟨x, u, rfl, e1, r⟩
    | un => exact .inl rfl
    | own _ => exact .inl rfl
    | st => exact .inl rfl, by rw [b.len, List.length_map]⟩
theorem Gd.toBd {F H : Hp} {ρ : List L} {σ : L2.St} {p : Addr} {S : Sto} (g : Gd F H ρ σ) (hst : StoAt F H p S) (i : Nat) (e : σ[i]? = some (some (.ref p))) : Bd F H p true F H S (ρ.set i .st) σ :=
  have hn : H p ≠ none := by obtain ⟨_, o, h, _⟩ := hst; rw [h]; exact nofun
  ⟨g.sub, Ext.refl, fun _ => hst, fun _ => hn, fun j l h => by
    rw [List.getElem?_set] at h
    by_cases z : i = j
    · subst z
      rw [if_pos rfl] at h
      split at h
      · cases h; exact ⟨rfl, e⟩
      · cases h
    · rw [if_neg z] at h
      rcases g.loc j l h with rfl | ⟨d, u, rfl, e1, r⟩
      · trivial
      · exact ⟨u, e1, r⟩, fun j k q xs ys _ h => by
    rw [List.getElem?_set] at h
    by_cases z : i = j
    · rw [if_pos z] at h
      split at h
      · cases h
      · cases h
    · rw [if_neg z] at h
      exact (g.loc j _ h).elim (fun h => by cases h) (fun ⟨_, _, h, _⟩ => by cases h), by rw [List.length_set, g.len]⟩
theorem seq_if0 {tc : TT} {t u : TS} {D : Ends} {σ : L2.St} {H : Hp} (h : tc σ H fun c H1 => if c = true then t { D with nx := u D } σ H1 else u D σ H1) : tSeq (tIfS tc t tNext) u D σ H := h
def rowD (r : List Int) : D := .lst (r.map .int)
def tblD (R : List (List Int)) : D := .lst (R.map rowD)
theorem rep_tbl {G : Hp} {R : List (List Int)} {v : V} (r : Rep G (tblD R) v) : ∃ p vs, v = .ref p ∧ G p = some (.lst vs) ∧ vs.length = R.length ∧ ∀ (j : Nat) (x : List Int), R[j]? = some x → ∃ rj, vs[j]? = some (.ref rj) ∧ G rj = some (.lst (x.map V.int)) := by
  unfold tblD at r
  simp only [Rep] at r
  obtain ⟨p, vs, rfl, gp, rs⟩ := r
  refine ⟨p, vs, rfl, gp, by rw [rs.length, List.length_map], fun j x e => ?_⟩
  obtain ⟨u, eu, ru⟩ := rs.get (i := j) (d := rowD x) (by rw [List.getElem?_map, e]; rfl)
  unfold rowD at ru
  simp only [Rep] at ru
  obtain ⟨rj, ws, rfl, gj, rw'⟩ := ru
  exact ⟨rj, eu, by rw [gj, Reps.ints.mp rw']⟩
theorem tbl_rep {G : Hp} {R : List (List Int)} {p : Addr} {vs : List V} (gp : G p = some (.lst vs)) (hl : vs.length = R.length) (h : ∀ (j : Nat) (x : List Int), R[j]? = some x → ∃ rj, vs[j]? = some (.ref rj) ∧ G rj = some (.lst (x.map V.int))) : Rep G (tblD R) (.ref p) := by
  unfold tblD
  simp only [Rep]
  refine ⟨p, vs, rfl, gp, Reps.of_get (by rw [hl, List.length_map]) fun j d u e1 e2 => ?_⟩
  rw [List.getElem?_map] at e1
  cases q : R[j]? with
  | none => rw [q] at e1; cases e1
  | some x =>
    rw [q] at e1
    cases e1
    obtain ⟨rj, e3, g3⟩ := h j x q
    rw [e2] at e3
    cases e3
    unfold rowD
    simp only [Rep]
    exact ⟨rj, _, rfl, g3, Reps.ints.mpr rfl⟩
end DL
namespace K23
open PySem PySem.Spec L2 DL
open PyProof.Rows (envOfC)
abbrev s_law : Stmt := top 43
abbrev N_law : List Str := ["script", "store", "first", "second", "one", "two", "result", "back", "kept", "row", "other", "apart", "k"]
theorem sc_law : FnScope N_law ["script"] (defScope s_law) := ⟨rfl, rfl, rfl, by decide +kernel, rfl, by decide +kernel, by decide +kernel⟩
section
variable {P : Program} {w : World} {K : PySem.W.Frag} {mg : Str → Option Value} {base : Heap}
def spLaw (K : PySem.W.Frag) : Sp := fun vs H Q _ => ∃ (a : Addr) (ns : List Int), vs = [.ref a] ∧ SqL K H a (ns.map V.int) ∧ ns.length ≤ 63 ∧ ∀ H', Q (.bl true) H'
def q1 : Ph Ctl := (mSets [2, 3] (mCall1 m_law_pair 1 (mCons (mC (.int 16)) mNil)))
def q2 (cParting : Addr) : Ph Ctl := (mSet 4 (mMake cParting (m_Parting_init cParting) (mCons (mFrz (mCBo gList (mCons (mVar 2) mNil))) mNil)))
def q3 (cParting : Addr) : Ph Ctl := (mSet 5 (mMake cParting (m_Parting_init cParting) (mCons (mFrz (mCBo gList (mCons (mVar 3) mNil))) mNil)))
def q4 (cParting cUnlikePlots : Addr) : Ph D := (mCallN (m_count_table cParting cUnlikePlots) (mCons (mVar 4) (mCons (mVar 5) mNil)))
def q5 (cParting cUnlikePlots : Addr) : Ph D := (mCallN (m_count_table cParting cUnlikePlots) (mCons (mVar 5) (mCons (mVar 4) mNil)))
def q6 : Ph Bool := (mOr (mNot (mB (mCall0 m_law_right [] (mCons (mVar 6) (mCons (mVar 2) (mCons (mVar 3) mNil)))))) (mNot (mB (mCall0 m_law_right [] (mCons (mVar 7) (mCons (mVar 3) (mCons (mVar 2) mNil)))))))
def q7 (cParting cUnlikePlots : Addr) : Ph Bool := (mNot (mB (mCall0 m_law_right [] (mCons (mCallN (m_count_table cParting cUnlikePlots) (mCons (mVar 4) (mCons (mVar 4) mNil))) (mCons (mVar 2) (mCons (mVar 2) mNil))))))
def q8 (cParting cUnlikePlots : Addr) : Ph Bool := (mNot (mB (mCall0 m_law_right [] (mCons (mCallN (m_count_table cParting cUnlikePlots) (mCons (mMake cParting (m_Parting_init cParting) (mCons (mFrz (mCBo gList (mCons (mVar 3) mNil))) mNil)) (mCons (mVar 5) mNil))) (mCons (mVar 3) (mCons (mVar 3) mNil))))))
def q9 : Ph D := (mCallN (m_law_copy 6) (mCons (mVar 6) mNil))
def q13 (cParting cUnlikePlots : Addr) : Ph Bool := (mOr (mNot (mB (mCall0 (m_law_same 6) [] (mCons (m1 gSl1 (mVar 6)) (mCons (m1 gSl1 (mVar 8)) mNil))))) (mNot (mB (mCall0 (m_law_same 6) [] (mCons (mCallN (m_count_table cParting cUnlikePlots) (mCons (mVar 4) (mCons (mVar 5) mNil))) (mCons (mVar 8) mNil))))))
def q15 (cParting cUnlikePlots : Addr) : Ph Ctl := (mSeq (mSet 10 (mCall1 m_law_otherplots 1 (mCons (mCB (pureC lenC) (mCons (mVar 2) mNil)) mNil)))
  (mSeq (mSet 11 (mMake cParting (m_Parting_init cParting) (mCons (mFrz (mCBo gList (mCons (mCall1 m_law_parting 1 (mCons (mVar 10) mNil)) mNil))) mNil)))
  (mSeq (mIfS (mOr (mNot (mB (mCall0 (m_law_refused cParting cUnlikePlots) [] (mCons (mVar 4) (mCons (mVar 11) (mCons (mTup (mCons (mCB (pureC lenC) (mCons (mVar 2) mNil)) (mCons (mVar 10) mNil))) mNil)))))) (mNot (mB (mCall0 (m_law_refused cParting cUnlikePlots) [] (mCons (mVar 11) (mCons (mVar 5) (mCons (mTup (mCons (mVar 10) (mCons (mCB (pureC lenC) (mCons (mVar 2) mNil)) mNil))) mNil))))))) (mRet (mC (.bl false)))
   mNext)
  (mSeq (mIfS (mNot (mB (mCall0 (m_law_same 6) [] (mCons (mFrz (mLc (.one 12) [12] (mRange1 (mCons (mCB (pureC lenC) (mCons (m2 gIx (mVar 8) (mC (.int 0))) mNil)) mNil)) mYes (mFrz (mLc (.one 9) [9] (mSeqI (mVar 8)) mYes (m2 gIx (mVar 9) (mVar 12)))))) (mCons (mVar 7) mNil))))) (mRet (mC (.bl false)))
   mNext)
  (mRet (mAndV (mCall0 (m_law_same 6) [] (mCons (m1 (gFld cParting "names") (mVar 4)) (mCons (mVar 2) mNil))) (mAndV (mCall0 (m_law_same 6) [] (mCons (m1 (gFld cParting "names") (mVar 5)) (mCons (mVar 3) mNil))) (mCall0 (m_law_same 6) [] (mCons (mCallN (m_count_table cParting cUnlikePlots) (mCons (mVar 4) (mCons (mVar 5) mNil))) (mCons (mVar 8) mNil))))))))))
/-- what the law's steps come to -/
structure LawEq (cP cU : Addr) (S1 : Sto) (f s one two back kept : D) (S2 S3 S4 : Sto) (i0 : Int) (is0 : List Int) (R : List (List Int)) : Prop where
  e1 : q1 [.un, .st, .un, .un, .un, .un, .un, .un, .un, .un, .un, .un, .un] S1 = .ok (.nx [.un, .st, .d f, .d s, .un, .un, .un, .un, .un, .un, .un, .un, .un]) S2
  e2 : q2 cP [.un, .st, .d f, .d s, .un, .un, .un, .un, .un, .un, .un, .un, .un] S2 = .ok (.nx [.un, .st, .d f, .d s, .d one, .un, .un, .un, .un, .un, .un, .un, .un]) S3
  e3 : q3 cP [.un, .st, .d f, .d s, .d one, .un, .un, .un, .un, .un, .un, .un, .un] S3 = .ok (.nx [.un, .st, .d f, .d s, .d one, .d two, .un, .un, .un, .un, .un, .un, .un]) S4
  e4 : ∃ S, q4 cP cU [.un, .un, .d f, .d s, .d one, .d two, .un, .un, .un, .un, .un, .un, .un] sto0 = .ok (tblD ((i0 :: is0) :: R)) S
  e5 : ∃ S, q5 cP cU [.un, .un, .d f, .d s, .d one, .d two, .un, .un, .un, .un, .un, .un, .un] sto0 = .ok back S
  e6 : ∃ S, q6 [.un, .un, .d f, .d s, .d one, .d two, .d (tblD ((i0 :: is0) :: R)), .d back, .un, .un, .un, .un, .un] sto0 = .ok false S
  e7 : ∃ S, q7 cP cU [.un, .un, .d f, .d s, .d one, .d two, .un, .d back, .un, .un, .un, .un, .un] sto0 = .ok false S
  e8 : ∃ S, q8 cP cU [.un, .un, .d f, .d s, .d one, .d two, .un, .d back, .un, .un, .un, .un, .un] sto0 = .ok false S
  e9 : ∃ S, q9 [.un, .un, .d f, .d s, .d one, .d two, .d (tblD ((i0 :: is0) :: R)), .d back, .un, .un, .un, .un, .un] sto0 = .ok kept S
  e13 : ∃ S, q13 cP cU [.un, .un, .d f, .d s, .d one, .d two, .d (tblD ((99 :: is0 ++ [99]) :: R)), .d back, .d kept, .un, .un, .un, .un] sto0 = .ok false S
  e15 : ∃ S, q15 cP cU [.un, .st, .d f, .d s, .d one, .d two, .un, .d back, .d kept, .un, .un, .un, .un] S4 = .ok (.rt (.bl true)) S
  sm : is0.length ≤ 100 ∧ R.length ≤ 100
theorem ok_law {f : Addr} {fd : FuncData} {cParting cUnlikePlots : Addr} (B : Blt mg) (D : Df K mg "law" s_law ["script"] f fd) (T_Parting : Txt_Parting K cParting) (M_Parting : Mke P w K mg base "Parting" cParting 3 1 (m_Parting_init cParting))
    (C_law_store : Cal P w K mg base "_law_store" 1 ["script"] (spStore K))
    (C_law_pair : Cal P w K mg base "_law_pair" 5 ["store", "most"] (spD true 1 m_law_pair))
    (C_count_table : Cal P w K mg base "count_table" 4 ["first", "second"] (spN 2 (m_count_table cParting cUnlikePlots)))
    (C_law_right : Cal P w K mg base "_law_right" 2 ["value", "first", "second"] (spD false 3 m_law_right))
    (C_law_copy : Cal P w K mg base "_law_copy" 7 ["value"] (spN 1 (m_law_copy 6)))
    (C_law_same : Cal P w K mg base "_law_same" 7 ["left", "right"] (spD false 2 (m_law_same 6)))
    (C_law_otherplots : Cal P w K mg base "_law_otherplots" 4 ["store", "plots"] (spD true 1 m_law_otherplots))
    (C_law_parting : Cal P w K mg base "_law_parting" 3 ["store", "plots"] (spD true 1 m_law_parting))
    (C_law_refused : Cal P w K mg base "_law_refused" 8 ["one", "two", "fields"] (spD false 3 (m_law_refused cParting cUnlikePlots)))
    (hm : ∀ (ns : List Int) (seed : Int), ns.length ≤ 63 → seed.natAbs < 2 ^ 70 → ∃ f s one two back kept S2 S3 S4 i0 is0 R, LawEq cParting cUnlikePlots ⟨ns, 0, 0, 0, seed, 0, .law⟩ f s one two back kept S2 S3 S4 i0 is0 R ∧ S4.mode = .law) :
    FnOk P w K mg base (L2N.CX P w) 9 f fd ["script"] (spLaw K) :=
  D.fn.ok sc_law (fun vs H Q E h => by obtain ⟨_, _, rfl, _⟩ := h; rfl) (fun cdv A outer s H vs Q E hr h => by
  have tk : L2N.Takes (cxOf (L2N.CX P w) P w K mg base N_law "law" (defScope s_law) f cdv A outer s H E) (fun cls d _ H => E cls d H) := L2N.takes_of rfl rfl rfl rfl
  refine ⟨_, (pss_cons (ps_set (i := 1) sc_law.nd rfl (by first | exact .inl rfl | exact .inr rfl) (pe_cl C_law_store hr (by decide) (by rfl) (fun σ => L2N.passAt tk σ) (pa_cons (pv 0) pa_nil)))
  (pss_cons (ps_asg (pe_cl C_law_pair hr (by decide) (by rfl) (fun σ => L2N.passAt tk σ) (pa_cons (pv 1) (pa_cons pe_int pa_nil))) (pg_tup rfl (pgs_cons (pg_name (i := 2) sc_law.nd rfl (by first | exact .inl rfl | exact .inr rfl)) (pgs_cons (pg_name (i := 3) sc_law.nd rfl (by first | exact .inl rfl | exact .inr rfl)) pgs_nil))))
  (pss_cons (ps_set (i := 4) sc_law.nd rfl (by first | exact .inl rfl | exact .inr rfl) (pe_mke M_Parting hr (by decide) (by rfl) tk (pa_cons (pe_callTy call_list_of (by rfl) B.n_list bt_list (pa_cons (pv 2) pa_nil)) pa_nil)))
  (pss_cons (ps_set (i := 5) sc_law.nd rfl (by first | exact .inl rfl | exact .inr rfl) (pe_mke M_Parting hr (by decide) (by rfl) tk (pa_cons (pe_callTy call_list_of (by rfl) B.n_list bt_list (pa_cons (pv 3) pa_nil)) pa_nil)))
  (pss_cons (ps_set (i := 6) sc_law.nd rfl (by first | exact .inl rfl | exact .inr rfl) (pe_cl C_count_table hr (by decide) (by rfl) (fun σ => L2N.passAt tk σ) (pa_cons (pv 4) (pa_cons (pv 5) pa_nil))))
  (pss_cons (ps_set (i := 7) sc_law.nd rfl (by first | exact .inl rfl | exact .inr rfl) (pe_cl C_count_table hr (by decide) (by rfl) (fun σ => L2N.passAt tk σ) (pa_cons (pv 5) (pa_cons (pv 4) pa_nil))))
  (pss_cons (ps_if (PW.pt (pw_or (pt_not (pt_val (pe_cl C_law_right hr (by decide) (by rfl) (fun σ => L2N.passAt tk σ) (pa_cons (pv 6) (pa_cons (pv 2) (pa_cons (pv 3) pa_nil)))))) (pw_or1 (pt_not (pt_val (pe_cl C_law_right hr (by decide) (by rfl) (fun σ => L2N.passAt tk σ) (pa_cons (pv 7) (pa_cons (pv 3) (pa_cons (pv 2) pa_nil))))))))) (pss_one (ps_ret pe_bl))
   pss_nil)
  (pss_cons (ps_if (pt_not (pt_val (pe_cl C_law_right hr (by decide) (by rfl) (fun σ => L2N.passAt tk σ) (pa_cons (pe_cl C_count_table hr (by decide) (by rfl) (fun σ => L2N.passAt tk σ) (pa_cons (pv 4) (pa_cons (pv 4) pa_nil))) (pa_cons (pv 2) (pa_cons (pv 2) pa_nil)))))) (pss_one (ps_ret pe_bl))
   pss_nil)
  (pss_cons (ps_if (pt_not (pt_val (pe_cl C_law_right hr (by decide) (by rfl) (fun σ => L2N.passAt tk σ) (pa_cons (pe_cl C_count_table hr (by decide) (by rfl) (fun σ => L2N.passAt tk σ) (pa_cons (pe_mke M_Parting hr (by decide) (by rfl) tk (pa_cons (pe_callTy call_list_of (by rfl) B.n_list bt_list (pa_cons (pv 3) pa_nil)) pa_nil)) (pa_cons (pv 5) pa_nil))) (pa_cons (pv 3) (pa_cons (pv 3) pa_nil)))))) (pss_one (ps_ret pe_bl))
   pss_nil)
  (pss_cons (ps_set (i := 8) sc_law.nd rfl (by first | exact .inl rfl | exact .inr rfl) (pe_cl C_law_copy hr (by decide) (by rfl) (fun σ => L2N.passAt tk σ) (pa_cons (pv 6) pa_nil)))
  (pss_cons (ps_set (i := 9) sc_law.nd rfl (by first | exact .inl rfl | exact .inr rfl) (pe_ix ix_seq (pv 6) pe_int (fun _ _ => rfl)))
  (pss_cons (ps_asg pe_int (pg_sub (pv 9) pe_int set_list))
  (pss_cons (ps_expr (pe_bm PySem.F.plainAttrs_list PySem.F.slot_list_append PySem.F.type_list_append mt_append (pv 9) (pa_cons pe_int pa_nil)))
  (pss_cons (ps_if (PW.pt (pw_or (pt_not (pt_val (pe_cl C_law_same hr (by decide) (by rfl) (fun σ => L2N.passAt tk σ) (pa_cons (by exact (pe_slice sl_list (pv 6) (po_some pe_int) po_none)) (pa_cons (by exact (pe_slice sl_list (pv 8) (po_some pe_int) po_none)) pa_nil))))) (pw_or1 (pt_not (pt_val (pe_cl C_law_same hr (by decide) (by rfl) (fun σ => L2N.passAt tk σ) (pa_cons (pe_cl C_count_table hr (by decide) (by rfl) (fun σ => L2N.passAt tk σ) (pa_cons (pv 4) (pa_cons (pv 5) pa_nil))) (pa_cons (pv 8) pa_nil)))))))) (pss_one (ps_ret pe_bl))
   pss_nil)
  (pss_cons (ps_expr (pe_bm PySem.F.plainAttrs_list PySem.F.slot_list_append PySem.F.type_list_append mt_append (pv 6) (pa_cons (pe_lst (pa_cons pe_int pa_nil)) pa_nil)))
  (pss_cons (ps_set (i := 10) sc_law.nd rfl (by first | exact .inl rfl | exact .inr rfl) (pe_cl C_law_otherplots hr (by decide) (by rfl) (fun σ => L2N.passAt tk σ) (pa_cons (pv 1) (pa_cons (pe_callB call_len (by rfl) B.n_len bt_len (pa_cons (pv 2) pa_nil)) pa_nil))))
  (pss_cons (ps_set (i := 11) sc_law.nd rfl (by first | exact .inl rfl | exact .inr rfl) (pe_mke M_Parting hr (by decide) (by rfl) tk (pa_cons (pe_callTy call_list_of (by rfl) B.n_list bt_list (pa_cons (pe_cl C_law_parting hr (by decide) (by rfl) (fun σ => L2N.passAt tk σ) (pa_cons (pv 1) (pa_cons (pv 10) pa_nil))) pa_nil)) pa_nil)))
  (pss_cons (ps_if (PW.pt (pw_or (pt_not (pt_val (pe_cl C_law_refused hr (by decide) (by rfl) (fun σ => L2N.passAt tk σ) (pa_cons (pv 4) (pa_cons (pv 11) (pa_cons (pe_tup (pa_cons (pe_callB call_len (by rfl) B.n_len bt_len (pa_cons (pv 2) pa_nil)) (pa_cons (pv 10) pa_nil))) pa_nil)))))) (pw_or1 (pt_not (pt_val (pe_cl C_law_refused hr (by decide) (by rfl) (fun σ => L2N.passAt tk σ) (pa_cons (pv 11) (pa_cons (pv 5) (pa_cons (pe_tup (pa_cons (pv 10) (pa_cons (pe_callB call_len (by rfl) B.n_len bt_len (pa_cons (pv 2) pa_nil)) pa_nil))) pa_nil))))))))) (pss_one (ps_ret pe_bl))
   pss_nil)
  (pss_cons (ps_if (pt_not (pt_val (pe_cl C_law_same hr (by decide) (by rfl) (fun σ => L2N.passAt tk σ) (pa_cons (by exact (pe_lc (own := [("k", 12)]) (scope := { kind := PySem.ScopeKind.function, names := [ (PySem.Str.ofString ".0", PySem.NameKind.local), (PySem.Str.ofString "k", PySem.NameKind.cell), (PySem.Str.ofString "kept", PySem.NameKind.free)], isGenerator := false, isCoroutine := false, more := [] : PySem.Scope }) rfl sc_law.nd (pi_range1 (by rfl) B.n_range (pa_cons (pe_callB call_len (by rfl) B.n_len bt_len (pa_cons (pe_ix ix_seq (pv 8) pe_int (fun _ _ => rfl)) pa_nil)) pa_nil)) (blkOk_by (N := N_law) (sc := (defScope s_law)) (by decide +kernel)) (fun _ _ _ _ _ => (pg_name (i := 12) sc_law.nd rfl (by first | exact .inl rfl | exact .inr rfl))) (fun _ _ _ _ _ => pts_nil) (fun _ _ _ _ _ => (show PE _ _ (tLc (fun σ H R => iList K (tVar 8) σ H R ∨ iTup K (tVar 8) σ H R) (gName 9) tYes (tOp (rIx K) (tVar 9) (tVar 12)) [9]) from (pe_lc (own := [("row", 9)]) (scope := { kind := PySem.ScopeKind.function, names := [ (PySem.Str.ofString ".0", PySem.NameKind.local), (PySem.Str.ofString "row", PySem.NameKind.local), (PySem.Str.ofString "k", PySem.NameKind.free)], isGenerator := false, isCoroutine := false, more := [] : PySem.Scope }) rfl sc_law.nd (pi_seq (by exact (pv 8))) (blkOk_by (N := N_law) (sc := (relS { kind := PySem.ScopeKind.function, names := [ (PySem.Str.ofString ".0", PySem.NameKind.local), (PySem.Str.ofString "k", PySem.NameKind.cell), (PySem.Str.ofString "kept", PySem.NameKind.free)], isGenerator := false, isCoroutine := false, more := [] : PySem.Scope } (defScope s_law))) (by decide +kernel)) (fun _ _ _ _ _ => (pg_name (i := 9) sc_law.nd rfl (by first | exact .inl rfl | exact .inr rfl))) (fun _ _ _ _ _ => pts_nil) (fun _ _ _ _ _ => (pe_ix ix_seq (pv 9) (pv 12) (fun _ _ => rfl)))))))) (pa_cons (pv 7) pa_nil))))) (pss_one (ps_ret pe_bl))
   pss_nil)
  (pss_one (ps_ret (pe_and (pe_cl C_law_same hr (by decide) (by rfl) (fun σ => L2N.passAt tk σ) (pa_cons (pe_fld (pv 4) rfl) (pa_cons (pv 2) pa_nil))) (pe_and (pe_cl C_law_same hr (by decide) (by rfl) (fun σ => L2N.passAt tk σ) (pa_cons (pe_fld (pv 5) rfl) (pa_cons (pv 3) pa_nil))) (pe_one (pe_cl C_law_same hr (by decide) (by rfl) (fun σ => L2N.passAt tk σ) (pa_cons (pe_cl C_count_table hr (by decide) (by rfl) (fun σ => L2N.passAt tk σ) (pa_cons (pv 4) (pa_cons (pv 5) pa_nil))) (pa_cons (pv 8) pa_nil))))))))))))))))))))))))))), ?_⟩
  obtain ⟨a, ns, rfl, hS, hl, q⟩ := h
  refine seq_asg ⟨.ref a, rfl, a, ns, rfl, hS, hl, fun p ca seed H1 k1 np nca ne hp hca hs => ?_⟩
  obtain ⟨fi, se, one, two, back, kept, S2, S3, S4, i0, is0, R, L, hlaw⟩ := hm ns seed hl hs
  have b1 : Bd (upd (fun _ => none) ca (.lst (ns.map V.int))) H1 p true (upd (fun _ => none) ca (.lst (ns.map V.int))) H1 ⟨ns, 0, 0, 0, seed, 0, .law⟩ [.un, .st, .un, .un, .un, .un, .un, .un, .un, .un, .un, .un, .un] [some (.ref a), some (.ref p), none, none, none, none, none, none, none, none, none, none, none] := by
    have nD : ∀ b o, upd (fun _ => (none : Option HO)) ca (.lst (ns.map V.int)) b = some o → b = ca ∧ o = .lst (ns.map V.int) := fun b o e => by
      by_cases z : b = ca
      · subst z; rw [upd_same] at e; cases e; exact ⟨rfl, rfl⟩
      · rw [upd_ne z] at e; cases e
    have noO : ∀ (i : Nat) (xs : List DL.D), ([.un, .st, .un, .un, .un, .un, .un, .un, .un, .un, .un, .un, .un] : List DL.L)[i]? ≠ some (.own xs) := fun i xs e => by
      have := List.mem_of_getElem? e
      simp at this
    refine ⟨fun b o e => ?_, Ext.refl, fun _ => ⟨by rw [upd_ne ne.symm], _, hp, ca, rfl, upd_same⟩, fun _ => by rw [hp]; exact nofun, fun i l e => ?_, fun i j p xs ys _ e => absurd e (noO i xs), rfl⟩
    · obtain ⟨rfl, rfl⟩ := nD b o e; exact hca
    · cases l with
      | un => trivial
      | st =>
        match i, e with
        | 1, e => exact ⟨rfl, rfl⟩
        | 0, e => cases e
        | 2, e => cases e
        | 3, e => cases e
        | 4, e => cases e
        | 5, e => cases e
        | 6, e => cases e
        | 7, e => cases e
        | 8, e => cases e
        | 9, e => cases e
        | 10, e => cases e
        | 11, e => cases e
        | 12, e => cases e
        | i + 13, e => cases e
      | own xs => exact absurd e (noO i xs)
      | d x =>
        have := List.mem_of_getElem? e
        simp at this
  refine (show ST (fun cls d _ H => E cls d H) _ _ from (st_sets (K := K) [2, 3] rfl (et_call1 1 (ln_cons ln_nil) (at_cons (et_int _) at_nil)))) _ _ _ _ _ _ _ _ _ _ b1 ?_
  show SW _ _ _ _ _ (q1 _ _) _
  rw [L.e1]
  intro σ2 F2 H2 b2
  refine (show ST (fun cls d _ H => E cls d H) _ _ from (st_set 4 (et_make (ln_cons ln_nil) (at_cons (et_frz (ot_cb c_list (at_cons (et_var 2) at_nil))) at_nil)))) _ _ _ _ _ _ _ _ _ _ b2 ?_
  show SW _ _ _ _ _ (q2 _ _ _) _
  rw [L.e2]
  intro σ3 F3 H3 b3
  refine (show ST (fun cls d _ H => E cls d H) _ _ from (st_set 5 (et_make (ln_cons ln_nil) (at_cons (et_frz (ot_cb c_list (at_cons (et_var 3) at_nil))) at_nil)))) _ _ _ _ _ _ _ _ _ _ b3 ?_
  show SW _ _ _ _ _ (q3 _ _ _) _
  rw [L.e3]
  intro σ4 F4 H4 b4
  have g4 : Gd F4 H4 [.un, .un, .d fi, .d se, .d one, .d two, .un, .un, .un, .un, .un, .un, .un] σ4 := b4.gd
  have l4 : σ4.length = 13 := b4.len
  have s4 : σ4[1]? = some (some (.ref p)) := (b4.loc 1 .st rfl).2
  have st4 := b4.sto rfl
  obtain ⟨fp4, os, hp4, sin4⟩ := st4
  obtain ⟨_, e4⟩ := L.e4
  refine seq_asg (ev_N (W := fun cls d _ H => E cls d H) g4 (nt_callN (ln_cons (ln_cons ln_nil)) rfl (at_cons (et_var 4) (at_cons (et_var 5) at_nil))) e4 fun v5 F5 H5 G x5 g5 nG rG dG => ?_)
  have ap5 : Ap G F5 H5 := fun a o h => ⟨(nG a o h).2.1, (nG a o h).2.2⟩
  have gp : ∀ o, G p ≠ some o := fun o h => by rw [(nG p o h).1] at hp4; cases hp4
  have fp5 : F5 p = none := x5.new p fp4 (by rw [hp4]; exact nofun)
  have hp5 : H5 p = some os := x5.keep p os hp4 nofun
  have sin5 : StoIn F5 S4 os := sin4.mono x5.ff
  have g5' := g5.wipe 6 (x := some v5)
  obtain ⟨_, e5⟩ := L.e5
  refine seq_asg (ev_D (W := fun cls d _ H => E cls d H) g5' (et_callN (ln_cons (ln_cons ln_nil)) rfl (at_cons (et_var 5) (at_cons (et_var 4) at_nil))) e5 fun v6 F6 H6 x6 g6 r6 => ?_)
  have ap6 := ap5.go x6
  have fp6 : F6 p = none := x6.new p fp5 (by rw [hp5]; exact nofun)
  have hp6 : H6 p = some os := x6.keep p os hp5 nofun
  have sin6 : StoIn F6 S4 os := sin5.mono x6.ff
  have g6' := g6.set 7 r6
  have c6 : ((σ4.set 6 (some v5)).set 7 (some v6))[6]? = some (some v5) := by
    rw [List.getElem?_set, if_neg (by decide), List.getElem?_set, if_pos rfl, if_pos (by rw [l4]; decide)]
  obtain ⟨_, e6⟩ := L.e6
  refine seq_if0 (ev_T (W := fun cls d _ H => E cls d H) (g6'.frz ap6 6 c6 rG) (bt_or (bt_not (bt_val (et_call0 [] (fun _ => reps_nil.mpr rfl) (ln_cons (ln_cons (ln_cons ln_nil))) rfl (at_cons (et_var 6) (at_cons (et_var 2) (at_cons (et_var 3) at_nil)))))) (bt_not (bt_val (et_call0 [] (fun _ => reps_nil.mpr rfl) (ln_cons (ln_cons (ln_cons ln_nil))) rfl (at_cons (et_var 7) (at_cons (et_var 3) (at_cons (et_var 2) at_nil))))))) e6 fun H7 k7 => iteF ?_)
  have g7 := g6'.keep k7
  obtain ⟨_, e7⟩ := L.e7
  refine seq_if0 (ev_T (W := fun cls d _ H => E cls d H) g7 (bt_not (bt_val (et_call0 [] (fun _ => reps_nil.mpr rfl) (ln_cons (ln_cons (ln_cons ln_nil))) rfl (at_cons (et_callN (ln_cons (ln_cons ln_nil)) rfl (at_cons (et_var 4) (at_cons (et_var 4) at_nil))) (at_cons (et_var 2) (at_cons (et_var 2) at_nil)))))) e7 fun H8 k8 => iteF ?_)
  have g8 := g7.keep k8
  obtain ⟨_, e8⟩ := L.e8
  refine seq_if0 (ev_T (W := fun cls d _ H => E cls d H) g8 (bt_not (bt_val (et_call0 [] (fun _ => reps_nil.mpr rfl) (ln_cons (ln_cons (ln_cons ln_nil))) rfl (at_cons (et_callN (ln_cons (ln_cons ln_nil)) rfl (at_cons (et_make (ln_cons ln_nil) (at_cons (et_frz (ot_cb c_list (at_cons (et_var 3) at_nil))) at_nil)) (at_cons (et_var 5) at_nil))) (at_cons (et_var 3) (at_cons (et_var 3) at_nil)))))) e8 fun H9 k9 => iteF ?_)
  have g9 := g8.keep k9
  have ap9 := ((ap6.keep k7).keep k8).keep k9
  have hp9 : H9 p = some os := k9 _ _ (k8 _ _ (k7 _ _ hp6))
  obtain ⟨_, e9⟩ := L.e9
  refine seq_asg (ev_N (W := fun cls d _ H => E cls d H) (g9.frz ap9 6 c6 rG) (nt_callN (ln_cons ln_nil) rfl (at_cons (et_var 6) at_nil)) e9 fun v10 F' H10 G' x10 _ nG' rG' _ => ?_)
  have ap10 : Ap G' F6 H10 := fun a o h => ⟨(nG' a o h).2.1, g9.sub.none (nG' a o h).1⟩
  have k10 : ∀ a o, H9 a = some o → H10 a = some o := fun a o h => x10.keep a o h nofun
  have g10 : Gd (join F6 G') H10 [.un, .un, .d fi, .d se, .d one, .d two, .un, .d back, .d kept, .un, .un, .un, .un] (((σ4.set 6 (some v5)).set 7 (some v6)).set 8 (some v10)) := by
    have := ((g9.keep k10).wipe 8 (x := some v10)).frz ap10 8 (v := v10) (by rw [List.getElem?_set, if_pos rfl, if_pos (by rw [List.length_set, List.length_set, l4]; decide)]) rG'
    exact this
  have ng' : ∀ a o, G a = some o → G' a = none := fun a o h => by
    cases z : G' a with
    | none => rfl
    | some u => have := (nG' a u z).1; rw [(ap9 a o h).1] at this; cases this
  have ap10' : Ap G (join F6 G') H10 := fun a o h => ⟨k10 a o (ap9 a o h).1, by rw [join_r (ap9 a o h).2]; exact ng' a o h⟩
  have hp10 : H10 p = some os := k10 _ _ hp9
  have fp10 : join F6 G' p = none := by
    rw [join_r fp6]
    cases z : G' p with
    | none => rfl
    | some u => have := (nG' p u z).1; rw [hp9] at this; cases this
  have sin10 : StoIn (join F6 G') S4 os := sin6.mono (sub_joinL _ _)
  -- row = result[0]; row[0] = 99; row.append(99)
  obtain ⟨pr, vs, rfl, gpr, hlen, rows⟩ := rep_tbl rG
  obtain ⟨r0, v0, gr0⟩ := rows 0 _ rfl
  have dr : DR vs := dG pr vs rfl gpr
  have ne0 : r0 ≠ pr := fun z => by
    subst z
    rw [gr0] at gpr
    cases gpr
    rw [List.getElem?_map] at v0
    cases v0
  have c6' : (((σ4.set 6 (some (.ref pr))).set 7 (some v6)).set 8 (some v10))[6]? = some (some (.ref pr)) := by rw [List.getElem?_set, if_neg (by decide)]; exact c6
  refine seq_asg ⟨_, c6', .inl ⟨pr, vs, 0, _, rfl, rfl, SqL.of (ap10' _ _ gpr).1, atI_nat (j := 0) v0, ?_⟩⟩
  have c9 : ((((σ4.set 6 (some (.ref pr))).set 7 (some v6)).set 8 (some v10)).set 9 (some (.ref r0)))[9]? = some (some (.ref r0)) := by
    rw [List.getElem?_set, if_pos rfl, if_pos (by simp only [List.length_set, l4]; decide)]
  have hr0 := (ap10' _ _ gr0).1
  refine ⟨_, c9, r0, _, 0, 0, rfl, rfl, hr0, (by simp [ixN] : ixN _ 0 = some 0), ?_⟩
  refine ⟨_, c9, .inl ⟨rfl, _, SqL.of upd_same⟩, r0, _, _, rfl, rfl, upd_same, ?_, ?_⟩
  · simp only [List.length_set, List.length_map, List.length_cons]; exact small1000 (by have := L.sm.1; omega)
  have upd2 : upd (upd H10 r0 (.lst (((i0 :: is0).map V.int).set 0 (.int 99)))) r0 (.lst (((i0 :: is0).map V.int).set 0 (.int 99) ++ [.int 99])) = upd H10 r0 (.lst ((99 :: is0 ++ [99]).map V.int)) := by
    funext b
    by_cases z : b = r0
    · subst z; rw [upd_same, upd_same]; simp
    · rw [upd_ne z, upd_ne z, upd_ne z]
  rw [upd2]
  have f0 : join F6 G' r0 = none := (ap10' _ _ gr0).2
  have g11 : Gd (join F6 G') (upd H10 r0 (.lst ((99 :: is0 ++ [99]).map V.int))) [.un, .un, .d fi, .d se, .d one, .d two, .un, .d back, .d kept, .un, .un, .un, .un] ((((σ4.set 6 (some (.ref pr))).set 7 (some v6)).set 8 (some v10)).set 9 (some (.ref r0))) := by
    have := (g10.go (Sub.refl _) (H' := upd H10 r0 (.lst ((99 :: is0 ++ [99]).map V.int))) fun a o h => by rw [upd_ne (ne_of_none h f0)]; exact g10.sub a o h).wipe 9 (x := some (.ref r0))
    exact this
  have ap11 : Ap (upd G r0 (.lst ((99 :: is0 ++ [99]).map V.int))) (join F6 G') (upd H10 r0 (.lst ((99 :: is0 ++ [99]).map V.int))) := fun a o h => by
    by_cases z : a = r0
    · subst z; rw [upd_same] at h ⊢; exact ⟨h, f0⟩
    · rw [upd_ne z] at h ⊢; exact ap10' a o h
  have rG3 : Rep (upd G r0 (.lst ((99 :: is0 ++ [99]).map V.int))) (tblD ((99 :: is0 ++ [99]) :: R)) (.ref pr) := by
    refine tbl_rep (by rw [upd_ne ne0.symm]; exact gpr) hlen fun j x e => ?_
    cases j with
    | zero => cases e; exact ⟨r0, v0, upd_same⟩
    | succ j =>
      obtain ⟨rj, e1, g1⟩ := rows (j + 1) x e
      exact ⟨rj, e1, by rw [upd_ne (fun z => by subst z; exact absurd (dr _ _ _ e1 v0) (Nat.succ_ne_zero j))]; exact g1⟩
  have c6'' : ((((σ4.set 6 (some (.ref pr))).set 7 (some v6)).set 8 (some v10)).set 9 (some (.ref r0)))[6]? = some (some (.ref pr)) := by rw [List.getElem?_set, if_neg (by decide)]; exact c6'
  obtain ⟨_, e13⟩ := L.e13
  refine seq_if0 (ev_T (W := fun cls d _ H => E cls d H) (g11.frz ap11 6 c6'' rG3) (bt_or (bt_not (bt_val (et_call0 [] (fun _ => reps_nil.mpr rfl) (ln_cons (ln_cons ln_nil)) rfl (at_cons (et_sl1 (et_var 6)) (at_cons (et_sl1 (et_var 8)) at_nil))))) (bt_not (bt_val (et_call0 [] (fun _ => reps_nil.mpr rfl) (ln_cons (ln_cons ln_nil)) rfl (at_cons (et_callN (ln_cons (ln_cons ln_nil)) rfl (at_cons (et_var 4) (at_cons (et_var 5) at_nil))) (at_cons (et_var 8) at_nil)))))) e13 fun H13 k13 => iteF ?_)
  have g13 := g11.keep k13
  have hpr : H13 pr = some (.lst vs) := k13 _ _ (by rw [upd_ne ne0.symm]; exact (ap10' _ _ gpr).1)
  have nr0 : p ≠ r0 := fun z => gp _ (by rw [z]; exact gr0)
  have npr : p ≠ pr := fun z => gp _ (by rw [z]; exact gpr)
  have hp13 : H13 p = some os := k13 _ _ (by rw [upd_ne nr0]; exact hp10)
  -- result.append([0])
  refine ⟨_, c6'', .inl ⟨rfl, _, SqL.of hpr⟩, (show 1 ≤ sizeLine by decide), fun o no => ⟨pr, vs, .ref o, rfl, rfl, by rw [upd_ne (ne_of_none hpr no)]; exact hpr, ?_, ?_⟩⟩
  · rw [hlen]; exact small1000 (by have := L.sm.2; simp only [List.length_cons]; omega)
  have g14 : Gd (join F6 G') (upd (upd H13 o (.lst [.int 0])) pr (.lst (vs ++ [.ref o]))) [.un, .un, .d fi, .d se, .d one, .d two, .un, .d back, .d kept, .un, .un, .un, .un] _ := g13.go (Sub.refl _) fun a u h => by
    rw [upd_ne (ne_of_none h (ap10' _ _ gpr).2), upd_ne (ne_of_none (g13.sub a u h) no)]
    exact g13.sub a u h
  have b14 : Bd (join F6 G') _ p true (join F6 G') _ S4 [.un, .st, .d fi, .d se, .d one, .d two, .un, .d back, .d kept, .un, .un, .un, .un] _ := g14.toBd (S := S4) (p := p) ⟨fp10, os, by rw [upd_ne npr, upd_ne (ne_of_none hp13 no)]; exact hp13, sin10⟩ 1 (by
    rw [List.getElem?_set, if_neg (by decide), List.getElem?_set, if_neg (by decide), List.getElem?_set, if_neg (by decide), List.getElem?_set, if_neg (by decide)]; exact s4)
  obtain ⟨_, e15⟩ := L.e15
  refine (show ST (fun cls d _ H => E cls d H) _ _ from (st_seq (st_set 10 (et_call1 1 (ln_cons ln_nil) (at_cons (et_cb c_len (at_cons (et_var 2) at_nil)) at_nil)))
  (st_seq (st_set 11 (et_make (ln_cons ln_nil) (at_cons (et_frz (ot_cb c_list (at_cons (et_call1 1 (ln_cons ln_nil) (at_cons (et_var 10) at_nil)) at_nil))) at_nil)))
  (st_seq (st_if (bt_or (bt_not (bt_val (et_call0 [] (fun _ => reps_nil.mpr rfl) (ln_cons (ln_cons (ln_cons ln_nil))) rfl (at_cons (et_var 4) (at_cons (et_var 11) (at_cons (et_tup (at_cons (et_cb c_len (at_cons (et_var 2) at_nil)) (at_cons (et_var 10) at_nil))) at_nil)))))) (bt_not (bt_val (et_call0 [] (fun _ => reps_nil.mpr rfl) (ln_cons (ln_cons (ln_cons ln_nil))) rfl (at_cons (et_var 11) (at_cons (et_var 5) (at_cons (et_tup (at_cons (et_var 10) (at_cons (et_cb c_len (at_cons (et_var 2) at_nil)) at_nil))) at_nil))))))) (st_ret (et_bl _))
   st_next)
  (st_seq (st_if (bt_not (bt_val (et_call0 [] (fun _ => reps_nil.mpr rfl) (ln_cons (ln_cons ln_nil)) rfl (at_cons (et_frz (ot_lc (K := K) (.one 12) [12] (by decide) (it_range1 (at_cons (et_cb c_len (at_cons (et_op o_ix (et_var 8) (et_int _)) at_nil)) at_nil)) bt_yes (et_frz (ot_lc (K := K) (.one 9) [9] (by decide) (it_seq (et_var 8)) bt_yes (et_op o_ix (et_var 9) (et_var 12)))))) (at_cons (et_var 7) at_nil))))) (st_ret (et_bl _))
   st_next)
  (st_ret (et_and (et_call0 [] (fun _ => reps_nil.mpr rfl) (ln_cons (ln_cons ln_nil)) rfl (at_cons (et_fld T_Parting.cl T_Parting.na_names (et_var 4)) (at_cons (et_var 2) at_nil))) (et_and (et_call0 [] (fun _ => reps_nil.mpr rfl) (ln_cons (ln_cons ln_nil)) rfl (at_cons (et_fld T_Parting.cl T_Parting.na_names (et_var 5)) (at_cons (et_var 3) at_nil))) (et_call0 [] (fun _ => reps_nil.mpr rfl) (ln_cons (ln_cons ln_nil)) rfl (at_cons (et_callN (ln_cons (ln_cons ln_nil)) rfl (at_cons (et_var 4) (at_cons (et_var 5) at_nil))) (at_cons (et_var 8) at_nil))))))))))) _ _ _ _ _ _ _ _ _ _ b14 ?_
  show SW _ _ _ _ _ (q15 _ _ _ _) _
  rw [e15]
  intro v F' H' _ r
  simp only [Rep] at r
  subst r
  exact q H')
end
end K23

set_option Elab.async false
set_option linter.all false
set_option maxRecDepth 100000
set_option maxHeartbeats 8000000
set_option autoImplicit false
namespace K23
open PySem PySem.Spec L2 DL
open PyProof.Rows (envOfC)
abbrev s_U_init : Stmt := inClass (top 7) 0
theorem sc_U_init : FnScope ["self", "left_plots", "right_plots"] ["self", "left_plots", "right_plots"] (defScope s_U_init) := ⟨rfl, rfl, rfl, by decide +kernel, rfl, by decide +kernel, by decide +kernel⟩
theorem df_mk {K : PySem.W.Frag} {h : Heap} {mg : Str → Option Value} {x : Str} {st : Stmt} {ps : List Str} {f : Addr} {oc kV dc pm cd ct : Value} {od an : Option Addr} {sl : Array (Option Value)} (X : K.In h) (G : h.Ns mainGlobals mg) (a : PySem.W.nsIn K mainGlobals x = some (some (.ref f)))
    (l : K.lookup f = some ⟨oc, od, .func (PySem.W.fnOf x x (defArgs st) (defBody st) (defScope st) .none kV dc pm an cd ct), sl⟩) (c : PySem.W.codeIn K cd x = true) (k : PySem.W.keepIn K (.ref f) = true)
    (hb : ∀ (kV dc pm : Value) (an : Option Addr) (cd ct : Value) (us : List Value), us.length = ps.length → bindArgs (PySem.W.fnOf x x (defArgs st) (defBody st) (defScope st) .none kV dc pm an cd ct) ⟨us, []⟩ = pure (ps.zip us)) :
    Df K mg x st ps f (PySem.W.fnOf x x (defArgs st) (defBody st) (defScope st) .none kV dc pm an cd ct) :=
  have F : FunD K x x (defArgs st) (defBody st) (defScope st) [] [] f (PySem.W.fnOf x x (defArgs st) (defBody st) (defScope st) .none kV dc pm an cd ct) := ⟨⟨oc, od, .none, kV, dc, pm, an, cd, ct, sl, rfl, l, c, .inl ⟨rfl, rfl⟩, .inl rfl⟩, k⟩
  ⟨F, PySem.W.mg_of X G a, .all (hb kV dc pm an cd ct)⟩
theorem dm_mk {K : PySem.W.Frag} {x qual : Str} {st : Stmt} {ps : List Str} {f : Addr} {oc kV dc pm cd ct : Value} {od an : Option Addr} {sl : Array (Option Value)}
    (l : K.lookup f = some ⟨oc, od, .func (PySem.W.fnOf x qual (defArgs st) (defBody st) (defScope st) .none kV dc pm an cd ct), sl⟩) (c : PySem.W.codeIn K cd qual = true) (k : PySem.W.keepIn K (.ref f) = true)
    (hb : ∀ (kV dc pm : Value) (an : Option Addr) (cd ct : Value) (us : List Value), us.length = ps.length → bindArgs (PySem.W.fnOf x qual (defArgs st) (defBody st) (defScope st) .none kV dc pm an cd ct) ⟨us, []⟩ = pure (ps.zip us)) :
    Dm K x qual st ps f (PySem.W.fnOf x qual (defArgs st) (defBody st) (defScope st) .none kV dc pm an cd ct) :=
  have F : FunD K x qual (defArgs st) (defBody st) (defScope st) [] [] f (PySem.W.fnOf x qual (defArgs st) (defBody st) (defScope st) .none kV dc pm an cd ct) := ⟨⟨oc, od, .none, kV, dc, pm, an, cd, ct, sl, rfl, l, c, .inl ⟨rfl, rfl⟩, .inl rfl⟩, k⟩
  ⟨F, .all (hb kV dc pm an cd ct)⟩
theorem all_mk {P : Program} {w : World} {K : PySem.W.Frag} {h : Heap} {mg : Str → Option Value} {fa : Addr} (X : K.In h) (G : h.Ns mainGlobals mg) (hfa : mg "law" = some (.ref fa))
    (hb : ∀ ns : List Int, ns.length ≤ 63 → ∃ seed : Int, seed.natAbs < 2 ^ 70 ∧ ∃ S, b_store [.un, .d (.lst (ns.map DL.D.int)), .un, .un] sto0 = .ok (.ro [.lst (ns.map DL.D.int), .int 0, .int 0, .int 0, .int seed, .int 0]) S)
    (hm : ∀ (cParting cUnlikePlots : Addr) (ns : List Int) (seed : Int), ns.length ≤ 63 → seed.natAbs < 2 ^ 70 → ∃ f s one two back kept S2 S3 S4 i0 is0 R, LawEq cParting cUnlikePlots ⟨ns, 0, 0, 0, seed, 0, .law⟩ f s one two back kept S2 S3 S4 i0 is0 R ∧ S4.mode = .law)
    {f0 : Addr} {oc0 kV0 dc0 pm0 cd0 ct0 : Value} {od0 an0 : Option Addr} {sl0 : Array (Option Value)}
    {f1 : Addr} {oc1 kV1 dc1 pm1 cd1 ct1 : Value} {od1 an1 : Option Addr} {sl1 : Array (Option Value)}
    {f2 : Addr} {oc2 kV2 dc2 pm2 cd2 ct2 : Value} {od2 an2 : Option Addr} {sl2 : Array (Option Value)}
    {f3 : Addr} {oc3 kV3 dc3 pm3 cd3 ct3 : Value} {od3 an3 : Option Addr} {sl3 : Array (Option Value)}
    {f4 : Addr} {oc4 kV4 dc4 pm4 cd4 ct4 : Value} {od4 an4 : Option Addr} {sl4 : Array (Option Value)}
    {f5 : Addr} {oc5 kV5 dc5 pm5 cd5 ct5 : Value} {od5 an5 : Option Addr} {sl5 : Array (Option Value)}
    {f6 : Addr} {oc6 kV6 dc6 pm6 cd6 ct6 : Value} {od6 an6 : Option Addr} {sl6 : Array (Option Value)}
    {f7 : Addr} {oc7 kV7 dc7 pm7 cd7 ct7 : Value} {od7 an7 : Option Addr} {sl7 : Array (Option Value)}
    {f8 : Addr} {oc8 kV8 dc8 pm8 cd8 ct8 : Value} {od8 an8 : Option Addr} {sl8 : Array (Option Value)}
    {f9 : Addr} {oc9 kV9 dc9 pm9 cd9 ct9 : Value} {od9 an9 : Option Addr} {sl9 : Array (Option Value)}
    {f10 : Addr} {oc10 kV10 dc10 pm10 cd10 ct10 : Value} {od10 an10 : Option Addr} {sl10 : Array (Option Value)}
    {f11 : Addr} {oc11 kV11 dc11 pm11 cd11 ct11 : Value} {od11 an11 : Option Addr} {sl11 : Array (Option Value)}
    {f12 : Addr} {oc12 kV12 dc12 pm12 cd12 ct12 : Value} {od12 an12 : Option Addr} {sl12 : Array (Option Value)}
    {f13 : Addr} {oc13 kV13 dc13 pm13 cd13 ct13 : Value} {od13 an13 : Option Addr} {sl13 : Array (Option Value)}
    {f14 : Addr} {oc14 kV14 dc14 pm14 cd14 ct14 : Value} {od14 an14 : Option Addr} {sl14 : Array (Option Value)}
    {f15 : Addr} {oc15 kV15 dc15 pm15 cd15 ct15 : Value} {od15 an15 : Option Addr} {sl15 : Array (Option Value)}
    {f16 : Addr} {oc16 kV16 dc16 pm16 cd16 ct16 : Value} {od16 an16 : Option Addr} {sl16 : Array (Option Value)}
    {f17 : Addr} {oc17 kV17 dc17 pm17 cd17 ct17 : Value} {od17 an17 : Option Addr} {sl17 : Array (Option Value)}
    {f18 : Addr} {oc18 kV18 dc18 pm18 cd18 ct18 : Value} {od18 an18 : Option Addr} {sl18 : Array (Option Value)}
    {f19 : Addr} {oc19 kV19 dc19 pm19 cd19 ct19 : Value} {od19 an19 : Option Addr} {sl19 : Array (Option Value)}
    {f20 : Addr} {oc20 kV20 dc20 pm20 cd20 ct20 : Value} {od20 an20 : Option Addr} {sl20 : Array (Option Value)}
    {f21 : Addr} {oc21 kV21 dc21 pm21 cd21 ct21 : Value} {od21 an21 : Option Addr} {sl21 : Array (Option Value)}
    {f22 : Addr} {oc22 kV22 dc22 pm22 cd22 ct22 : Value} {od22 an22 : Option Addr} {sl22 : Array (Option Value)}
    {f23 : Addr} {oc23 kV23 dc23 pm23 cd23 ct23 : Value} {od23 an23 : Option Addr} {sl23 : Array (Option Value)}
    {cP fI : Addr} {ocI kVI dcI pmI cdI ctI : Value} {odI anI : Option Addr} {slI : Array (Option Value)}
    {cU fU cLi cAn cTo cIn cCr : Addr} {ocU kVU dcU pmU cdU ctU : Value} {odU anU : Option Addr} {slU : Array (Option Value)} {nmU qU : Str} {NU : Addr} {bsU bmU : List Value} {snU : List Str} {subU : List Value} {abU : Bool} {colU : Option Bool} {ddU : Option Addr} {m0U m1U m2U m3U m5U : Option Value} {tM : Tok}
    (a0 : PySem.W.nsIn K mainGlobals "is_whole" = some (some (.ref f0)))
    (l0 : K.lookup f0 = some ⟨oc0, od0, .func (PySem.W.fnOf "is_whole" "is_whole" (defArgs s_is_whole) (defBody s_is_whole) (defScope s_is_whole) .none kV0 dc0 pm0 an0 cd0 ct0), sl0⟩)
    (c0 : PySem.W.codeIn K cd0 "is_whole" = true)
    (k0 : PySem.W.keepIn K (.ref f0) = true)
    (a1 : PySem.W.nsIn K mainGlobals "check_most" = some (some (.ref f1)))
    (l1 : K.lookup f1 = some ⟨oc1, od1, .func (PySem.W.fnOf "check_most" "check_most" (defArgs s_check_most) (defBody s_check_most) (defScope s_check_most) .none kV1 dc1 pm1 an1 cd1 ct1), sl1⟩)
    (c1 : PySem.W.codeIn K cd1 "check_most" = true)
    (k1 : PySem.W.keepIn K (.ref f1) = true)
    (a2 : PySem.W.nsIn K mainGlobals "check_amount" = some (some (.ref f2)))
    (l2 : K.lookup f2 = some ⟨oc2, od2, .func (PySem.W.fnOf "check_amount" "check_amount" (defArgs s_check_amount) (defBody s_check_amount) (defScope s_check_amount) .none kV2 dc2 pm2 an2 cd2 ct2), sl2⟩)
    (c2 : PySem.W.codeIn K cd2 "check_amount" = true)
    (k2 : PySem.W.keepIn K (.ref f2) = true)
    (a3 : PySem.W.nsIn K mainGlobals "check_alike" = some (some (.ref f3)))
    (l3 : K.lookup f3 = some ⟨oc3, od3, .func (PySem.W.fnOf "check_alike" "check_alike" (defArgs s_check_alike) (defBody s_check_alike) (defScope s_check_alike) .none kV3 dc3 pm3 an3 cd3 ct3), sl3⟩)
    (c3 : PySem.W.codeIn K cd3 "check_alike" = true)
    (k3 : PySem.W.keepIn K (.ref f3) = true)
    (a4 : PySem.W.nsIn K mainGlobals "count_table" = some (some (.ref f4)))
    (l4 : K.lookup f4 = some ⟨oc4, od4, .func (PySem.W.fnOf "count_table" "count_table" (defArgs s_count_table) (defBody s_count_table) (defScope s_count_table) .none kV4 dc4 pm4 an4 cd4 ct4), sl4⟩)
    (c4 : PySem.W.codeIn K cd4 "count_table" = true)
    (k4 : PySem.W.keepIn K (.ref f4) = true)
    (a5 : PySem.W.nsIn K mainGlobals "_first_places" = some (some (.ref f5)))
    (l5 : K.lookup f5 = some ⟨oc5, od5, .func (PySem.W.fnOf "_first_places" "_first_places" (defArgs s_first_places) (defBody s_first_places) (defScope s_first_places) .none kV5 dc5 pm5 an5 cd5 ct5), sl5⟩)
    (c5 : PySem.W.codeIn K cd5 "_first_places" = true)
    (k5 : PySem.W.keepIn K (.ref f5) = true)
    (a6 : PySem.W.nsIn K mainGlobals "_lots_by_name" = some (some (.ref f6)))
    (l6 : K.lookup f6 = some ⟨oc6, od6, .func (PySem.W.fnOf "_lots_by_name" "_lots_by_name" (defArgs s_lots_by_name) (defBody s_lots_by_name) (defScope s_lots_by_name) .none kV6 dc6 pm6 an6 cd6 ct6), sl6⟩)
    (c6 : PySem.W.codeIn K cd6 "_lots_by_name" = true)
    (k6 : PySem.W.keepIn K (.ref f6) = true)
    (a7 : PySem.W.nsIn K mainGlobals "_law_store" = some (some (.ref f7)))
    (l7 : K.lookup f7 = some ⟨oc7, od7, .func (PySem.W.fnOf "_law_store" "_law_store" (defArgs s_law_store) (defBody s_law_store) (defScope s_law_store) .none kV7 dc7 pm7 an7 cd7 ct7), sl7⟩)
    (c7 : PySem.W.codeIn K cd7 "_law_store" = true)
    (k7 : PySem.W.keepIn K (.ref f7) = true)
    (a8 : PySem.W.nsIn K mainGlobals "_law_mixed" = some (some (.ref f8)))
    (l8 : K.lookup f8 = some ⟨oc8, od8, .func (PySem.W.fnOf "_law_mixed" "_law_mixed" (defArgs s_law_mixed) (defBody s_law_mixed) (defScope s_law_mixed) .none kV8 dc8 pm8 an8 cd8 ct8), sl8⟩)
    (c8 : PySem.W.codeIn K cd8 "_law_mixed" = true)
    (k8 : PySem.W.keepIn K (.ref f8) = true)
    (a9 : PySem.W.nsIn K mainGlobals "_law_take" = some (some (.ref f9)))
    (l9 : K.lookup f9 = some ⟨oc9, od9, .func (PySem.W.fnOf "_law_take" "_law_take" (defArgs s_law_take) (defBody s_law_take) (defScope s_law_take) .none kV9 dc9 pm9 an9 cd9 ct9), sl9⟩)
    (c9 : PySem.W.codeIn K cd9 "_law_take" = true)
    (k9 : PySem.W.keepIn K (.ref f9) = true)
    (a10 : PySem.W.nsIn K mainGlobals "_law_once" = some (some (.ref f10)))
    (l10 : K.lookup f10 = some ⟨oc10, od10, .func (PySem.W.fnOf "_law_once" "_law_once" (defArgs s_law_once) (defBody s_law_once) (defScope s_law_once) .none kV10 dc10 pm10 an10 cd10 ct10), sl10⟩)
    (c10 : PySem.W.codeIn K cd10 "_law_once" = true)
    (k10 : PySem.W.keepIn K (.ref f10) = true)
    (a11 : PySem.W.nsIn K mainGlobals "_law_shuffle" = some (some (.ref f11)))
    (l11 : K.lookup f11 = some ⟨oc11, od11, .func (PySem.W.fnOf "_law_shuffle" "_law_shuffle" (defArgs s_law_shuffle) (defBody s_law_shuffle) (defScope s_law_shuffle) .none kV11 dc11 pm11 an11 cd11 ct11), sl11⟩)
    (c11 : PySem.W.codeIn K cd11 "_law_shuffle" = true)
    (k11 : PySem.W.keepIn K (.ref f11) = true)
    (a12 : PySem.W.nsIn K mainGlobals "_law_iswhole" = some (some (.ref f12)))
    (l12 : K.lookup f12 = some ⟨oc12, od12, .func (PySem.W.fnOf "_law_iswhole" "_law_iswhole" (defArgs s_law_iswhole) (defBody s_law_iswhole) (defScope s_law_iswhole) .none kV12 dc12 pm12 an12 cd12 ct12), sl12⟩)
    (c12 : PySem.W.codeIn K cd12 "_law_iswhole" = true)
    (k12 : PySem.W.keepIn K (.ref f12) = true)
    (a13 : PySem.W.nsIn K mainGlobals "_law_same" = some (some (.ref f13)))
    (l13 : K.lookup f13 = some ⟨oc13, od13, .func (PySem.W.fnOf "_law_same" "_law_same" (defArgs s_law_same) (defBody s_law_same) (defScope s_law_same) .none kV13 dc13 pm13 an13 cd13 ct13), sl13⟩)
    (c13 : PySem.W.codeIn K cd13 "_law_same" = true)
    (k13 : PySem.W.keepIn K (.ref f13) = true)
    (a14 : PySem.W.nsIn K mainGlobals "_law_copy" = some (some (.ref f14)))
    (l14 : K.lookup f14 = some ⟨oc14, od14, .func (PySem.W.fnOf "_law_copy" "_law_copy" (defArgs s_law_copy) (defBody s_law_copy) (defScope s_law_copy) .none kV14 dc14 pm14 an14 cd14 ct14), sl14⟩)
    (c14 : PySem.W.codeIn K cd14 "_law_copy" = true)
    (k14 : PySem.W.keepIn K (.ref f14) = true)
    (a15 : PySem.W.nsIn K mainGlobals "_law_canon" = some (some (.ref f15)))
    (l15 : K.lookup f15 = some ⟨oc15, od15, .func (PySem.W.fnOf "_law_canon" "_law_canon" (defArgs s_law_canon) (defBody s_law_canon) (defScope s_law_canon) .none kV15 dc15 pm15 an15 cd15 ct15), sl15⟩)
    (c15 : PySem.W.codeIn K cd15 "_law_canon" = true)
    (k15 : PySem.W.keepIn K (.ref f15) = true)
    (a16 : PySem.W.nsIn K mainGlobals "_law_parting" = some (some (.ref f16)))
    (l16 : K.lookup f16 = some ⟨oc16, od16, .func (PySem.W.fnOf "_law_parting" "_law_parting" (defArgs s_law_parting) (defBody s_law_parting) (defScope s_law_parting) .none kV16 dc16 pm16 an16 cd16 ct16), sl16⟩)
    (c16 : PySem.W.codeIn K cd16 "_law_parting" = true)
    (k16 : PySem.W.keepIn K (.ref f16) = true)
    (a17 : PySem.W.nsIn K mainGlobals "_law_nudged" = some (some (.ref f17)))
    (l17 : K.lookup f17 = some ⟨oc17, od17, .func (PySem.W.fnOf "_law_nudged" "_law_nudged" (defArgs s_law_nudged) (defBody s_law_nudged) (defScope s_law_nudged) .none kV17 dc17 pm17 an17 cd17 ct17), sl17⟩)
    (c17 : PySem.W.codeIn K cd17 "_law_nudged" = true)
    (k17 : PySem.W.keepIn K (.ref f17) = true)
    (a18 : PySem.W.nsIn K mainGlobals "_law_otherplots" = some (some (.ref f18)))
    (l18 : K.lookup f18 = some ⟨oc18, od18, .func (PySem.W.fnOf "_law_otherplots" "_law_otherplots" (defArgs s_law_otherplots) (defBody s_law_otherplots) (defScope s_law_otherplots) .none kV18 dc18 pm18 an18 cd18 ct18), sl18⟩)
    (c18 : PySem.W.codeIn K cd18 "_law_otherplots" = true)
    (k18 : PySem.W.keepIn K (.ref f18) = true)
    (a19 : PySem.W.nsIn K mainGlobals "_law_lots" = some (some (.ref f19)))
    (l19 : K.lookup f19 = some ⟨oc19, od19, .func (PySem.W.fnOf "_law_lots" "_law_lots" (defArgs s_law_lots) (defBody s_law_lots) (defScope s_law_lots) .none kV19 dc19 pm19 an19 cd19 ct19), sl19⟩)
    (c19 : PySem.W.codeIn K cd19 "_law_lots" = true)
    (k19 : PySem.W.keepIn K (.ref f19) = true)
    (a20 : PySem.W.nsIn K mainGlobals "_law_pair" = some (some (.ref f20)))
    (l20 : K.lookup f20 = some ⟨oc20, od20, .func (PySem.W.fnOf "_law_pair" "_law_pair" (defArgs s_law_pair) (defBody s_law_pair) (defScope s_law_pair) .none kV20 dc20 pm20 an20 cd20 ct20), sl20⟩)
    (c20 : PySem.W.codeIn K cd20 "_law_pair" = true)
    (k20 : PySem.W.keepIn K (.ref f20) = true)
    (a21 : PySem.W.nsIn K mainGlobals "_law_right" = some (some (.ref f21)))
    (l21 : K.lookup f21 = some ⟨oc21, od21, .func (PySem.W.fnOf "_law_right" "_law_right" (defArgs s_law_right) (defBody s_law_right) (defScope s_law_right) .none kV21 dc21 pm21 an21 cd21 ct21), sl21⟩)
    (c21 : PySem.W.codeIn K cd21 "_law_right" = true)
    (k21 : PySem.W.keepIn K (.ref f21) = true)
    (a22 : PySem.W.nsIn K mainGlobals "_law_refused" = some (some (.ref f22)))
    (l22 : K.lookup f22 = some ⟨oc22, od22, .func (PySem.W.fnOf "_law_refused" "_law_refused" (defArgs s_law_refused) (defBody s_law_refused) (defScope s_law_refused) .none kV22 dc22 pm22 an22 cd22 ct22), sl22⟩)
    (c22 : PySem.W.codeIn K cd22 "_law_refused" = true)
    (k22 : PySem.W.keepIn K (.ref f22) = true)
    (a23 : PySem.W.nsIn K mainGlobals "law" = some (some (.ref f23)))
    (l23 : K.lookup f23 = some ⟨oc23, od23, .func (PySem.W.fnOf "law" "law" (defArgs s_law) (defBody s_law) (defScope s_law) .none kV23 dc23 pm23 an23 cd23 ct23), sl23⟩)
    (c23 : PySem.W.codeIn K cd23 "law" = true)
    (k23 : PySem.W.keepIn K (.ref f23) = true)
    (aP : PySem.W.nsIn K mainGlobals "Parting" = some (some (.ref cP)))
    (aI : PySem.W.findIn K (.ref cP) "__init__" = some (some (.ref fI)))
    (iI : PySem.W.isFn K (.ref fI) = true)
    (lI : K.lookup fI = some ⟨ocI, odI, .func (PySem.W.fnOf "__init__" "Parting.__init__" (defArgs s_Parting_init) (defBody s_Parting_init) (defScope s_Parting_init) .none kVI dcI pmI anI cdI ctI), slI⟩)
    (cI : PySem.W.codeIn K cdI "Parting.__init__" = true)
    (kI : PySem.W.keepIn K (.ref fI) = true)
    (pg : PySem.W.plainGet K cP Str.empty = true)
    (hd : PySem.W.hasDictIn K cP = true)
    (po : PySem.W.plainOver K cP = true)
    (sa : PySem.W.findIn K (.ref cP) "__setattr__" = some (some (.builtin "object.__setattr__")))
    (mk : PySem.W.makesIn K cP = true)
    (kc : PySem.W.keepIn K (.ref cP) = true)
    (n_plots : PySem.W.findIn K (.ref cP) "plots" = some none)
    (n_many : PySem.W.findIn K (.ref cP) "many" = some none)
    (n_names : PySem.W.findIn K (.ref cP) "names" = some none)
    (n_lots : PySem.W.findIn K (.ref cP) "lots" = some none)
    (n_sizes : PySem.W.findIn K (.ref cP) "sizes" = some none)
    (aU : PySem.W.nsIn K mainGlobals "UnlikePlots" = some (some (.ref cU)))
    (xU : K.lookup cU = some (excClassObj nmU qU cU NU bsU bmU true snU subU abU colU ddU m0U m1U m2U m3U m5U "ValueError.__new__"))
    (vU : PySem.HandSPX.refsVE bmU = true)
    (saU : PySem.W.findIn K (.ref cU) "__setattr__" = some (some (.builtin "object.__setattr__")))
    (gaU : PySem.W.findIn K (.ref cU) "__getattribute__" = some (some (.builtin "BaseException.__getattribute__")))
    (ggU : PySem.W.findIn K (.ref cU) "__getattr__" = some none)
    (eU : PySem.W.subIn K (.ref cU) (.type "BaseException") = some true)
    (tU : PySem.W.typeIn K (.ref cU) = some (.type "type"))
    (hU : PySem.W.hasDictIn K cU = true)
    (kU : PySem.W.keepIn K (.ref cU) = true)
    (sU : PySem.W.subIn K (.ref cU) (.ref cU) = some true)
    (nlU : PySem.W.findIn K (.ref cU) "left_plots" = some none)
    (nrU : PySem.W.findIn K (.ref cU) "right_plots" = some none)
    (clU : PySem.W.findIn K (.ref cU) "__class__" = some (some (.builtin "object.__class__")))
    (spU : PySem.W.specialIn K (.builtin "object.__class__") "__get__" = some (some (.builtin "getset_descriptor.__get__")))
    (tkU : PySem.W.takesIn K (.builtin "object.__class__") = some true)
    (mrU : PySem.W.mroIn K cU (.type "object") = some true)
    (iU : PySem.W.findIn K (.ref cU) "__init__" = some (some (.ref fU)))
    (tfU : PySem.W.typeIn K (.ref fU) = some (.type "function"))
    (lU : K.lookup fU = some ⟨ocU, odU, .func (PySem.W.fnOf "__init__" "UnlikePlots.__init__" (defArgs s_U_init) (defBody s_U_init) (defScope s_U_init) .none kVU dcU pmU anU cdU ctU), slU⟩)
    (cU2 : PySem.W.codeIn K cdU "UnlikePlots.__init__" = true)
    (kU2 : PySem.W.keepIn K (.ref fU) = true)
    (g_cLi : PySem.W.nsIn K mainGlobals "LimitError" = some (some (.ref cLi)))
    (g_cAn : PySem.W.nsIn K mainGlobals "AnswerError" = some (some (.ref cAn)))
    (g_cTo : PySem.W.nsIn K mainGlobals "TooMany" = some (some (.ref cTo)))
    (g_cIn : PySem.W.nsIn K mainGlobals "InputError" = some (some (.ref cIn)))
    (g_cCr : PySem.W.nsIn K mainGlobals "CrossError" = some (some (.ref cCr)))
    (y_cLi : PySem.W.kitOne K (.ref cU) (.ref cLi) = some false)
    (y_cAn : PySem.W.kitOne K (.ref cU) (.ref cAn) = some false)
    (y_cTo : PySem.W.kitOne K (.ref cU) (.ref cTo) = some false)
    (y_cIn : PySem.W.kitOne K (.ref cU) (.ref cIn) = some true)
    (y_cCr : PySem.W.kitOne K (.ref cU) (.ref cCr) = some true)
    (y_Va : PySem.W.kitOne K (.ref cU) (.type "ValueError") = some true)
    (aM : PySem.W.nsIn K mainGlobals "MOST" = some (some (.int 16 tM)))
    (z_abs : PySem.W.nsIn K mainGlobals "abs" = some none)
    (z_bool : PySem.W.nsIn K mainGlobals "bool" = some none)
    (z_enumerate : PySem.W.nsIn K mainGlobals "enumerate" = some none)
    (z_int : PySem.W.nsIn K mainGlobals "int" = some none)
    (z_isinstance : PySem.W.nsIn K mainGlobals "isinstance" = some none)
    (z_len : PySem.W.nsIn K mainGlobals "len" = some none)
    (z_list : PySem.W.nsIn K mainGlobals "list" = some none)
    (z_max : PySem.W.nsIn K mainGlobals "max" = some none)
    (z_min : PySem.W.nsIn K mainGlobals "min" = some none)
    (z_range : PySem.W.nsIn K mainGlobals "range" = some none)
    (z_set : PySem.W.nsIn K mainGlobals "set" = some none)
    (z_sorted : PySem.W.nsIn K mainGlobals "sorted" = some none)
    (z_str : PySem.W.nsIn K mainGlobals "str" = some none)
    (z_sum : PySem.W.nsIn K mainGlobals "sum" = some none)
    (z_tuple : PySem.W.nsIn K mainGlobals "tuple" = some none)
    (z_VE : PySem.W.nsIn K mainGlobals "ValueError" = some none) :
    ∃ fd : FuncData, (∀ (s : Shared) (v : Value), BindsTo s fd ⟨[v], []⟩ [("script", v)]) ∧ ∀ base : Heap, K.In base → base.Ns mainGlobals mg → FnOk P w K mg base (L2N.CX P w) 9 fa fd ["script"] (spLaw K) := by
  have e := hfa.symm.trans (PySem.W.mg_of X G a23)
  obtain rfl : fa = f23 := by cases e; rfl
  have D_is_whole : Df K mg "is_whole" s_is_whole ["value"] f0 _ := df_mk X G a0 l0 c0 k0 fun _ _ _ _ _ _ us hl => match us, hl with | [_], _ => rfl
  have D_check_most : Df K mg "check_most" s_check_most ["amount", "what"] f1 _ := df_mk X G a1 l1 c1 k1 fun _ _ _ _ _ _ us hl => match us, hl with | [_, _], _ => rfl
  have D_check_amount : Df K mg "check_amount" s_check_amount ["amount", "what"] f2 _ := df_mk X G a2 l2 c2 k2 fun _ _ _ _ _ _ us hl => match us, hl with | [_, _], _ => rfl
  have D_check_alike : Df K mg "check_alike" s_check_alike ["plots", "things"] f3 _ := df_mk X G a3 l3 c3 k3 fun _ _ _ _ _ _ us hl => match us, hl with | [_, _], _ => rfl
  have D_count_table : Df K mg "count_table" s_count_table ["first", "second"] f4 _ := df_mk X G a4 l4 c4 k4 fun _ _ _ _ _ _ us hl => match us, hl with | [_, _], _ => rfl
  have D_first_places : Df K mg "_first_places" s_first_places ["keys"] f5 _ := df_mk X G a5 l5 c5 k5 fun _ _ _ _ _ _ us hl => match us, hl with | [_], _ => rfl
  have D_lots_by_name : Df K mg "_lots_by_name" s_lots_by_name ["names"] f6 _ := df_mk X G a6 l6 c6 k6 fun _ _ _ _ _ _ us hl => match us, hl with | [_], _ => rfl
  have D_law_store : Df K mg "_law_store" s_law_store ["script"] f7 _ := df_mk X G a7 l7 c7 k7 fun _ _ _ _ _ _ us hl => match us, hl with | [_], _ => rfl
  have D_law_mixed : Df K mg "_law_mixed" s_law_mixed ["number", "turn"] f8 _ := df_mk X G a8 l8 c8 k8 fun _ _ _ _ _ _ us hl => match us, hl with | [_, _], _ => rfl
  have D_law_take : Df K mg "_law_take" s_law_take ["store", "many"] f9 _ := df_mk X G a9 l9 c9 k9 fun _ _ _ _ _ _ us hl => match us, hl with | [_, _], _ => rfl
  have D_law_once : Df K mg "_law_once" s_law_once ["store", "many"] f10 _ := df_mk X G a10 l10 c10 k10 fun _ _ _ _ _ _ us hl => match us, hl with | [_, _], _ => rfl
  have D_law_shuffle : Df K mg "_law_shuffle" s_law_shuffle ["store", "many"] f11 _ := df_mk X G a11 l11 c11 k11 fun _ _ _ _ _ _ us hl => match us, hl with | [_, _], _ => rfl
  have D_law_iswhole : Df K mg "_law_iswhole" s_law_iswhole ["value"] f12 _ := df_mk X G a12 l12 c12 k12 fun _ _ _ _ _ _ us hl => match us, hl with | [_], _ => rfl
  have D_law_same : Df K mg "_law_same" s_law_same ["left", "right"] f13 _ := df_mk X G a13 l13 c13 k13 fun _ _ _ _ _ _ us hl => match us, hl with | [_, _], _ => rfl
  have D_law_copy : Df K mg "_law_copy" s_law_copy ["value"] f14 _ := df_mk X G a14 l14 c14 k14 fun _ _ _ _ _ _ us hl => match us, hl with | [_], _ => rfl
  have D_law_canon : Df K mg "_law_canon" s_law_canon ["labels"] f15 _ := df_mk X G a15 l15 c15 k15 fun _ _ _ _ _ _ us hl => match us, hl with | [_], _ => rfl
  have D_law_parting : Df K mg "_law_parting" s_law_parting ["store", "plots"] f16 _ := df_mk X G a16 l16 c16 k16 fun _ _ _ _ _ _ us hl => match us, hl with | [_, _], _ => rfl
  have D_law_nudged : Df K mg "_law_nudged" s_law_nudged ["store", "names"] f17 _ := df_mk X G a17 l17 c17 k17 fun _ _ _ _ _ _ us hl => match us, hl with | [_, _], _ => rfl
  have D_law_otherplots : Df K mg "_law_otherplots" s_law_otherplots ["store", "plots"] f18 _ := df_mk X G a18 l18 c18 k18 fun _ _ _ _ _ _ us hl => match us, hl with | [_, _], _ => rfl
  have D_law_lots : Df K mg "_law_lots" s_law_lots ["names"] f19 _ := df_mk X G a19 l19 c19 k19 fun _ _ _ _ _ _ us hl => match us, hl with | [_], _ => rfl
  have D_law_pair : Df K mg "_law_pair" s_law_pair ["store", "most"] f20 _ := df_mk X G a20 l20 c20 k20 fun _ _ _ _ _ _ us hl => match us, hl with | [_, _], _ => rfl
  have D_law_right : Df K mg "_law_right" s_law_right ["value", "first", "second"] f21 _ := df_mk X G a21 l21 c21 k21 fun _ _ _ _ _ _ us hl => match us, hl with | [_, _, _], _ => rfl
  have D_law_refused : Df K mg "_law_refused" s_law_refused ["one", "two", "fields"] f22 _ := df_mk X G a22 l22 c22 k22 fun _ _ _ _ _ _ us hl => match us, hl with | [_, _, _], _ => rfl
  have D_law : Df K mg "law" s_law ["script"] fa _ := df_mk X G a23 l23 c23 k23 fun _ _ _ _ _ _ us hl => match us, hl with | [_], _ => rfl
  have D_init : Dm K "__init__" "Parting.__init__" s_Parting_init ["self", "labels"] fI _ := dm_mk lI cI kI fun _ _ _ _ _ _ us hl => match us, hl with | [_, _], _ => rfl
  have D_U : Dm K "__init__" "UnlikePlots.__init__" s_U_init ["self", "left_plots", "right_plots"] fU _ := dm_mk lU cU2 kU2 fun _ _ _ _ _ _ us hl => match us, hl with | [_, _, _], _ => rfl
  have B : Blt mg := ⟨PySem.W.mg_none_of X G z_abs, PySem.W.mg_none_of X G z_bool, PySem.W.mg_none_of X G z_enumerate, PySem.W.mg_none_of X G z_int, PySem.W.mg_none_of X G z_isinstance, PySem.W.mg_none_of X G z_len, PySem.W.mg_none_of X G z_list, PySem.W.mg_none_of X G z_max, PySem.W.mg_none_of X G z_min, PySem.W.mg_none_of X G z_range, PySem.W.mg_none_of X G z_set, PySem.W.mg_none_of X G z_sorted, PySem.W.mg_none_of X G z_str, PySem.W.mg_none_of X G z_sum, PySem.W.mg_none_of X G z_tuple, ⟨tM, PySem.W.mg_of X G aM⟩⟩
  have T_Parting : Txt_Parting K cP := ⟨⟨pg, hd, po, sa⟩, n_plots, n_many, n_names, n_lots, n_sizes⟩
  have TU : TxtU K mg cU cLi cAn cTo cIn cCr :=
    { xf := ⟨gaU, ggU, eU, hU⟩, ec := ⟨gaU, ggU, eU, hU, clU, spU, tkU, mrU⟩, nl := nlU, nr := nrU, ex := PySem.W.exm_ref eU hU tU sU, gU := PySem.W.mg_of X G aU, gLi := PySem.W.mg_of X G g_cLi, gAn := PySem.W.mg_of X G g_cAn, gTo := PySem.W.mg_of X G g_cTo, gIn := PySem.W.mg_of X G g_cIn, gCr := PySem.W.mg_of X G g_cCr, gVa := PySem.W.mg_none_of X G z_VE, gis := PySem.W.mg_none_of X G z_isinstance, kLi := y_cLi, kAn := y_cAn, kTo := y_cTo, kIn := y_cIn, kCr := y_cCr, kVa := y_Va }
  refine ⟨PySem.W.fnOf "law" "law" (defArgs s_law) (defBody s_law) (defScope s_law) .none kV23 dc23 pm23 an23 cd23 ct23, fun s v => .of_eq rfl, fun base _ _ => ?_⟩
  have X_UnlikePlots : X2 P w K mg base "UnlikePlots" cU "left_plots" "right_plots" := ⟨⟨⟨nmU, qU, NU, bsU, bmU, snU, subU, abU, colU, ddU, m0U, m1U, m2U, m3U, m5U, xU, vU⟩, saU, eU, tU, kU⟩, nlU, nrU, PySem.W.mg_of X G aU, fU, _, ["self", "left_plots", "right_plots"], iU, tfU, init_x2 D_U sc_U_init (fun cdv A outer s H E => pss_cons (ps_ost (pv 0) (pv 1)) (pss_one (ps_ost (pv 0) (pv 2)))), D_U.b⟩
  have C_is_whole : Cal P w K mg base "is_whole" 1 ["value"] (spD false 1 m_is_whole) := ok_is_whole B D_is_whole
  have C_check_most : Cal P w K mg base "check_most" 1 ["amount", "what"] (spD false 2 m_check_most) := ok_check_most B D_check_most
  have C_check_amount : Cal P w K mg base "check_amount" 2 ["amount", "what"] (spD false 2 m_check_amount) := ok_check_amount B D_check_amount C_check_most
  have C_check_alike : Cal P w K mg base "check_alike" 3 ["plots", "things"] (spD false 2 (m_check_alike cP cU)) := ok_check_alike B D_check_alike T_Parting X_UnlikePlots
  have C_count_table : Cal P w K mg base "count_table" 4 ["first", "second"] (spN 2 (m_count_table cP cU)) := ok_count_table B D_count_table T_Parting C_check_alike
  have C_first_places : Cal P w K mg base "_first_places" 1 ["keys"] (spD false 1 m_first_places) := ok_first_places B D_first_places
  have C_lots_by_name : Cal P w K mg base "_lots_by_name" 1 ["names"] (spD false 1 m_lots_by_name) := ok_lots_by_name B D_lots_by_name
  have FI := ok_Parting_init (P := P) (w := w) (base := base) B D_init T_Parting C_check_amount C_is_whole C_first_places C_lots_by_name
  have M_Parting : Mke P w K mg base "Parting" cP 3 1 (m_Parting_init cP) := ⟨fI, _, ["self", "labels"], ⟨mk, aI, iI, kc⟩, FI, PySem.W.mg_of X G aP, D_init.b⟩
  have C_law_store : Cal P w K mg base "_law_store" 1 ["script"] (spStore K) := ⟨f7, _, ok_law_store B D_law_store hb, D_law_store.mgf, D_law_store.fn.kp, D_law_store.b⟩
  have C_law_mixed : Cal P w K mg base "_law_mixed" 1 ["number", "turn"] (spD false 2 m_law_mixed) := ok_law_mixed B D_law_mixed
  have C_law_take : Cal P w K mg base "_law_take" 2 ["store", "many"] (spD true 1 m_law_take) := ok_law_take B D_law_take C_law_mixed
  have C_law_once : Cal P w K mg base "_law_once" 3 ["store", "many"] (spD true 1 m_law_once) := ok_law_once B D_law_once C_law_take
  have C_law_shuffle : Cal P w K mg base "_law_shuffle" 4 ["store", "many"] (spD true 1 m_law_shuffle) := ok_law_shuffle B D_law_shuffle C_law_once C_law_take
  have C_law_iswhole : Cal P w K mg base "_law_iswhole" 1 ["value"] (spD false 1 m_law_iswhole) := ok_law_iswhole B D_law_iswhole
  have H_law_same : CalH P w K mg base "_law_same" 7 ["left", "right"] (spD false 2 (m_law_same 6)) := okH_law_same B D_law_same 6
  have C_law_same : Cal P w K mg base "_law_same" 7 ["left", "right"] (spD false 2 (m_law_same 6)) := ok_law_same B D_law_same 6
  have C_law_copy : Cal P w K mg base "_law_copy" 7 ["value"] (spN 1 (m_law_copy 6)) := ok_law_copy B D_law_copy 6
  have C_law_canon : Cal P w K mg base "_law_canon" 1 ["labels"] (spD false 1 m_law_canon) := ok_law_canon B D_law_canon
  have C_law_parting : Cal P w K mg base "_law_parting" 3 ["store", "plots"] (spD true 1 m_law_parting) := ok_law_parting B D_law_parting C_law_take C_law_canon
  have C_law_nudged : Cal P w K mg base "_law_nudged" 3 ["store", "names"] (spD true 1 m_law_nudged) := ok_law_nudged B D_law_nudged C_law_take C_law_canon
  have C_law_otherplots : Cal P w K mg base "_law_otherplots" 4 ["store", "plots"] (spD true 1 m_law_otherplots) := ok_law_otherplots B D_law_otherplots C_law_take C_law_once
  have C_law_lots : Cal P w K mg base "_law_lots" 1 ["names"] (spD false 1 m_law_lots) := ok_law_lots B D_law_lots
  have C_law_pair : Cal P w K mg base "_law_pair" 5 ["store", "most"] (spD true 1 m_law_pair) := ok_law_pair B D_law_pair C_law_take C_law_parting C_law_shuffle C_law_canon C_law_nudged
  have C_law_right : Cal P w K mg base "_law_right" 2 ["value", "first", "second"] (spD false 3 m_law_right) := ok_law_right B D_law_right C_law_lots C_law_iswhole
  have C_law_refused : Cal P w K mg base "_law_refused" 8 ["one", "two", "fields"] (spD false 3 (m_law_refused cP cU)) := ok_law_refused B D_law_refused TU C_count_table H_law_same
  exact ok_law B D_law T_Parting M_Parting C_law_store C_law_pair C_count_table C_law_right C_law_copy C_law_same C_law_otherplots C_law_parting C_law_refused (hm cP cU)
end K23

set_option Elab.async false
set_option linter.all false
set_option maxRecDepth 100000
set_option maxHeartbeats 4000000
set_option autoImplicit false
namespace DL
open PySem PySem.Spec L2
def wp0 {α : Type} (o : Out α) (Q : α → Sto → Prop) : Prop := match o with
  | .ok a S => Q a S
  | _ => False
def sq (k : Ph Ctl) (Q : Ctl → Sto → Prop) : Ctl → Sto → Prop
  | .nx ρ, S => wp0 (k ρ S) Q
  | c, S => Q c S
def varQ (l : Option L) (S : Sto) (Q : D → Sto → Prop) : Prop := match l with
  | some (.d x) => Q x S
  | _ => False
def stQ (l : Option L) (P : Prop) : Prop := match l with
  | some .st => P
  | _ => False
def setQ (l : Option L) (m : Nat) (S : Sto) (d : D) (Q : Sto → Prop) : Prop := match l, d with
  | some .st, .int v => (match S.set m v with
    | some S2 => Q S2
    | none => False)
  | _, _ => False
def lawB (S : Sto) : Bool := match S.mode with
  | .law => true
  | _ => false
def rngQ (ds : List D) (S : Sto) (Q : List D → Sto → Prop) : Prop := match ds with
  | [.int j] => okR j = true ∧ Q (rangeD 0 j.toNat) S
  | _ => False
def stepQ (I : List L → Sto → Prop) (Q : Ctl → Sto → Prop) : Ctl → Sto → Prop
  | .nx ρ, S => I ρ S
  | .ct ρ, S => I ρ S
  | .bk ρ, S => Q (.nx ρ) S
  | c, S => Q c S
def callQ (Q : D → Sto → Prop) (S : Sto) : Res → Sto → Prop := fun r _ => Q r.toD S
def PB (k : Nat) : Nat := 2 ^ k
abbrev B4000 : Nat := PB 4000
namespace Z
/-! ### the mirrors, run -/
section
variable {α β : Type} {o : Out α} {Q : α → Sto → Prop} {a : α} {S : Sto} {ρ : List L} {i j : Int} {x y d : D} {c : Bool}
theorem wp0.mono {Q' : α → Sto → Prop} (h : wp0 o Q) (k : ∀ a S, Q a S → Q' a S) : wp0 o Q' := by
  cases o with
  | ok a S => exact k _ _ h
  | exc x ρ S => exact h
  | bad => exact h
theorem wp0.get (h : wp0 o Q) : ∃ a S, o = .ok a S ∧ Q a S := by
  cases o with
  | ok a S => exact ⟨a, S, rfl, h⟩
  | exc x ρ S => exact h.elim
  | bad => exact h.elim
theorem wp0.of {a : α} (e : o = .ok a S) (h : Q a S) : wp0 o Q := by rw [e]; exact h
theorem nrP {u v : Prop} (h : u = v) : u = v := h
theorem wp_ok : wp0 (.ok a S) Q = Q a S := nrP rfl
theorem wp_bad : wp0 (.bad : Out α) Q = False := nrP rfl
theorem wp_bind {k : α → Sto → Out β} {R : β → Sto → Prop} : wp0 (o.bind k) R = wp0 o fun a S => wp0 (k a S) R := by cases o <;> rfl
theorem wp_ite {p : Prop} [Decidable p] {o2 : Out α} : wp0 (if p then o else o2) Q = if p then wp0 o Q else wp0 o2 Q := by split <;> rfl
theorem sq_nx {k : Ph Ctl} {Q : Ctl → Sto → Prop} : sq k Q (.nx ρ) S = wp0 (k ρ S) Q := nrP rfl
theorem sq_rt {k : Ph Ctl} {Q : Ctl → Sto → Prop} : sq k Q (.rt d) S = Q (.rt d) S := nrP rfl
theorem sq_ro {k : Ph Ctl} {Q : Ctl → Sto → Prop} {xs : List D} : sq k Q (.ro xs) S = Q (.ro xs) S := nrP rfl
theorem sq_bk {k : Ph Ctl} {Q : Ctl → Sto → Prop} : sq k Q (.bk ρ) S = Q (.bk ρ) S := nrP rfl
theorem wp_seq {φ k : Ph Ctl} {Q : Ctl → Sto → Prop} : wp0 (mSeq φ k ρ S) Q = wp0 (φ ρ S) (sq k Q) := by
  unfold mSeq Out.seq
  cases o : φ ρ S with
  | ok c S1 => cases c <;> rfl
  | exc x ρ' S1 => rfl
  | bad => rfl
theorem wp_add {Q : D → Sto → Prop} : wp0 (gAdd (.int i) (.int j) S) Q = Q (.int (i + j)) S := nrP rfl
theorem wp_sub {Q : D → Sto → Prop} : wp0 (gMinus (.int i) (.int j) S) Q = Q (.int (i - j)) S := nrP rfl
theorem wp_lt {Q : D → Sto → Prop} : wp0 (gLt (.int i) (.int j) S) Q = Q (.bl (decide (i < j))) S := nrP rfl
theorem wp_le {Q : D → Sto → Prop} : wp0 (gLe (.int i) (.int j) S) Q = Q (.bl (decide (i ≤ j))) S := nrP rfl
theorem wp_gt {Q : D → Sto → Prop} : wp0 (gGt (.int i) (.int j) S) Q = Q (.bl (decide (j < i))) S := nrP rfl
theorem wp_ge {Q : D → Sto → Prop} : wp0 (gGe (.int i) (.int j) S) Q = Q (.bl (decide (j ≤ i))) S := nrP rfl
theorem wp_int2 {C : Int → Int → Bool} {f : Int → Int → D} {Q : D → Sto → Prop} : wp0 (pure2 (int2 C f) (.int i) (.int j) S) Q = (C i j = true ∧ Q (f i j) S) := by
  unfold pure2 int2
  by_cases c : C i j = true
  · simp only [if_pos c, c, true_and]; rfl
  · simp only [if_neg c]; exact (eq_false fun h => c h.1).symm
theorem wp_mul {Q : D → Sto → Prop} : wp0 (gMul (.int i) (.int j) S) Q = (CMulW i j ∧ Q (.int (i * j)) S) := by
  unfold gMul; rw [wp_int2, decide_eq_true_eq]
theorem wp_mod {Q : D → Sto → Prop} : wp0 (gMod (.int i) (.int j) S) Q = (0 < j ∧ Q (.int (i % j)) S) := by
  unfold gMod; rw [wp_int2, decide_eq_true_eq]
theorem wp_fdiv {Q : D → Sto → Prop} : wp0 (gFdiv (.int i) (.int j) S) Q = (CDivW i j ∧ Q (.int (i / j)) S) := by
  unfold gFdiv; rw [wp_int2, decide_eq_true_eq]
theorem wp_pow {Q : D → Sto → Prop} : wp0 (gPow (.int i) (.int j) S) Q = (CPow i j ∧ Q (.int (i ^ j.toNat)) S) := by
  unfold gPow; rw [wp_int2, decide_eq_true_eq]
theorem wp_ix {xs : List D} {Q : D → Sto → Prop} : wp0 (gIx (.lst xs) (.int i) S) Q = ∃ d, atI xs i = some d ∧ Q d S := by
  unfold gIx pure2 ix2
  cases e : atI xs i with
  | none => simp only [e]; exact (eq_false fun ⟨_, h, _⟩ => by cases h).symm
  | some d => simp only [e]; exact (propext ⟨fun h => ⟨d, rfl, h⟩, fun ⟨_, h, q⟩ => by cases h; exact q⟩)
theorem wp_ixT {xs : List D} {Q : D → Sto → Prop} : wp0 (gIx (.tup xs) (.int i) S) Q = ∃ d, atI xs i = some d ∧ Q d S := by
  unfold gIx pure2 ix2
  cases e : atI xs i with
  | none => simp only [e]; exact (eq_false fun ⟨_, h, _⟩ => by cases h).symm
  | some d => simp only [e]; exact (propext ⟨fun h => ⟨d, rfl, h⟩, fun ⟨_, h, q⟩ => by cases h; exact q⟩)
theorem wp_toB {Q : Bool → Sto → Prop} : wp0 (toB (.bl c) S) Q = Q c S := nrP rfl
theorem wp_noX {o : Out α} : wp0 (noX o) Q = wp0 o Q := by cases o <;> rfl
end

section
variable {α β : Type} {a : α} {S : Sto} {ρ : List L} {i j : Int} {x y d : D} {c : Bool} {φ φa φb : Ph D} {φl : Ph (List D)} {φc φA φB : Ph Bool} {φt φu : Ph Ctl} {n k : Nat}
theorem w_set {Q : Ctl → Sto → Prop} : wp0 (mSet n φ ρ S) Q = wp0 (φ ρ S) fun d S1 => Q (.nx (ρ.set n (.d d))) S1 := by unfold mSet; rw [wp_bind]; rfl
theorem w_setO {φ : Ph (List D)} {Q : Ctl → Sto → Prop} : wp0 (mSetO n φ ρ S) Q = wp0 (φ ρ S) fun d S1 => Q (.nx (ρ.set n (.own d))) S1 := by unfold mSetO; rw [wp_bind]; rfl
theorem w_m2 {g : D → D → Sto → Out D} {Q : D → Sto → Prop} : wp0 (m2 g φa φb ρ S) Q = wp0 (φa ρ S) fun x S1 => wp0 (φb ρ S1) fun y S2 => wp0 (g x y S2) Q := by unfold m2; simp only [wp_bind]
theorem w_m1 {g : D → Sto → Out D} {Q : D → Sto → Prop} : wp0 (m1 g φa ρ S) Q = wp0 (φa ρ S) fun x S1 => wp0 (g x S1) Q := by unfold m1; simp only [wp_bind]
theorem w_var {Q : D → Sto → Prop} : wp0 (mVar n ρ S) Q = varQ ρ[n]? S Q := by
  unfold mVar varQ
  rcases ρ[n]? with _ | l
  · rfl
  · cases l <;> rfl
theorem varQ_d {Q : D → Sto → Prop} : varQ (some (.d x)) S Q = Q x S := nrP rfl
theorem w_c {Q : D → Sto → Prop} : wp0 (mC d ρ S) Q = Q d S := nrP rfl
theorem w_nil {Q : List D → Sto → Prop} : wp0 (mNil ρ S) Q = Q [] S := nrP rfl
theorem w_cons {Q : List D → Sto → Prop} : wp0 (mCons φa φl ρ S) Q = wp0 (φa ρ S) fun x S1 => wp0 (φl ρ S1) fun xs S2 => Q (x :: xs) S2 := by unfold mCons; simp only [wp_bind, wp_ok]
theorem w_cb {g : List D → Sto → Out D} {Q : D → Sto → Prop} : wp0 (mCB g φl ρ S) Q = wp0 (φl ρ S) fun xs S1 => wp0 (g xs S1) Q := by unfold mCB; rw [wp_bind]
theorem w_cbo {g : List D → Sto → Out (List D)} {Q : List D → Sto → Prop} : wp0 (mCBo g φl ρ S) Q = wp0 (φl ρ S) fun xs S1 => wp0 (g xs S1) Q := by unfold mCBo; rw [wp_bind]
theorem w_int {Q : D → Sto → Prop} : wp0 (pureC intC [.int i] S) Q = Q (.int i) S := nrP rfl
theorem w_intB {Q : D → Sto → Prop} : wp0 (pureC intC [.bl c] S) Q = Q (.int (if c then 1 else 0)) S := nrP rfl
theorem w_abs {Q : D → Sto → Prop} : wp0 (pureC absC [.int i] S) Q = Q (.int (if i < 0 then -i else i)) S := nrP rfl
theorem w_max {Q : D → Sto → Prop} : wp0 (pureC maxC [.int i, .int j] S) Q = Q (.int (if j > i then j else i)) S := nrP rfl
theorem w_min {Q : D → Sto → Prop} : wp0 (pureC minC [.int i, .int j] S) Q = Q (.int (if j < i then j else i)) S := nrP rfl
theorem w_lenL {xs : List D} {Q : D → Sto → Prop} : wp0 (pureC lenC [.lst xs] S) Q = Q (.int xs.length) S := nrP rfl
theorem w_lenT {xs : List D} {Q : D → Sto → Prop} : wp0 (pureC lenC [.tup xs] S) Q = Q (.int xs.length) S := nrP rfl
theorem w_B {Q : Bool → Sto → Prop} : wp0 (mB φ ρ S) Q = wp0 (φ ρ S) fun d S1 => wp0 (toB d S1) Q := by unfold mB; rw [wp_bind]
theorem w_and {Q : Bool → Sto → Prop} : wp0 (mAnd φA φB ρ S) Q = wp0 (φA ρ S) fun c S1 => if c = true then wp0 (φB ρ S1) Q else Q false S1 := by unfold mAnd; simp only [wp_bind, wp_ite, wp_ok]
theorem w_or {Q : Bool → Sto → Prop} : wp0 (mOr φA φB ρ S) Q = wp0 (φA ρ S) fun c S1 => if c = true then Q true S1 else wp0 (φB ρ S1) Q := by unfold mOr; simp only [wp_bind, wp_ite, wp_ok]
theorem w_not {Q : Bool → Sto → Prop} : wp0 (mNot φA ρ S) Q = wp0 (φA ρ S) fun c S1 => Q (!c) S1 := by unfold mNot; simp only [wp_bind, wp_ok]
theorem w_ifs {Q : Ctl → Sto → Prop} : wp0 (mIfS φc φt φu ρ S) Q = wp0 (φc ρ S) fun c S1 => if c = true then wp0 (φt ρ S1) Q else wp0 (φu ρ S1) Q := by unfold mIfS; simp only [wp_bind, wp_ite]
theorem w_if {Q : D → Sto → Prop} : wp0 (mIf φc φa φb ρ S) Q = wp0 (φc ρ S) fun c S1 => if c = true then wp0 (φa ρ S1) Q else wp0 (φb ρ S1) Q := by unfold mIf; simp only [wp_bind, wp_ite]
theorem w_ret {Q : Ctl → Sto → Prop} : wp0 (mRet φ ρ S) Q = wp0 (φ ρ S) fun d S1 => Q (.rt d) S1 := by unfold mRet; simp only [wp_bind, wp_ok]
theorem w_retO {φ : Ph (List D)} {Q : Ctl → Sto → Prop} : wp0 (mRetO φ ρ S) Q = wp0 (φ ρ S) fun d S1 => Q (.ro d) S1 := by unfold mRetO; simp only [wp_bind, wp_ok]
theorem w_next {Q : Ctl → Sto → Prop} : wp0 (mNext ρ S) Q = Q (.nx ρ) S := nrP rfl
theorem w_tup {Q : D → Sto → Prop} : wp0 (mTup φl ρ S) Q = wp0 (φl ρ S) fun xs S1 => line xs.length = true ∧ Q (.tup xs) S1 := by
  unfold mTup; simp only [wp_bind, wp_ite, wp_ok, wp_bad]
  congr 1; funext xs S1; by_cases h : line xs.length = true <;> simp [h]
theorem w_lst {Q : List D → Sto → Prop} : wp0 (mLst φl ρ S) Q = wp0 (φl ρ S) fun xs S1 => line xs.length = true ∧ Q xs S1 := by
  unfold mLst; simp only [wp_bind, wp_ite, wp_ok, wp_bad]
  congr 1; funext xs S1; by_cases h : line xs.length = true <;> simp [h]
theorem w_frz {φ : Ph (List D)} {Q : D → Sto → Prop} : wp0 (mFrz φ ρ S) Q = wp0 (φ ρ S) fun xs S1 => Q (.lst xs) S1 := by unfold mFrz; simp only [wp_bind, wp_ok]
theorem w_andV {Q : D → Sto → Prop} : wp0 (mAndV φa φb ρ S) Q = wp0 (φa ρ S) fun x S1 => wp0 (toB x S1) fun c S2 => if c = true then wp0 (φb ρ S2) Q else Q (.bl false) S2 := by
  unfold mAndV; rw [wp_bind]; congr 1; funext x S1; cases x <;> first | rfl | (rw [wp_toB, wp_ite]; rfl)
theorem w_notV {Q : D → Sto → Prop} : wp0 (mNotV φa ρ S) Q = wp0 (φa ρ S) fun x S1 => wp0 (toB x S1) fun c S2 => Q (.bl (!c)) S2 := by
  unfold mNotV; rw [wp_bind]; congr 1; funext x S1; cases x <;> rfl
/-! the store -/
theorem stQ_st {P : Prop} : stQ (some .st) P = P := nrP rfl
variable {C : List Int} {s1 s2 s3 s4 s5 v : Int}
theorem w_st {m : Nat} {z : Int} (h : S.get m = some z) (hl : S.mode = .law) {Q : D → Sto → Prop} : wp0 (mStIx n m ρ S) Q = stQ ρ[n]? (Q (.int z) S) := by
  unfold mStIx isSt
  rw [h]
  rcases ρ[n]? with _ | l
  · rfl
  · cases l <;> first | rfl | (simp only [hl, if_true]; rfl)
theorem w_st1 {Q : D → Sto → Prop} : wp0 (mStIx n 1 ρ ⟨C, s1, s2, s3, s4, s5, .law⟩) Q = stQ ρ[n]? (Q (.int s1) ⟨C, s1, s2, s3, s4, s5, .law⟩) := w_st rfl rfl
theorem w_st2 {Q : D → Sto → Prop} : wp0 (mStIx n 2 ρ ⟨C, s1, s2, s3, s4, s5, .law⟩) Q = stQ ρ[n]? (Q (.int s2) ⟨C, s1, s2, s3, s4, s5, .law⟩) := w_st rfl rfl
theorem w_st3 {Q : D → Sto → Prop} : wp0 (mStIx n 3 ρ ⟨C, s1, s2, s3, s4, s5, .law⟩) Q = stQ ρ[n]? (Q (.int s3) ⟨C, s1, s2, s3, s4, s5, .law⟩) := w_st rfl rfl
theorem w_st4 {Q : D → Sto → Prop} : wp0 (mStIx n 4 ρ ⟨C, s1, s2, s3, s4, s5, .law⟩) Q = stQ ρ[n]? (Q (.int s4) ⟨C, s1, s2, s3, s4, s5, .law⟩) := w_st rfl rfl
theorem w_st5 {Q : D → Sto → Prop} : wp0 (mStIx n 5 ρ ⟨C, s1, s2, s3, s4, s5, .law⟩) Q = stQ ρ[n]? (Q (.int s5) ⟨C, s1, s2, s3, s4, s5, .law⟩) := w_st rfl rfl
theorem w_cells {Q : D → Sto → Prop} : wp0 (mStCells n ρ ⟨C, s1, s2, s3, s4, s5, .law⟩) Q = stQ ρ[n]? (Q (.lst (C.map .int)) ⟨C, s1, s2, s3, s4, s5, .law⟩) := by
  unfold mStCells isSt
  rcases ρ[n]? with _ | l
  · rfl
  · cases l <;> rfl
theorem lawB_law : lawB ⟨C, s1, s2, s3, s4, s5, .law⟩ = true := by unfold lawB; rfl
theorem w_stS {m : Nat} {Q : Ctl → Sto → Prop} : wp0 (mStSet n m φ ρ S) Q = wp0 (φ ρ S) fun d S1 => if lawB S1 = true then setQ ρ[n]? m S1 d (fun S2 => Q (.nx ρ) S2) else False := by
  unfold mStSet isSt setQ lawB
  rw [wp_bind]
  congr 1
  funext d S1
  cases hmd : S1.mode <;> rcases ρ[n]? with _ | l <;> first
    | (cases l <;> first | rfl | (cases d <;> first | rfl | (simp only [if_true]; cases S1.set m _ <;> rfl)))
    | rfl
theorem setQ1 {Q : Sto → Prop} : setQ (some .st) 1 ⟨C, s1, s2, s3, s4, s5, .law⟩ (.int v) Q = Q ⟨C, v, s2, s3, s4, s5, .law⟩ := nrP rfl
theorem setQ2 {Q : Sto → Prop} : setQ (some .st) 2 ⟨C, s1, s2, s3, s4, s5, .law⟩ (.int v) Q = Q ⟨C, s1, v, s3, s4, s5, .law⟩ := nrP rfl
theorem setQ3 {Q : Sto → Prop} : setQ (some .st) 3 ⟨C, s1, s2, s3, s4, s5, .law⟩ (.int v) Q = Q ⟨C, s1, s2, v, s4, s5, .law⟩ := nrP rfl
theorem setQ5 {Q : Sto → Prop} : setQ (some .st) 5 ⟨C, s1, s2, s3, s4, s5, .law⟩ (.int v) Q = Q ⟨C, s1, s2, s3, s4, v, .law⟩ := nrP rfl
end

section
variable {S : Sto} {ρ : List L} {φl : Ph (List D)} {φ : Ph Ctl} {g : Tgt}
theorem w_for {φi : Ph (List D)} {Q : Ctl → Sto → Prop} : wp0 (mFor g φi φ ρ S) Q = wp0 (φi ρ S) fun ds S1 => wp0 (forD g φ ds ρ S1) Q := by unfold mFor; rw [wp_bind]
theorem w_range1 {Q : List D → Sto → Prop} : wp0 (mRange1 φl ρ S) Q = wp0 (φl ρ S) fun ds S1 => rngQ ds S1 Q := by
  unfold mRange1
  rw [wp_bind]
  congr 1
  funext ds S1
  rcases ds with _ | ⟨d, _ | ⟨d2, ds⟩⟩
  · rfl
  · cases d <;> first | rfl | (rename_i j; by_cases h : okR j = true <;> simp [rngQ, h, wp0])
  · cases d <;> rfl
theorem rngQ_int {j : Int} {Q : List D → Sto → Prop} : rngQ [.int j] S Q = (okR j = true ∧ Q (rangeD 0 j.toNat) S) := nrP rfl
theorem w_seqI {φ : Ph D} {Q : List D → Sto → Prop} : wp0 (mSeqI φ ρ S) Q = wp0 (φ ρ S) fun d S1 => wp0 (seqOf d S1) Q := by unfold mSeqI; rw [wp_bind]
theorem w_seqL {xs : List D} {Q : List D → Sto → Prop} : wp0 (seqOf (.lst xs) S) Q = Q xs S := nrP rfl
theorem w_seqT {xs : List D} {Q : List D → Sto → Prop} : wp0 (seqOf (.tup xs) S) Q = Q xs S := nrP rfl
theorem stepQ_nx {I : List L → Sto → Prop} {Q : Ctl → Sto → Prop} : stepQ I Q (.nx ρ) S = I ρ S := nrP rfl
theorem stepQ_bk {I : List L → Sto → Prop} {Q : Ctl → Sto → Prop} : stepQ I Q (.bk ρ) S = Q (.nx ρ) S := nrP rfl
theorem stepQ_rt {I : List L → Sto → Prop} {Q : Ctl → Sto → Prop} {d : D} : stepQ I Q (.rt d) S = Q (.rt d) S := nrP rfl
theorem forD_inv {Q : Ctl → Sto → Prop} : ∀ (ds : List D) (I : Nat → List L → Sto → Prop) (ρ : List L) (S : Sto), I 0 ρ S →
    (∀ (k : Nat) (d : D) (ρ : List L) (S : Sto), ds[k]? = some d → I k ρ S → ∃ ρ1, g.put d ρ = some ρ1 ∧ wp0 (φ ρ1 S) (stepQ (I (k + 1)) Q)) →
    (∀ ρ S, I ds.length ρ S → Q (.nx ρ) S) → wp0 (forD g φ ds ρ S) Q
  | [], I, ρ, S, h0, _, hd => hd ρ S h0
  | d :: ds, I, ρ, S, h0, hs, hd => by
    obtain ⟨ρ1, e1, w⟩ := hs 0 d ρ S rfl h0
    simp only [forD, e1]
    have go : ∀ ρ2 S2, I 1 ρ2 S2 → wp0 (forD g φ ds ρ2 S2) Q := fun ρ2 S2 h => forD_inv ds (fun k => I (k + 1)) ρ2 S2 h (fun k d ρ S e i => hs (k + 1) d ρ S (by simpa using e) i) fun ρ S i => hd ρ S i
    cases o : φ ρ1 S with
    | ok c S2 =>
      rw [o] at w
      cases c with
      | nx ρ2 => exact go _ _ w
      | ct ρ2 => exact go _ _ w
      | bk ρ2 => exact w
      | rt d => exact w
      | ro xs => exact w
    | exc x ρ' S2 => rw [o] at w; exact w.elim
    | bad => rw [o] at w; exact w.elim
theorem seq_cut {φ k : Ph Ctl} {Q R : Ctl → Sto → Prop} (h : wp0 (φ ρ S) R) (hk : ∀ c S, R c S → sq k Q c S) : wp0 (mSeq φ k ρ S) Q := by
  rw [wp_seq]; exact wp0.mono h hk
theorem w_lc {vs : List Nat} {φi : Ph (List D)} {φt : Ph Bool} {φe : Ph D} {Q : List D → Sto → Prop} : wp0 (mLc g vs φi φt φe ρ S) Q = wp0 (φi ρ S) fun ds S1 => line ds.length = true ∧ wp0 (compD g φt φe ds (wipeL ρ vs) S1) Q := by
  unfold mLc
  rw [wp_bind]
  congr 1
  funext ds S1
  rw [wp_ite]
  by_cases h : line ds.length = true <;> simp [h, wp_bad]
/-- a comprehension without a test -/
theorem comp_inv {φe : Ph D} {Q : List D → Sto → Prop} : ∀ (ds : List D) (I : Nat → List D → Sto → Prop) (ρ : List L) (S : Sto), I 0 [] S →
    (∀ (k : Nat) (d : D) (xs : List D) (S : Sto), ds[k]? = some d → xs.length = k → I k xs S → ∃ ρ1, g.put d ρ = some ρ1 ∧ wp0 (φe ρ1 S) fun x S2 => I (k + 1) (xs ++ [x]) S2) →
    (∀ xs S, xs.length = ds.length → I ds.length xs S → Q xs S) → wp0 (compD g mYes φe ds ρ S) Q
  | [], I, ρ, S, h0, _, hd => hd [] S rfl h0
  | d :: ds, I, ρ, S, h0, hs, hd => by
    obtain ⟨ρ1, e1, w⟩ := hs 0 d [] S rfl rfl h0
    unfold compD
    rw [e1]
    simp only [mYes, wp_bind, wp_noX, wp_ok, if_true]
    refine wp0.mono w fun x S2 i1 => ?_
    have := comp_inv (Q := fun xs S => Q (x :: xs) S) ds (fun k ys S => I (k + 1) (x :: ys) S) ρ S2 i1 (fun k d xs S e l i => by
      obtain ⟨ρ1, e1, w⟩ := hs (k + 1) d (x :: xs) S (by simpa using e) (by simp [l]) i
      exact ⟨ρ1, e1, w⟩) fun xs S l i => hd (x :: xs) S (by simp [l]) i
    exact this
/-- a comprehension without a store's change -/
theorem comp_filter {φt : Ph Bool} {φe : Ph D} (p : D → Bool) (f : D → D) {Q : List D → Sto → Prop} : ∀ (ds : List D) (ρ : List L) (S : Sto), (∀ d ∈ ds, ∃ ρ1, g.put d ρ = some ρ1 ∧ φt ρ1 S = .ok (p d) S ∧ (p d = true → φe ρ1 S = .ok (f d) S)) → Q ((ds.filter p).map f) S → wp0 (compD g φt φe ds ρ S) Q
  | [], ρ, S, _, q => q
  | d :: ds, ρ, S, h, q => by
    obtain ⟨ρ1, e1, e2, e3⟩ := h d List.mem_cons_self
    unfold compD
    rw [e1]
    simp only [wp_bind, wp_noX, e2, wp_ok]
    by_cases c : p d = true
    · rw [c, if_pos rfl]
      simp only [wp_bind, wp_noX, e3 c, wp_ok]
      rw [List.filter_cons, if_pos c, List.map_cons] at q
      exact comp_filter p f (Q := fun xs S => Q (f d :: xs) S) ds ρ S (fun d' h' => h d' (List.mem_cons_of_mem _ h')) q
    · rw [if_neg c]
      rw [List.filter_cons, if_neg c] at q
      exact comp_filter p f ds ρ S (fun d' h' => h d' (List.mem_cons_of_mem _ h')) q
theorem w_call0 {m : Fn} {Q : D → Sto → Prop} : wp0 (mCall0 m [] φl ρ S) Q = wp0 (φl ρ S) fun ds S1 => wp0 (m ds sto0) fun r _ => Q r.toD S1 := by
  unfold mCall0
  rw [wp_bind]
  congr 1
  funext ds S1
  rw [List.append_nil]
  cases m ds sto0 <;> rfl
theorem w_call1 {m : Fn} {n : Nat} {Q : D → Sto → Prop} : wp0 (mCall1 m n φl ρ S) Q = stQ ρ[n]? (wp0 (φl ρ S) fun ds S1 => wp0 (m ds S1) fun r S2 => Q r.toD S2) := by
  unfold mCall1 stQ
  rcases ρ[n]? with _ | l
  · rfl
  · cases l <;> try rfl
    show wp0 (Out.bind _ _) Q = _
    rw [wp_bind]
    congr 1
    funext ds S1
    cases m ds S1 <;> rfl
end
/-- a great bound, not to be reckoned out -/
theorem PB.le {a b : Nat} (h : a ≤ b) : PB a ≤ PB b := Nat.pow_le_pow_right (by decide) h
theorem pb {n k : Nat} (h : n < 2 ^ k) : n < PB k := h
theorem PB.log {n k : Nat} (h : n < PB k) : n.log2 ≤ k := by
  by_cases z : n = 0
  · subst z; simp
  · exact Nat.le_of_lt ((Nat.log2_lt z).mpr h)
theorem mulW {i j : Int} (h1 : i.natAbs < B4000) (h2 : j.natAbs < B4000) : CMulW i j := by
  have a := PB.log h1
  have b := PB.log h2
  show _ < _
  omega
theorem wp_run {hb : Bool} {n : Nat} {φ : Ph Ctl} {ds : List D} {S : Sto} {Q : Res → Sto → Prop} (ρ : List L) (e : startL hb n ds = ρ) (h : wp0 (φ ρ S) fun c S' => match c with
    | .rt d => Q (.d d) S'
    | .ro xs => Q (.own xs) S'
    | .nx _ => Q (.d .non) S'
    | _ => False) : wp0 (runD hb n φ ds S) Q := by
  subst e
  unfold runD
  cases o : φ (startL hb n ds) S with
  | ok c S1 => rw [o] at h; cases c <;> first | exact h | exact h.elim
  | exc x ρ S1 => rw [o] at h; exact h.elim
  | bad => rw [o] at h; exact h.elim
theorem w_app {n : Nat} {φ : Ph D} {ρ : List L} {S : Sto} {Q : Ctl → Sto → Prop} {xs : List D} (h : ρ[n]? = some (.own xs)) : wp0 (mApp n φ ρ S) Q = wp0 (φ ρ S) fun d S1 => line xs.length = true ∧ Q (.nx (ρ.set n (.own (xs ++ [d])))) S1 := by
  unfold mApp
  have e : ownAt ρ n = some xs := by unfold ownAt; rw [h]
  rw [e]
  simp only [wp_bind, wp_ite, wp_ok, wp_bad]
  congr 1; funext d S1
  by_cases h : line xs.length = true <;> simp [h]
theorem w_tupO {n : Nat} {ρ : List L} {S : Sto} {Q : D → Sto → Prop} {xs : List D} (h : ρ[n]? = some (.own xs)) : wp0 (mTupO n ρ S) Q = Q (.tup xs) S := by
  unfold mTupO
  have e : ownAt ρ n = some xs := by unfold ownAt; rw [h]
  rw [e]; rfl
theorem w_mbrk {ρ : List L} {S : Sto} {Q : Ctl → Sto → Prop} : wp0 (mBreak ρ S) Q = Q (.bk ρ) S := nrP rfl
theorem w_lenO {n : Nat} {ρ : List L} {S : Sto} {Q : D → Sto → Prop} {xs : List D} (h : ρ[n]? = some (.own xs)) : wp0 (mLenO n ρ S) Q = Q (.int xs.length) S := by
  unfold mLenO
  have e : ownAt ρ n = some xs := by unfold ownAt; rw [h]
  rw [e]; rfl
theorem w_appPop {i k : Nat} {φ : Ph D} {ρ : List L} {S : Sto} {Q : Ctl → Sto → Prop} {xs ys : List D} (hi : ρ[i]? = some (.own xs)) (hk : ρ[k]? = some (.own ys)) (hn : i ≠ k)
    (h : wp0 (φ ρ S) fun a S1 => ∃ (j : Int) (n : Nat) (d : D), a = .int j ∧ seqIndex? j ys.length = some n ∧ ys[n]? = some d ∧ line xs.length = true ∧ okR j = true ∧ Q (.nx ((ρ.set k (.own (ys.eraseIdx n))).set i (.own (xs ++ [d])))) S1) : wp0 (mAppPop i k φ ρ S) Q := by
  unfold mAppPop
  have e1 : ownAt ρ i = some xs := by unfold ownAt; rw [hi]
  have e2 : ownAt ρ k = some ys := by unfold ownAt; rw [hk]
  rw [e1, e2]
  show wp0 (Out.bind _ _) Q
  rw [wp_bind]
  refine wp0.mono h ?_
  rintro _ S1 ⟨j, n, d, rfl, h1, h2, h3, h4, q⟩
  simp only [h1, h2]
  rw [if_pos ⟨h3, h4, hn⟩]
  exact q
theorem w_setI {i : Nat} {φe φi : Ph D} {ρ : List L} {S : Sto} {Q : Ctl → Sto → Prop} {xs : List D} (hi : ρ[i]? = some (.own xs))
    (h : wp0 (φe ρ S) fun d S1 => wp0 (φi ρ S1) fun a S2 => ∃ (j : Int) (n : Nat), a = .int j ∧ ixN xs.length j = some n ∧ Q (.nx (ρ.set i (.own (xs.set n d)))) S2) : wp0 (mSetI i φe φi ρ S) Q := by
  unfold mSetI
  have e1 : ownAt ρ i = some xs := by unfold ownAt; rw [hi]
  rw [wp_bind]
  refine wp0.mono h fun d S1 h1 => ?_
  rw [e1]
  show wp0 (Out.bind _ _) Q
  rw [wp_bind]
  refine wp0.mono h1 ?_
  rintro _ S2 ⟨j, n, rfl, h2, q⟩
  simp only [h2]
  exact q
theorem w_revO {n : Nat} {ρ : List L} {S : Sto} {Q : List D → Sto → Prop} {xs : List D} (h : ρ[n]? = some (.own xs)) : wp0 (mRevO n ρ S) Q = Q xs.reverse S := by
  unfold mRevO
  have e : ownAt ρ n = some xs := by unfold ownAt; rw [h]
  rw [e]; rfl
theorem w_rg {φ : Ph D} {ρ : List L} {S : Sto} {Q : List D → Sto → Prop} (h : wp0 (φ ρ S) fun d S1 => ∃ j : Int, d = .int j ∧ 0 ≤ j ∧ j ≤ 1000 ∧ Q (rangeD 0 j.toNat) S1) : wp0 (mRg φ ρ S) Q := by
  unfold mRg
  rw [wp_bind]
  refine wp0.mono h ?_
  rintro _ S1 ⟨j, rfl, h1, h2, q⟩
  show wp0 (if 0 ≤ j ∧ j ≤ 1000 then _ else _) Q
  rw [if_pos ⟨h1, h2⟩]
  exact q
theorem w_swap {x i j : Nat} {ρ : List L} {S : Sto} {Q : Ctl → Sto → Prop} {xs : List D} {a b : Int} {n k : Nat} {d e : D} (h1 : ρ[x]? = some (.own xs)) (h2 : ρ[i]? = some (.d (.int a))) (h3 : ρ[j]? = some (.d (.int b))) (h4 : ixN xs.length a = some n) (h5 : ixN xs.length b = some k) (h6 : xs[n]? = some d) (h7 : xs[k]? = some e)
    (q : Q (.nx (ρ.set x (.own ((xs.set n e).set k d)))) S) : wp0 (mSwap x i j ρ S) Q := by
  unfold mSwap
  have e1 : ownAt ρ x = some xs := by unfold ownAt; rw [h1]
  rw [e1, h2, h3]
  simp only [h4, h5, h6, h7]
  exact q
theorem w_gh {i : Nat} {φ : Ph Ctl} {ρ : List L} {S : Sto} {Q : Ctl → Sto → Prop} {xs : List D} (h : ρ[i]? = some (.own xs)) : wp0 (mGh i φ ρ S) Q = wp0 (φ (ρ.set i (.d (.lst xs))) S) Q := by
  unfold mGh frzL
  rw [h]
theorem w_listT {xs : List D} {S : Sto} {Q : List D → Sto → Prop} : wp0 (gList [.tup xs] S) Q = Q xs S := nrP rfl
theorem w_listL {xs : List D} {S : Sto} {Q : List D → Sto → Prop} : wp0 (gList [.lst xs] S) Q = Q xs S := nrP rfl
theorem w_tuple {xs : List D} {S : Sto} {Q : D → Sto → Prop} : wp0 (gTuple [.lst xs] S) Q = Q (.tup xs) S := nrP rfl
theorem w_tupleT {xs : List D} {S : Sto} {Q : D → Sto → Prop} : wp0 (gTuple [.tup xs] S) Q = Q (.tup xs) S := nrP rfl
theorem w_ixO {n : Nat} {φ : Ph D} {ρ : List L} {S : Sto} {Q : D → Sto → Prop} {xs : List D} (hn : ρ[n]? = some (.own xs)) (h : wp0 (φ ρ S) fun d S1 => ∃ j e, d = .int j ∧ atI xs j = some e ∧ Q e S1) : wp0 (mIxO n φ ρ S) Q := by
  unfold mIxO
  have e : ownAt ρ n = some xs := by unfold ownAt; rw [hn]
  rw [e]
  show wp0 (Out.bind _ _) Q
  rw [wp_bind]
  refine wp0.mono h ?_
  rintro _ S1 ⟨j, d, rfl, h2, q⟩
  simp only [h2]
  exact q
end Z
@[irreducible] def wp {α : Type} (o : Out α) (Q : α → Sto → Prop) : Prop := wp0 o Q
theorem wp_is : @wp = @wp0 := by
  funext α o Q
  unfold wp
  rfl
section

variable {α β : Type} {o : Out α} {Q : α → Sto → Prop} {a : α} {S : Sto} {ρ : List L} {i j : Int} {x y d : D} {c : Bool}

theorem wp.mono {Q' : α → Sto → Prop} (h : wp o Q) (k : ∀ a S, Q a S → Q' a S) : wp o Q' := by
  have hz := @Z.wp0.mono
  rw [← wp_is] at hz
  first | exact hz | exact hz ‹_› | (apply hz <;> assumption)

theorem wp.get (h : wp o Q) : ∃ a S, o = .ok a S ∧ Q a S := by
  have hz := @Z.wp0.get
  rw [← wp_is] at hz
  first | exact hz | exact hz ‹_› | (apply hz <;> assumption)

theorem wp.of {a : α} (e : o = .ok a S) (h : Q a S) : wp o Q := by
  have hz := @Z.wp0.of
  rw [← wp_is] at hz
  first | exact hz | exact hz ‹_› | (apply hz <;> assumption)

theorem nrP {u v : Prop} (h : u = v) : u = v := h

theorem wp_ok : wp (.ok a S) Q = Q a S := by
  have hz := @Z.wp_ok
  rw [← wp_is] at hz
  first | exact hz | exact hz ‹_› | (apply hz <;> assumption)

theorem wp_bad : wp (.bad : Out α) Q = False := by
  have hz := @Z.wp_bad
  rw [← wp_is] at hz
  first | exact hz | exact hz ‹_› | (apply hz <;> assumption)

theorem wp_bind {k : α → Sto → Out β} {R : β → Sto → Prop} : wp (o.bind k) R = wp o fun a S => wp (k a S) R := by
  have hz := @Z.wp_bind
  rw [← wp_is] at hz
  first | exact hz | exact hz ‹_› | (apply hz <;> assumption)

theorem wp_ite {p : Prop} [Decidable p] {o2 : Out α} : wp (if p then o else o2) Q = if p then wp o Q else wp o2 Q := by
  have hz := @Z.wp_ite
  rw [← wp_is] at hz
  first | exact hz | exact hz ‹_› | (apply hz <;> assumption)

theorem sq_nx {k : Ph Ctl} {Q : Ctl → Sto → Prop} : sq k Q (.nx ρ) S = wp (k ρ S) Q := by
  have hz := @Z.sq_nx
  rw [← wp_is] at hz
  first | exact hz | exact hz ‹_› | (apply hz <;> assumption)

theorem sq_rt {k : Ph Ctl} {Q : Ctl → Sto → Prop} : sq k Q (.rt d) S = Q (.rt d) S := nrP rfl

theorem sq_ro {k : Ph Ctl} {Q : Ctl → Sto → Prop} {xs : List D} : sq k Q (.ro xs) S = Q (.ro xs) S := nrP rfl

theorem sq_bk {k : Ph Ctl} {Q : Ctl → Sto → Prop} : sq k Q (.bk ρ) S = Q (.bk ρ) S := nrP rfl

theorem wp_seq {φ k : Ph Ctl} {Q : Ctl → Sto → Prop} : wp (mSeq φ k ρ S) Q = wp (φ ρ S) (sq k Q) := by
  have hz := @Z.wp_seq
  rw [← wp_is] at hz
  first | exact hz | exact hz ‹_› | (apply hz <;> assumption)

theorem wp_add {Q : D → Sto → Prop} : wp (gAdd (.int i) (.int j) S) Q = Q (.int (i + j)) S := by
  have hz := @Z.wp_add
  rw [← wp_is] at hz
  first | exact hz | exact hz ‹_› | (apply hz <;> assumption)

theorem wp_sub {Q : D → Sto → Prop} : wp (gMinus (.int i) (.int j) S) Q = Q (.int (i - j)) S := by
  have hz := @Z.wp_sub
  rw [← wp_is] at hz
  first | exact hz | exact hz ‹_› | (apply hz <;> assumption)

theorem wp_lt {Q : D → Sto → Prop} : wp (gLt (.int i) (.int j) S) Q = Q (.bl (decide (i < j))) S := by
  have hz := @Z.wp_lt
  rw [← wp_is] at hz
  first | exact hz | exact hz ‹_› | (apply hz <;> assumption)

theorem wp_le {Q : D → Sto → Prop} : wp (gLe (.int i) (.int j) S) Q = Q (.bl (decide (i ≤ j))) S := by
  have hz := @Z.wp_le
  rw [← wp_is] at hz
  first | exact hz | exact hz ‹_› | (apply hz <;> assumption)

theorem wp_gt {Q : D → Sto → Prop} : wp (gGt (.int i) (.int j) S) Q = Q (.bl (decide (j < i))) S := by
  have hz := @Z.wp_gt
  rw [← wp_is] at hz
  first | exact hz | exact hz ‹_› | (apply hz <;> assumption)

theorem wp_ge {Q : D → Sto → Prop} : wp (gGe (.int i) (.int j) S) Q = Q (.bl (decide (j ≤ i))) S := by
  have hz := @Z.wp_ge
  rw [← wp_is] at hz
  first | exact hz | exact hz ‹_› | (apply hz <;> assumption)

theorem wp_int2 {C : Int → Int → Bool} {f : Int → Int → D} {Q : D → Sto → Prop} : wp (pure2 (int2 C f) (.int i) (.int j) S) Q = (C i j = true ∧ Q (f i j) S) := by
  have hz := @Z.wp_int2
  rw [← wp_is] at hz
  first | exact hz | exact hz ‹_› | (apply hz <;> assumption)

theorem wp_mul {Q : D → Sto → Prop} : wp (gMul (.int i) (.int j) S) Q = (CMulW i j ∧ Q (.int (i * j)) S) := by
  have hz := @Z.wp_mul
  rw [← wp_is] at hz
  first | exact hz | exact hz ‹_› | (apply hz <;> assumption)

theorem wp_mod {Q : D → Sto → Prop} : wp (gMod (.int i) (.int j) S) Q = (0 < j ∧ Q (.int (i % j)) S) := by
  have hz := @Z.wp_mod
  rw [← wp_is] at hz
  first | exact hz | exact hz ‹_› | (apply hz <;> assumption)

theorem wp_fdiv {Q : D → Sto → Prop} : wp (gFdiv (.int i) (.int j) S) Q = (CDivW i j ∧ Q (.int (i / j)) S) := by
  have hz := @Z.wp_fdiv
  rw [← wp_is] at hz
  first | exact hz | exact hz ‹_› | (apply hz <;> assumption)

theorem wp_pow {Q : D → Sto → Prop} : wp (gPow (.int i) (.int j) S) Q = (CPow i j ∧ Q (.int (i ^ j.toNat)) S) := by
  have hz := @Z.wp_pow
  rw [← wp_is] at hz
  first | exact hz | exact hz ‹_› | (apply hz <;> assumption)

theorem wp_ix {xs : List D} {Q : D → Sto → Prop} : wp (gIx (.lst xs) (.int i) S) Q = ∃ d, atI xs i = some d ∧ Q d S := by
  have hz := @Z.wp_ix
  rw [← wp_is] at hz
  first | exact hz | exact hz ‹_› | (apply hz <;> assumption)

theorem wp_ixT {xs : List D} {Q : D → Sto → Prop} : wp (gIx (.tup xs) (.int i) S) Q = ∃ d, atI xs i = some d ∧ Q d S := by
  have hz := @Z.wp_ixT
  rw [← wp_is] at hz
  first | exact hz | exact hz ‹_› | (apply hz <;> assumption)

theorem wp_toB {Q : Bool → Sto → Prop} : wp (toB (.bl c) S) Q = Q c S := by
  have hz := @Z.wp_toB
  rw [← wp_is] at hz
  first | exact hz | exact hz ‹_› | (apply hz <;> assumption)

theorem wp_noX {o : Out α} : wp (noX o) Q = wp o Q := by
  have hz := @Z.wp_noX
  rw [← wp_is] at hz
  first | exact hz | exact hz ‹_› | (apply hz <;> assumption)

end

section

variable {α β : Type} {a : α} {S : Sto} {ρ : List L} {i j : Int} {x y d : D} {c : Bool} {φ φa φb : Ph D} {φl : Ph (List D)} {φc φA φB : Ph Bool} {φt φu : Ph Ctl} {n k : Nat}

theorem w_set {Q : Ctl → Sto → Prop} : wp (mSet n φ ρ S) Q = wp (φ ρ S) fun d S1 => Q (.nx (ρ.set n (.d d))) S1 := by
  have hz := @Z.w_set
  rw [← wp_is] at hz
  first | exact hz | exact hz ‹_› | (apply hz <;> assumption)

theorem w_setO {φ : Ph (List D)} {Q : Ctl → Sto → Prop} : wp (mSetO n φ ρ S) Q = wp (φ ρ S) fun d S1 => Q (.nx (ρ.set n (.own d))) S1 := by
  have hz := @Z.w_setO
  rw [← wp_is] at hz
  first | exact hz | exact hz ‹_› | (apply hz <;> assumption)

theorem w_m2 {g : D → D → Sto → Out D} {Q : D → Sto → Prop} : wp (m2 g φa φb ρ S) Q = wp (φa ρ S) fun x S1 => wp (φb ρ S1) fun y S2 => wp (g x y S2) Q := by
  have hz := @Z.w_m2
  rw [← wp_is] at hz
  first | exact hz | exact hz ‹_› | (apply hz <;> assumption)

theorem w_m1 {g : D → Sto → Out D} {Q : D → Sto → Prop} : wp (m1 g φa ρ S) Q = wp (φa ρ S) fun x S1 => wp (g x S1) Q := by
  have hz := @Z.w_m1
  rw [← wp_is] at hz
  first | exact hz | exact hz ‹_› | (apply hz <;> assumption)

theorem w_var {Q : D → Sto → Prop} : wp (mVar n ρ S) Q = varQ ρ[n]? S Q := by
  have hz := @Z.w_var
  rw [← wp_is] at hz
  first | exact hz | exact hz ‹_› | (apply hz <;> assumption)

theorem varQ_d {Q : D → Sto → Prop} : varQ (some (.d x)) S Q = Q x S := nrP rfl

theorem w_c {Q : D → Sto → Prop} : wp (mC d ρ S) Q = Q d S := by
  have hz := @Z.w_c
  rw [← wp_is] at hz
  first | exact hz | exact hz ‹_› | (apply hz <;> assumption)

theorem w_nil {Q : List D → Sto → Prop} : wp (mNil ρ S) Q = Q [] S := by
  have hz := @Z.w_nil
  rw [← wp_is] at hz
  first | exact hz | exact hz ‹_› | (apply hz <;> assumption)

theorem w_cons {Q : List D → Sto → Prop} : wp (mCons φa φl ρ S) Q = wp (φa ρ S) fun x S1 => wp (φl ρ S1) fun xs S2 => Q (x :: xs) S2 := by
  have hz := @Z.w_cons
  rw [← wp_is] at hz
  first | exact hz | exact hz ‹_› | (apply hz <;> assumption)

theorem w_cb {g : List D → Sto → Out D} {Q : D → Sto → Prop} : wp (mCB g φl ρ S) Q = wp (φl ρ S) fun xs S1 => wp (g xs S1) Q := by
  have hz := @Z.w_cb
  rw [← wp_is] at hz
  first | exact hz | exact hz ‹_› | (apply hz <;> assumption)

theorem w_cbo {g : List D → Sto → Out (List D)} {Q : List D → Sto → Prop} : wp (mCBo g φl ρ S) Q = wp (φl ρ S) fun xs S1 => wp (g xs S1) Q := by
  have hz := @Z.w_cbo
  rw [← wp_is] at hz
  first | exact hz | exact hz ‹_› | (apply hz <;> assumption)

theorem w_int {Q : D → Sto → Prop} : wp (pureC intC [.int i] S) Q = Q (.int i) S := by
  have hz := @Z.w_int
  rw [← wp_is] at hz
  first | exact hz | exact hz ‹_› | (apply hz <;> assumption)

theorem w_intB {Q : D → Sto → Prop} : wp (pureC intC [.bl c] S) Q = Q (.int (if c then 1 else 0)) S := by
  have hz := @Z.w_intB
  rw [← wp_is] at hz
  first | exact hz | exact hz ‹_› | (apply hz <;> assumption)

theorem w_abs {Q : D → Sto → Prop} : wp (pureC absC [.int i] S) Q = Q (.int (if i < 0 then -i else i)) S := by
  have hz := @Z.w_abs
  rw [← wp_is] at hz
  first | exact hz | exact hz ‹_› | (apply hz <;> assumption)

theorem w_max {Q : D → Sto → Prop} : wp (pureC maxC [.int i, .int j] S) Q = Q (.int (if j > i then j else i)) S := by
  have hz := @Z.w_max
  rw [← wp_is] at hz
  first | exact hz | exact hz ‹_› | (apply hz <;> assumption)

theorem w_min {Q : D → Sto → Prop} : wp (pureC minC [.int i, .int j] S) Q = Q (.int (if j < i then j else i)) S := by
  have hz := @Z.w_min
  rw [← wp_is] at hz
  first | exact hz | exact hz ‹_› | (apply hz <;> assumption)

theorem w_lenL {xs : List D} {Q : D → Sto → Prop} : wp (pureC lenC [.lst xs] S) Q = Q (.int xs.length) S := by
  have hz := @Z.w_lenL
  rw [← wp_is] at hz
  first | exact hz | exact hz ‹_› | (apply hz <;> assumption)

theorem w_lenT {xs : List D} {Q : D → Sto → Prop} : wp (pureC lenC [.tup xs] S) Q = Q (.int xs.length) S := by
  have hz := @Z.w_lenT
  rw [← wp_is] at hz
  first | exact hz | exact hz ‹_› | (apply hz <;> assumption)

theorem w_B {Q : Bool → Sto → Prop} : wp (mB φ ρ S) Q = wp (φ ρ S) fun d S1 => wp (toB d S1) Q := by
  have hz := @Z.w_B
  rw [← wp_is] at hz
  first | exact hz | exact hz ‹_› | (apply hz <;> assumption)

theorem w_and {Q : Bool → Sto → Prop} : wp (mAnd φA φB ρ S) Q = wp (φA ρ S) fun c S1 => if c = true then wp (φB ρ S1) Q else Q false S1 := by
  have hz := @Z.w_and
  rw [← wp_is] at hz
  first | exact hz | exact hz ‹_› | (apply hz <;> assumption)

theorem w_or {Q : Bool → Sto → Prop} : wp (mOr φA φB ρ S) Q = wp (φA ρ S) fun c S1 => if c = true then Q true S1 else wp (φB ρ S1) Q := by
  have hz := @Z.w_or
  rw [← wp_is] at hz
  first | exact hz | exact hz ‹_› | (apply hz <;> assumption)

theorem w_not {Q : Bool → Sto → Prop} : wp (mNot φA ρ S) Q = wp (φA ρ S) fun c S1 => Q (!c) S1 := by
  have hz := @Z.w_not
  rw [← wp_is] at hz
  first | exact hz | exact hz ‹_› | (apply hz <;> assumption)

theorem w_ifs {Q : Ctl → Sto → Prop} : wp (mIfS φc φt φu ρ S) Q = wp (φc ρ S) fun c S1 => if c = true then wp (φt ρ S1) Q else wp (φu ρ S1) Q := by
  have hz := @Z.w_ifs
  rw [← wp_is] at hz
  first | exact hz | exact hz ‹_› | (apply hz <;> assumption)

theorem w_if {Q : D → Sto → Prop} : wp (mIf φc φa φb ρ S) Q = wp (φc ρ S) fun c S1 => if c = true then wp (φa ρ S1) Q else wp (φb ρ S1) Q := by
  have hz := @Z.w_if
  rw [← wp_is] at hz
  first | exact hz | exact hz ‹_› | (apply hz <;> assumption)

theorem w_ret {Q : Ctl → Sto → Prop} : wp (mRet φ ρ S) Q = wp (φ ρ S) fun d S1 => Q (.rt d) S1 := by
  have hz := @Z.w_ret
  rw [← wp_is] at hz
  first | exact hz | exact hz ‹_› | (apply hz <;> assumption)

theorem w_retO {φ : Ph (List D)} {Q : Ctl → Sto → Prop} : wp (mRetO φ ρ S) Q = wp (φ ρ S) fun d S1 => Q (.ro d) S1 := by
  have hz := @Z.w_retO
  rw [← wp_is] at hz
  first | exact hz | exact hz ‹_› | (apply hz <;> assumption)

theorem w_next {Q : Ctl → Sto → Prop} : wp (mNext ρ S) Q = Q (.nx ρ) S := by
  have hz := @Z.w_next
  rw [← wp_is] at hz
  first | exact hz | exact hz ‹_› | (apply hz <;> assumption)

theorem w_tup {Q : D → Sto → Prop} : wp (mTup φl ρ S) Q = wp (φl ρ S) fun xs S1 => line xs.length = true ∧ Q (.tup xs) S1 := by
  have hz := @Z.w_tup
  rw [← wp_is] at hz
  first | exact hz | exact hz ‹_› | (apply hz <;> assumption)

theorem w_lst {Q : List D → Sto → Prop} : wp (mLst φl ρ S) Q = wp (φl ρ S) fun xs S1 => line xs.length = true ∧ Q xs S1 := by
  have hz := @Z.w_lst
  rw [← wp_is] at hz
  first | exact hz | exact hz ‹_› | (apply hz <;> assumption)

theorem w_frz {φ : Ph (List D)} {Q : D → Sto → Prop} : wp (mFrz φ ρ S) Q = wp (φ ρ S) fun xs S1 => Q (.lst xs) S1 := by
  have hz := @Z.w_frz
  rw [← wp_is] at hz
  first | exact hz | exact hz ‹_› | (apply hz <;> assumption)

theorem w_andV {Q : D → Sto → Prop} : wp (mAndV φa φb ρ S) Q = wp (φa ρ S) fun x S1 => wp (toB x S1) fun c S2 => if c = true then wp (φb ρ S2) Q else Q (.bl false) S2 := by
  have hz := @Z.w_andV
  rw [← wp_is] at hz
  first | exact hz | exact hz ‹_› | (apply hz <;> assumption)

theorem w_notV {Q : D → Sto → Prop} : wp (mNotV φa ρ S) Q = wp (φa ρ S) fun x S1 => wp (toB x S1) fun c S2 => Q (.bl (!c)) S2 := by
  have hz := @Z.w_notV
  rw [← wp_is] at hz
  first | exact hz | exact hz ‹_› | (apply hz <;> assumption)

theorem stQ_st {P : Prop} : stQ (some .st) P = P := nrP rfl

variable {C : List Int} {s1 s2 s3 s4 s5 v : Int}

theorem w_st {m : Nat} {z : Int} (h : S.get m = some z) (hl : S.mode = .law) {Q : D → Sto → Prop} : wp (mStIx n m ρ S) Q = stQ ρ[n]? (Q (.int z) S) := by
  have hz := @Z.w_st
  rw [← wp_is] at hz
  first | exact hz | exact hz ‹_› | (apply hz <;> assumption)

theorem w_st1 {Q : D → Sto → Prop} : wp (mStIx n 1 ρ ⟨C, s1, s2, s3, s4, s5, .law⟩) Q = stQ ρ[n]? (Q (.int s1) ⟨C, s1, s2, s3, s4, s5, .law⟩) := by
  have hz := @Z.w_st1
  rw [← wp_is] at hz
  first | exact hz | exact hz ‹_› | (apply hz <;> assumption)

theorem w_st2 {Q : D → Sto → Prop} : wp (mStIx n 2 ρ ⟨C, s1, s2, s3, s4, s5, .law⟩) Q = stQ ρ[n]? (Q (.int s2) ⟨C, s1, s2, s3, s4, s5, .law⟩) := by
  have hz := @Z.w_st2
  rw [← wp_is] at hz
  first | exact hz | exact hz ‹_› | (apply hz <;> assumption)

theorem w_st3 {Q : D → Sto → Prop} : wp (mStIx n 3 ρ ⟨C, s1, s2, s3, s4, s5, .law⟩) Q = stQ ρ[n]? (Q (.int s3) ⟨C, s1, s2, s3, s4, s5, .law⟩) := by
  have hz := @Z.w_st3
  rw [← wp_is] at hz
  first | exact hz | exact hz ‹_› | (apply hz <;> assumption)

theorem w_st4 {Q : D → Sto → Prop} : wp (mStIx n 4 ρ ⟨C, s1, s2, s3, s4, s5, .law⟩) Q = stQ ρ[n]? (Q (.int s4) ⟨C, s1, s2, s3, s4, s5, .law⟩) := by
  have hz := @Z.w_st4
  rw [← wp_is] at hz
  first | exact hz | exact hz ‹_› | (apply hz <;> assumption)

theorem w_st5 {Q : D → Sto → Prop} : wp (mStIx n 5 ρ ⟨C, s1, s2, s3, s4, s5, .law⟩) Q = stQ ρ[n]? (Q (.int s5) ⟨C, s1, s2, s3, s4, s5, .law⟩) := by
  have hz := @Z.w_st5
  rw [← wp_is] at hz
  first | exact hz | exact hz ‹_› | (apply hz <;> assumption)

theorem w_cells {Q : D → Sto → Prop} : wp (mStCells n ρ ⟨C, s1, s2, s3, s4, s5, .law⟩) Q = stQ ρ[n]? (Q (.lst (C.map .int)) ⟨C, s1, s2, s3, s4, s5, .law⟩) := by
  have hz := @Z.w_cells
  rw [← wp_is] at hz
  first | exact hz | exact hz ‹_› | (apply hz <;> assumption)

theorem lawB_law : lawB ⟨C, s1, s2, s3, s4, s5, .law⟩ = true := by unfold lawB; rfl

theorem w_stS {m : Nat} {Q : Ctl → Sto → Prop} : wp (mStSet n m φ ρ S) Q = wp (φ ρ S) fun d S1 => if lawB S1 = true then setQ ρ[n]? m S1 d (fun S2 => Q (.nx ρ) S2) else False := by
  have hz := @Z.w_stS
  rw [← wp_is] at hz
  first | exact hz | exact hz ‹_› | (apply hz <;> assumption)

theorem setQ1 {Q : Sto → Prop} : setQ (some .st) 1 ⟨C, s1, s2, s3, s4, s5, .law⟩ (.int v) Q = Q ⟨C, v, s2, s3, s4, s5, .law⟩ := nrP rfl

theorem setQ2 {Q : Sto → Prop} : setQ (some .st) 2 ⟨C, s1, s2, s3, s4, s5, .law⟩ (.int v) Q = Q ⟨C, s1, v, s3, s4, s5, .law⟩ := nrP rfl

theorem setQ3 {Q : Sto → Prop} : setQ (some .st) 3 ⟨C, s1, s2, s3, s4, s5, .law⟩ (.int v) Q = Q ⟨C, s1, s2, v, s4, s5, .law⟩ := nrP rfl

theorem setQ5 {Q : Sto → Prop} : setQ (some .st) 5 ⟨C, s1, s2, s3, s4, s5, .law⟩ (.int v) Q = Q ⟨C, s1, s2, s3, s4, v, .law⟩ := nrP rfl

end

section

variable {S : Sto} {ρ : List L} {φl : Ph (List D)} {φ : Ph Ctl} {g : Tgt}

theorem w_for {φi : Ph (List D)} {Q : Ctl → Sto → Prop} : wp (mFor g φi φ ρ S) Q = wp (φi ρ S) fun ds S1 => wp (forD g φ ds ρ S1) Q := by
  have hz := @Z.w_for
  rw [← wp_is] at hz
  first | exact hz | exact hz ‹_› | (apply hz <;> assumption)

theorem w_range1 {Q : List D → Sto → Prop} : wp (mRange1 φl ρ S) Q = wp (φl ρ S) fun ds S1 => rngQ ds S1 Q := by
  have hz := @Z.w_range1
  rw [← wp_is] at hz
  first | exact hz | exact hz ‹_› | (apply hz <;> assumption)

theorem rngQ_int {j : Int} {Q : List D → Sto → Prop} : rngQ [.int j] S Q = (okR j = true ∧ Q (rangeD 0 j.toNat) S) := nrP rfl

theorem w_seqI {φ : Ph D} {Q : List D → Sto → Prop} : wp (mSeqI φ ρ S) Q = wp (φ ρ S) fun d S1 => wp (seqOf d S1) Q := by
  have hz := @Z.w_seqI
  rw [← wp_is] at hz
  first | exact hz | exact hz ‹_› | (apply hz <;> assumption)

theorem w_seqL {xs : List D} {Q : List D → Sto → Prop} : wp (seqOf (.lst xs) S) Q = Q xs S := by
  have hz := @Z.w_seqL
  rw [← wp_is] at hz
  first | exact hz | exact hz ‹_› | (apply hz <;> assumption)

theorem w_seqT {xs : List D} {Q : List D → Sto → Prop} : wp (seqOf (.tup xs) S) Q = Q xs S := by
  have hz := @Z.w_seqT
  rw [← wp_is] at hz
  first | exact hz | exact hz ‹_› | (apply hz <;> assumption)

theorem stepQ_nx {I : List L → Sto → Prop} {Q : Ctl → Sto → Prop} : stepQ I Q (.nx ρ) S = I ρ S := nrP rfl

theorem stepQ_bk {I : List L → Sto → Prop} {Q : Ctl → Sto → Prop} : stepQ I Q (.bk ρ) S = Q (.nx ρ) S := nrP rfl

theorem stepQ_rt {I : List L → Sto → Prop} {Q : Ctl → Sto → Prop} {d : D} : stepQ I Q (.rt d) S = Q (.rt d) S := nrP rfl

theorem forD_inv {Q : Ctl → Sto → Prop} : ∀ (ds : List D) (I : Nat → List L → Sto → Prop) (ρ : List L) (S : Sto), I 0 ρ S →
    (∀ (k : Nat) (d : D) (ρ : List L) (S : Sto), ds[k]? = some d → I k ρ S → ∃ ρ1, g.put d ρ = some ρ1 ∧ wp (φ ρ1 S) (stepQ (I (k + 1)) Q)) →
    (∀ ρ S, I ds.length ρ S → Q (.nx ρ) S) → wp (forD g φ ds ρ S) Q := by
  have hz := @Z.forD_inv
  rw [← wp_is] at hz
  first | exact hz | exact hz ‹_› | (apply hz <;> assumption)

theorem seq_cut {φ k : Ph Ctl} {Q R : Ctl → Sto → Prop} (h : wp (φ ρ S) R) (hk : ∀ c S, R c S → sq k Q c S) : wp (mSeq φ k ρ S) Q := by
  have hz := @Z.seq_cut
  rw [← wp_is] at hz
  first | exact hz | exact hz ‹_› | (apply hz <;> assumption)

theorem w_lc {vs : List Nat} {φi : Ph (List D)} {φt : Ph Bool} {φe : Ph D} {Q : List D → Sto → Prop} : wp (mLc g vs φi φt φe ρ S) Q = wp (φi ρ S) fun ds S1 => line ds.length = true ∧ wp (compD g φt φe ds (wipeL ρ vs) S1) Q := by
  have hz := @Z.w_lc
  rw [← wp_is] at hz
  first | exact hz | exact hz ‹_› | (apply hz <;> assumption)

theorem comp_inv {φe : Ph D} {Q : List D → Sto → Prop} : ∀ (ds : List D) (I : Nat → List D → Sto → Prop) (ρ : List L) (S : Sto), I 0 [] S →
    (∀ (k : Nat) (d : D) (xs : List D) (S : Sto), ds[k]? = some d → xs.length = k → I k xs S → ∃ ρ1, g.put d ρ = some ρ1 ∧ wp (φe ρ1 S) fun x S2 => I (k + 1) (xs ++ [x]) S2) →
    (∀ xs S, xs.length = ds.length → I ds.length xs S → Q xs S) → wp (compD g mYes φe ds ρ S) Q := by
  have hz := @Z.comp_inv
  rw [← wp_is] at hz
  first | exact hz | exact hz ‹_› | (apply hz <;> assumption)

theorem comp_filter {φt : Ph Bool} {φe : Ph D} (p : D → Bool) (f : D → D) {Q : List D → Sto → Prop} : ∀ (ds : List D) (ρ : List L) (S : Sto), (∀ d ∈ ds, ∃ ρ1, g.put d ρ = some ρ1 ∧ φt ρ1 S = .ok (p d) S ∧ (p d = true → φe ρ1 S = .ok (f d) S)) → Q ((ds.filter p).map f) S → wp (compD g φt φe ds ρ S) Q := by
  have hz := @Z.comp_filter
  rw [← wp_is] at hz
  first | exact hz | exact hz ‹_› | (apply hz <;> assumption)

theorem w_call0 {m : Fn} {Q : D → Sto → Prop} : wp (mCall0 m [] φl ρ S) Q = wp (φl ρ S) fun ds S1 => wp (m ds sto0) fun r _ => Q r.toD S1 := by
  have hz := @Z.w_call0
  rw [← wp_is] at hz
  first | exact hz | exact hz ‹_› | (apply hz <;> assumption)

theorem w_call1 {m : Fn} {n : Nat} {Q : D → Sto → Prop} : wp (mCall1 m n φl ρ S) Q = stQ ρ[n]? (wp (φl ρ S) fun ds S1 => wp (m ds S1) fun r S2 => Q r.toD S2) := by
  have hz := @Z.w_call1
  rw [← wp_is] at hz
  first | exact hz | exact hz ‹_› | (apply hz <;> assumption)

end

theorem PB.le {a b : Nat} (h : a ≤ b) : PB a ≤ PB b := Nat.pow_le_pow_right (by decide) h

theorem pb {n k : Nat} (h : n < 2 ^ k) : n < PB k := h

theorem PB.log {n k : Nat} (h : n < PB k) : n.log2 ≤ k := by
  by_cases z : n = 0
  · subst z; simp
  · exact Nat.le_of_lt ((Nat.log2_lt z).mpr h)

theorem mulW {i j : Int} (h1 : i.natAbs < B4000) (h2 : j.natAbs < B4000) : CMulW i j := by
  have a := PB.log h1
  have b := PB.log h2
  show _ < _
  omega

theorem wp_run {hb : Bool} {n : Nat} {φ : Ph Ctl} {ds : List D} {S : Sto} {Q : Res → Sto → Prop} (ρ : List L) (e : startL hb n ds = ρ) (h : wp (φ ρ S) fun c S' => match c with
    | .rt d => Q (.d d) S'
    | .ro xs => Q (.own xs) S'
    | .nx _ => Q (.d .non) S'
    | _ => False) : wp (runD hb n φ ds S) Q := by
  have hz := @Z.wp_run
  rw [← wp_is] at hz
  first | exact hz | exact hz ‹_› | (apply hz <;> assumption)

theorem w_app {n : Nat} {φ : Ph D} {ρ : List L} {S : Sto} {Q : Ctl → Sto → Prop} {xs : List D} (h : ρ[n]? = some (.own xs)) : wp (mApp n φ ρ S) Q = wp (φ ρ S) fun d S1 => line xs.length = true ∧ Q (.nx (ρ.set n (.own (xs ++ [d])))) S1 := by
  have hz := @Z.w_app
  rw [← wp_is] at hz
  first | exact hz | exact hz ‹_› | (apply hz <;> assumption)

theorem w_tupO {n : Nat} {ρ : List L} {S : Sto} {Q : D → Sto → Prop} {xs : List D} (h : ρ[n]? = some (.own xs)) : wp (mTupO n ρ S) Q = Q (.tup xs) S := by
  have hz := @Z.w_tupO
  rw [← wp_is] at hz
  first | exact hz | exact hz ‹_› | (apply hz <;> assumption)

theorem w_mbrk {ρ : List L} {S : Sto} {Q : Ctl → Sto → Prop} : wp (mBreak ρ S) Q = Q (.bk ρ) S := by
  have hz := @Z.w_mbrk
  rw [← wp_is] at hz
  first | exact hz | exact hz ‹_› | (apply hz <;> assumption)

theorem w_lenO {n : Nat} {ρ : List L} {S : Sto} {Q : D → Sto → Prop} {xs : List D} (h : ρ[n]? = some (.own xs)) : wp (mLenO n ρ S) Q = Q (.int xs.length) S := by
  have hz := @Z.w_lenO
  rw [← wp_is] at hz
  first | exact hz | exact hz ‹_› | (apply hz <;> assumption)

theorem w_appPop {i k : Nat} {φ : Ph D} {ρ : List L} {S : Sto} {Q : Ctl → Sto → Prop} {xs ys : List D} (hi : ρ[i]? = some (.own xs)) (hk : ρ[k]? = some (.own ys)) (hn : i ≠ k)
    (h : wp (φ ρ S) fun a S1 => ∃ (j : Int) (n : Nat) (d : D), a = .int j ∧ seqIndex? j ys.length = some n ∧ ys[n]? = some d ∧ line xs.length = true ∧ okR j = true ∧ Q (.nx ((ρ.set k (.own (ys.eraseIdx n))).set i (.own (xs ++ [d])))) S1) : wp (mAppPop i k φ ρ S) Q := by
  have hz := @Z.w_appPop
  rw [← wp_is] at hz
  first | exact hz | exact hz ‹_› | (apply hz <;> assumption)

theorem w_setI {i : Nat} {φe φi : Ph D} {ρ : List L} {S : Sto} {Q : Ctl → Sto → Prop} {xs : List D} (hi : ρ[i]? = some (.own xs))
    (h : wp (φe ρ S) fun d S1 => wp (φi ρ S1) fun a S2 => ∃ (j : Int) (n : Nat), a = .int j ∧ ixN xs.length j = some n ∧ Q (.nx (ρ.set i (.own (xs.set n d)))) S2) : wp (mSetI i φe φi ρ S) Q := by
  have hz := @Z.w_setI
  rw [← wp_is] at hz
  first | exact hz | exact hz ‹_› | (apply hz <;> assumption)

theorem w_revO {n : Nat} {ρ : List L} {S : Sto} {Q : List D → Sto → Prop} {xs : List D} (h : ρ[n]? = some (.own xs)) : wp (mRevO n ρ S) Q = Q xs.reverse S := by
  have hz := @Z.w_revO
  rw [← wp_is] at hz
  first | exact hz | exact hz ‹_› | (apply hz <;> assumption)

theorem w_rg {φ : Ph D} {ρ : List L} {S : Sto} {Q : List D → Sto → Prop} (h : wp (φ ρ S) fun d S1 => ∃ j : Int, d = .int j ∧ 0 ≤ j ∧ j ≤ 1000 ∧ Q (rangeD 0 j.toNat) S1) : wp (mRg φ ρ S) Q := by
  have hz := @Z.w_rg
  rw [← wp_is] at hz
  first | exact hz | exact hz ‹_› | (apply hz <;> assumption)

theorem w_swap {x i j : Nat} {ρ : List L} {S : Sto} {Q : Ctl → Sto → Prop} {xs : List D} {a b : Int} {n k : Nat} {d e : D} (h1 : ρ[x]? = some (.own xs)) (h2 : ρ[i]? = some (.d (.int a))) (h3 : ρ[j]? = some (.d (.int b))) (h4 : ixN xs.length a = some n) (h5 : ixN xs.length b = some k) (h6 : xs[n]? = some d) (h7 : xs[k]? = some e)
    (q : Q (.nx (ρ.set x (.own ((xs.set n e).set k d)))) S) : wp (mSwap x i j ρ S) Q := by
  have hz := @Z.w_swap
  rw [← wp_is] at hz
  first | exact hz | exact hz ‹_› | (apply hz <;> assumption)

theorem w_gh {i : Nat} {φ : Ph Ctl} {ρ : List L} {S : Sto} {Q : Ctl → Sto → Prop} {xs : List D} (h : ρ[i]? = some (.own xs)) : wp (mGh i φ ρ S) Q = wp (φ (ρ.set i (.d (.lst xs))) S) Q := by
  have hz := @Z.w_gh
  rw [← wp_is] at hz
  first | exact hz | exact hz ‹_› | (apply hz <;> assumption)

theorem w_listT {xs : List D} {S : Sto} {Q : List D → Sto → Prop} : wp (gList [.tup xs] S) Q = Q xs S := by
  have hz := @Z.w_listT
  rw [← wp_is] at hz
  first | exact hz | exact hz ‹_› | (apply hz <;> assumption)

theorem w_listL {xs : List D} {S : Sto} {Q : List D → Sto → Prop} : wp (gList [.lst xs] S) Q = Q xs S := by
  have hz := @Z.w_listL
  rw [← wp_is] at hz
  first | exact hz | exact hz ‹_› | (apply hz <;> assumption)

theorem w_tuple {xs : List D} {S : Sto} {Q : D → Sto → Prop} : wp (gTuple [.lst xs] S) Q = Q (.tup xs) S := by
  have hz := @Z.w_tuple
  rw [← wp_is] at hz
  first | exact hz | exact hz ‹_› | (apply hz <;> assumption)

theorem w_tupleT {xs : List D} {S : Sto} {Q : D → Sto → Prop} : wp (gTuple [.tup xs] S) Q = Q (.tup xs) S := by
  have hz := @Z.w_tupleT
  rw [← wp_is] at hz
  first | exact hz | exact hz ‹_› | (apply hz <;> assumption)

theorem w_ixO {n : Nat} {φ : Ph D} {ρ : List L} {S : Sto} {Q : D → Sto → Prop} {xs : List D} (hn : ρ[n]? = some (.own xs)) (h : wp (φ ρ S) fun d S1 => ∃ j e, d = .int j ∧ atI xs j = some e ∧ Q e S1) : wp (mIxO n φ ρ S) Q := by
  have hz := @Z.w_ixO
  rw [← wp_is] at hz
  first | exact hz | exact hz ‹_› | (apply hz <;> assumption)

end DL

set_option Elab.async false
set_option linter.all false
set_option maxRecDepth 100000
set_option maxHeartbeats 4000000
set_option autoImplicit false
namespace K23
open PySem PySem.Spec L2 DL
theorem modB (a : Int) (m : Int) (h : 0 < m) : (a % m).natAbs < m.natAbs := by
  have h1 := Int.emod_nonneg a (by omega : m ≠ 0)
  have h2 := Int.emod_lt_of_pos a h
  omega
theorem big {n : Nat} {k : Nat} (h : n < PB k) (hk : k ≤ 4000) : n < B4000 := Nat.lt_of_lt_of_le h (PB.le hk)
theorem mixed_ok (a t : Int) (S : Sto) (ha : a.natAbs < PB 1000) (ht : t.natAbs < PB 1000) : wp (m_law_mixed [.int a, .int t] S) fun r S' => S' = S ∧ ∃ z : Int, r = .d (.int z) ∧ 0 ≤ z ∧ z < 1000000000000000003 := by
  refine wp_run [.d (.int a), .d (.int t), .un] rfl ?_
  unfold b_law_mixed
  simp only [wp_seq, w_set, w_setO, w_m2, w_m1, w_var, varQ_d, w_c, w_nil, w_cons, w_cb, w_cbo, w_int, w_intB, w_abs, w_max, w_min, w_lenL, w_lenT, w_B, w_and, w_or, w_not, w_ifs, w_if, w_ret, w_retO, w_next, w_tup, w_lst, w_frz, w_andV, w_notV, stQ_st, w_st1, w_st2, w_st3, w_st4, w_st5, w_cells, w_stS, lawB_law, setQ1, setQ2, setQ3, setQ5, w_for, w_range1, rngQ_int, w_seqI, w_seqL, w_seqT, w_lc, w_call0, w_call1, stepQ_nx, stepQ_bk, stepQ_rt, wp_ok, wp_bad, sq_nx, sq_rt, sq_ro, wp_add, wp_sub, wp_lt, wp_le, wp_gt, wp_ge, wp_mul, wp_mod, wp_fdiv, wp_pow, wp_ix, wp_ixT, wp_toB, wp_noX, List.set_cons_zero, List.set_cons_succ, List.getElem?_cons_zero, List.getElem?_cons_succ, List.length_map, if_true, decide_eq_true_eq, Bool.false_eq_true, if_false]
  have b1 := modB (a * 1181783497276652981 + t * 1865811235122147685 + 2862933555777941757) 2305843009213693951 (by decide)
  generalize (a * 1181783497276652981 + t * 1865811235122147685 + 2862933555777941757) % 2305843009213693951 = m1 at *
  have b2 := modB (m1 * m1) 1000000000000000003 (by decide)
  generalize hm2 : (m1 * m1) % 1000000000000000003 = m2 at *
  have b3 := modB (m2 * 3935559000370003845 + t + 7) 2305843009213693951 (by decide)
  generalize hm3 : (m2 * 3935559000370003845 + t + 7) % 2305843009213693951 = m3 at *
  have sm : ∀ {m : Int}, m.natAbs < (2305843009213693951 : Int).natAbs → m.natAbs < B4000 := fun h => big (k := 61) (pb (Nat.lt_of_lt_of_le h (by decide))) (by decide)
  have sm2 : m2.natAbs < B4000 := big (k := 61) (pb (Nat.lt_of_lt_of_le b2 (by decide))) (by decide)
  refine ⟨mulW (big ha (by decide)) (big (k := 100) (pb (by decide)) (by decide)), mulW (big ht (by decide)) (big (k := 100) (pb (by decide)) (by decide)), by decide, mulW (sm b1) (sm b1), by decide, mulW sm2 (big (k := 100) (pb (by decide)) (by decide)), by decide, mulW (sm b3) (sm b3), by decide, trivial, _, rfl, Int.emod_nonneg _ (by decide), Int.emod_lt_of_pos _ (by decide)⟩
/-- a store of the law, n turns of it gone -/
def Inv (S : Sto) (n : Int) : Prop := S.mode = .law ∧ 0 ≤ S.i ∧ S.i ≤ S.cells.length ∧ S.seed.natAbs < 2 ^ 70 ∧ 0 ≤ S.cnt ∧ S.cnt ≤ n ∧ (0 < S.three → 1 ≤ S.i ∧ ∀ z, S.cells[(S.i - 1).toNat]? = some z → z.natAbs < 10 ^ 18)
theorem take_ok (S : Sto) (n many : Int) (hm : many.natAbs < 2 ^ 100) (hn : n < 2 ^ 60) (h : Inv S n) : wp (m_law_take [.int many] S) fun r S' => Inv S' (n + 1) ∧ ∃ z : Int, r = .d (.int z) ∧ 0 ≤ z ∧ (2 ≤ many → z < many) ∧ (many < 2 → z = 0) := by
  refine wp_run [.st, .d (.int many), .un, .un, .un, .un, .un] rfl ?_
  unfold b_law_take
  by_cases c0 : many < 2
  · refine seq_cut (R := fun c S' => c = .rt (.int 0) ∧ S = S') ?_ ?_
    · simp only [wp_seq, w_set, w_setO, w_m2, w_m1, w_var, varQ_d, w_c, w_nil, w_cons, w_cb, w_cbo, w_int, w_intB, w_abs, w_max, w_min, w_lenL, w_lenT, w_B, w_and, w_or, w_not, w_ifs, w_if, w_ret, w_retO, w_next, w_tup, w_lst, w_frz, w_andV, w_notV, stQ_st, w_st1, w_st2, w_st3, w_st4, w_st5, w_cells, w_stS, lawB_law, setQ1, setQ2, setQ3, setQ5, w_for, w_range1, rngQ_int, w_seqI, w_seqL, w_seqT, w_lc, w_call0, w_call1, stepQ_nx, stepQ_bk, stepQ_rt, wp_ok, wp_bad, sq_nx, sq_rt, sq_ro, wp_add, wp_sub, wp_lt, wp_le, wp_gt, wp_ge, wp_mul, wp_mod, wp_fdiv, wp_pow, wp_ix, wp_ixT, wp_toB, wp_noX, List.set_cons_zero, List.set_cons_succ, List.getElem?_cons_zero, List.getElem?_cons_succ, List.length_map, if_true, decide_eq_true_eq, Bool.false_eq_true, if_false]
      rw [if_pos (by simpa using c0)]
      exact ⟨trivial, trivial⟩
    · rintro _ _ ⟨rfl, rfl⟩
      refine ⟨?_, 0, rfl, by omega, fun h => by omega, fun _ => rfl⟩
      obtain ⟨a, b, c, d, e, f, g⟩ := h
      exact ⟨a, b, c, d, e, by omega, g⟩
  have hp : 0 < many := by omega
  refine seq_cut (R := fun c S' => c = .nx [.st, .d (.int many), .un, .un, .un, .un, .un] ∧ S = S') ?_ ?_
  · simp only [wp_seq, w_set, w_setO, w_m2, w_m1, w_var, varQ_d, w_c, w_nil, w_cons, w_cb, w_cbo, w_int, w_intB, w_abs, w_max, w_min, w_lenL, w_lenT, w_B, w_and, w_or, w_not, w_ifs, w_if, w_ret, w_retO, w_next, w_tup, w_lst, w_frz, w_andV, w_notV, stQ_st, w_st1, w_st2, w_st3, w_st4, w_st5, w_cells, w_stS, lawB_law, setQ1, setQ2, setQ3, setQ5, w_for, w_range1, rngQ_int, w_seqI, w_seqL, w_seqT, w_lc, w_call0, w_call1, stepQ_nx, stepQ_bk, stepQ_rt, wp_ok, wp_bad, sq_nx, sq_rt, sq_ro, wp_add, wp_sub, wp_lt, wp_le, wp_gt, wp_ge, wp_mul, wp_mod, wp_fdiv, wp_pow, wp_ix, wp_ixT, wp_toB, wp_noX, List.set_cons_zero, List.set_cons_succ, List.getElem?_cons_zero, List.getElem?_cons_succ, List.length_map, if_true, decide_eq_true_eq, Bool.false_eq_true, if_false]
    rw [if_neg (by simpa using c0)]
    exact ⟨trivial, trivial⟩
  rintro _ _ ⟨rfl, rfl⟩
  rw [sq_nx]
  -- a cell is taken
  refine seq_cut (R := fun c S' => (∃ x, c = .nx [.st, .d (.int many), x, .un, .un, .un, .un]) ∧ Inv S' n) ?_ ?_
  · obtain ⟨C, i, two, three, seed, cnt, md⟩ := S
    obtain ⟨h0, h1, h2, h3, h4, h5, h6⟩ := h
    dsimp only at h0 h1 h2 h3 h4 h5 h6
    subst h0
    simp only [wp_seq, w_set, w_setO, w_m2, w_m1, w_var, varQ_d, w_c, w_nil, w_cons, w_cb, w_cbo, w_int, w_intB, w_abs, w_max, w_min, w_lenL, w_lenT, w_B, w_and, w_or, w_not, w_ifs, w_if, w_ret, w_retO, w_next, w_tup, w_lst, w_frz, w_andV, w_notV, stQ_st, w_st1, w_st2, w_st3, w_st4, w_st5, w_cells, w_stS, lawB_law, setQ1, setQ2, setQ3, setQ5, w_for, w_range1, rngQ_int, w_seqI, w_seqL, w_seqT, w_lc, w_call0, w_call1, stepQ_nx, stepQ_bk, stepQ_rt, wp_ok, wp_bad, sq_nx, sq_rt, sq_ro, wp_add, wp_sub, wp_lt, wp_le, wp_gt, wp_ge, wp_mul, wp_mod, wp_fdiv, wp_pow, wp_ix, wp_ixT, wp_toB, wp_noX, List.set_cons_zero, List.set_cons_succ, List.getElem?_cons_zero, List.getElem?_cons_succ, List.length_map, if_true, decide_eq_true_eq, Bool.false_eq_true, if_false]
    by_cases c1 : two < 2
    · rw [if_pos (by simpa using c1)]
      by_cases c2 : three < 1
      · rw [if_pos (by simpa using c2)]
        by_cases c3 : i < (C.length : Int)
        · rw [if_pos (by simpa using c3)]
          have hi : i.toNat < C.length := by omega
          have at1 : atI (C.map DL.D.int) i = some (.int C[i.toNat]) := by
            unfold atI ixN
            rw [if_pos h1, if_pos (by rw [List.length_map]; exact c3)]
            show (C.map DL.D.int)[i.toNat]? = _
            rw [List.getElem?_map, List.getElem?_eq_getElem hi]; rfl
          refine ⟨_, at1, ?_⟩
          simp only [wp_seq, w_set, w_setO, w_m2, w_m1, w_var, varQ_d, w_c, w_nil, w_cons, w_cb, w_cbo, w_int, w_intB, w_abs, w_max, w_min, w_lenL, w_lenT, w_B, w_and, w_or, w_not, w_ifs, w_if, w_ret, w_retO, w_next, w_tup, w_lst, w_frz, w_andV, w_notV, stQ_st, w_st1, w_st2, w_st3, w_st4, w_st5, w_cells, w_stS, lawB_law, setQ1, setQ2, setQ3, setQ5, w_for, w_range1, rngQ_int, w_seqI, w_seqL, w_seqT, w_lc, w_call0, w_call1, stepQ_nx, stepQ_bk, stepQ_rt, wp_ok, wp_bad, sq_nx, sq_rt, sq_ro, wp_add, wp_sub, wp_lt, wp_le, wp_gt, wp_ge, wp_mul, wp_mod, wp_fdiv, wp_pow, wp_ix, wp_ixT, wp_toB, wp_noX, List.set_cons_zero, List.set_cons_succ, List.getElem?_cons_zero, List.getElem?_cons_succ, List.length_map, if_true, decide_eq_true_eq, Bool.false_eq_true, if_false]
          refine ⟨by decide, ?_⟩
          by_cases c4 : (if C[i.toNat] < 0 then -C[i.toNat] else C[i.toNat]) < 10 ^ Int.toNat 18
          · rw [if_pos (by simpa using c4)]
            refine ⟨⟨_, rfl⟩, rfl, by dsimp only; omega, by dsimp only; omega, h3, h4, h5, fun _ => ⟨by dsimp only; omega, fun z e => ?_⟩⟩
            dsimp only at e
            rw [show (i + 1 - 1).toNat = i.toNat by omega, List.getElem?_eq_getElem hi] at e
            cases e
            have c5 : (if C[i.toNat] < 0 then -C[i.toNat] else C[i.toNat]) < (10 : Int) ^ 18 := c4
            split at c5 <;> omega
          · rw [if_neg (by simpa using c4)]
            exact ⟨⟨_, rfl⟩, rfl, by dsimp only; omega, by dsimp only; omega, h3, h4, h5, fun h => absurd h (by dsimp only; omega)⟩
        · rw [if_neg (by simpa using c3)]
          exact ⟨⟨_, rfl⟩, rfl, h1, h2, h3, h4, h5, h6⟩
      · rw [if_neg (by simpa using c2)]
        exact ⟨⟨_, rfl⟩, rfl, h1, h2, h3, h4, h5, h6⟩
    · rw [if_neg (by simpa using c1)]
      exact ⟨⟨_, rfl⟩, rfl, h1, h2, h3, h4, h5, h6⟩
  rintro _ S1 ⟨⟨x, rfl⟩, h'⟩
  clear h
  rw [sq_nx]
  -- a great cell
  by_cases c1 : 1 < S1.two
  · refine seq_cut (R := fun c S' => Inv S' n ∧ ∃ z : Int, c = .rt (.int z) ∧ 0 ≤ z ∧ z < many) ?_ ?_
    · obtain ⟨C, i, two, three, seed, cnt, md⟩ := S1
      obtain ⟨h0, h1, h2, h3, h4, h5, h6⟩ := h'
      dsimp only at h0 h1 h2 h3 h4 h5 h6 c1
      subst h0
      simp only [wp_seq, w_set, w_setO, w_m2, w_m1, w_var, varQ_d, w_c, w_nil, w_cons, w_cb, w_cbo, w_int, w_intB, w_abs, w_max, w_min, w_lenL, w_lenT, w_B, w_and, w_or, w_not, w_ifs, w_if, w_ret, w_retO, w_next, w_tup, w_lst, w_frz, w_andV, w_notV, stQ_st, w_st1, w_st2, w_st3, w_st4, w_st5, w_cells, w_stS, lawB_law, setQ1, setQ2, setQ3, setQ5, w_for, w_range1, rngQ_int, w_seqI, w_seqL, w_seqT, w_lc, w_call0, w_call1, stepQ_nx, stepQ_bk, stepQ_rt, wp_ok, wp_bad, sq_nx, sq_rt, sq_ro, wp_add, wp_sub, wp_lt, wp_le, wp_gt, wp_ge, wp_mul, wp_mod, wp_fdiv, wp_pow, wp_ix, wp_ixT, wp_toB, wp_noX, List.set_cons_zero, List.set_cons_succ, List.getElem?_cons_zero, List.getElem?_cons_succ, List.length_map, if_true, decide_eq_true_eq, Bool.false_eq_true, if_false]
      rw [if_pos (by simpa using c1)]
      refine ⟨hp, ⟨hp, ?_⟩, ?_⟩
      · have := PB.log (pb hm)
        omega
      · exact ⟨⟨rfl, h1, h2, h3, h4, h5, h6⟩, _, rfl, Int.emod_nonneg _ (by omega), Int.emod_lt_of_pos _ hp⟩
    · rintro _ S2 ⟨h2, z, rfl, z1, z2⟩
      obtain ⟨a, b, c, d, e, f, g⟩ := h2
      exact ⟨⟨a, b, c, d, e, by omega, g⟩, z, rfl, z1, fun _ => z2, fun h => by omega⟩
  refine seq_cut (R := fun c S' => c = .nx [.st, .d (.int many), x, .un, .un, .un, .un] ∧ S1 = S') ?_ ?_
  · obtain ⟨C, i, two, three, seed, cnt, md⟩ := S1
    have h0 := h'.1
    dsimp only at h0
    subst h0
    simp only [wp_seq, w_set, w_setO, w_m2, w_m1, w_var, varQ_d, w_c, w_nil, w_cons, w_cb, w_cbo, w_int, w_intB, w_abs, w_max, w_min, w_lenL, w_lenT, w_B, w_and, w_or, w_not, w_ifs, w_if, w_ret, w_retO, w_next, w_tup, w_lst, w_frz, w_andV, w_notV, stQ_st, w_st1, w_st2, w_st3, w_st4, w_st5, w_cells, w_stS, lawB_law, setQ1, setQ2, setQ3, setQ5, w_for, w_range1, rngQ_int, w_seqI, w_seqL, w_seqT, w_lc, w_call0, w_call1, stepQ_nx, stepQ_bk, stepQ_rt, wp_ok, wp_bad, sq_nx, sq_rt, sq_ro, wp_add, wp_sub, wp_lt, wp_le, wp_gt, wp_ge, wp_mul, wp_mod, wp_fdiv, wp_pow, wp_ix, wp_ixT, wp_toB, wp_noX, List.set_cons_zero, List.set_cons_succ, List.getElem?_cons_zero, List.getElem?_cons_succ, List.length_map, if_true, decide_eq_true_eq, Bool.false_eq_true, if_false]
    rw [if_neg (by simpa using c1)]
    exact ⟨trivial, trivial⟩
  rintro _ _ ⟨rfl, rfl⟩
  rw [sq_nx]
  obtain ⟨C, i, two, three, seed, cnt, md⟩ := S1
  obtain ⟨h0, h1, h2, h3, h4, h5, h6⟩ := h'
  dsimp only at h0 h1 h2 h3 h4 h5 h6
  subst h0
  refine seq_cut (R := fun c S' => c = .nx [.st, .d (.int many), x, .un, .d (.int seed), .un, .un] ∧ (⟨C, i, two, three, seed, cnt, .law⟩ : Sto) = S') ?_ ?_
  · simp only [wp_seq, w_set, w_setO, w_m2, w_m1, w_var, varQ_d, w_c, w_nil, w_cons, w_cb, w_cbo, w_int, w_intB, w_abs, w_max, w_min, w_lenL, w_lenT, w_B, w_and, w_or, w_not, w_ifs, w_if, w_ret, w_retO, w_next, w_tup, w_lst, w_frz, w_andV, w_notV, stQ_st, w_st1, w_st2, w_st3, w_st4, w_st5, w_cells, w_stS, lawB_law, setQ1, setQ2, setQ3, setQ5, w_for, w_range1, rngQ_int, w_seqI, w_seqL, w_seqT, w_lc, w_call0, w_call1, stepQ_nx, stepQ_bk, stepQ_rt, wp_ok, wp_bad, sq_nx, sq_rt, sq_ro, wp_add, wp_sub, wp_lt, wp_le, wp_gt, wp_ge, wp_mul, wp_mod, wp_fdiv, wp_pow, wp_ix, wp_ixT, wp_toB, wp_noX, List.set_cons_zero, List.set_cons_succ, List.getElem?_cons_zero, List.getElem?_cons_succ, List.length_map, if_true, decide_eq_true_eq, Bool.false_eq_true, if_false]
    exact ⟨trivial, trivial⟩
  rintro _ _ ⟨rfl, rfl⟩
  rw [sq_nx]
  refine seq_cut (R := fun c S' => ∃ num t3 : Int, num.natAbs < 2 ^ 100 ∧ c = .nx [.st, .d (.int many), x, .un, .d (.int num), .un, .un] ∧ S' = ⟨C, i, two, t3, seed, cnt, .law⟩ ∧ (0 < t3 → 0 < three)) ?_ ?_
  · simp only [wp_seq, w_set, w_setO, w_m2, w_m1, w_var, varQ_d, w_c, w_nil, w_cons, w_cb, w_cbo, w_int, w_intB, w_abs, w_max, w_min, w_lenL, w_lenT, w_B, w_and, w_or, w_not, w_ifs, w_if, w_ret, w_retO, w_next, w_tup, w_lst, w_frz, w_andV, w_notV, stQ_st, w_st1, w_st2, w_st3, w_st4, w_st5, w_cells, w_stS, lawB_law, setQ1, setQ2, setQ3, setQ5, w_for, w_range1, rngQ_int, w_seqI, w_seqL, w_seqT, w_lc, w_call0, w_call1, stepQ_nx, stepQ_bk, stepQ_rt, wp_ok, wp_bad, sq_nx, sq_rt, sq_ro, wp_add, wp_sub, wp_lt, wp_le, wp_gt, wp_ge, wp_mul, wp_mod, wp_fdiv, wp_pow, wp_ix, wp_ixT, wp_toB, wp_noX, List.set_cons_zero, List.set_cons_succ, List.getElem?_cons_zero, List.getElem?_cons_succ, List.length_map, if_true, decide_eq_true_eq, Bool.false_eq_true, if_false]
    by_cases c2 : 0 < three
    · rw [if_pos (by simpa using c2)]
      obtain ⟨g1, g2⟩ := h6 c2
      have hi : (i - 1).toNat < C.length := by omega
      have at1 : atI (C.map DL.D.int) (i - 1) = some (.int C[(i - 1).toNat]) := by
        unfold atI ixN
        rw [if_pos (by omega), if_pos (by rw [List.length_map]; omega)]
        show (C.map DL.D.int)[(i - 1).toNat]? = _
        rw [List.getElem?_map, List.getElem?_eq_getElem hi]; rfl
      have g3 := g2 _ (List.getElem?_eq_getElem hi)
      refine ⟨_, at1, ?_⟩
      simp only [wp_seq, w_set, w_setO, w_m2, w_m1, w_var, varQ_d, w_c, w_nil, w_cons, w_cb, w_cbo, w_int, w_intB, w_abs, w_max, w_min, w_lenL, w_lenT, w_B, w_and, w_or, w_not, w_ifs, w_if, w_ret, w_retO, w_next, w_tup, w_lst, w_frz, w_andV, w_notV, stQ_st, w_st1, w_st2, w_st3, w_st4, w_st5, w_cells, w_stS, lawB_law, setQ1, setQ2, setQ3, setQ5, w_for, w_range1, rngQ_int, w_seqI, w_seqL, w_seqT, w_lc, w_call0, w_call1, stepQ_nx, stepQ_bk, stepQ_rt, wp_ok, wp_bad, sq_nx, sq_rt, sq_ro, wp_add, wp_sub, wp_lt, wp_le, wp_gt, wp_ge, wp_mul, wp_mod, wp_fdiv, wp_pow, wp_ix, wp_ixT, wp_toB, wp_noX, List.set_cons_zero, List.set_cons_succ, List.getElem?_cons_zero, List.getElem?_cons_succ, List.length_map, if_true, decide_eq_true_eq, Bool.false_eq_true, if_false]
      refine ⟨mulW (big (k := 30) (pb (by decide)) (by decide)) (big (k := 100) (pb (Nat.lt_trans g3 (by decide))) (by decide)), _, _, ?_, rfl, rfl, fun _ => c2⟩
      generalize C[(i - 1).toNat] = z at *
      omega
    · rw [if_neg (by simpa using c2)]
      exact ⟨seed, three, by omega, rfl, rfl, fun h => absurd h c2⟩
  rintro _ _ ⟨num, t3, n1, rfl, rfl, n3⟩
  rw [sq_nx]
  refine seq_cut (R := fun c S' => c = .nx [.st, .d (.int many), x, .un, .d (.int num), .un, .un] ∧ S' = ⟨C, i, two, t3, seed, cnt + 1, .law⟩) ?_ ?_
  · simp only [wp_seq, w_set, w_setO, w_m2, w_m1, w_var, varQ_d, w_c, w_nil, w_cons, w_cb, w_cbo, w_int, w_intB, w_abs, w_max, w_min, w_lenL, w_lenT, w_B, w_and, w_or, w_not, w_ifs, w_if, w_ret, w_retO, w_next, w_tup, w_lst, w_frz, w_andV, w_notV, stQ_st, w_st1, w_st2, w_st3, w_st4, w_st5, w_cells, w_stS, lawB_law, setQ1, setQ2, setQ3, setQ5, w_for, w_range1, rngQ_int, w_seqI, w_seqL, w_seqT, w_lc, w_call0, w_call1, stepQ_nx, stepQ_bk, stepQ_rt, wp_ok, wp_bad, sq_nx, sq_rt, sq_ro, wp_add, wp_sub, wp_lt, wp_le, wp_gt, wp_ge, wp_mul, wp_mod, wp_fdiv, wp_pow, wp_ix, wp_ixT, wp_toB, wp_noX, List.set_cons_zero, List.set_cons_succ, List.getElem?_cons_zero, List.getElem?_cons_succ, List.length_map, if_true, decide_eq_true_eq, Bool.false_eq_true, if_false]
    exact ⟨trivial, trivial⟩
  rintro _ _ ⟨rfl, rfl⟩
  rw [sq_nx]
  refine seq_cut (R := fun c S' => c = .nx [.st, .d (.int many), x, .un, .d (.int num), .d (.int 0), .un] ∧ S' = ⟨C, i, two, t3, seed, cnt + 1, .law⟩) ?_ ?_
  · simp only [wp_seq, w_set, w_setO, w_m2, w_m1, w_var, varQ_d, w_c, w_nil, w_cons, w_cb, w_cbo, w_int, w_intB, w_abs, w_max, w_min, w_lenL, w_lenT, w_B, w_and, w_or, w_not, w_ifs, w_if, w_ret, w_retO, w_next, w_tup, w_lst, w_frz, w_andV, w_notV, stQ_st, w_st1, w_st2, w_st3, w_st4, w_st5, w_cells, w_stS, lawB_law, setQ1, setQ2, setQ3, setQ5, w_for, w_range1, rngQ_int, w_seqI, w_seqL, w_seqT, w_lc, w_call0, w_call1, stepQ_nx, stepQ_bk, stepQ_rt, wp_ok, wp_bad, sq_nx, sq_rt, sq_ro, wp_add, wp_sub, wp_lt, wp_le, wp_gt, wp_ge, wp_mul, wp_mod, wp_fdiv, wp_pow, wp_ix, wp_ixT, wp_toB, wp_noX, List.set_cons_zero, List.set_cons_succ, List.getElem?_cons_zero, List.getElem?_cons_succ, List.length_map, if_true, decide_eq_true_eq, Bool.false_eq_true, if_false]
    exact ⟨trivial, trivial⟩
  rintro _ _ ⟨rfl, rfl⟩
  rw [sq_nx]
  refine seq_cut (R := fun c S' => (∃ (m : Int) (l : L), c = .nx [.st, .d (.int many), x, .un, .d (.int num), .d (.int m), l]) ∧ S' = ⟨C, i, two, t3, seed, cnt + 1, .law⟩) ?_ ?_
  · simp only [wp_seq, w_set, w_setO, w_m2, w_m1, w_var, varQ_d, w_c, w_nil, w_cons, w_cb, w_cbo, w_int, w_intB, w_abs, w_max, w_min, w_lenL, w_lenT, w_B, w_and, w_or, w_not, w_ifs, w_if, w_ret, w_retO, w_next, w_tup, w_lst, w_frz, w_andV, w_notV, stQ_st, w_st1, w_st2, w_st3, w_st4, w_st5, w_cells, w_stS, lawB_law, setQ1, setQ2, setQ3, setQ5, w_for, w_range1, rngQ_int, w_seqI, w_seqL, w_seqT, w_lc, w_call0, w_call1, stepQ_nx, stepQ_bk, stepQ_rt, wp_ok, wp_bad, sq_nx, sq_rt, sq_ro, wp_add, wp_sub, wp_lt, wp_le, wp_gt, wp_ge, wp_mul, wp_mod, wp_fdiv, wp_pow, wp_ix, wp_ixT, wp_toB, wp_noX, List.set_cons_zero, List.set_cons_succ, List.getElem?_cons_zero, List.getElem?_cons_succ, List.length_map, if_true, decide_eq_true_eq, Bool.false_eq_true, if_false]
    refine ⟨by decide, mulW (big (k := 2) (pb (by decide)) (by decide)) (big (k := 2) (pb (by split <;> decide)) (by decide)), ?_, ?_⟩
    · split <;> decide
    · refine forD_inv _ (fun k ρ S' => ∃ (m : Int) (l : L), (m.natAbs ≤ k * (2 ^ 80) ∨ True) ∧ m.natAbs < PB (100 * (k + 1)) ∧ ρ = [.st, .d (.int many), x, .un, .d (.int num), .d (.int m), l] ∧ S' = ⟨C, i, two, t3, seed, cnt + 1, .law⟩) _ _ ⟨0, .un, .inr trivial, pb (by decide), rfl, rfl⟩ ?_ ?_
      · rintro k d ρ S2 hk ⟨m, l, _, hm', rfl, rfl⟩
        have hk3 : k < 3 := by
          have := (List.getElem?_eq_some_iff.mp hk).1
          rw [rangeD_len] at this
          split at this <;> omega
        have hd : d = .int (0 + (k : Nat)) := by
          have hk' : k < _ := (List.getElem?_eq_some_iff.mp hk).1
          rw [rangeD_len] at hk'
          unfold rangeD at hk
          rw [List.getElem?_map, List.getElem?_range hk'] at hk
          cases hk; rfl
        subst hd
        refine ⟨_, rfl, ?_⟩
        simp only [wp_seq, w_set, w_setO, w_m2, w_m1, w_var, varQ_d, w_c, w_nil, w_cons, w_cb, w_cbo, w_int, w_intB, w_abs, w_max, w_min, w_lenL, w_lenT, w_B, w_and, w_or, w_not, w_ifs, w_if, w_ret, w_retO, w_next, w_tup, w_lst, w_frz, w_andV, w_notV, stQ_st, w_st1, w_st2, w_st3, w_st4, w_st5, w_cells, w_stS, lawB_law, setQ1, setQ2, setQ3, setQ5, w_for, w_range1, rngQ_int, w_seqI, w_seqL, w_seqT, w_lc, w_call0, w_call1, stepQ_nx, stepQ_bk, stepQ_rt, wp_ok, wp_bad, sq_nx, sq_rt, sq_ro, wp_add, wp_sub, wp_lt, wp_le, wp_gt, wp_ge, wp_mul, wp_mod, wp_fdiv, wp_pow, wp_ix, wp_ixT, wp_toB, wp_noX, List.set_cons_zero, List.set_cons_succ, List.getElem?_cons_zero, List.getElem?_cons_succ, List.length_map, if_true, decide_eq_true_eq, Bool.false_eq_true, if_false]
        have hPB : m.natAbs < B4000 := Nat.lt_of_lt_of_le hm' (PB.le (by omega))
        refine ⟨by decide, mulW hPB (big (k := 100) (pb (by decide)) (by decide)), mulW (big (k := 2) (pb (by decide)) (by decide)) (big (k := 100) (pb (by omega)) (by decide)), ?_⟩
        refine wp.mono (mixed_ok _ _ _ (Nat.lt_of_lt_of_le (pb n1) (PB.le (by decide))) (Nat.lt_of_lt_of_le (pb (k := 100) (by omega)) (PB.le (by decide)))) ?_
        rintro _ _ ⟨rfl, z, rfl, z1, z2⟩
        simp only [Res.toD]
        simp only [wp_seq, w_set, w_setO, w_m2, w_m1, w_var, varQ_d, w_c, w_nil, w_cons, w_cb, w_cbo, w_int, w_intB, w_abs, w_max, w_min, w_lenL, w_lenT, w_B, w_and, w_or, w_not, w_ifs, w_if, w_ret, w_retO, w_next, w_tup, w_lst, w_frz, w_andV, w_notV, stQ_st, w_st1, w_st2, w_st3, w_st4, w_st5, w_cells, w_stS, lawB_law, setQ1, setQ2, setQ3, setQ5, w_for, w_range1, rngQ_int, w_seqI, w_seqL, w_seqT, w_lc, w_call0, w_call1, stepQ_nx, stepQ_bk, stepQ_rt, wp_ok, wp_bad, sq_nx, sq_rt, sq_ro, wp_add, wp_sub, wp_lt, wp_le, wp_gt, wp_ge, wp_mul, wp_mod, wp_fdiv, wp_pow, wp_ix, wp_ixT, wp_toB, wp_noX, List.set_cons_zero, List.set_cons_succ, List.getElem?_cons_zero, List.getElem?_cons_succ, List.length_map, if_true, decide_eq_true_eq, Bool.false_eq_true, if_false]
        refine ⟨_, _, .inr trivial, ?_, rfl, trivial⟩
        have e : PB (100 * (k + 1 + 1)) = PB (100 * (k + 1)) * 2 ^ 100 := by
          unfold PB; rw [← Nat.pow_add, show 100 * (k + 1 + 1) = 100 * (k + 1) + 100 by omega]
        rw [e]
        have h10 : (m * 10 ^ Int.toNat 18).natAbs = m.natAbs * 10 ^ 18 := by rw [Int.natAbs_mul]; rfl
        have h11 : (m * 10 ^ Int.toNat 18 + z).natAbs ≤ m.natAbs * 10 ^ 18 + z.natAbs := by rw [← h10]; exact Int.natAbs_add_le _ _
        have h12 : z.natAbs < 10 ^ 18 * 2 := by omega
        have h13 : 1 ≤ PB (100 * (k + 1)) := Nat.one_le_two_pow
        have h14 : m.natAbs * 10 ^ 18 ≤ PB (100 * (k + 1)) * 10 ^ 18 := Nat.mul_le_mul_right _ (Nat.le_of_lt hm')
        omega
      · rintro ρ S2 ⟨m, l, _, _, rfl, rfl⟩
        exact ⟨⟨m, l, rfl⟩, rfl⟩
  rintro _ _ ⟨⟨m, l, rfl⟩, rfl⟩
  rw [sq_nx]
  simp only [wp_seq, w_set, w_setO, w_m2, w_m1, w_var, varQ_d, w_c, w_nil, w_cons, w_cb, w_cbo, w_int, w_intB, w_abs, w_max, w_min, w_lenL, w_lenT, w_B, w_and, w_or, w_not, w_ifs, w_if, w_ret, w_retO, w_next, w_tup, w_lst, w_frz, w_andV, w_notV, stQ_st, w_st1, w_st2, w_st3, w_st4, w_st5, w_cells, w_stS, lawB_law, setQ1, setQ2, setQ3, setQ5, w_for, w_range1, rngQ_int, w_seqI, w_seqL, w_seqT, w_lc, w_call0, w_call1, stepQ_nx, stepQ_bk, stepQ_rt, wp_ok, wp_bad, sq_nx, sq_rt, sq_ro, wp_add, wp_sub, wp_lt, wp_le, wp_gt, wp_ge, wp_mul, wp_mod, wp_fdiv, wp_pow, wp_ix, wp_ixT, wp_toB, wp_noX, List.set_cons_zero, List.set_cons_succ, List.getElem?_cons_zero, List.getElem?_cons_succ, List.length_map, if_true, decide_eq_true_eq, Bool.false_eq_true, if_false]
  refine ⟨hp, ⟨rfl, h1, h2, h3, by dsimp only; omega, by dsimp only; omega, fun h => h6 (n3 h)⟩, _, rfl, Int.emod_nonneg _ (by omega), fun _ => Int.emod_lt_of_pos _ hp, fun h => by omega⟩
end K23

set_option Elab.async false
set_option linter.all false
set_option maxRecDepth 100000
set_option maxHeartbeats 4000000
set_option autoImplicit false
namespace K23
open PySem PySem.Spec L2 DL
/-! ### the seed of the store -/
theorem seed_ok (ns : List Int) (hl : ns.length ≤ 63) : ∃ seed : Int, seed.natAbs < 2 ^ 70 ∧ ∃ S, b_store [.un, .d (.lst (ns.map DL.D.int)), .un, .un] sto0 = .ok (.ro [.lst (ns.map DL.D.int), .int 0, .int 0, .int 0, .int seed, .int 0]) S := by
  have h : wp (b_store [.un, .d (.lst (ns.map DL.D.int)), .un, .un] sto0) fun c S => ∃ seed : Int, seed.natAbs < 2 ^ 70 ∧ c = .ro [.lst (ns.map DL.D.int), .int 0, .int 0, .int 0, .int seed, .int 0] := by
    unfold b_store
    simp only [wp_seq, w_set, w_setO, w_m2, w_m1, w_var, varQ_d, w_c, w_nil, w_cons, w_cb, w_cbo, w_int, w_intB, w_abs, w_max, w_min, w_lenL, w_lenT, w_B, w_and, w_or, w_not, w_ifs, w_if, w_ret, w_retO, w_next, w_tup, w_lst, w_frz, w_andV, w_notV, stQ_st, w_st1, w_st2, w_st3, w_st4, w_st5, w_cells, w_stS, lawB_law, setQ1, setQ2, setQ3, setQ5, w_for, w_range1, rngQ_int, w_seqI, w_seqL, w_seqT, w_lc, w_call0, w_call1, stepQ_nx, stepQ_bk, stepQ_rt, wp_ok, wp_bad, sq_nx, sq_rt, sq_ro, wp_add, wp_sub, wp_lt, wp_le, wp_gt, wp_ge, wp_mul, wp_mod, wp_fdiv, wp_pow, wp_ix, wp_ixT, wp_toB, wp_noX, List.set_cons_zero, List.set_cons_succ, List.getElem?_cons_zero, List.getElem?_cons_succ, List.length_map, if_true, decide_eq_true_eq, Bool.false_eq_true, if_false]
    refine ⟨mulW (big (k := 100) (pb (by decide)) (by decide)) (big (k := 100) (pb (by omega)) (by decide)), ?_⟩
    refine forD_inv _ (fun k ρ S' => ∃ (m : Int) (l : L), m.natAbs < 2 ^ 70 ∧ ρ = [.un, .d (.lst (ns.map DL.D.int)), .d (.int m), l]) _ _ ⟨_, .un, ?_, rfl⟩ ?_ ?_
    · omega
    · rintro k d ρ S2 hk ⟨m, l, hm, rfl⟩
      rw [List.getElem?_map] at hk
      cases q : ns[k]? with
      | none => rw [q] at hk; cases hk
      | some z =>
        rw [q] at hk
        cases hk
        refine ⟨_, rfl, ?_⟩
        simp only [wp_seq, w_set, w_setO, w_m2, w_m1, w_var, varQ_d, w_c, w_nil, w_cons, w_cb, w_cbo, w_int, w_intB, w_abs, w_max, w_min, w_lenL, w_lenT, w_B, w_and, w_or, w_not, w_ifs, w_if, w_ret, w_retO, w_next, w_tup, w_lst, w_frz, w_andV, w_notV, stQ_st, w_st1, w_st2, w_st3, w_st4, w_st5, w_cells, w_stS, lawB_law, setQ1, setQ2, setQ3, setQ5, w_for, w_range1, rngQ_int, w_seqI, w_seqL, w_seqT, w_lc, w_call0, w_call1, stepQ_nx, stepQ_bk, stepQ_rt, wp_ok, wp_bad, sq_nx, sq_rt, sq_ro, wp_add, wp_sub, wp_lt, wp_le, wp_gt, wp_ge, wp_mul, wp_mod, wp_fdiv, wp_pow, wp_ix, wp_ixT, wp_toB, wp_noX, List.set_cons_zero, List.set_cons_succ, List.getElem?_cons_zero, List.getElem?_cons_succ, List.length_map, if_true, decide_eq_true_eq, Bool.false_eq_true, if_false]
        refine ⟨mulW (big (k := 100) (pb (by omega)) (by decide)) (big (k := 100) (pb (by decide)) (by decide)), by decide, _, _, ?_, rfl⟩
        have := modB (m * 1000003 + z) 2305843009213693951 (by decide)
        omega
    · rintro ρ S2 ⟨m, l, hm, rfl⟩
      rw [sq_nx]
      simp only [wp_seq, w_set, w_setO, w_m2, w_m1, w_var, varQ_d, w_c, w_nil, w_cons, w_cb, w_cbo, w_int, w_intB, w_abs, w_max, w_min, w_lenL, w_lenT, w_B, w_and, w_or, w_not, w_ifs, w_if, w_ret, w_retO, w_next, w_tup, w_lst, w_frz, w_andV, w_notV, stQ_st, w_st1, w_st2, w_st3, w_st4, w_st5, w_cells, w_stS, lawB_law, setQ1, setQ2, setQ3, setQ5, w_for, w_range1, rngQ_int, w_seqI, w_seqL, w_seqT, w_lc, w_call0, w_call1, stepQ_nx, stepQ_bk, stepQ_rt, wp_ok, wp_bad, sq_nx, sq_rt, sq_ro, wp_add, wp_sub, wp_lt, wp_le, wp_gt, wp_ge, wp_mul, wp_mod, wp_fdiv, wp_pow, wp_ix, wp_ixT, wp_toB, wp_noX, List.set_cons_zero, List.set_cons_succ, List.getElem?_cons_zero, List.getElem?_cons_succ, List.length_map, if_true, decide_eq_true_eq, Bool.false_eq_true, if_false]
      exact ⟨rfl, m, hm, rfl⟩
  obtain ⟨c, S, e, seed, hs, rfl⟩ := h.get
  exact ⟨seed, hs, S, e⟩
/-! ### labels -/
inductive Lb where
  | i (n : Int) | t (xs : List Int)
deriving DecidableEq
def labD : Lb → D
  | .i n => .int n
  | .t xs => .tup (xs.map .int)
theorem ints_lay : ∀ xs : List Int, PyData.canLayAll0 (toPs (xs.map D.int)) = true ∧ PyData.depthAll (toPs (xs.map D.int)) = 0 ∧ isPs (xs.map D.int) = true
  | [] => ⟨by simp [toPs, PyData.canLayAll0], by simp [toPs, PyData.depthAll], by simp [isPs]⟩
  | x :: xs => by
    obtain ⟨a, b, c⟩ := ints_lay xs
    refine ⟨?_, ?_, ?_⟩
    · rw [List.map_cons, toPs, toP, PyData.canLayAll0, a, PyData.canLay0]; rfl
    · rw [List.map_cons, toPs, toP, PyData.depthAll, b, PyData.depth]; rfl
    · simp only [List.map_cons, isPs, isP, c, Bool.and_self]
theorem ints_eqv : ∀ xs ys : List Int, PyData.eqvAll (toPs (xs.map D.int)) (toPs (ys.map D.int)) = decide (xs = ys)
  | [], [] => by simp [toPs, PyData.eqvAll]
  | [], y :: ys => by simp [toPs, toP, PyData.eqvAll]
  | x :: xs, [] => by simp [toPs, toP, PyData.eqvAll]
  | x :: xs, y :: ys => by
    rw [List.map_cons, List.map_cons, toPs, toPs, toP, toP, PyData.eqvAll, ints_eqv xs ys, PyData.eqv]
    by_cases h1 : x = y <;> by_cases h2 : xs = ys <;> simp [h1, h2]
theorem lab_shp (a : Lb) : shp (labD a) = true := by
  unfold shp SeqAt.shaped
  cases a with
  | i n => simp [labD, isP, toP, PyData.canLay0, PyData.depth]
  | t xs =>
    obtain ⟨a, b, c⟩ := ints_lay xs
    simp [labD, isP, toP, PyData.canLay0, PyData.depth, a, b, c]
theorem lab_eq (a b : Lb) : eqB (labD a) (labD b) = decide (a = b) := by
  unfold eqB
  cases a <;> cases b
  · rename_i m n
    by_cases h : m = n <;> simp [labD, toP, PyData.eqv, h]
  · simp [labD, toP, PyData.eqv]
  · simp [labD, toP, PyData.eqv]
  · rename_i xs ys
    simp only [labD, toP, PyData.eqv, ints_eqv]
    by_cases h : xs = ys <;> simp [h]
theorem wp_eqL {a b : Lb} {S : Sto} {Q : D → Sto → Prop} : wp (gEq (labD a) (labD b) S) Q = Q (.bl (decide (a = b))) S := by
  unfold gEq pure2 eq2
  rw [if_pos ⟨lab_shp a, lab_shp b⟩, lab_eq]
  exact wp_ok
theorem wp_eqI {i j : Int} {S : Sto} {Q : D → Sto → Prop} : wp (gEq (.int i) (.int j) S) Q = Q (.bl (decide (i = j))) S := by
  have := wp_eqL (a := .i i) (b := .i j) (S := S) (Q := Q)
  simpa [labD] using this
theorem wp_neI {i j : Int} {S : Sto} {Q : D → Sto → Prop} : wp (gNe (.int i) (.int j) S) Q = Q (.bl (decide (i ≠ j))) S := by
  unfold gNe pure2 ne2
  rw [if_pos ⟨lab_shp (.i i), lab_shp (.i j)⟩, show eqB (.int i) (.int j) = _ from lab_eq (.i i) (.i j)]
  show wp (.ok _ S) Q = _
  rw [wp_ok]
  by_cases h : i = j <;> simp [h]
/-! ### the first equal place -/
def fi (a : Lb) : List Lb → Nat
  | [] => 0
  | b :: r => if b = a then 0 else fi a r + 1
theorem fi_at : ∀ (L : List Lb) (k : Nat) (a : Lb), L[k]? = some a → fi a L ≤ k ∧ L[fi a L]? = some a
  | [], k, a, h => by simp at h
  | b :: r, k, a, h => by
    unfold fi
    by_cases c : b = a
    · rw [if_pos c]; exact ⟨Nat.zero_le _, by simp [c]⟩
    · rw [if_neg c]
      cases k with
      | zero => simp at h; exact absurd h c
      | succ k =>
        obtain ⟨h1, h2⟩ := fi_at r k a (by simpa using h)
        exact ⟨by omega, by simpa using h2⟩
theorem fi_eq : ∀ (L : List Lb) (j : Nat) (a : Lb), L[j]? = some a → (∀ i, i < j → L[i]? ≠ some a) → fi a L = j
  | [], j, a, h, _ => by simp at h
  | b :: r, j, a, h, n => by
    unfold fi
    cases j with
    | zero => simp at h; rw [if_pos h]
    | succ j =>
      have c : b ≠ a := fun e => n 0 (by omega) (by simp [e])
      rw [if_neg c, fi_eq r j a (by simpa using h) fun i hi e => n (i + 1) (by omega) (by simpa using e)]
def cn (L : List Lb) : List Nat := L.map fun a => fi a L
/-- names that are the first plots of their lots -/
def Cn (ns : List Nat) : Prop := ∀ (k v : Nat), ns[k]? = some v → v ≤ k ∧ ns[v]? = some v
theorem cn_Cn (L : List Lb) : Cn (cn L) := fun k v h => by
  unfold cn at h ⊢
  rw [List.getElem?_map] at h
  cases q : L[k]? with
  | none => rw [q] at h; cases h
  | some a =>
    rw [q] at h
    cases h
    obtain ⟨h1, h2⟩ := fi_at L k a q
    exact ⟨h1, by rw [List.getElem?_map, h2]; rfl⟩
def inD (n : Nat) : D := .int (n : Int)
def nmD (ns : List Nat) : D := .tup (ns.map inD)
theorem rangeD_at {n k : Nat} {d : D} (h : (rangeD 0 n)[k]? = some d) : k < n ∧ d = .int (k : Nat) := by
  have hk := (List.getElem?_eq_some_iff.mp h).1
  rw [rangeD_len] at hk
  refine ⟨hk, ?_⟩
  unfold rangeD at h
  rw [List.getElem?_map, List.getElem?_range hk] at h
  cases h
  show D.int (0 + (k : Nat)) = _
  rw [Int.zero_add]
theorem atL {xs : List D} {k : Nat} {d : D} (h : xs[k]? = some d) : atI xs (k : Nat) = some d := atI_nat h
theorem canon_ok (Ls : List Lb) (ds : List D) (hds : Ls.map labD = ds) (S : Sto) (hl : Ls.length ≤ 90) : wp (m_law_canon [.lst ds] S) fun r S' => S' = S ∧ r = .d (nmD (cn Ls)) := by
  have hlen : ds.length = Ls.length := by rw [← hds, List.length_map]
  have hat : ∀ (k : Nat) (a : Lb), Ls[k]? = some a → ds[k]? = some (labD a) := fun k a h => by rw [← hds, List.getElem?_map, h]; rfl
  clear hds
  have hIx : ∀ (i : Int) (S : Sto) (Q : D → Sto → Prop), wp (gIx (D.lst ds) (.int i) S) Q = ∃ d, atI ds i = some d ∧ Q d S := fun i S Q => wp_ix
  have hLn : ∀ (S : Sto) (Q : D → Sto → Prop), wp (pureC lenC [D.lst ds] S) Q = Q (.int Ls.length) S := fun S Q => by rw [w_lenL, hlen]
  generalize D.lst ds = LD at *
  refine wp_run [.d LD, .un, .un, .un, .un] rfl ?_
  unfold b_law_canon
  simp only [wp_seq, w_set, w_setO, w_m2, w_m1, w_var, varQ_d, w_c, w_nil, w_cons, w_cb, w_cbo, w_int, w_intB, w_abs, w_max, w_min, w_lenL, w_lenT, w_B, w_and, w_or, w_not, w_ifs, w_if, w_ret, w_retO, w_next, w_tup, w_lst, w_frz, w_andV, w_notV, stQ_st, w_st1, w_st2, w_st3, w_st4, w_st5, w_cells, w_stS, lawB_law, setQ1, setQ2, setQ3, setQ5, w_for, w_range1, rngQ_int, w_seqI, w_seqL, w_seqT, w_lc, w_call0, w_call1, stepQ_nx, stepQ_bk, stepQ_rt, wp_ok, wp_bad, sq_nx, sq_rt, sq_ro, wp_add, wp_sub, wp_lt, wp_le, wp_gt, wp_ge, wp_mul, wp_mod, wp_fdiv, wp_pow, wp_ix, wp_ixT, wp_toB, wp_noX, List.set_cons_zero, List.set_cons_succ, List.getElem?_cons_zero, List.getElem?_cons_succ, List.length_map, if_true, decide_eq_true_eq, Bool.false_eq_true, if_false]
  rw [hLn]
  simp only [wp_seq, w_set, w_setO, w_m2, w_m1, w_var, varQ_d, w_c, w_nil, w_cons, w_cb, w_cbo, w_int, w_intB, w_abs, w_max, w_min, w_lenL, w_lenT, w_B, w_and, w_or, w_not, w_ifs, w_if, w_ret, w_retO, w_next, w_tup, w_lst, w_frz, w_andV, w_notV, stQ_st, w_st1, w_st2, w_st3, w_st4, w_st5, w_cells, w_stS, lawB_law, setQ1, setQ2, setQ3, setQ5, w_for, w_range1, rngQ_int, w_seqI, w_seqL, w_seqT, w_lc, w_call0, w_call1, stepQ_nx, stepQ_bk, stepQ_rt, wp_ok, wp_bad, sq_nx, sq_rt, sq_ro, wp_add, wp_sub, wp_lt, wp_le, wp_gt, wp_ge, wp_mul, wp_mod, wp_fdiv, wp_pow, wp_ix, wp_ixT, wp_toB, wp_noX, List.set_cons_zero, List.set_cons_succ, List.getElem?_cons_zero, List.getElem?_cons_succ, List.length_map, if_true, decide_eq_true_eq, Bool.false_eq_true, if_false]
  refine ⟨rfl, by unfold okR; simp; omega, ?_⟩
  have hcl : (cn Ls).length = Ls.length := by unfold cn; rw [List.length_map]
  generalize hcn : cn Ls = C at *
  refine forD_inv _ (fun k ρ S' => S' = S ∧ ∃ l2 l3 l4, ρ = [.d LD, .own ((C.take k).map inD), l2, l3, l4]) _ _ ⟨rfl, .un, .un, .un, rfl⟩ ?_ ?_
  · rintro k d ρ S2 hk ⟨rfl, l2, l3, l4, rfl⟩
    obtain ⟨hk, rfl⟩ := rangeD_at hk
    have hk : k < Ls.length := by omega
    refine ⟨_, rfl, ?_⟩
    have hLk : Ls[k]? = some Ls[k] := List.getElem?_eq_getElem hk
    have hDk := hat _ _ hLk
    simp only [wp_seq, w_set, w_setO, w_m2, w_m1, w_var, varQ_d, w_c, w_nil, w_cons, w_cb, w_cbo, w_int, w_intB, w_abs, w_max, w_min, w_lenL, w_lenT, w_B, w_and, w_or, w_not, w_ifs, w_if, w_ret, w_retO, w_next, w_tup, w_lst, w_frz, w_andV, w_notV, stQ_st, w_st1, w_st2, w_st3, w_st4, w_st5, w_cells, w_stS, lawB_law, setQ1, setQ2, setQ3, setQ5, w_for, w_range1, rngQ_int, w_seqI, w_seqL, w_seqT, w_lc, w_call0, w_call1, stepQ_nx, stepQ_bk, stepQ_rt, wp_ok, wp_bad, sq_nx, sq_rt, sq_ro, wp_add, wp_sub, wp_lt, wp_le, wp_gt, wp_ge, wp_mul, wp_mod, wp_fdiv, wp_pow, wp_ix, wp_ixT, wp_toB, wp_noX, List.set_cons_zero, List.set_cons_succ, List.getElem?_cons_zero, List.getElem?_cons_succ, List.length_map, if_true, decide_eq_true_eq, Bool.false_eq_true, if_false]
    refine ⟨by unfold okR; simp; omega, ?_⟩
    have fin : ∀ l4, wp (mApp 1 (mVar 3) [.d LD, .own ((C.take k).map inD), .d (.int (k : Nat)), .d (.int (fi Ls[k] Ls : Nat)), l4] S2) (stepQ (fun ρ S' => S' = S2 ∧ ∃ l2 l3 l4, ρ = [.d LD, .own ((C.take (k + 1)).map inD), l2, l3, l4]) (sq (mRet (mTupO 1)) fun c S' => match c with
          | .rt d => S' = S2 ∧ Res.d d = Res.d (nmD C)
          | .ro xs => S' = S2 ∧ Res.own xs = Res.d (nmD C)
          | .nx ρ => S' = S2 ∧ Res.d D.non = Res.d (nmD C)
          | _ => False)) := fun l4 => by
      rw [w_app (xs := (C.take k).map inD) (by rfl)]
      simp only [wp_seq, w_set, w_setO, w_m2, w_m1, w_var, varQ_d, w_c, w_nil, w_cons, w_cb, w_cbo, w_int, w_intB, w_abs, w_max, w_min, w_lenL, w_lenT, w_B, w_and, w_or, w_not, w_ifs, w_if, w_ret, w_retO, w_next, w_tup, w_lst, w_frz, w_andV, w_notV, stQ_st, w_st1, w_st2, w_st3, w_st4, w_st5, w_cells, w_stS, lawB_law, setQ1, setQ2, setQ3, setQ5, w_for, w_range1, rngQ_int, w_seqI, w_seqL, w_seqT, w_lc, w_call0, w_call1, stepQ_nx, stepQ_bk, stepQ_rt, wp_ok, wp_bad, sq_nx, sq_rt, sq_ro, wp_add, wp_sub, wp_lt, wp_le, wp_gt, wp_ge, wp_mul, wp_mod, wp_fdiv, wp_pow, wp_ix, wp_ixT, wp_toB, wp_noX, List.set_cons_zero, List.set_cons_succ, List.getElem?_cons_zero, List.getElem?_cons_succ, List.length_map, if_true, decide_eq_true_eq, Bool.false_eq_true, if_false]
      have hc : C[k]? = some (fi Ls[k] Ls) := by rw [← hcn]; unfold cn; rw [List.getElem?_map, hLk]; rfl
      have hx : (C.take (k + 1)).map inD = (C.take k).map inD ++ [.int (fi Ls[k] Ls : Nat)] := by
        rw [List.take_add_one, hc]; simp [inD]
      rw [hx]
      exact ⟨by simp [line]; omega, trivial, _, _, _, rfl⟩
    refine forD_inv _ (fun j ρ S' => S' = S2 ∧ (∀ i, i < j → Ls[i]? ≠ some Ls[k]) ∧ ∃ l4, ρ = [.d LD, .own ((C.take k).map inD), .d (.int (k : Nat)), .d (.int (k : Nat)), l4]) _ _ ⟨rfl, fun i h => by omega, l4, rfl⟩ ?_ ?_
    · rintro j d ρ S3 hj ⟨rfl, no, l4, rfl⟩
      obtain ⟨hj, rfl⟩ := rangeD_at hj
      have hj : j < k := by omega
      refine ⟨_, rfl, ?_⟩
      have hLj : Ls[j]? = some Ls[j] := List.getElem?_eq_getElem (by omega)
      simp only [wp_seq, w_set, w_setO, w_m2, w_m1, w_var, varQ_d, w_c, w_nil, w_cons, w_cb, w_cbo, w_int, w_intB, w_abs, w_max, w_min, w_lenL, w_lenT, w_B, w_and, w_or, w_not, w_ifs, w_if, w_ret, w_retO, w_next, w_tup, w_lst, w_frz, w_andV, w_notV, stQ_st, w_st1, w_st2, w_st3, w_st4, w_st5, w_cells, w_stS, lawB_law, setQ1, setQ2, setQ3, setQ5, w_for, w_range1, rngQ_int, w_seqI, w_seqL, w_seqT, w_lc, w_call0, w_call1, stepQ_nx, stepQ_bk, stepQ_rt, wp_ok, wp_bad, sq_nx, sq_rt, sq_ro, wp_add, wp_sub, wp_lt, wp_le, wp_gt, wp_ge, wp_mul, wp_mod, wp_fdiv, wp_pow, wp_ix, wp_ixT, wp_toB, wp_noX, List.set_cons_zero, List.set_cons_succ, List.getElem?_cons_zero, List.getElem?_cons_succ, List.length_map, if_true, decide_eq_true_eq, Bool.false_eq_true, if_false]
      rw [hIx]
      refine ⟨labD Ls[j], atL (hat _ _ hLj), ?_⟩
      rw [hIx]
      refine ⟨labD Ls[k], atL hDk, ?_⟩
      rw [wp_eqL]
      simp only [wp_seq, w_set, w_setO, w_m2, w_m1, w_var, varQ_d, w_c, w_nil, w_cons, w_cb, w_cbo, w_int, w_intB, w_abs, w_max, w_min, w_lenL, w_lenT, w_B, w_and, w_or, w_not, w_ifs, w_if, w_ret, w_retO, w_next, w_tup, w_lst, w_frz, w_andV, w_notV, stQ_st, w_st1, w_st2, w_st3, w_st4, w_st5, w_cells, w_stS, lawB_law, setQ1, setQ2, setQ3, setQ5, w_for, w_range1, rngQ_int, w_seqI, w_seqL, w_seqT, w_lc, w_call0, w_call1, stepQ_nx, stepQ_bk, stepQ_rt, wp_ok, wp_bad, sq_nx, sq_rt, sq_ro, wp_add, wp_sub, wp_lt, wp_le, wp_gt, wp_ge, wp_mul, wp_mod, wp_fdiv, wp_pow, wp_ix, wp_ixT, wp_toB, wp_noX, List.set_cons_zero, List.set_cons_succ, List.getElem?_cons_zero, List.getElem?_cons_succ, List.length_map, if_true, decide_eq_true_eq, Bool.false_eq_true, if_false]
      by_cases c : Ls[j] = Ls[k]
      · rw [if_pos c]
        unfold mBreak
        rw [wp_ok, stepQ_bk, sq_nx]
        have := fin (.d (.int (j : Nat)))
        rw [fi_eq Ls j Ls[k] (by rw [hLj, c]) no] at this
        exact this
      · rw [if_neg c]
        refine ⟨trivial, fun i hi => ?_, _, rfl⟩
        by_cases z : i = j
        · subst z; rw [hLj]; exact fun e => c (Option.some.inj e)
        · exact no i (by omega)
    · rintro ρ S3 ⟨rfl, no, l4, rfl⟩
      rw [rangeD_len] at no
      rw [sq_nx]
      have := fin l4
      rw [fi_eq Ls k _ hLk (by simpa using no)] at this
      exact this
  · rintro ρ S2 ⟨rfl, l2, l3, l4, rfl⟩
    rw [sq_nx]
    have e : C.take (rangeD 0 ((Ls.length : Int)).toNat).length = C := by
      rw [rangeD_len]
      exact List.take_of_length_le (by omega)
    rw [e, w_ret, w_tupO rfl]
    exact ⟨rfl, rfl⟩
end K23

set_option Elab.async false
set_option linter.all false
set_option maxRecDepth 100000
set_option maxHeartbeats 4000000
set_option autoImplicit false
namespace K23
open PySem PySem.Spec L2 DL
theorem Inv.mono {S : Sto} {n m : Int} (h : Inv S n) (k : n ≤ m) : Inv S m := by
  obtain ⟨a, b, c, d, e, f, g⟩ := h
  exact ⟨a, b, c, d, e, by omega, g⟩
theorem w_takeC {i : Nat} {ρ : List L} {S : Sto} {m : Int} {n : Int} {Q : D → Sto → Prop} {φ : Ph D} (hst : ρ[i]? = some .st) (hφ : φ ρ S = .ok (.int m) S) (hm : m.natAbs < 2 ^ 100) (hn : n < 2 ^ 60) (h : Inv S n)
    (q : ∀ (z : Int) (S' : Sto), Inv S' (n + 1) → 0 ≤ z → (2 ≤ m → z < m) → (m < 2 → z = 0) → Q (.int z) S') : wp (mCall1 m_law_take i (mCons φ mNil) ρ S) Q := by
  rw [w_call1, hst]
  show wp _ _
  rw [w_cons]
  refine wp.of hφ ?_
  rw [w_nil]
  refine wp.mono (take_ok S n m hm hn h) ?_
  rintro _ S' ⟨i1, z, rfl, z1, z2, z3⟩
  exact q z S' i1 z1 z2 z3
/-- names of so many plots -/
structure Nm (ns : List Nat) (p : Nat) : Prop where
  cn : Cn ns
  len : ns.length = p
theorem cn_len (L : List Lb) : (cn L).length = L.length := by unfold cn; rw [List.length_map]
theorem comp_lab {P : Int} {ρ : List L} {S : Sto} {n : Int} {φe : Ph D} {i v : Nat} (hρ : ρ[v]? = some (.d (.int P))) (hw : ρ.set i .un = ρ) (hp0 : 0 ≤ P) (hp : P ≤ 100) (h : Inv S n)
    (he : ∀ (z : Int) (S : Sto) (m : Int), 0 ≤ z → z < P → Inv S m → m ≤ n + 100 → wp (φe (ρ.set i (.d (.int z))) S) fun x S' => (∃ a : Lb, x = labD a) ∧ Inv S' (m + 1)) :
    wp (mLc (.one i) [i] (mRange1 (mCons (mVar v) mNil)) mYes φe ρ S) fun xs S' => ∃ Ls : List Lb, xs = Ls.map labD ∧ Ls.length = P.toNat ∧ Inv S' (n + P) := by
  rw [w_lc, w_range1, w_cons, w_var, hρ, varQ_d, w_nil, rngQ_int]
  refine ⟨by unfold okR; simp; omega, by rw [rangeD_len]; simp only [line, decide_eq_true_eq]; omega, ?_⟩
  show wp (compD _ _ _ _ (ρ.set i .un) _) _
  rw [hw]
  refine comp_inv _ (fun k xs S' => ∃ Ls : List Lb, xs = Ls.map labD ∧ Ls.length = k ∧ Inv S' (n + k)) _ _ ⟨[], rfl, rfl, by simpa using h⟩ ?_ ?_
  · rintro k d xs S2 hk hl ⟨Ls, rfl, hL, hi⟩
    obtain ⟨hk, rfl⟩ := rangeD_at hk
    refine ⟨_, rfl, ?_⟩
    refine wp.mono (he (k : Nat) S2 _ (by omega) (by omega) hi (by omega)) ?_
    rintro _ S3 ⟨⟨a, rfl⟩, i3⟩
    refine ⟨Ls ++ [a], by simp, by simp [hL], ?_⟩
    exact i3.mono (by omega)
  · rintro xs S2 hl ⟨Ls, rfl, hL, hi⟩
    rw [rangeD_len] at hL hi
    exact ⟨Ls, rfl, hL, hi.mono (by omega)⟩
theorem ret_canon {ρ : List L} {S : Sto} {φ : Ph (List D)} {Q : Ctl → Sto → Prop} (h : wp (φ ρ S) fun xs S' => ∃ Ls : List Lb, xs = Ls.map labD ∧ Ls.length ≤ 90 ∧ Q (.rt (nmD (cn Ls))) S') : wp (mRet (mCall0 m_law_canon [] (mCons (mFrz φ) mNil)) ρ S) Q := by
  rw [w_ret, w_call0, w_cons, w_frz]
  refine wp.mono h ?_
  intro xs S' hh
  simp only [w_nil]
  obtain ⟨Ls, e, hl, q⟩ := hh
  obtain ⟨r, S2, e2, e3, e4⟩ := (canon_ok Ls xs e.symm sto0 hl).get
  rw [e2, wp_ok, e4]
  exact q
theorem nm_range (p : Nat) : Nm (List.range p) p := ⟨fun k v h => by
  have hk : k < p := by have := (List.getElem?_eq_some_iff.mp h).1; simpa using this
  rw [List.getElem?_range hk] at h
  cases h
  exact ⟨Nat.le_refl _, List.getElem?_range hk⟩, List.length_range⟩
theorem range_nm (p : Nat) : D.tup (rangeD 0 p) = nmD (List.range p) := by
  unfold rangeD nmD
  congr 1
  refine List.map_congr_left fun k _ => ?_
  show D.int (0 + (k : Nat)) = .int (k : Nat)
  rw [Int.zero_add]
theorem parting_ok (S : Sto) (n P : Int) (hp1 : 1 ≤ P) (hp : P ≤ 16) (hn : n < 2 ^ 50) (h : Inv S n) : wp (m_law_parting [.int P] S) fun r S' => Inv S' (n + 40) ∧ ∃ ns, r = .d (nmD ns) ∧ Nm ns P.toNat := by
  refine wp_run [.st, .d (.int P), .un, .un, .un] rfl ?_
  unfold b_law_parting
  rw [wp_seq, w_set]
  refine w_takeC rfl rfl (by decide) (by omega) h fun kind S1 h1 k1 k2 k3 => ?_
  rw [sq_nx, wp_seq, w_set, w_m2, w_c]
  refine w_takeC rfl rfl (by omega) (by omega) h1 fun t S2 h2 t1 t2 t3 => ?_
  rw [wp_add, sq_nx]
  have hs1 : 1 ≤ 1 + t := by omega
  have hs2 : 1 + t ≤ 100 := by omega
  generalize 1 + t = sz at *
  simp only [List.set_cons_zero, List.set_cons_succ]
  have go : ∀ (φe : Ph D) (sz' : Int), (∀ (z : Int) (S : Sto) (m : Int), 0 ≤ z → z < P → Inv S m → m ≤ n + 1 + 1 + 100 → wp (φe [.st, .d (.int P), .d (.int kind), .d (.int sz'), .d (.int z)] S) fun x S' => (∃ a : Lb, x = labD a) ∧ Inv S' (m + 1)) →
      wp (mRet (mCall0 m_law_canon [] (mCons (mFrz (mLc (.one 4) [4] (mRange1 (mCons (mVar 1) mNil)) mYes φe)) mNil)) [.st, .d (.int P), .d (.int kind), .d (.int sz'), .un] S2) fun c S' => ∃ d, c = .rt d ∧ Inv S' (n + 40) ∧ ∃ ns, Res.d d = Res.d (nmD ns) ∧ Nm ns P.toNat := fun φe sz' he => ret_canon (wp.mono (comp_lab (n := n + 1 + 1) rfl rfl (by omega) (by omega) h2 he) (by
      rintro _ S3 ⟨Ls, rfl, hl, hi⟩
      exact ⟨Ls, rfl, by omega, _, rfl, hi.mono (by omega), _, rfl, cn_Cn Ls, by rw [cn_len, hl]⟩))
  have lab : ∀ z : Int, ∃ a : Lb, D.int z = labD a := fun z => ⟨.i z, rfl⟩
  have tst : ∀ (z : Int) (φ ψ : Ph Ctl) (Q : Ctl → Sto → Prop), wp (mIfS (mB (m2 gEq (mVar 2) (mC (.int z)))) φ ψ [.st, .d (.int P), .d (.int kind), .d (.int sz), .un] S2) Q = if kind = z then wp (φ [.st, .d (.int P), .d (.int kind), .d (.int sz), .un] S2) Q else wp (ψ [.st, .d (.int P), .d (.int kind), .d (.int sz), .un] S2) Q := fun z φ ψ Q => by simp only [wp_seq, w_set, w_setO, w_m2, w_m1, w_var, varQ_d, w_c, w_nil, w_cons, w_cb, w_cbo, w_int, w_intB, w_abs, w_max, w_min, w_lenL, w_lenT, w_B, w_and, w_or, w_not, w_ifs, w_if, w_ret, w_retO, w_next, w_tup, w_lst, w_frz, w_andV, w_notV, stQ_st, w_st1, w_st2, w_st3, w_st4, w_st5, w_cells, w_stS, lawB_law, setQ1, setQ2, setQ3, setQ5, w_for, w_range1, rngQ_int, w_seqI, w_seqL, w_seqT, w_lc, w_call0, w_call1, stepQ_nx, stepQ_bk, stepQ_rt, wp_ok, wp_bad, sq_nx, sq_rt, sq_ro, wp_add, wp_sub, wp_lt, wp_le, wp_gt, wp_ge, wp_mul, wp_mod, wp_fdiv, wp_pow, wp_ix, wp_ixT, wp_toB, wp_noX, List.set_cons_zero, List.set_cons_succ, List.getElem?_cons_zero, List.getElem?_cons_succ, List.length_map, if_true, decide_eq_true_eq, Bool.false_eq_true, if_false, wp_eqI, wp_neI]
  rw [wp_seq, tst]
  by_cases c0 : kind = 0
  · rw [if_pos c0]
    refine wp.mono (Q := fun c S' => ∃ d, c = .rt d ∧ Inv S' (n + 40) ∧ ∃ ns, Res.d d = Res.d (nmD ns) ∧ Nm ns P.toNat) ?_ (by rintro _ S' ⟨d, rfl, h⟩; exact h)
    exact go _ _ fun z S m z1 z2 hi hm => by rw [w_c]; exact ⟨lab 0, hi.mono (by omega)⟩
  rw [if_neg c0, w_next, sq_nx, wp_seq, tst]
  by_cases c1 : kind = 1
  · rw [if_pos c1]
    refine wp.mono (Q := fun c S' => ∃ d, c = .rt d ∧ Inv S' (n + 40) ∧ ∃ ns, Res.d d = Res.d (nmD ns) ∧ Nm ns P.toNat) ?_ (by rintro _ S' ⟨d, rfl, h⟩; exact h)
    have e : mRgT (mVar 1) [.st, .d (.int P), .d (.int kind), .d (.int sz), .un] S2 = .ok (nmD (List.range P.toNat)) S2 := by
      rw [← range_nm]
      show (if 0 ≤ P ∧ P ≤ 1000 then _ else _) = _
      rw [if_pos ⟨by omega, by omega⟩]
    rw [w_ret]
    refine wp.of e ?_
    exact ⟨_, rfl, h2.mono (by omega), _, rfl, nm_range _⟩
  rw [if_neg c1, w_next, sq_nx, wp_seq, tst]
  by_cases c2 : kind = 2
  · rw [if_pos c2]
    refine wp.mono (Q := fun c S' => ∃ d, c = .rt d ∧ Inv S' (n + 40) ∧ ∃ ns, Res.d d = Res.d (nmD ns) ∧ Nm ns P.toNat) ?_ (by rintro _ S' ⟨d, rfl, h⟩; exact h)
    refine go _ _ fun z S m z1 z2 hi hm => ?_
    simp only [wp_seq, w_set, w_setO, w_m2, w_m1, w_var, varQ_d, w_c, w_nil, w_cons, w_cb, w_cbo, w_int, w_intB, w_abs, w_max, w_min, w_lenL, w_lenT, w_B, w_and, w_or, w_not, w_ifs, w_if, w_ret, w_retO, w_next, w_tup, w_lst, w_frz, w_andV, w_notV, stQ_st, w_st1, w_st2, w_st3, w_st4, w_st5, w_cells, w_stS, lawB_law, setQ1, setQ2, setQ3, setQ5, w_for, w_range1, rngQ_int, w_seqI, w_seqL, w_seqT, w_lc, w_call0, w_call1, stepQ_nx, stepQ_bk, stepQ_rt, wp_ok, wp_bad, sq_nx, sq_rt, sq_ro, wp_add, wp_sub, wp_lt, wp_le, wp_gt, wp_ge, wp_mul, wp_mod, wp_fdiv, wp_pow, wp_ix, wp_ixT, wp_toB, wp_noX, List.set_cons_zero, List.set_cons_succ, List.getElem?_cons_zero, List.getElem?_cons_succ, List.length_map, if_true, decide_eq_true_eq, Bool.false_eq_true, if_false, wp_eqI, wp_neI]
    refine ⟨⟨by omega, ?_⟩, lab _, hi.mono (by omega)⟩
    have := PB.log (k := 100) (pb (n := sz.natAbs) (by omega))
    omega
  rw [if_neg c2, w_next, sq_nx, wp_seq, tst]
  by_cases c3 : kind = 3
  · rw [if_pos c3]
    refine wp.mono (Q := fun c S' => ∃ d, c = .rt d ∧ Inv S' (n + 40) ∧ ∃ ns, Res.d d = Res.d (nmD ns) ∧ Nm ns P.toNat) ?_ (by rintro _ S' ⟨d, rfl, h⟩; exact h)
    refine go _ _ fun z S m z1 z2 hi hm => ?_
    simp only [wp_seq, w_set, w_setO, w_m2, w_m1, w_var, varQ_d, w_c, w_nil, w_cons, w_cb, w_cbo, w_int, w_intB, w_abs, w_max, w_min, w_lenL, w_lenT, w_B, w_and, w_or, w_not, w_ifs, w_if, w_ret, w_retO, w_next, w_tup, w_lst, w_frz, w_andV, w_notV, stQ_st, w_st1, w_st2, w_st3, w_st4, w_st5, w_cells, w_stS, lawB_law, setQ1, setQ2, setQ3, setQ5, w_for, w_range1, rngQ_int, w_seqI, w_seqL, w_seqT, w_lc, w_call0, w_call1, stepQ_nx, stepQ_bk, stepQ_rt, wp_ok, wp_bad, sq_nx, sq_rt, sq_ro, wp_add, wp_sub, wp_lt, wp_le, wp_gt, wp_ge, wp_mul, wp_mod, wp_fdiv, wp_pow, wp_ix, wp_ixT, wp_toB, wp_noX, List.set_cons_zero, List.set_cons_succ, List.getElem?_cons_zero, List.getElem?_cons_succ, List.length_map, if_true, decide_eq_true_eq, Bool.false_eq_true, if_false, wp_eqI, wp_neI]
    exact ⟨by omega, lab _, hi.mono (by omega)⟩
  rw [if_neg c3, w_next, sq_nx, wp_seq, tst]
  by_cases c4 : kind = 4
  · rw [if_pos c4]
    refine wp.mono (Q := fun c S' => ∃ d, c = .rt d ∧ Inv S' (n + 40) ∧ ∃ ns, Res.d d = Res.d (nmD ns) ∧ Nm ns P.toNat) ?_ (by rintro _ S' ⟨d, rfl, h⟩; exact h)
    refine go _ _ fun z S m z1 z2 hi hm => ?_
    simp only [wp_seq, w_set, w_setO, w_m2, w_m1, w_var, varQ_d, w_c, w_nil, w_cons, w_cb, w_cbo, w_int, w_intB, w_abs, w_max, w_min, w_lenL, w_lenT, w_B, w_and, w_or, w_not, w_ifs, w_if, w_ret, w_retO, w_next, w_tup, w_lst, w_frz, w_andV, w_notV, stQ_st, w_st1, w_st2, w_st3, w_st4, w_st5, w_cells, w_stS, lawB_law, setQ1, setQ2, setQ3, setQ5, w_for, w_range1, rngQ_int, w_seqI, w_seqL, w_seqT, w_lc, w_call0, w_call1, stepQ_nx, stepQ_bk, stepQ_rt, wp_ok, wp_bad, sq_nx, sq_rt, sq_ro, wp_add, wp_sub, wp_lt, wp_le, wp_gt, wp_ge, wp_mul, wp_mod, wp_fdiv, wp_pow, wp_ix, wp_ixT, wp_toB, wp_noX, List.set_cons_zero, List.set_cons_succ, List.getElem?_cons_zero, List.getElem?_cons_succ, List.length_map, if_true, decide_eq_true_eq, Bool.false_eq_true, if_false, wp_eqI, wp_neI]
    exact ⟨lab _, hi.mono (by omega)⟩
  rw [if_neg c4, w_next, sq_nx, wp_seq]
  refine wp.mono (Q := fun c S' => S' = S2 ∧ ∃ sz', 1 ≤ sz' ∧ sz' ≤ 100 ∧ c = Ctl.nx [.st, .d (.int P), .d (.int kind), .d (.int sz'), .un]) ?_ ?_
  · rw [tst]
    by_cases c5 : kind = 5
    · rw [if_pos c5]
      simp only [wp_seq, w_set, w_setO, w_m2, w_m1, w_var, varQ_d, w_c, w_nil, w_cons, w_cb, w_cbo, w_int, w_intB, w_abs, w_max, w_min, w_lenL, w_lenT, w_B, w_and, w_or, w_not, w_ifs, w_if, w_ret, w_retO, w_next, w_tup, w_lst, w_frz, w_andV, w_notV, stQ_st, w_st1, w_st2, w_st3, w_st4, w_st5, w_cells, w_stS, lawB_law, setQ1, setQ2, setQ3, setQ5, w_for, w_range1, rngQ_int, w_seqI, w_seqL, w_seqT, w_lc, w_call0, w_call1, stepQ_nx, stepQ_bk, stepQ_rt, wp_ok, wp_bad, sq_nx, sq_rt, sq_ro, wp_add, wp_sub, wp_lt, wp_le, wp_gt, wp_ge, wp_mul, wp_mod, wp_fdiv, wp_pow, wp_ix, wp_ixT, wp_toB, wp_noX, List.set_cons_zero, List.set_cons_succ, List.getElem?_cons_zero, List.getElem?_cons_succ, List.length_map, if_true, decide_eq_true_eq, Bool.false_eq_true, if_false, wp_eqI, wp_neI]
      exact ⟨trivial, _, by split <;> omega, by split <;> omega, rfl⟩
    · rw [if_neg c5, w_next]
      exact ⟨rfl, _, hs1, hs2, rfl⟩
  rintro _ _ ⟨rfl, sz', z1, z2, rfl⟩
  rw [sq_nx]
  refine wp.mono (go _ _ fun z S m z3 z4 hi hm => ?_) (by rintro _ S' ⟨d, rfl, h⟩; exact h)
  exact w_takeC rfl rfl (by omega) (by omega) hi fun t S2 h2 t1 t2 t3 => ⟨lab _, h2⟩
end K23

set_option Elab.async false
set_option linter.all false
set_option maxRecDepth 100000
set_option maxHeartbeats 4000000
set_option autoImplicit false
namespace K23
open PySem PySem.Spec L2 DL
theorem once_ok (S : Sto) (n m : Int) (hm : m.natAbs < 2 ^ 100) (hn : n < 2 ^ 50) (h : Inv S n) : wp (m_law_once [.int m] S) fun r S' => Inv S' (n + 1) ∧ ∃ b, r = .d (.bl b) := by
  refine wp_run [.st, .d (.int m)] rfl ?_
  unfold b_law_once
  rw [w_ret, w_m2]
  refine w_takeC rfl rfl hm (by omega) h fun t S1 h1 t1 t2 t3 => ?_
  rw [w_c, wp_eqI]
  exact ⟨h1, _, rfl⟩
theorem w_onceC {i : Nat} {ρ : List L} {S : Sto} {m : Int} {n : Int} {Q : D → Sto → Prop} {φ : Ph D} (hst : ρ[i]? = some .st) (hφ : φ ρ S = .ok (.int m) S) (hm : m.natAbs < 2 ^ 100) (hn : n < 2 ^ 50) (h : Inv S n)
    (q : ∀ (b : Bool) (S' : Sto), Inv S' (n + 1) → Q (.bl b) S') : wp (mCall1 m_law_once i (mCons φ mNil) ρ S) Q := by
  rw [w_call1, hst, stQ_st, w_cons]
  refine wp.of hφ ?_
  rw [w_nil]
  refine wp.mono (once_ok S n m hm hn h) ?_
  rintro _ S' ⟨i1, b, rfl⟩
  exact q b S' i1
theorem otherplots_ok (S : Sto) (n P : Int) (hp1 : 1 ≤ P) (hp : P ≤ 16) (hn : n < 2 ^ 40) (h : Inv S n) : wp (m_law_otherplots [.int P] S) fun r S' => Inv S' (n + 5) ∧ ∃ o : Int, r = .d (.int o) ∧ 1 ≤ o ∧ o ≤ 16 ∧ o ≠ P := by
  refine wp_run [.st, .d (.int P), .un] rfl ?_
  unfold b_law_otherplots
  rw [wp_seq, w_set, w_m2, w_c]
  refine w_takeC rfl rfl (by decide) (by omega) h fun t S1 h1 t1 t2 t3 => ?_
  rw [wp_add, sq_nx, wp_seq, w_ifs, w_B]
  refine w_onceC rfl rfl (by decide) (by omega) h1 fun b S2 h2 => ?_
  simp only [List.set_cons_zero, List.set_cons_succ]
  have t2 := t2 (by decide)
  have fin : ∀ o : Int, 1 ≤ o → o ≤ 15 → wp (mSeq (mIfS (mB (m2 gGe (mVar 2) (mVar 1))) (mSet 2 (m2 gAdd (mVar 2) (mC (.int 1)))) mNext) (mRet (mVar 2)) [.st, .d (.int P), .d (.int o)] S2) fun c S' => match c with
      | .rt d => Inv S' (n + 5) ∧ ∃ o : Int, Res.d d = Res.d (.int o) ∧ 1 ≤ o ∧ o ≤ 16 ∧ o ≠ P
      | .ro xs => Inv S' (n + 5) ∧ ∃ o : Int, Res.own xs = Res.d (.int o) ∧ 1 ≤ o ∧ o ≤ 16 ∧ o ≠ P
      | .nx _ => Inv S' (n + 5) ∧ ∃ o : Int, Res.d D.non = Res.d (.int o) ∧ 1 ≤ o ∧ o ≤ 16 ∧ o ≠ P
      | _ => False := fun o o1 o2 => by
    simp only [wp_seq, w_set, w_setO, w_m2, w_m1, w_var, varQ_d, w_c, w_nil, w_cons, w_cb, w_cbo, w_int, w_intB, w_abs, w_max, w_min, w_lenL, w_lenT, w_B, w_and, w_or, w_not, w_ifs, w_if, w_ret, w_retO, w_next, w_tup, w_lst, w_frz, w_andV, w_notV, stQ_st, w_st1, w_st2, w_st3, w_st4, w_st5, w_cells, w_stS, lawB_law, setQ1, setQ2, setQ3, setQ5, w_for, w_range1, rngQ_int, w_seqI, w_seqL, w_seqT, w_lc, w_call0, w_call1, stepQ_nx, stepQ_bk, stepQ_rt, wp_ok, wp_bad, sq_nx, sq_rt, sq_ro, wp_add, wp_sub, wp_lt, wp_le, wp_gt, wp_ge, wp_mul, wp_mod, wp_fdiv, wp_pow, wp_ix, wp_ixT, wp_toB, wp_noX, List.set_cons_zero, List.set_cons_succ, List.getElem?_cons_zero, List.getElem?_cons_succ, List.length_map, if_true, decide_eq_true_eq, Bool.false_eq_true, if_false, wp_eqI, wp_neI]
    by_cases c : P ≤ o
    · rw [if_pos c]
      exact ⟨h2.mono (by omega), _, rfl, by omega, by omega, by omega⟩
    · rw [if_neg c]
      exact ⟨h2.mono (by omega), _, rfl, by omega, by omega, by omega⟩
  rw [wp_toB]
  cases b
  · rw [if_neg Bool.false_ne_true, w_next, sq_nx]
    exact fin _ (by omega) (by omega)
  · rw [if_pos rfl]
    simp only [w_set, w_setO, w_m2, w_m1, w_var, varQ_d, w_c, w_nil, w_cons, w_cb, w_cbo, w_int, w_intB, w_abs, w_max, w_min, w_lenL, w_lenT, w_B, w_and, w_or, w_not, w_if, w_ret, w_retO, w_next, w_tup, w_lst, w_frz, w_andV, w_notV, stQ_st, w_st1, w_st2, w_st3, w_st4, w_st5, w_cells, w_stS, lawB_law, setQ1, setQ2, setQ3, setQ5, w_for, w_range1, rngQ_int, w_seqI, w_seqL, w_seqT, w_lc, w_call0, w_call1, stepQ_nx, stepQ_bk, stepQ_rt, wp_ok, wp_bad, sq_rt, sq_ro, wp_add, wp_sub, wp_lt, wp_le, wp_gt, wp_ge, wp_mul, wp_mod, wp_fdiv, wp_pow, wp_ix, wp_ixT, wp_toB, wp_noX, List.set_cons_zero, List.set_cons_succ, List.getElem?_cons_zero, List.getElem?_cons_succ, List.length_map, if_true, decide_eq_true_eq, Bool.false_eq_true, if_false, wp_eqI, wp_neI]
    rw [sq_nx]
    refine fin _ ?_ ?_ <;> split <;> omega
/-- numbers below a bound -/
structure Bl (zs : List Int) (M : Int) (n : Nat) : Prop where
  len : zs.length = n
  bd : ∀ z ∈ zs, 0 ≤ z ∧ z < M
theorem ixN_of {n : Nat} {z : Int} (h1 : 0 ≤ z) (h2 : z < n) : ixN n z = some z.toNat := by
  unfold ixN; rw [if_pos h1, if_pos h2]
theorem rangeD_ints (n : Nat) : rangeD 0 n = ((List.range n).map fun k => ((k : Nat) : Int)).map D.int := by
  unfold rangeD
  rw [List.map_map]
  refine List.map_congr_left fun k _ => ?_
  show D.int (0 + (k : Nat)) = .int (k : Nat)
  rw [Int.zero_add]
theorem range_bl (M : Int) : Bl ((List.range M.toNat).map fun k => ((k : Nat) : Int)) M M.toNat := ⟨by simp, fun z hz => by
  obtain ⟨k, hk, rfl⟩ := List.mem_map.mp hz
  rw [List.mem_range] at hk
  omega⟩
def tupI (zs : List Int) : D := .tup (zs.map .int)
theorem erase_map : ∀ (l : List Int) (n : Nat), (l.map DL.D.int).eraseIdx n = (l.eraseIdx n).map DL.D.int
  | [], n => by simp
  | x :: l, 0 => by simp
  | x :: l, n + 1 => by simp [erase_map l n]
theorem shuffle_ok (S : Sto) (n M : Int) (hp1 : 1 ≤ M) (hp : M ≤ 16) (hn : n < 2 ^ 40) (h : Inv S n) : wp (m_law_shuffle [.int M] S) fun r S' => Inv S' (n + 30) ∧ ∃ zs, r = .d (tupI zs) ∧ Bl zs M M.toNat := by
  refine wp_run [.st, .d (.int M), .un, .un, .un, .un, .un, .un] rfl ?_
  unfold b_law_shuffle
  rw [wp_seq, w_setO]
  refine w_rg ?_
  rw [w_var]
  refine ⟨M, rfl, by omega, by omega, ?_⟩
  rw [sq_nx, rangeD_ints]
  have B0 := range_bl M
  generalize ((List.range M.toNat).map fun k => ((k : Nat) : Int)) = z0 at *
  simp only [List.set_cons_zero, List.set_cons_succ]
  have fin : ∀ (zs : List Int) (S : Sto) (ρ : List L), Bl zs M M.toNat → Inv S (n + 30) → ρ[2]? = some (.own (zs.map .int)) → wp (mRet (mTupO 2) ρ S) fun c S' => ∃ d, c = .rt d ∧ Inv S' (n + 30) ∧ ∃ zs, d = tupI zs ∧ Bl zs M M.toNat := fun zs S ρ hz hi hr => by
    rw [w_ret, w_tupO hr]
    exact ⟨_, rfl, hi, zs, rfl, hz⟩
  refine wp.mono (Q := fun c S' => ∃ d, c = .rt d ∧ Inv S' (n + 30) ∧ ∃ zs, d = tupI zs ∧ Bl zs M M.toNat) ?_ (by
    rintro _ S' ⟨d, rfl, hi, zs, rfl, hz⟩
    exact ⟨hi, zs, rfl, hz⟩)
  -- the turn by turn way
  have slow : ∀ (S : Sto), Inv S (n + 1) → wp (mSeq (mSetO 6 (mLst mNil)) (mSeq (mFor (.one 7) (mRange1 (mCons (mVar 1) mNil)) (mAppPop 6 2 (mCall1 m_law_take 0 (mCons (mLenO 2) mNil)))) (mRet (mTupO 6))) [.st, .d (.int M), .own (z0.map .int), .un, .un, .un, .un, .un] S)
      fun c S' => ∃ d, c = .rt d ∧ Inv S' (n + 30) ∧ ∃ zs, d = tupI zs ∧ Bl zs M M.toNat := fun S hi => by
    rw [wp_seq, w_setO, w_lst, w_nil]
    refine ⟨rfl, ?_⟩
    rw [sq_nx, wp_seq, w_for, w_range1, w_cons, w_var]
    simp only [List.set_cons_zero, List.set_cons_succ, List.getElem?_cons_zero, List.getElem?_cons_succ, varQ_d, w_nil, rngQ_int]
    refine ⟨by unfold okR; simp; omega, ?_⟩
    refine forD_inv _ (fun k ρ S' => Inv S' (n + 1 + k) ∧ ∃ (ms rs : List Int) (l : L), Bl ms M k ∧ Bl rs M (M.toNat - k) ∧ ρ = [.st, .d (.int M), .own (rs.map .int), .un, .un, .un, .own (ms.map .int), l]) _ _ ⟨by simpa using hi, [], z0, .un, ⟨rfl, by simp⟩, by simpa using B0, rfl⟩ ?_ ?_
    · rintro k d ρ S2 hk ⟨h2, ms, rs, l, hms, hrs, rfl⟩
      obtain ⟨hk, rfl⟩ := rangeD_at hk
      refine ⟨_, rfl, ?_⟩
      refine w_appPop (xs := ms.map DL.D.int) (ys := rs.map DL.D.int) rfl rfl (by decide) ?_
      have hlr := hrs.len
      have e : mLenO 2 ([.st, .d (.int M), .own (rs.map .int), .un, .un, .un, .own (ms.map .int), .d (.int (k : Nat))] : List L) S2 = .ok (.int (rs.length : Nat)) S2 := by
        show Out.ok (DL.D.int ((rs.map DL.D.int).length : Nat)) S2 = _
        rw [List.length_map]
      refine w_takeC rfl e (by omega) (by omega) h2 fun t S3 h3 t1 t2 t3 => ?_
      have ht : t < rs.length := by
        by_cases c : (rs.length : Int) < 2
        · rw [t3 c]; omega
        · exact t2 (by omega)
      have hx : rs[t.toNat]? = some rs[t.toNat] := List.getElem?_eq_getElem (by omega)
      refine ⟨t, t.toNat, .int rs[t.toNat], rfl, (ixN_seq (ixN_of t1 (by rw [List.length_map]; exact ht))).1, by rw [List.getElem?_map, hx]; rfl, ?_, ?_, ?_⟩
      · simp only [line, decide_eq_true_eq, List.length_map, hms.len]; omega
      · unfold okR; simp; omega
      · refine ⟨h3.mono (by push_cast; omega), ms ++ [rs[t.toNat]], rs.eraseIdx t.toNat, .d (.int (k : Nat)), ⟨by simp [hms.len], ?_⟩, ⟨?_, ?_⟩, ?_⟩
        · intro z hz
          rcases List.mem_append.mp hz with hz | hz
          · exact hms.bd z hz
          · rw [List.mem_singleton.mp hz]; exact hrs.bd _ (List.getElem_mem _)
        · rw [List.length_eraseIdx, if_pos (by omega)]; omega
        · exact fun z hz => hrs.bd z (List.mem_of_mem_eraseIdx hz)
        · simp only [List.set_cons_zero, List.set_cons_succ, List.map_append, List.map_cons, List.map_nil, erase_map]
    · rintro ρ S2 ⟨h2, ms, rs, l, hms, hrs, rfl⟩
      rw [rangeD_len] at h2 hms
      rw [sq_nx, w_ret, w_tupO rfl]
      exact ⟨_, rfl, h2.mono (by omega), ms, rfl, hms⟩
  rw [wp_seq, w_ifs, w_and, w_B, w_m2, w_var]
  simp only [List.getElem?_cons_zero, List.getElem?_cons_succ, varQ_d, w_c, wp_gt, wp_toB]
  by_cases c1 : 1 < M
  · rw [if_pos (by simpa using c1), w_B]
    refine w_onceC rfl rfl (by decide) (by omega) h fun b S1 h1 => ?_
    rw [wp_toB]
    cases b
    · rw [if_neg Bool.false_ne_true, w_next, sq_nx]
      exact slow S1 h1
    · rw [if_pos rfl, wp_seq, w_set]
      refine w_takeC rfl rfl (by decide) (by omega) h1 fun kd S2 h2 k1 k2 k3 => ?_
      rw [sq_nx, wp_seq]
      simp only [List.set_cons_zero, List.set_cons_succ]
      have pass : ∀ Q : Ctl → Sto → Prop, ∀ c S', (∃ d, c = Ctl.rt d ∧ Q c S') → sq (mSeq (mSetO 6 (mLst mNil)) (mSeq (mFor (.one 7) (mRange1 (mCons (mVar 1) mNil)) (mAppPop 6 2 (mCall1 m_law_take 0 (mCons (mLenO 2) mNil)))) (mRet (mTupO 6)))) Q c S' := by
        rintro Q _ S' ⟨d, rfl, q⟩; exact q
      have done_ : ∀ c S', (∃ d, c = Ctl.rt d ∧ Inv S' (n + 30) ∧ ∃ zs, d = tupI zs ∧ Bl zs M M.toNat) → sq (mSeq (mSetO 6 (mLst mNil)) (mSeq (mFor (.one 7) (mRange1 (mCons (mVar 1) mNil)) (mAppPop 6 2 (mCall1 m_law_take 0 (mCons (mLenO 2) mNil)))) (mRet (mTupO 6)))) (fun c S' => ∃ d, c = .rt d ∧ Inv S' (n + 30) ∧ ∃ zs, d = tupI zs ∧ Bl zs M M.toNat) c S' := by
        rintro _ S' ⟨d, rfl, q⟩; exact ⟨d, rfl, q⟩
      refine wp.mono (Q := fun c S' => S2 = S' ∧ ∃ zs, Bl zs M M.toNat ∧ c = .nx [.st, .d (.int M), .own (zs.map .int), .d (.int kd), .un, .un, .un, .un]) ?_ ?_
      · rw [w_ifs, w_B, w_m2, w_var]
        simp only [List.getElem?_cons_zero, List.getElem?_cons_succ, varQ_d, w_c, wp_eqI, wp_toB]
        by_cases c2 : kd = 1
        · rw [if_pos (by simpa using c2), w_setO, w_revO (xs := z0.map DL.D.int) rfl]
          refine ⟨rfl, z0.reverse, ⟨by rw [List.length_reverse, B0.len], fun z hz => B0.bd z (by simpa using hz)⟩, ?_⟩
          simp only [List.set_cons_zero, List.set_cons_succ, List.map_reverse]
        · rw [if_neg (by simpa using c2), w_next]
          exact ⟨rfl, z0, B0, rfl⟩
      rintro _ _ ⟨rfl, zs, Bz, rfl⟩
      rw [sq_nx, wp_seq]
      have hwp : wp (mIfS (mB (m2 gEq (mVar 3) (mC (.int 2)))) (mSeq (mSet 4 (mCall1 m_law_take 0 (mCons (mVar 1) mNil))) (mSeq (mSet 5 (mCall1 m_law_take 0 (mCons (mVar 1) mNil))) (mSwap 2 4 5))) mNext [.st, .d (.int M), .own (zs.map .int), .d (.int kd), .un, .un, .un, .un] S2) fun c S' => Inv S' (n + 30) ∧ ∃ zs ρ, Bl zs M M.toNat ∧ c = .nx ρ ∧ ρ[2]? = some (.own (zs.map .int)) := by
        rw [w_ifs, w_B, w_m2, w_var]
        simp only [List.getElem?_cons_zero, List.getElem?_cons_succ, varQ_d, w_c, wp_eqI, wp_toB]
        by_cases c2 : kd = 2
        · rw [if_pos (by simpa using c2), wp_seq, w_set]
          refine w_takeC rfl rfl (by omega) (by omega) h2 fun a S3 h3 a1 a2 a3 => ?_
          rw [sq_nx, wp_seq, w_set]
          refine w_takeC rfl rfl (by omega) (by omega) h3 fun b S4 h4 b1 b2 b3 => ?_
          rw [sq_nx]
          have a2 := a2 (by omega)
          have b2 := b2 (by omega)
          have hl := Bz.len
          have xa : zs[a.toNat]? = some zs[a.toNat] := List.getElem?_eq_getElem (by omega)
          have xb : zs[b.toNat]? = some zs[b.toNat] := List.getElem?_eq_getElem (by omega)
          refine w_swap (xs := zs.map DL.D.int) (a := a) (b := b) (n := a.toNat) (k := b.toNat) (d := .int zs[a.toNat]) (e := .int zs[b.toNat]) rfl rfl rfl (ixN_of a1 (by rw [List.length_map]; omega)) (ixN_of b1 (by rw [List.length_map]; omega)) (by rw [List.getElem?_map, xa]; rfl) (by rw [List.getElem?_map, xb]; rfl) ?_
          refine ⟨h4.mono (by omega), (zs.set a.toNat zs[b.toNat]).set b.toNat zs[a.toNat], _, ⟨by simp [hl], fun z hz => ?_⟩, rfl, ?_⟩
          · rcases List.mem_or_eq_of_mem_set hz with hz | rfl
            · rcases List.mem_or_eq_of_mem_set hz with hz | rfl
              · exact Bz.bd z hz
              · exact Bz.bd _ (List.getElem_mem _)
            · exact Bz.bd _ (List.getElem_mem _)
          · rw [List.map_set, List.map_set]; rfl
        · rw [if_neg (by simpa using c2), w_next]
          exact ⟨h2.mono (by omega), zs, _, Bz, rfl, rfl⟩
      refine wp.mono hwp ?_
      rintro _ S3 ⟨h3, zs3, ρ3, B3, rfl, e3⟩
      rw [sq_nx]
      exact wp.mono (fin zs3 S3 ρ3 B3 h3 e3) done_
  · rw [if_neg (by simpa using c1), if_neg Bool.false_ne_true, w_next, sq_nx]
    exact slow S (h.mono (by omega))
end K23

set_option Elab.async false
set_option linter.all false
set_option maxRecDepth 100000
set_option maxHeartbeats 4000000
set_option autoImplicit false
namespace K23
open PySem PySem.Spec L2 DL
theorem w_partC {i : Nat} {ρ : List L} {S : Sto} {Q : D → Sto → Prop} {φ : Ph D} (hst : ρ[i]? = some .st)
    (h : wp (φ ρ S) fun d S1 => ∃ P n : Int, d = .int P ∧ 1 ≤ P ∧ P ≤ 16 ∧ n < 2 ^ 50 ∧ Inv S1 n ∧ ∀ (ns : List Nat) (S' : Sto), Inv S' (n + 40) → Nm ns P.toNat → Q (nmD ns) S') : wp (mCall1 m_law_parting i (mCons φ mNil) ρ S) Q := by
  rw [w_call1, hst, stQ_st, w_cons]
  refine wp.mono h ?_
  rintro _ S1 ⟨P, n, rfl, h1, h2, h3, h4, q⟩
  rw [w_nil]
  refine wp.mono (parting_ok S1 n P h1 h2 h3 h4) ?_
  rintro _ S' ⟨i1, ns, rfl, hN⟩
  exact q ns S' i1 hN
def liN (n : Nat) : Lb := .i (n : Int)
theorem nm_labs (ns : List Nat) : ns.map inD = (ns.map liN).map labD := by
  rw [List.map_map]; rfl
theorem w_canonL {xs : List D} {Ls : List Lb} {S : Sto} {Q : D → Sto → Prop} (e : xs = Ls.map labD) (hl : Ls.length ≤ 90) (q : Q (nmD (cn Ls)) S) : wp (m_law_canon [.lst xs] sto0) fun r _ => Q r.toD S := by
  obtain ⟨r, S2, e2, e3, e4⟩ := (canon_ok Ls xs e.symm sto0 hl).get
  rw [e2, wp_ok, e4]
  exact q
theorem map_set_lab (Ls : List Lb) (n : Nat) (a : Lb) : (Ls.map labD).set n (labD a) = (Ls.set n a).map labD := by rw [List.map_set]
theorem nudged_ok (S : Sto) (n : Int) (ns : List Nat) (hp1 : 1 ≤ ns.length) (hp : ns.length ≤ 16) (hn : n < 2 ^ 40) (h : Inv S n) : wp (m_law_nudged [nmD ns] S) fun r S' => Inv S' (n + 5) ∧ ∃ ms, r = .d (nmD ms) ∧ Nm ms ns.length := by
  generalize hd : nmD ns = nd
  refine wp_run [.st, .d nd, .un] rfl ?_
  subst hd
  unfold b_law_nudged
  rw [wp_seq, w_setO, w_cbo, w_cons, w_var]
  simp only [List.getElem?_cons_zero, List.getElem?_cons_succ, varQ_d, w_nil]
  unfold nmD
  rw [w_listT, sq_nx, wp_seq]
  simp only [List.set_cons_zero, List.set_cons_succ]
  have hlen : ∀ (S : Sto) (d : D) (Q : D → Sto → Prop), wp (mLenO 2 ([.st, .d d, .own (ns.map inD)] : List L) S) Q = Q (.int (ns.length : Nat)) S := fun S d Q => by
    rw [w_lenO (xs := ns.map inD) rfl, List.length_map]
  generalize D.tup (ns.map inD) = nd
  refine w_setI (xs := ns.map inD) rfl ?_
  have e1 : m2 gAdd (mLenO 2) (mC (.int 1)) ([.st, .d nd, .own (ns.map inD)] : List L) S = .ok (.int ((ns.length : Nat) + 1)) S := by
    show Out.ok (D.int (((ns.map inD).length : Nat) + 1)) S = _
    rw [List.length_map]
  refine w_takeC rfl e1 (by omega) (by omega) h fun t S1 h1 t1 t2 t3 => ?_
  have e2 : mLenO 2 ([.st, .d nd, .own (ns.map inD)] : List L) S1 = .ok (.int (ns.length : Nat)) S1 := by
    show Out.ok (D.int ((ns.map inD).length : Nat)) S1 = _
    rw [List.length_map]
  refine w_takeC rfl e2 (by omega) (by omega) h1 fun u S2 h2 u1 u2 u3 => ?_
  have hu : u < ns.length := by
    by_cases c : (ns.length : Int) < 2
    · rw [u3 c]; omega
    · exact u2 (by omega)
  refine ⟨u, u.toNat, rfl, ixN_of u1 (by rw [List.length_map]; exact hu), ?_⟩
  rw [sq_nx]
  have e3 : (ns.map inD).set u.toNat (.int t) = (((ns.map liN)).set u.toNat (.i t)).map labD := by
    rw [nm_labs, ← map_set_lab]; rfl
  rw [e3, w_gh rfl, w_ret, w_call0, w_cons, w_var]
  simp only [List.set_cons_zero, List.set_cons_succ, List.getElem?_cons_zero, List.getElem?_cons_succ, varQ_d, w_nil]
  generalize hxs : ((((ns.map liN)).set u.toNat (.i t)).map labD) = xs
  refine w_canonL (Q := fun d S' => Inv S' (n + 5) ∧ ∃ ms, Res.d d = Res.d (nmD ms) ∧ Nm ms ns.length) hxs.symm (by simp; omega) ?_
  exact ⟨h2.mono (by omega), _, rfl, cn_Cn _, by rw [cn_len]; simp⟩
end K23

set_option Elab.async false
set_option linter.all false
set_option maxRecDepth 100000
set_option maxHeartbeats 4000000
set_option autoImplicit false
namespace K23
open PySem PySem.Spec L2 DL
theorem smallMul {i j : Int} (h1 : i.natAbs < 2 ^ 100) (h2 : j.natAbs < 2 ^ 100) : CMulW i j := mulW (big (k := 100) (pb h1) (by decide)) (big (k := 100) (pb h2) (by decide))
theorem smallDiv {i j : Int} (h1 : 0 < j) (h2 : j.natAbs < 2 ^ 100) : CDivW i j := ⟨h1, by have := PB.log (pb h2); omega⟩
theorem at_lst {xs : List D} {z : Int} {d : D} (h1 : 0 ≤ z) (h : xs[z.toNat]? = some d) : atI xs z = some d := by
  have h2 := (List.getElem?_eq_some_iff.mp h).1
  unfold atI
  rw [ixN_of h1 (by omega)]
  exact h
/-- a point of the layout -/
theorem point_bd {p a b c : Int} (h0 : 0 ≤ p) (hp : p < a * b * c) (hb : 1 ≤ b) (hc : 1 ≤ c) : 0 ≤ p / (b * c) ∧ p / (b * c) < a ∧ 0 ≤ p / c % b ∧ p / c % b < b ∧ 0 ≤ p % c ∧ p % c < c := by
  have hbc : 0 < b * c := Int.mul_pos (by omega) (by omega)
  refine ⟨Int.ediv_nonneg h0 (by omega), ?_, Int.emod_nonneg _ (by omega), Int.emod_lt_of_pos _ (by omega), Int.emod_nonneg _ (by omega), Int.emod_lt_of_pos _ (by omega)⟩
  refine Int.ediv_lt_of_lt_mul hbc ?_
  rw [← Int.mul_assoc]; exact hp
theorem w_ix3 {i0 i1 i2 z : Int} {S : Sto} {Q : D → Sto → Prop} (z0 : 0 ≤ z) (z3 : z < 3) (q : ∀ u, (z = 0 → u = i0) → (z = 1 → u = i1) → (z = 2 → u = i2) → Q (.int u) S) : wp (gIx (.tup [.int i0, .int i1, .int i2]) (.int z) S) Q := by
  rw [wp_ixT]
  have : z = 0 ∨ z = 1 ∨ z = 2 := by omega
  rcases this with rfl | rfl | rfl
  · exact ⟨_, rfl, q i0 (fun _ => rfl) (fun h => by omega) (fun h => by omega)⟩
  · exact ⟨_, rfl, q i1 (fun h => by omega) (fun _ => rfl) (fun h => by omega)⟩
  · exact ⟨_, rfl, q i2 (fun h => by omega) (fun h => by omega) (fun _ => rfl)⟩
theorem ex3 {i0 i1 i2 z : Int} {P : D → Prop} (z0 : 0 ≤ z) (z3 : z < 3) (q : ∀ u, (z = 0 → u = i0) → (z = 1 → u = i1) → (z = 2 → u = i2) → P (.int u)) : ∃ d, atI [D.int i0, D.int i1, D.int i2] z = some d ∧ P d := by
  have : z = 0 ∨ z = 1 ∨ z = 2 := by omega
  rcases this with rfl | rfl | rfl
  · exact ⟨_, rfl, q i0 (fun _ => rfl) (fun h => by omega) (fun h => by omega)⟩
  · exact ⟨_, rfl, q i1 (fun h => by omega) (fun _ => rfl) (fun h => by omega)⟩
  · exact ⟨_, rfl, q i2 (fun h => by omega) (fun h => by omega) (fun _ => rfl)⟩
theorem w_ixI {xs : List Int} {z : Int} {S : Sto} {Q : D → Sto → Prop} (z0 : 0 ≤ z) (z3 : z < xs.length) (q : ∀ u, Q (.int u) S) : wp (gIx (tupI xs) (.int z) S) Q := by
  unfold tupI
  rw [wp_ixT]
  have hl : z.toNat < xs.length := by omega
  exact ⟨_, at_lst z0 (by rw [List.getElem?_map, List.getElem?_eq_getElem hl]; rfl), q _⟩
structure Pr (S : Sto) (n : Int) (d : D) : Prop where
  inv : Inv S n
  ex : ∃ (f s : List Nat) (p : Nat), d = .tup [nmD f, nmD s] ∧ Nm f p ∧ Nm s p ∧ 1 ≤ p ∧ p ≤ 16
/-- one labelling of the plots by the layout -/
theorem labels_ok {S : Sto} {a b c : Int} {l13 l14 l15 l16 : L} {x0 x1 x2 x3 x9 x10 : L} {ord : List Int} {ca cb cc rs : List Int} {Cd Od Rd : D} (ha : 1 ≤ a ∧ a ≤ 16) (hb : 1 ≤ b ∧ b ≤ 16) (hc : 1 ≤ c ∧ c ≤ 16) (hN : a * b * c ≤ 16)
    (hC : Cd = .lst [tupI ca, tupI cb, tupI cc]) (h1 : ca.length = a.toNat) (h2 : cb.length = b.toNat) (h3 : cc.length = c.toNat) (hO : Od = tupI ord) (hB : Bl ord (a * b * c) (a * b * c).toNat) (hR : Rd = .lst (rs.map .int)) (hr : Bl rs 3 3) :
    wp (mFor (.one 13) (mRange1 (mCons (mCB (pureC lenC) (mCons (mVar 8) mNil)) mNil)) (mSeq (mSet 14 (mTup (mCons (m2 gFdiv (mVar 13) (m2 gMul (mVar 5) (mVar 6))) (mCons (m2 gMod (mCB (pureC intC) (mCons (m2 gFdiv (mVar 13) (mVar 6)) mNil)) (mVar 5)) (mCons (m2 gMod (mCB (pureC intC) (mCons (mVar 13) mNil)) (mVar 6)) mNil)))))
  (mSetI 12 (mCB gTuple (mCons (mFrz (mLc (.one 16) [16] (mRange1 (mCons (mC (.int 3)) mNil)) mYes (m2 gIx (mTup (mCons (mC (.int 0)) (mCons (m2 gIx (m2 gIx (mVar 7) (mVar 16)) (m2 gIx (mVar 14) (mVar 16))) (mCons (m2 gIx (mVar 14) (mVar 16)) mNil)))) (m2 gIx (mVar 11) (mVar 16))))) mNil)) (m2 gIx (mVar 8) (mVar 13))))
      [x0, x1, x2, x3, .d (.int a), .d (.int b), .d (.int c), .d Cd, .d Od, x9, x10, .d Rd, .own (ord.map .int), l13, l14, l15, l16] S) fun c' S' => S' = S ∧ ∃ (Ls : List Lb) (m13 m14 m15 m16 : L), Ls.length = (a * b * c).toNat ∧ c' = .nx [x0, x1, x2, x3, .d (.int a), .d (.int b), .d (.int c), .d Cd, .d Od, x9, x10, .d Rd, .own (Ls.map labD), m13, m14, m15, m16] := by
  have wC : ∀ (z : Int) (S : Sto) (Q : D → Sto → Prop), (∀ (xs : List Int), (z = 0 → xs.length = a.toNat) → (z = 1 → xs.length = b.toNat) → (z = 2 → xs.length = c.toNat) → Q (tupI xs) S) → 0 ≤ z → z < 3 → wp (gIx Cd (.int z) S) Q := fun z S Q q z0 z3 => by
    rw [hC, wp_ix]
    have : z = 0 ∨ z = 1 ∨ z = 2 := by omega
    rcases this with rfl | rfl | rfl
    · exact ⟨_, rfl, q ca (fun _ => h1) (fun h => by omega) (fun h => by omega)⟩
    · exact ⟨_, rfl, q cb (fun h => by omega) (fun _ => h2) (fun h => by omega)⟩
    · exact ⟨_, rfl, q cc (fun h => by omega) (fun h => by omega) (fun _ => h3)⟩
  have wR : ∀ (z : Int) (S : Sto) (Q : D → Sto → Prop), (∀ r : Int, 0 ≤ r → r < 3 → Q (.int r) S) → 0 ≤ z → z < 3 → wp (gIx Rd (.int z) S) Q := fun z S Q q z0 z3 => by
    rw [hR, wp_ix]
    have hl : z.toNat < rs.length := by rw [hr.len]; omega
    have hz : rs[z.toNat]? = some rs[z.toNat] := List.getElem?_eq_getElem hl
    obtain ⟨b1, b2⟩ := hr.bd _ (List.getElem_mem hl)
    exact ⟨_, at_lst z0 (by rw [List.getElem?_map, hz]; rfl), q _ b1 b2⟩
  have wO : ∀ (z : Int) (S : Sto) (Q : D → Sto → Prop), (∀ r : Int, 0 ≤ r → r < a * b * c → Q (.int r) S) → 0 ≤ z → z < a * b * c → wp (gIx Od (.int z) S) Q := fun z S Q q z0 z3 => by
    rw [hO]
    unfold tupI
    rw [wp_ixT]
    have hl : z.toNat < ord.length := by rw [hB.len]; omega
    obtain ⟨b1, b2⟩ := hB.bd _ (List.getElem_mem hl)
    exact ⟨_, at_lst z0 (by rw [List.getElem?_map, List.getElem?_eq_getElem hl]; rfl), q _ b1 b2⟩
  have wL : ∀ (S : Sto) (Q : D → Sto → Prop), wp (pureC lenC [Od] S) Q = Q (.int (a * b * c)) S := fun S Q => by
    rw [hO]; unfold tupI
    rw [w_lenT, List.length_map, hB.len]
    congr 2
    have : 0 ≤ a * b * c := Int.mul_nonneg (Int.mul_nonneg (by omega) (by omega)) (by omega)
    omega
  have hN0 : 0 ≤ a * b * c := Int.mul_nonneg (Int.mul_nonneg (by omega) (by omega)) (by omega)
  have hlo := hB.len
  clear hC hR hO hB
  have e0 : ord.map DL.D.int = (ord.map Lb.i).map labD := by rw [List.map_map]; rfl
  rw [e0]
  have l0 : (ord.map Lb.i).length = (a * b * c).toNat := by rw [List.length_map, hlo]
  generalize ord.map Lb.i = L0 at *
  rw [w_for, w_range1, w_cons, w_cb, w_cons, w_var]
  simp only [List.getElem?_cons_zero, List.getElem?_cons_succ, varQ_d, w_nil, wL, rngQ_int]
  refine ⟨by unfold okR; simp; omega, ?_⟩
  refine forD_inv _ (fun k ρ S' => S' = S ∧ ∃ (Ls : List Lb) (m13 m14 m15 m16 : L), Ls.length = (a * b * c).toNat ∧ ρ = [x0, x1, x2, x3, .d (.int a), .d (.int b), .d (.int c), .d Cd, .d Od, x9, x10, .d Rd, .own (Ls.map labD), m13, m14, m15, m16]) _ _ ⟨rfl, L0, _, _, _, _, l0, rfl⟩ ?_ ?_
  · rintro k d ρ S2 hk ⟨rfl, Ls, m13, m14, m15, m16, hL, rfl⟩
    obtain ⟨hk, rfl⟩ := rangeD_at hk
    refine ⟨_, rfl, ?_⟩
    obtain ⟨p1, p2, p3, p4, p5, p6⟩ := point_bd (p := (k : Nat)) (a := a) (b := b) (c := c) (by omega) (by omega) hb.1 hc.1
    have q1 := Int.mul_le_mul ha.2 hb.2 (by omega) (by omega)
    rw [wp_seq, w_set, w_tup]
    simp only [List.set_cons_zero, List.set_cons_succ]
    generalize hkz : ((k : Nat) : Int) = kz at *
    simp only [w_set, w_setO, w_m2, w_m1, w_var, varQ_d, w_c, w_nil, w_cons, w_cb, w_cbo, w_int, w_intB, w_abs, w_max, w_min, w_lenL, w_lenT, w_B, w_and, w_or, w_not, w_if, w_ret, w_retO, w_next, w_tup, w_lst, w_frz, w_andV, w_notV, stQ_st, w_st1, w_st2, w_st3, w_st4, w_st5, w_cells, w_stS, lawB_law, setQ1, setQ2, setQ3, setQ5, w_for, w_range1, rngQ_int, w_seqI, w_seqL, w_seqT, w_lc, w_call0, w_call1, stepQ_nx, stepQ_bk, stepQ_rt, wp_ok, wp_bad, sq_rt, sq_ro, wp_add, wp_sub, wp_lt, wp_le, wp_gt, wp_ge, wp_mul, wp_mod, wp_fdiv, wp_pow, wp_ix, wp_ixT, wp_toB, wp_noX, List.set_cons_zero, List.set_cons_succ, List.getElem?_cons_zero, List.getElem?_cons_succ, List.length_map, if_true, decide_eq_true_eq, Bool.false_eq_true, if_false, wp_eqI, wp_neI]
    have hk0 : 0 ≤ kz := by omega
    have hkN : kz < a * b * c := by omega
    have q2 : 0 < b * c := Int.mul_pos (by omega) (by omega)
    have q3 : b * c ≤ 16 * 16 := Int.mul_le_mul hb.2 hc.2 (by omega) (by omega)
    refine ⟨smallMul (by omega) (by omega), smallDiv q2 (by omega), smallDiv (by omega) (by omega), by omega, by omega, rfl, ?_⟩
    rw [sq_nx]
    refine w_setI (xs := Ls.map labD) rfl ?_
    rw [w_cb, w_cons, w_frz, w_lc, w_range1]
    simp only [w_set, w_setO, w_m2, w_m1, w_var, varQ_d, w_c, w_nil, w_cons, w_cb, w_cbo, w_int, w_intB, w_abs, w_max, w_min, w_lenL, w_lenT, w_B, w_and, w_or, w_not, w_if, w_ret, w_retO, w_next, w_tup, w_lst, w_frz, w_andV, w_notV, stQ_st, w_st1, w_st2, w_st3, w_st4, w_st5, w_cells, w_stS, lawB_law, setQ1, setQ2, setQ3, setQ5, w_for, w_range1, rngQ_int, w_seqI, w_seqL, w_seqT, w_lc, w_call0, w_call1, stepQ_nx, stepQ_bk, stepQ_rt, wp_ok, wp_bad, sq_rt, sq_ro, wp_add, wp_sub, wp_lt, wp_le, wp_gt, wp_ge, wp_mul, wp_mod, wp_fdiv, wp_pow, wp_ix, wp_ixT, wp_toB, wp_noX, List.set_cons_zero, List.set_cons_succ, List.getElem?_cons_zero, List.getElem?_cons_succ, List.length_map, if_true, decide_eq_true_eq, Bool.false_eq_true, if_false, wp_eqI, wp_neI]
    refine ⟨by decide, rfl, ?_⟩
    refine comp_inv _ (fun k xs S' => S2 = S' ∧ ∃ zs : List Int, xs = zs.map DL.D.int) _ _ ⟨rfl, [], rfl⟩ ?_ ?_
    · rintro j d xs S3 hj hl ⟨rfl, zs, rfl⟩
      obtain ⟨hj', rfl⟩ := rangeD_at hj
      have hj3 : ((j : Nat) : Int) < 3 := by
        have : j < 3 := hj'
        omega
      have hj0 : 0 ≤ ((j : Nat) : Int) := by omega
      generalize ((j : Nat) : Int) = z at *
      refine ⟨_, rfl, ?_⟩
      show wp (m2 gIx _ _ [x0, x1, x2, x3, .d (.int a), .d (.int b), .d (.int c), .d Cd, .d Od, x9, x10, .d Rd, .own (Ls.map labD), .d (.int kz), .d (.tup [.int (kz / (b * c)), .int (kz / c % b), .int (kz % c)]), m15, .d (.int z)] S2) _
      simp only [w_set, w_setO, w_m2, w_m1, w_var, varQ_d, w_c, w_nil, w_cons, w_cb, w_cbo, w_int, w_intB, w_abs, w_max, w_min, w_lenL, w_lenT, w_B, w_and, w_or, w_not, w_if, w_ret, w_retO, w_next, w_tup, w_lst, w_frz, w_andV, w_notV, stQ_st, w_st1, w_st2, w_st3, w_st4, w_st5, w_cells, w_stS, lawB_law, setQ1, setQ2, setQ3, setQ5, w_for, w_range1, rngQ_int, w_seqI, w_seqL, w_seqT, w_lc, w_call0, w_call1, stepQ_nx, stepQ_bk, stepQ_rt, wp_ok, wp_bad, sq_rt, sq_ro, wp_add, wp_sub, wp_lt, wp_le, wp_gt, wp_ge, wp_mul, wp_mod, wp_fdiv, wp_pow, wp_ix, wp_ixT, wp_toB, wp_noX, List.set_cons_zero, List.set_cons_succ, List.getElem?_cons_zero, List.getElem?_cons_succ, List.length_map, if_true, decide_eq_true_eq, Bool.false_eq_true, if_false, wp_eqI, wp_neI]
      refine wC z _ _ (fun xs y0 y1 y2 => ?_) hj0 hj3
      refine ex3 hj0 hj3 fun u v0 v1 v2 => ?_
      refine w_ixI ?_ ?_ fun r => ?_
      · have : z = 0 ∨ z = 1 ∨ z = 2 := by omega
        rcases this with h | h | h
        · rw [v0 h]; exact p1
        · rw [v1 h]; exact p3
        · rw [v2 h]; exact p5
      · have : z = 0 ∨ z = 1 ∨ z = 2 := by omega
        rcases this with h | h | h
        · rw [v0 h, y0 h]; omega
        · rw [v1 h, y1 h]; omega
        · rw [v2 h, y2 h]; omega
      · refine ex3 hj0 hj3 fun u' _ _ _ => ⟨rfl, wR z _ _ (fun rl r0 r3 => w_ix3 r0 r3 fun u'' _ _ _ => ⟨rfl, zs ++ [u''], by rw [List.map_append]; rfl⟩) hj0 hj3⟩
    · rintro xs S3 hl ⟨rfl, zs, rfl⟩
      rw [w_tuple]
      refine wO kz _ _ (fun r r0 r1 => ?_) hk0 hkN
      refine ⟨r, r.toNat, rfl, ixN_of r0 (by rw [hL]; omega), ?_⟩
      have em : (Ls.map labD).set r.toNat (.tup (zs.map DL.D.int)) = (Ls.set r.toNat (.t zs)).map labD := by rw [List.map_set]; rfl
      rw [em]
      exact ⟨rfl, Ls.set r.toNat (.t zs), _, _, _, _, by rw [List.length_set, hL], rfl⟩
  · rintro ρ S2 ⟨rfl, Ls, m13, m14, m15, m16, hL, rfl⟩
    exact ⟨rfl, Ls, _, _, _, _, hL, rfl⟩
end K23

set_option Elab.async false
set_option linter.all false
set_option maxRecDepth 100000
set_option maxHeartbeats 4000000
set_option autoImplicit false
namespace K23
open PySem PySem.Spec L2 DL
theorem nm_tupI (ns : List Nat) : nmD ns = tupI (ns.map fun (n : Nat) => (n : Int)) := by
  unfold nmD tupI
  rw [List.map_map]; rfl
theorem w_shufC {i : Nat} {ρ : List L} {S : Sto} {Q : D → Sto → Prop} {φ : Ph D} (hst : ρ[i]? = some .st)
    (h : wp (φ ρ S) fun d S1 => ∃ M n : Int, d = .int M ∧ 1 ≤ M ∧ M ≤ 16 ∧ n < 2 ^ 40 ∧ Inv S1 n ∧ ∀ (zs : List Int) (S' : Sto), Inv S' (n + 30) → Bl zs M M.toNat → Q (tupI zs) S') : wp (mCall1 m_law_shuffle i (mCons φ mNil) ρ S) Q := by
  rw [w_call1, hst, stQ_st, w_cons]
  refine wp.mono h ?_
  rintro _ S1 ⟨M, n, rfl, h1, h2, h3, h4, q⟩
  rw [w_nil]
  refine wp.mono (shuffle_ok S1 n M h1 h2 h3 h4) ?_
  rintro _ S' ⟨i1, zs, rfl, hB⟩
  exact q zs S' i1 hB
/-- 1 + take(store, min(m, k)) -/
theorem w_size {ρ : List L} {S : Sto} {n m k : Int} {Q : D → Sto → Prop} {φ : Ph D} (hst : ρ[0]? = some .st) (hφ : ∀ S, φ ρ S = .ok (.int m) S) (hm : m.natAbs < 2 ^ 90) (hk : k.natAbs < 2 ^ 90) (hn : n < 2 ^ 50) (h : Inv S n)
    (q : ∀ (z : Int) (S' : Sto), Inv S' (n + 1) → 1 ≤ z → (1 ≤ m → 1 ≤ k → z ≤ m ∧ z ≤ k) → Q (.int z) S') :
    wp (m2 gAdd (mC (.int 1)) (mCall1 m_law_take 0 (mCons (mCB (pureC minC) (mCons φ (mCons (mC (.int k)) mNil))) mNil)) ρ S) Q := by
  rw [w_m2, w_c]
  have e : mCB (pureC minC) (mCons φ (mCons (mC (.int k)) mNil)) ρ S = .ok (.int (if k < m then k else m)) S := by
    show ((mCons φ (mCons (mC (.int k)) mNil)) ρ S).bind (pureC minC) = _
    have : mCons φ (mCons (mC (.int k)) mNil) ρ S = .ok [.int m, .int k] S := by
      show (φ ρ S).bind _ = _
      rw [hφ]; rfl
    rw [this]; rfl
  refine w_takeC hst e (by split <;> omega) (by omega) h fun t S1 h1 t1 t2 t3 => ?_
  rw [wp_add]
  refine q _ S1 h1 (by omega) fun a b => ?_
  by_cases c : (if k < m then k else m) < 2
  · rw [t3 c]; omega
  · have := t2 (by omega)
    split at this <;> omega
theorem pair_ok (S : Sto) (n : Int) (hn : n < 2 ^ 30) (h : Inv S n) : wp (m_law_pair [.int 16] S) fun r S' => Inv S' (n + 4000) ∧ ∃ (f s : List Nat) (p : Nat), r = .d (.tup [nmD f, nmD s]) ∧ Nm f p ∧ Nm s p ∧ 1 ≤ p ∧ p ≤ 16 := by
  refine wp_run [.st, .d (.int 16), .un, .un, .un, .un, .un, .un, .un, .un, .un, .un, .un, .un, .un, .un, .un] rfl ?_
  refine wp.mono (Q := fun c S' => ∃ (f s : List Nat) (p : Nat), c = .rt (.tup [nmD f, nmD s]) ∧ Inv S' (n + 4000) ∧ Nm f p ∧ Nm s p ∧ 1 ≤ p ∧ p ≤ 16) ?_ (by
    rintro _ S' ⟨f, s, p, rfl, a, b⟩; exact ⟨a, f, s, p, rfl, b⟩)
  unfold b_law_pair
  rw [wp_seq, w_set]
  refine w_takeC rfl rfl (by decide) (by omega) h fun kind S1 h1 k1 k2 k3 => ?_
  rw [sq_nx, wp_seq, w_ifs, w_B, w_m2, w_var]
  simp only [List.set_cons_zero, List.set_cons_succ, List.getElem?_cons_zero, List.getElem?_cons_succ, varQ_d, w_c, wp_lt, wp_toB]
  by_cases c1 : kind < 2
  · rw [if_pos (by simpa using c1), wp_seq, w_set]
    refine w_partC rfl ?_
    rw [w_m2, w_c]
    refine w_takeC rfl rfl (by decide) (by omega) h1 fun t S2 h2 t1 t2 t3 => ?_
    rw [wp_add]
    refine ⟨_, _, rfl, by omega, by have := t2 (by decide); omega, by omega, h2, fun f S3 h3 hf => ?_⟩
    have ht := t2 (by decide)
    have hP1 : 1 ≤ 1 + t := by omega
    have hP2 : 1 + t ≤ 16 := by omega
    generalize 1 + t = P at *
    have hl := hf.len
    rw [sq_nx, w_ret, w_tup, w_cons, w_var]
    simp only [List.set_cons_zero, List.set_cons_succ, List.getElem?_cons_zero, List.getElem?_cons_succ, varQ_d]
    rw [w_cons]
    refine w_partC rfl ?_
    rw [w_cb, w_cons, w_var]
    simp only [List.getElem?_cons_zero, List.getElem?_cons_succ, varQ_d, w_nil]
    unfold nmD
    rw [w_lenT, List.length_map]
    refine ⟨_, _, rfl, by omega, by omega, by omega, h3, fun s S4 h4 hs => ?_⟩
    refine ⟨rfl, f, s, f.length, rfl, h4.mono (by omega), ⟨hf.cn, rfl⟩, ⟨hs.cn, by rw [hs.len]; omega⟩, by omega, by omega⟩
  rw [if_neg (by simpa using c1), w_next, sq_nx, wp_seq, w_set]
  refine w_size rfl (fun S => rfl) (by decide) (by decide) (by omega) h1 fun a S2 h2 a1 a2 => ?_
  obtain ⟨a2, a3⟩ := a2 (by decide) (by decide)
  rw [sq_nx, wp_seq, w_set]
  simp only [List.set_cons_zero, List.set_cons_succ]
  have d1 : CDivW 16 a := smallDiv (by omega) (by omega)
  have v1 : 4 ≤ 16 / a := by
    refine Int.le_ediv_of_mul_le (by omega) (by omega)
  have v2 : 16 / a ≤ 16 := Int.ediv_le_self _ (by decide)
  refine w_size (m := 16 / a) rfl (fun S => ?_) (by omega) (by decide) (by omega) h2 fun b S3 h3 b1 b2 => ?_
  · show pure2 (int2 _ _) _ _ _ = _
    unfold pure2 int2
    simp only [decide_eq_true d1, if_true]
  obtain ⟨b2, b3⟩ := b2 (by omega) (by decide)
  rw [sq_nx, wp_seq, w_set]
  simp only [List.set_cons_zero, List.set_cons_succ]
  have ab : a * b ≤ 16 := by
    have e1 : a * (16 / a) ≤ 16 := Int.mul_ediv_self_le (by omega)
    have e2 : a * b ≤ a * (16 / a) := Int.mul_le_mul_of_nonneg_left b2 (by omega)
    omega
  have ab1 : 1 ≤ a * b := Int.mul_pos (by omega) (by omega)
  have dm : CMulW a b := smallMul (by omega) (by omega)
  have d2 : CDivW 16 (a * b) := smallDiv (by omega) (by omega)
  have v3 : 1 ≤ 16 / (a * b) := Int.le_ediv_of_mul_le (by omega) (by omega)
  have v4 : 16 / (a * b) ≤ 16 := Int.ediv_le_self _ (by decide)
  refine w_size (m := 16 / (a * b)) rfl (fun S => ?_) (by omega) (by decide) (by omega) h3 fun c S4 h4 c1' c2 => ?_
  · show ((pure2 (int2 _ _) (.int a) (.int b) S).bind fun y S2 => pure2 (int2 _ _) (.int 16) y S2) = _
    unfold pure2 int2
    simp only [decide_eq_true dm, if_true, Out.bind, decide_eq_true d2]
  obtain ⟨c2, c3⟩ := c2 (by omega) (by decide)
  have abc : a * b * c ≤ 16 := by
    have e1 : (a * b) * (16 / (a * b)) ≤ 16 := Int.mul_ediv_self_le (by omega)
    have e2 : (a * b) * c ≤ (a * b) * (16 / (a * b)) := Int.mul_le_mul_of_nonneg_left c2 (by omega)
    omega
  have abc1 : 1 ≤ a * b * c := Int.mul_pos (by omega) (by omega)
  rw [sq_nx, wp_seq, w_set, w_frz, w_lc, w_seqI, w_tup]
  simp only [List.set_cons_zero, List.set_cons_succ]
  simp only [w_set, w_setO, w_m2, w_m1, w_var, varQ_d, w_c, w_nil, w_cons, w_cb, w_cbo, w_int, w_intB, w_abs, w_max, w_min, w_lenL, w_lenT, w_B, w_and, w_or, w_not, w_if, w_ret, w_retO, w_next, w_tup, w_lst, w_frz, w_andV, w_notV, stQ_st, w_st1, w_st2, w_st3, w_st4, w_st5, w_cells, w_stS, lawB_law, setQ1, setQ2, setQ3, setQ5, w_for, w_range1, rngQ_int, w_seqI, w_seqL, w_seqT, w_lc, w_call0, w_call1, stepQ_nx, stepQ_bk, stepQ_rt, wp_ok, wp_bad, sq_rt, sq_ro, wp_add, wp_sub, wp_lt, wp_le, wp_gt, wp_ge, wp_mul, wp_mod, wp_fdiv, wp_pow, wp_ix, wp_ixT, wp_toB, wp_noX, List.set_cons_zero, List.set_cons_succ, List.getElem?_cons_zero, List.getElem?_cons_succ, List.length_map, if_true, decide_eq_true_eq, Bool.false_eq_true, if_false, wp_eqI, wp_neI]
  refine ⟨rfl, rfl, ?_⟩
  have hdim : ∀ (j : Nat) (x : D), ([D.int a, D.int b, D.int c] : List D)[j]? = some x → ∃ z : Int, x = .int z ∧ 1 ≤ z ∧ z ≤ 16 := fun j x e => by
    match j, e with
    | 0, e => cases e; exact ⟨a, rfl, by omega, by omega⟩
    | 1, e => cases e; exact ⟨b, rfl, by omega, by omega⟩
    | 2, e => cases e; exact ⟨c, rfl, by omega, by omega⟩
    | j + 3, e => cases e
  refine comp_inv _ (fun k xs S' => Inv S' (n + 100 + 40 * (k : Nat)) ∧ ∀ (j : Nat) (z : Int), ([D.int a, D.int b, D.int c] : List D)[j]? = some (.int z) → j < k → ∃ ns, xs[j]? = some (nmD ns) ∧ Nm ns z.toNat) _ _ ⟨h4.mono (by omega), fun j z e hj => by omega⟩ ?_ ?_
  · rintro k d xs S5 hk hl ⟨h5, q5⟩
    obtain ⟨z, rfl, z1, z2⟩ := hdim k d hk
    have hk3 : k < 3 := (List.getElem?_eq_some_iff.mp hk).1
    refine ⟨_, rfl, ?_⟩
    refine w_partC rfl ?_
    rw [w_var]
    refine ⟨z, _, rfl, z1, z2, by omega, h5, fun ns S6 h6 hns => ⟨h6.mono (by omega), fun j z' e hj => ?_⟩⟩
    by_cases hjk : j < k
    · obtain ⟨ns', e1, e2⟩ := q5 j z' e hjk
      exact ⟨ns', by rw [List.getElem?_append_left (by omega)]; exact e1, e2⟩
    · have : j = k := by omega
      subst this
      rw [hk] at e
      cases e
      exact ⟨ns, by rw [List.getElem?_append_right (by omega), hl, Nat.sub_self]; rfl, hns⟩
  rintro xs S5 hl ⟨h5, q5⟩
  obtain ⟨fa, ea, na⟩ := q5 0 a rfl (show 0 < 3 by decide)
  obtain ⟨fb, eb, nb⟩ := q5 1 b rfl (show 1 < 3 by decide)
  obtain ⟨fc, ec, nc⟩ := q5 2 c rfl (show 2 < 3 by decide)
  have hxs : xs = [nmD fa, nmD fb, nmD fc] := by
    match xs, hl, ea, eb, ec with
    | [x, y, z], _, ea, eb, ec => cases ea; cases eb; cases ec; rfl
  have h5 : Inv S5 (n + 300) := h5.mono (by simp; omega)
  rw [nm_tupI, nm_tupI, nm_tupI] at hxs
  have la : (fa.map fun (n : Nat) => (n : Int)).length = a.toNat := by rw [List.length_map, na.len]
  have lb : (fb.map fun (n : Nat) => (n : Int)).length = b.toNat := by rw [List.length_map, nb.len]
  have lc : (fc.map fun (n : Nat) => (n : Int)).length = c.toNat := by rw [List.length_map, nc.len]
  generalize (fa.map fun (n : Nat) => (n : Int)) = ca at *
  generalize (fb.map fun (n : Nat) => (n : Int)) = cb at *
  generalize (fc.map fun (n : Nat) => (n : Int)) = cc at *
  clear q5 ea eb ec hdim
  have hCd : D.lst xs = .lst [tupI ca, tupI cb, tupI cc] := by rw [hxs]
  generalize D.lst xs = Cd at *
  rw [sq_nx, wp_seq, w_set]
  refine w_shufC rfl ?_
  simp only [w_set, w_setO, w_m2, w_m1, w_var, varQ_d, w_c, w_nil, w_cons, w_cb, w_cbo, w_int, w_intB, w_abs, w_max, w_min, w_lenL, w_lenT, w_B, w_and, w_or, w_not, w_if, w_ret, w_retO, w_next, w_tup, w_lst, w_frz, w_andV, w_notV, stQ_st, w_st1, w_st2, w_st3, w_st4, w_st5, w_cells, w_stS, lawB_law, setQ1, setQ2, setQ3, setQ5, w_for, w_range1, rngQ_int, w_seqI, w_seqL, w_seqT, w_lc, w_call0, w_call1, stepQ_nx, stepQ_bk, stepQ_rt, wp_ok, wp_bad, sq_rt, sq_ro, wp_add, wp_sub, wp_lt, wp_le, wp_gt, wp_ge, wp_mul, wp_mod, wp_fdiv, wp_pow, wp_ix, wp_ixT, wp_toB, wp_noX, List.set_cons_zero, List.set_cons_succ, List.getElem?_cons_zero, List.getElem?_cons_succ, List.length_map, if_true, decide_eq_true_eq, Bool.false_eq_true, if_false, wp_eqI, wp_neI]
  refine ⟨dm, smallMul (by omega) (by omega), a * b * c, n + 300, rfl, abc1, abc, by omega, h5, fun ord S6 h6 hB => ?_⟩
  have hOd : tupI ord = tupI ord := rfl
  generalize hO : tupI ord = Od at *
  rw [sq_nx, wp_seq, w_setO, w_lst, w_nil]
  refine ⟨rfl, ?_⟩
  rw [sq_nx, wp_seq, w_for, w_range1, w_cons, w_c, w_nil, rngQ_int]
  simp only [List.set_cons_zero, List.set_cons_succ]
  refine ⟨by decide, ?_⟩
  refine forD_inv _ (fun k ρ S' => Inv S' (n + 500 + 10 * (k : Nat)) ∧ ∃ (ps : List (List Nat)) (l10 l11 l12 l13 l14 l15 l16 : L), ps.length = k ∧ (∀ p ∈ ps, Nm p (a * b * c).toNat) ∧ ρ = [.st, .d (.int 16), .d (.int kind), .un, .d (.int a), .d (.int b), .d (.int c), .d Cd, .d Od, .own (ps.map nmD), l10, l11, l12, l13, l14, l15, l16]) _ _ ⟨h6.mono (by omega), [], _, _, _, _, _, _, _, rfl, by simp, rfl⟩ ?_ ?_
  · rintro k d ρ S7 hk ⟨h7, ps, l10, l11, l12, l13, l14, l15, l16, hps, hnm, rfl⟩
    obtain ⟨hk', rfl⟩ := rangeD_at hk
    have hk2 : k < 2 := hk'
    refine ⟨_, rfl, ?_⟩
    generalize ((k : Nat) : Int) = kz
    rw [wp_seq, w_set, w_frz, w_lc, w_range1, w_cons, w_c, w_nil, rngQ_int]
    simp only [List.set_cons_zero, List.set_cons_succ]
    refine ⟨by decide, rfl, ?_⟩
    refine comp_inv _ (fun i xs S' => Inv S' (n + 500 + 10 * (k : Nat) + (i : Nat)) ∧ ∃ rs : List Int, xs = rs.map DL.D.int ∧ Bl rs 3 i) _ _ ⟨by simpa using h7, [], rfl, rfl, by simp⟩ ?_ ?_
    · rintro i d xs S8 hi hl ⟨h8, rs, rfl, hrs⟩
      obtain ⟨hi', rfl⟩ := rangeD_at hi
      have hi3 : i < 3 := hi'
      refine ⟨_, rfl, ?_⟩
      refine w_takeC rfl rfl (by decide) (by omega) h8 fun t S9 h9 t1 t2 t3 => ⟨h9.mono (by push_cast; omega), rs ++ [t], by rw [List.map_append]; rfl, by simp [hrs.len], fun z hz => ?_⟩
      rcases List.mem_append.mp hz with hz | hz
      · exact hrs.bd z hz
      · rw [List.mem_singleton.mp hz]; exact ⟨t1, t2 (by decide)⟩
    rintro xs S8 hl ⟨h8, rs, rfl, hrs⟩
    have h8 : Inv S8 (n + 500 + 10 * (k : Nat) + 3) := h8
    have hrs : Bl rs 3 3 := hrs
    generalize hRd : D.lst (rs.map DL.D.int) = Rd
    rw [sq_nx, wp_seq, w_setO, w_cbo, w_cons, w_var]
    simp only [List.set_cons_zero, List.set_cons_succ, List.getElem?_cons_zero, List.getElem?_cons_succ, varQ_d, w_nil]
    rw [← hO]
    unfold tupI
    rw [w_listT]
    have hO2 : D.tup (ord.map DL.D.int) = Od := hO
    rw [hO2, sq_nx, wp_seq]
    try simp only [List.set_cons_zero, List.set_cons_succ]
    refine wp.mono (labels_ok (a := a) (b := b) (c := c) (ca := ca) (cb := cb) (cc := cc) (rs := rs) (ord := ord) ⟨by omega, by omega⟩ ⟨by omega, by omega⟩ ⟨by omega, by omega⟩ abc hCd la lb lc hO.symm hB hRd.symm hrs) ?_
    rintro _ _ ⟨rfl, Ls, m13, m14, m15, m16, hLs, rfl⟩
    rw [sq_nx, w_gh rfl, w_app (xs := ps.map nmD) rfl, w_call0, w_cons, w_var]
    show varQ (some (.d (.lst (Ls.map labD)))) _ _
    rw [varQ_d, w_nil]
    generalize hxs2 : Ls.map labD = xs2
    obtain ⟨r, S9, f2, f3, f4⟩ := (canon_ok Ls xs2 hxs2 sto0 (by omega)).get
    rw [f2, wp_ok, f4]
    refine ⟨?_, ?_⟩
    · simp only [line, decide_eq_true_eq, List.length_map]; omega
    · rw [stepQ_nx]
      refine ⟨h8.mono (by push_cast; omega), ps ++ [cn Ls], _, _, _, _, _, _, _, by simp [hps], fun p hp => ?_, by rw [List.map_append]; rfl⟩
      rcases List.mem_append.mp hp with hp | hp
      · exact hnm p hp
      · rw [List.mem_singleton.mp hp]; exact ⟨cn_Cn Ls, by rw [cn_len, hLs]⟩
  · rintro ρ S7 ⟨h7, ps, l10, l11, l12, l13, l14, l15, l16, hps, hnm, rfl⟩
    rw [rangeD_len] at hps h7
    have h7 : Inv S7 (n + 600) := h7.mono (by simp; omega)
    obtain ⟨p0, p1, rfl⟩ : ∃ p0 p1, ps = [p0, p1] := by
      match ps, hps with
      | [x, y], _ => exact ⟨x, y, rfl⟩
    have n0 := hnm p0 (by simp)
    have n1 := hnm p1 (by simp)
    have hN1 : 1 ≤ (a * b * c).toNat := by omega
    have hN2 : (a * b * c).toNat ≤ 16 := by omega
    generalize hNN : (a * b * c).toNat = N at *
    rw [sq_nx]
    have hρ : ([.st, .d (.int 16), .d (.int kind), .un, .d (.int a), .d (.int b), .d (.int c), .d Cd, .d Od, .own (List.map nmD [p0, p1]), l10, l11, l12, l13, l14, l15, l16] : List L)[9]? = some (.own [nmD p0, nmD p1]) := rfl
    have hk : ([.st, .d (.int 16), .d (.int kind), .un, .d (.int a), .d (.int b), .d (.int c), .d Cd, .d Od, .own (List.map nmD [p0, p1]), l10, l11, l12, l13, l14, l15, l16] : List L)[2]? = some (.d (.int kind)) := rfl
    have hs : ([.st, .d (.int 16), .d (.int kind), .un, .d (.int a), .d (.int b), .d (.int c), .d Cd, .d Od, .own (List.map nmD [p0, p1]), l10, l11, l12, l13, l14, l15, l16] : List L)[0]? = some .st := rfl
    have ho : ([.st, .d (.int 16), .d (.int kind), .un, .d (.int a), .d (.int b), .d (.int c), .d Cd, .d Od, .own (List.map nmD [p0, p1]), l10, l11, l12, l13, l14, l15, l16] : List L)[8]? = some (.d Od) := rfl
    have hset : ∀ x : L, ([.st, .d (.int 16), .d (.int kind), .un, .d (.int a), .d (.int b), .d (.int c), .d Cd, .d Od, .own (List.map nmD [p0, p1]), l10, l11, l12, l13, l14, l15, l16] : List L).set 16 x = [.st, .d (.int 16), .d (.int kind), .un, .d (.int a), .d (.int b), .d (.int c), .d Cd, .d Od, .own (List.map nmD [p0, p1]), l10, l11, l12, l13, l14, l15, x] := fun x => rfl
    generalize ([.st, .d (.int 16), .d (.int kind), .un, .d (.int a), .d (.int b), .d (.int c), .d Cd, .d Od, .own (List.map nmD [p0, p1]), l10, l11, l12, l13, l14, l15, l16] : List L) = ρ7 at *
    have x0 : ∀ (S : Sto) (Q : D → Sto → Prop), Q (nmD p0) S → wp (mIxO 9 (mC (.int 0)) ρ7 S) Q := fun S Q q => w_ixO hρ (by rw [w_c]; exact ⟨0, _, rfl, rfl, q⟩)
    have x1 : ∀ (S : Sto) (Q : D → Sto → Prop), Q (nmD p1) S → wp (mIxO 9 (mC (.int 1)) ρ7 S) Q := fun S Q q => w_ixO hρ (by rw [w_c]; exact ⟨1, _, rfl, rfl, q⟩)
    have nl : ∀ ns : List Nat, nmD ns = labD (.t (ns.map fun (n : Nat) => (n : Int))) := fun ns => nm_tupI ns
    -- the second one pushed
    have push : wp (mRet (mTup (mCons (mIxO 9 (mC (.int 0))) (mCons (mCall1 m_law_nudged 0 (mCons (mIxO 9 (mC (.int 1))) mNil)) mNil))) ρ7 S7) fun c S' => ∃ (f s : List Nat) (p : Nat), c = .rt (.tup [nmD f, nmD s]) ∧ Inv S' (n + 4000) ∧ Nm f p ∧ Nm s p ∧ 1 ≤ p ∧ p ≤ 16 := by
      rw [w_ret, w_tup, w_cons]
      refine x0 _ _ ?_
      rw [w_cons, w_call1, hs, stQ_st, w_cons]
      refine x1 _ _ ?_
      rw [w_nil]
      refine wp.mono (nudged_ok S7 (n + 600) p1 (by rw [n1.len]; exact hN1) (by rw [n1.len]; exact hN2) (by omega) h7) ?_
      rintro _ S8 ⟨h8, ms, rfl, hms⟩
      rw [w_nil]
      exact ⟨rfl, p0, ms, N, rfl, h8.mono (by omega), n0, ⟨hms.cn, by rw [hms.len, n1.len]⟩, hN1, hN2⟩
    have plain : wp (mRet (mTup (mCons (mIxO 9 (mC (.int 0))) (mCons (mIxO 9 (mC (.int 1))) mNil))) ρ7 S7) fun c S' => ∃ (f s : List Nat) (p : Nat), c = .rt (.tup [nmD f, nmD s]) ∧ Inv S' (n + 4000) ∧ Nm f p ∧ Nm s p ∧ 1 ≤ p ∧ p ≤ 16 := by
      rw [w_ret, w_tup, w_cons]
      refine x0 _ _ ?_
      rw [w_cons]
      refine x1 _ _ ?_
      rw [w_nil]
      exact ⟨rfl, p0, p1, N, rfl, h7.mono (by omega), n0, n1, hN1, hN2⟩
    have third : wp (mSeq (mIfS (mB (m2 gEq (mVar 2) (mC (.int 3)))) (mRet (mTup (mCons (mIxO 9 (mC (.int 0))) (mCons (mCall0 m_law_canon [] (mCons (mFrz (mLc (.one 16) [16] (mRange1 (mCons (mCB (pureC lenC) (mCons (mVar 8) mNil)) mNil)) mYes (mTup (mCons (m2 gIx (mIxO 9 (mC (.int 0))) (mVar 16)) (mCons (m2 gIx (mIxO 9 (mC (.int 1))) (mVar 16)) mNil))))) mNil)) mNil)))) mNext) (mRet (mTup (mCons (mIxO 9 (mC (.int 0))) (mCons (mIxO 9 (mC (.int 1))) mNil)))) ρ7 S7) fun c S' => ∃ (f s : List Nat) (p : Nat), c = .rt (.tup [nmD f, nmD s]) ∧ Inv S' (n + 4000) ∧ Nm f p ∧ Nm s p ∧ 1 ≤ p ∧ p ≤ 16 := by
      rw [wp_seq, w_ifs, w_B, w_m2, w_var, hk, varQ_d, w_c, wp_eqI, wp_toB]
      by_cases c3 : kind = 3
      · rw [if_pos (by simpa using c3), w_ret, w_tup, w_cons]
        refine x0 _ _ ?_
        rw [w_cons, w_call0, w_cons, w_frz, w_lc, w_range1, w_cons, w_cb, w_cons, w_var, ho, varQ_d, w_nil, ← hO]
        unfold tupI
        rw [w_lenT, List.length_map, hB.len, w_nil, rngQ_int]
        refine ⟨by unfold okR; simp; omega, by rw [rangeD_len]; simp only [line, decide_eq_true_eq]; omega, ?_⟩
        refine comp_inv _ (fun k xs S' => S7 = S' ∧ ∃ Ls : List Lb, xs = Ls.map labD ∧ Ls.length = k) _ _ ⟨rfl, [], rfl, rfl⟩ ?_ ?_
        · rintro k d xs S8 hkk hl ⟨rfl, Ls, rfl, hLs⟩
          obtain ⟨hkk', rfl⟩ := rangeD_at hkk
          have hkN : k < N := by simpa using hkk'
          refine ⟨_, rfl, ?_⟩
          have e9 : ((wipeL ρ7 [16]).set 16 (.d (.int (k : Nat))))[9]? = some (.own [nmD p0, nmD p1]) := by
            show ((ρ7.set 16 .un).set 16 _)[9]? = _
            rw [List.set_set, List.getElem?_set, if_neg (by decide), hρ]
          have e16 : ((wipeL ρ7 [16]).set 16 (.d (.int (k : Nat))))[16]? = some (.d (.int (k : Nat))) := by
            show ((ρ7.set 16 .un).set 16 _)[16]? = _
            rw [List.set_set, hset]; rfl
          generalize (wipeL ρ7 [16]).set 16 (.d (.int (k : Nat))) = ρ8 at *
          have y : ∀ (j : Int) (ns : List Nat) (S : Sto) (Q : D → Sto → Prop), atI [nmD p0, nmD p1] j = some (nmD ns) → ns.length = N → (∀ u : Int, Q (.int u) S) → wp (m2 gIx (mIxO 9 (mC (.int j))) (mVar 16) ρ8 S) Q := fun j ns S Q ea el q => by
            rw [w_m2]
            refine w_ixO e9 ?_
            rw [w_c]
            refine ⟨j, _, rfl, ea, ?_⟩
            rw [w_var, e16, varQ_d, nm_tupI]
            exact w_ixI (by omega) (by rw [List.length_map, el]; omega) q
          rw [w_tup, w_cons]
          refine y 0 p0 _ _ rfl n0.len fun u => ?_
          rw [w_cons]
          refine y 1 p1 _ _ rfl n1.len fun v => ?_
          rw [w_nil]
          exact ⟨rfl, rfl, Ls ++ [.t [u, v]], by rw [List.map_append]; rfl, by simp [hLs]⟩
        · rintro xs S8 hl ⟨rfl, Ls, hx, hLs⟩
          rw [rangeD_len] at hLs
          have hLs : Ls.length = N := by simpa using hLs
          rw [w_nil]
          obtain ⟨r, S9, f2, f3, f4⟩ := (canon_ok Ls xs hx.symm sto0 (by omega)).get
          rw [f2, wp_ok, f4, w_nil]
          exact ⟨rfl, p0, cn Ls, N, rfl, h7.mono (by omega), n0, ⟨cn_Cn Ls, by rw [cn_len, hLs]⟩, hN1, hN2⟩
      · rw [if_neg (by simpa using c3), w_next, sq_nx]
        exact plain
    rw [wp_seq, w_ifs, w_or, w_B, w_m2, w_var, hk, varQ_d, w_c, wp_eqI, wp_toB]
    by_cases c2 : kind = 2
    · rw [if_pos (by simpa using c2), if_pos rfl]
      refine wp.mono push ?_
      rintro _ S' ⟨f, s, p, rfl, q⟩
      exact ⟨f, s, p, rfl, q⟩
    · rw [if_neg (by simpa using c2), w_and, w_B, w_m2, w_var, hk, varQ_d, w_c, wp_gt, wp_toB]
      by_cases c4 : 4 < kind
      · rw [if_pos (by simpa using c4), w_B, w_m2]
        refine x0 _ _ (x1 _ _ ?_)
        rw [nl p0, nl p1, wp_eqL, wp_toB]
        by_cases ce : Lb.t (p0.map fun (n : Nat) => (n : Int)) = Lb.t (p1.map fun (n : Nat) => (n : Int))
        · rw [if_pos (by simpa using ce)]
          refine wp.mono push ?_
          rintro _ S' ⟨f, s, p, rfl, q⟩
          exact ⟨f, s, p, rfl, q⟩
        · rw [if_neg (by simpa using ce), w_next, sq_nx]
          exact third
      · rw [if_neg (by simpa using c4), if_neg Bool.false_ne_true, w_next, sq_nx]
        exact third
end K23

set_option Elab.async false
set_option linter.all false
set_option maxRecDepth 100000
set_option maxHeartbeats 4000000
set_option autoImplicit false
namespace K23
open PySem PySem.Spec L2 DL
/-- the plots of the lot of a name -/
def lotOf (ns : List Nat) (v : Nat) : List Nat := (List.range ns.length).filter fun k => decide (ns[k]? = some v)
def reps (ns : List Nat) : List Nat := (List.range ns.length).filter fun k => decide (ns[k]? = some k)
def lots (ns : List Nat) : List (List Nat) := (reps ns).map (lotOf ns)
def lotsD (ns : List Nat) : D := .tup ((lots ns).map nmD)
theorem wp_eq {α : Type} {o : Out α} {a : α} {S : Sto} (h : wp o fun x S' => x = a ∧ S' = S) : o = .ok a S := by
  obtain ⟨x, S', e, rfl, rfl⟩ := h.get
  exact e
def pD (q : Nat → Bool) : D → Bool
  | .int z => q z.toNat
  | _ => false
theorem filter_range (n : Nat) (q : Nat → Bool) : ((rangeD 0 n).filter (pD q)).map id = ((List.range n).filter q).map inD := by
  rw [List.map_id]
  have e : rangeD 0 n = (List.range n).map inD := by
    unfold rangeD
    refine List.map_congr_left fun k _ => ?_
    show D.int (0 + (k : Nat)) = .int (k : Nat)
    rw [Int.zero_add]
  rw [e, List.filter_map]
  congr 1
theorem nm_at {ns : List Nat} {k : Nat} {v : Nat} (h : ns[k]? = some v) : atI (ns.map inD) ((k : Nat) : Int) = some (.int (v : Nat)) := atL (by rw [List.getElem?_map, h]; rfl)
theorem law_lots_ok (ns : List Nat) (hl : ns.length ≤ 16) : wp (m_law_lots [nmD ns] sto0) fun r S' => r = .d (lotsD ns) := by
  have hIx : ∀ (k v : Nat) (S : Sto) (Q : D → Sto → Prop), ns[k]? = some v → Q (.int (v : Nat)) S → wp (gIx (nmD ns) (.int (k : Nat)) S) Q := fun k v S Q e q => by
    unfold nmD
    rw [wp_ixT]
    exact ⟨_, nm_at e, q⟩
  have hLn : ∀ (S : Sto) (Q : D → Sto → Prop), wp (pureC lenC [nmD ns] S) Q = Q (.int (ns.length : Nat)) S := fun S Q => by
    unfold nmD; rw [w_lenT, List.length_map]
  generalize hnd : nmD ns = nd at *
  refine wp_run [.d nd, .un, .un, .un] rfl ?_
  unfold b_law_lots
  rw [wp_seq, w_setO, w_lst, w_nil]
  refine ⟨rfl, ?_⟩
  rw [sq_nx, wp_seq, w_for, w_range1, w_cons, w_cb, w_cons, w_var]
  simp only [List.set_cons_zero, List.set_cons_succ, List.getElem?_cons_zero, varQ_d, w_nil]
  rw [hLn]
  rw [rngQ_int]
  refine ⟨by unfold okR; simp; omega, ?_⟩
  have hrl : ∀ k, ((((List.range k).filter fun j => decide (ns[j]? = some j)).map (lotOf ns)).map nmD).length ≤ k := fun k => by
    rw [List.length_map, List.length_map]
    exact Nat.le_trans (List.length_filter_le _ _) (by rw [List.length_range]; exact Nat.le_refl _)
  refine forD_inv _ (fun k ρ S' => ∃ l2 l3, ρ = [.d nd, .own ((((List.range k).filter fun j => decide (ns[j]? = some j)).map (lotOf ns)).map nmD), l2, l3]) _ _ ⟨_, _, rfl⟩ ?_ ?_
  · rintro k d ρ S2 hk ⟨l2, l3, rfl⟩
    obtain ⟨hk', rfl⟩ := rangeD_at hk
    have hkl : k < ns.length := by simpa using hk'
    have hrk := hrl k
    have hv : ns[k]? = some ns[k] := List.getElem?_eq_getElem hkl
    have hsnoc : (List.range (k + 1)).filter (fun j => decide (ns[j]? = some j)) = (List.range k).filter (fun j => decide (ns[j]? = some j)) ++ (if ns[k] = k then [k] else []) := by
      rw [List.range_succ, List.filter_append]
      congr 1
      rw [List.filter_cons, hv]
      by_cases c : ns[k] = k <;> simp [c]
    generalize hO : (List.range k).filter (fun j => decide (ns[j]? = some j)) = O at *
    refine ⟨_, rfl, ?_⟩
    rw [w_ifs, w_B, w_m2, w_m2, w_var]
    simp only [List.set_cons_zero, List.set_cons_succ, List.getElem?_cons_zero, List.getElem?_cons_succ, varQ_d]
    rw [w_var]
    simp only [List.getElem?_cons_zero, List.getElem?_cons_succ, varQ_d]
    refine hIx k _ _ _ hv ?_
    rw [w_var]
    simp only [List.getElem?_cons_zero, List.getElem?_cons_succ, varQ_d]
    rw [wp_eqI, wp_toB]
    by_cases c : ns[k] = k
    · rw [if_pos (by simp [c]), w_app (xs := (O.map (lotOf ns)).map nmD) rfl, w_cb, w_cons, w_frz, w_lc, w_range1, w_cons, w_cb, w_cons, w_var]
      simp only [List.getElem?_cons_zero, List.getElem?_cons_succ, varQ_d, w_nil]
      rw [hLn, rngQ_int]
      refine ⟨by unfold okR; simp; omega, by rw [rangeD_len]; simp only [line, decide_eq_true_eq]; omega, ?_⟩
      refine comp_filter (pD fun j => decide (ns[j]? = some k)) id _ _ _ (fun d hd => ?_) ?_
      · obtain ⟨j, hj⟩ := List.mem_iff_getElem?.mp hd
        obtain ⟨hj', rfl⟩ := rangeD_at hj
        have hjl : j < ns.length := by simpa using hj'
        have hw : ns[j]? = some ns[j] := List.getElem?_eq_getElem hjl
        refine ⟨_, rfl, wp_eq ?_, fun _ => rfl⟩
        show wp (mB _ ([.d nd, .own ((O.map (lotOf ns)).map nmD), .d (.int (k : Nat)), .d (.int (j : Nat))] : List L) S2) _
        rw [w_B, w_m2, w_m2, w_var]
        simp only [List.getElem?_cons_zero, List.getElem?_cons_succ, varQ_d]
        rw [w_var]
        simp only [List.getElem?_cons_zero, List.getElem?_cons_succ, varQ_d]
        refine hIx j _ _ _ hw ?_
        rw [w_var]
        simp only [List.getElem?_cons_zero, List.getElem?_cons_succ, varQ_d]
        rw [wp_eqI, wp_toB]
        refine ⟨?_, rfl⟩
        show _ = decide (ns[((j : Nat) : Int).toNat]? = some k)
        rw [Int.toNat_natCast, hw]
        by_cases e : ns[j] = k
        · simp [e]
        · simp [e]; omega
      · rw [w_tuple, filter_range]
        refine ⟨by simp only [line, decide_eq_true_eq]; omega, ?_⟩
        rw [stepQ_nx]
        refine ⟨.d (.int (k : Nat)), l3, ?_⟩
        rw [hsnoc, if_pos c, List.map_append, List.map_append]
        simp only [Int.toNat_natCast]
        rfl
    · rw [if_neg (by simpa using (fun h => c (by omega))), w_next, stepQ_nx]
      refine ⟨.d (.int (k : Nat)), l3, ?_⟩
      rw [hsnoc, if_neg c, List.append_nil]
  · rintro ρ S2 ⟨l2, l3, rfl⟩
    rw [rangeD_len, sq_nx, w_ret, w_tupO rfl]
    simp only [Int.toNat_natCast]
    rfl
end K23

set_option Elab.async false
set_option linter.all false
set_option maxRecDepth 100000
set_option maxHeartbeats 4000000
set_option autoImplicit false
namespace K23
open PySem PySem.Spec L2 DL
theorem lookI_snoc (kvs : List (Key × Int)) (k k' : Key) (z : Int) : lookI (kvs ++ [(k, z)]) k' = (lookI kvs k').or (if k = k' then some z else none) := by
  unfold lookI
  rw [List.find?_append]
  cases e : kvs.find? fun p => decide (p.1 = k') with
  | some p => rfl
  | none =>
    by_cases c : k = k' <;> simp [c]
def stoK (kvs : List (Key × Int)) : Sto := { sto0 with mode := .dc kvs }
theorem first_ok (ns : List Nat) (hc : Cn ns) (hl : ns.length ≤ 16) (S : Sto) : wp (m_first_places [.lst (ns.map inD)] S) fun r S' => r = .own (ns.map inD) := by
  have e0 : enumD (ns.map inD) = enumD (ns.map inD) := rfl
  have hb : wp (b_first_places [.d (.lst (ns.map inD)), .st, .un, .un] stoD) fun c S' => c = .ro (ns.map inD) := by
    unfold b_first_places
    have hen : wp (mEnum (mCons (mVar 0) mNil) [.d (.lst (ns.map inD)), .st, .un, .un] stoD) fun ds S1 => ds = enumD (ns.map inD) ∧ S1 = stoD := by
      unfold mEnum
      rw [wp_bind, w_cons, w_var]
      simp only [List.getElem?_cons_zero, varQ_d, w_nil]
      show wp (.ok _ _) _
      rw [wp_ok]
      exact ⟨rfl, rfl⟩
    rw [wp_seq, w_for]
    refine wp.mono hen ?_
    rintro _ _ ⟨rfl, rfl⟩
    generalize hnd : D.lst (ns.map inD) = nd
    refine forD_inv _ (fun k ρ S' => ∃ kvs l2 l3, S' = stoK kvs ∧ kvs.length ≤ k ∧ (∀ v : Nat, lookI kvs (.inl (v : Int)) = if v < k ∧ ns[v]? = some v then some (v : Int) else none) ∧ ρ = [.d nd, .st, l2, l3]) _ _ ⟨[], _, _, rfl, Nat.le_refl _, fun v => by rw [if_neg (by omega)]; rfl, rfl⟩ ?_ ?_
    · rintro k d ρ S2 hk ⟨kvs, l2, l3, rfl, hkl, hlook, rfl⟩
      rw [enumD_get, List.getElem?_map] at hk
      cases q : ns[k]? with
      | none => rw [q] at hk; cases hk
      | some v =>
        rw [q] at hk
        cases hk
        have hkn : k < ns.length := (List.getElem?_eq_some_iff.mp q).1
        obtain ⟨hv1, hv2⟩ := hc k v q
        refine ⟨_, rfl, ?_⟩
        show wp (mIfS _ _ _ ([.d nd, .st, .d (.int (k : Nat)), .d (inD v)] : List L) (stoK kvs)) _
        have hni : wp (mDNotIn 1 (mVar 3) ([.d nd, .st, .d (.int (k : Nat)), .d (inD v)] : List L) (stoK kvs)) fun c S' => S' = stoK kvs ∧ c = !(lookI kvs (.inl (v : Int))).isSome := by
          unfold mDNotIn
          rw [wp_bind, w_var]
          simp only [List.getElem?_cons_zero, List.getElem?_cons_succ, varQ_d]
          show wp (.ok _ _) _
          rw [wp_ok]
          exact ⟨rfl, rfl⟩
        rw [w_ifs]
        refine wp.mono hni ?_
        rintro _ _ ⟨rfl, rfl⟩
        by_cases c : v < k
        · have hlv : lookI kvs (.inl (v : Int)) = some (v : Int) := by rw [hlook v, if_pos ⟨c, hv2⟩]
          rw [hlv]
          simp only [Option.isSome_some, Bool.not_true, Bool.false_eq_true, if_false]
          rw [w_next, stepQ_nx]
          refine ⟨kvs, _, _, rfl, by omega, fun u => ?_, rfl⟩
          rw [hlook u]
          by_cases cu : u = k
          · subst cu
            rw [if_neg (by omega), if_neg (fun h => ?_)]
            rw [q] at h
            have := Option.some.inj h.2
            omega
          · by_cases c1 : u < k ∧ ns[u]? = some u
            · rw [if_pos c1, if_pos ⟨by omega, c1.2⟩]
            · rw [if_neg c1, if_neg fun h => c1 ⟨by omega, h.2⟩]
        · have hvk : v = k := by omega
          subst hvk
          have hlk : lookI kvs (.inl (v : Int)) = none := by rw [hlook v, if_neg (fun h => c h.1)]
          rw [hlk]
          simp only [Option.isSome_none, Bool.not_false, if_true]
          have hput : wp (mDPut 1 (mVar 3) (mVar 2) ([.d nd, .st, .d (.int (v : Nat)), .d (inD v)] : List L) (stoK kvs)) fun c S' => S' = stoK (kvs ++ [(.inl (v : Int), (v : Int))]) ∧ c = .nx [.d nd, .st, .d (.int (v : Nat)), .d (inD v)] := by
            have e : mDPut 1 (mVar 3) (mVar 2) ([.d nd, .st, .d (.int (v : Nat)), .d (inD v)] : List L) (stoK kvs) = .ok (.nx [.d nd, .st, .d (.int (v : Nat)), .d (inD v)]) (stoK (kvs ++ [(.inl (v : Int), (v : Int))])) := by
              show (if (lookI kvs (.inl (v : Int))).isSome = false ∧ kvs.length < 1000 then _ else _) = _
              rw [if_pos ⟨by rw [hlk]; rfl, by omega⟩]
              rfl
            rw [e, wp_ok]
            exact ⟨rfl, rfl⟩
          refine wp.mono hput ?_
          rintro _ _ ⟨rfl, rfl⟩
          rw [stepQ_nx]
          refine ⟨_, _, _, rfl, by rw [List.length_append]; simp; omega, fun u => ?_, rfl⟩
          rw [lookI_snoc, hlook u]
          by_cases cu : u = v
          · subst cu
            rw [if_neg (by omega), if_pos rfl, if_pos ⟨by omega, q⟩]; rfl
          · rw [if_neg (fun h : (Sum.inl (v : Int) : Key) = .inl (u : Int) => cu (by have := Sum.inl.inj h; omega))]
            by_cases c1 : u < v ∧ ns[u]? = some u
            · rw [if_pos c1, if_pos ⟨by omega, c1.2⟩]; rfl
            · rw [if_neg c1, if_neg fun h => c1 ⟨by omega, h.2⟩]; rfl
    · rintro ρ S2 ⟨kvs, l2, l3, rfl, hkl, hlook, rfl⟩
      rw [enumD_len, List.length_map] at hlook
      rw [sq_nx, w_retO, w_lc, w_seqI, w_var]
      simp only [List.getElem?_cons_zero, varQ_d]
      rw [← hnd, w_seqL]
      refine ⟨by simp only [line, decide_eq_true_eq, List.length_map]; omega, ?_⟩
      refine comp_inv _ (fun k xs S' => stoK kvs = S' ∧ xs = (ns.take k).map inD) _ _ ⟨rfl, rfl⟩ ?_ ?_
      · rintro k d xs S3 hk hxl ⟨rfl, rfl⟩
        rw [List.getElem?_map] at hk
        cases q : ns[k]? with
        | none => rw [q] at hk; cases hk
        | some v =>
          rw [q] at hk
          cases hk
          have hkn : k < ns.length := (List.getElem?_eq_some_iff.mp q).1
          obtain ⟨hv1, hv2⟩ := hc k v q
          refine ⟨_, rfl, ?_⟩
          have e : mDGet 1 (mVar 3) ((wipeL [.d (.lst (ns.map inD)), .st, l2, l3] [3]).set 3 (.d (inD v))) (stoK kvs) = .ok (.int (v : Nat)) (stoK kvs) := by
            show (match lookI kvs (.inl (v : Int)) with
              | some z => Out.ok (D.int z) (stoK kvs)
              | none => .bad) = _
            rw [hlook v, if_pos ⟨by omega, hv2⟩]
          rw [e, wp_ok]
          refine ⟨rfl, ?_⟩
          rw [List.take_add_one, q]
          simp [inD]
      · rintro xs S3 hxl ⟨rfl, rfl⟩
        rw [List.length_map, List.take_length]
  obtain ⟨c, S', e, rfl⟩ := hb.get
  have : m_first_places [.lst (ns.map inD)] S = .ok (.own (ns.map inD)) sto0 := by
    show (match b_first_places [.d (.lst (ns.map inD)), .st, .un, .un] stoD with
      | .ok (.rt d) _ => Out.ok (Res.d d) sto0
      | .ok (.ro xs) _ => .ok (.own xs) sto0
      | .ok (.nx _) _ => .ok (.d .non) sto0
      | .exc x _ _ => .exc x [] sto0
      | _ => .bad) = _
    rw [e]
  rw [this, wp_ok]
end K23

set_option Elab.async false
set_option linter.all false
set_option maxRecDepth 100000
set_option maxHeartbeats 4000000
set_option autoImplicit false
namespace K23
open PySem PySem.Spec L2 DL
theorem asc_eq : ∀ (l m : List Int), l.Pairwise (· < ·) → m.Pairwise (· < ·) → (∀ x, x ∈ l ↔ x ∈ m) → l = m
  | [], [], _, _, _ => rfl
  | [], y :: m, _, _, h => absurd ((h y).mpr List.mem_cons_self) (by simp)
  | x :: l, [], _, _, h => absurd ((h x).mp List.mem_cons_self) (by simp)
  | x :: l, y :: m, h1, h2, h => by
    rw [List.pairwise_cons] at h1 h2
    have exy : x = y := by
      rcases List.mem_cons.mp ((h x).mp List.mem_cons_self) with e | e
      · exact e
      · rcases List.mem_cons.mp ((h y).mpr List.mem_cons_self) with e' | e'
        · exact e'.symm
        · have a := h2.1 x e
          have b := h1.1 y e'
          omega
    subst exy
    have : l = m := asc_eq l m h1.2 h2.2 fun z => ⟨fun hz => by
      rcases List.mem_cons.mp ((h z).mp (List.mem_cons_of_mem _ hz)) with e | e
      · have := h1.1 z hz; omega
      · exact e, fun hz => by
      rcases List.mem_cons.mp ((h z).mpr (List.mem_cons_of_mem _ hz)) with e | e
      · have := h2.1 z hz; omega
      · exact e⟩
    rw [this]
def zn (n : Nat) : Int := n
theorem reps_asc (ns : List Nat) (hc : Cn ns) : ascU (ns.map zn) = (reps ns).map zn := by
  refine asc_eq _ _ (asc_ascU _) ?_ fun x => ?_
  · have h : (reps ns).Pairwise (· < ·) := List.Pairwise.filter _ List.pairwise_lt_range
    exact List.Pairwise.map zn (fun a b h => by show (a : Int) < (b : Int); omega) h
  · rw [mem_ascU]
    constructor
    · intro h
      obtain ⟨v, hv, rfl⟩ := List.mem_map.mp h
      obtain ⟨k, hk⟩ := List.mem_iff_getElem?.mp hv
      obtain ⟨h1, h2⟩ := hc k v hk
      refine List.mem_map.mpr ⟨v, List.mem_filter.mpr ⟨?_, by simpa using h2⟩, rfl⟩
      exact List.mem_range.mpr (List.getElem?_eq_some_iff.mp h2).1
    · intro h
      obtain ⟨v, hv, rfl⟩ := List.mem_map.mp h
      have h2 := (List.mem_filter.mp hv).2
      exact List.mem_map.mpr ⟨v, List.mem_iff_getElem?.mpr ⟨v, by simpa using h2⟩, rfl⟩
theorem ints_in : ∀ ns : List Nat, intsOf (ns.map inD) = some (ns.map zn)
  | [] => rfl
  | n :: ns => by
    rw [List.map_cons, List.map_cons]
    show intsOf (.int (n : Int) :: ns.map inD) = _
    unfold intsOf
    rw [ints_in ns]; rfl
def pE (v : Int) : D → Bool
  | .tup [.int _, .int u] => decide (u = v)
  | _ => false
def fE : D → D
  | .tup [d, _] => d
  | d => d
def gE (ns : List Nat) (k : Nat) : D := .tup [.int (k : Nat), inD (ns[k]?.getD 0)]
theorem enum_in (ns : List Nat) : enumD (ns.map inD) = (List.range ns.length).map (gE ns) := by
  apply List.ext_getElem?
  intro i
  rw [enumD_get, List.getElem?_map, List.getElem?_map]
  by_cases h : i < ns.length
  · rw [List.getElem?_range h, List.getElem?_eq_getElem h]
    show some _ = some (gE ns i)
    unfold gE
    rw [List.getElem?_eq_getElem h]; rfl
  · rw [List.getElem?_eq_none (by omega), List.getElem?_eq_none (by simpa using h)]; rfl
theorem enum_filter (ns : List Nat) (v : Nat) : ((enumD (ns.map inD)).filter (pE (v : Int))).map fE = (lotOf ns v).map inD := by
  rw [enum_in, List.filter_map, List.map_map]
  unfold lotOf
  have e : (List.range ns.length).filter (pE (v : Int) ∘ gE ns) = (List.range ns.length).filter fun k => decide (ns[k]? = some v) := by
    refine List.filter_congr fun k hk => ?_
    have hk : k < ns.length := List.mem_range.mp hk
    show decide (((ns[k]?.getD 0 : Nat) : Int) = (v : Int)) = _
    rw [List.getElem?_eq_getElem hk]
    show decide (((ns[k] : Nat) : Int) = (v : Int)) = decide (some ns[k] = some v)
    by_cases h : ns[k] = v
    · simp [h]
    · simp [h]; omega
  rw [e]
  rfl
theorem byname_ok (ns : List Nat) (hc : Cn ns) (hl : ns.length ≤ 16) (S : Sto) : wp (m_lots_by_name [.lst (ns.map inD)] S) fun r S' => r = .own ((lots ns).map nmD) := by
  have hss : ∀ (S : Sto) (ρ : List L), ρ[0]? = some (.d (.lst (ns.map inD))) → mSortedSet (mVar 0) ρ S = .ok ((reps ns).map inD) S := fun S ρ h => by
    unfold mSortedSet mVar
    rw [h]
    show (match intsOf (ns.map inD) with
      | some ns => if ns.length < 64 then Out.ok ((ascU ns).map D.int) S else .bad
      | none => .bad) = _
    rw [ints_in]
    show (if (ns.map zn).length < 64 then Out.ok ((ascU (ns.map zn)).map D.int) S else .bad) = _
    rw [if_pos (by rw [List.length_map]; omega), reps_asc ns hc, List.map_map]
    rfl
  have hen : ∀ (S : Sto) (ρ : List L), ρ[0]? = some (.d (.lst (ns.map inD))) → mEnum (mCons (mVar 0) mNil) ρ S = .ok (enumD (ns.map inD)) S := fun S ρ h => by
    unfold mEnum mCons mVar
    rw [h]; rfl
  have hrl : (reps ns).length ≤ 16 := Nat.le_trans (List.length_filter_le _ _) (by rw [List.length_range]; exact hl)
  have hel : (enumD (ns.map inD)).length ≤ 16 := by rw [enumD_len, List.length_map]; exact hl
  generalize hnd : D.lst (ns.map inD) = nd at *
  refine wp_run [.d nd, .un, .un, .un] rfl ?_
  unfold b_lots_by_name
  rw [w_retO, w_lc, w_seqI, w_frz]
  refine wp.of (hss _ _ rfl) ?_
  rw [w_seqL]
  refine ⟨by simp only [line, decide_eq_true_eq, List.length_map]; omega, ?_⟩
  refine comp_inv _ (fun k xs S' => S = S' ∧ xs = (((reps ns).take k).map (lotOf ns)).map nmD) _ _ ⟨rfl, rfl⟩ ?_ ?_
  · rintro k d xs S2 hk hxl ⟨rfl, rfl⟩
    rw [List.getElem?_map] at hk
    cases q : (reps ns)[k]? with
    | none => rw [q] at hk; cases hk
    | some v =>
      rw [q] at hk
      cases hk
      refine ⟨_, rfl, ?_⟩
      show wp (mCB gTuple _ ([.d nd, .d (inD v), .un, .un] : List L) S) _
      rw [w_cb, w_cons, w_frz, w_lc]
      refine wp.of (hen _ _ rfl) ?_
      refine ⟨by simp only [line, decide_eq_true_eq]; omega, ?_⟩
      refine comp_filter (pE (v : Int)) fE _ _ _ (fun d hd => ?_) ?_
      · rw [enum_in] at hd
        obtain ⟨j, hj, rfl⟩ := List.mem_map.mp hd
        refine ⟨_, rfl, wp_eq ?_, fun _ => rfl⟩
        show wp (mB _ ([.d nd, .d (inD v), .d (.int (j : Nat)), .d (inD (ns[j]?.getD 0))] : List L) S) _
        rw [w_B, w_m2, w_var]
        simp only [List.getElem?_cons_zero, List.getElem?_cons_succ, varQ_d]
        rw [w_var]
        simp only [List.getElem?_cons_zero, List.getElem?_cons_succ, varQ_d]
        show wp (gEq (.int _) (.int _) S) _
        rw [wp_eqI, wp_toB]
        exact ⟨rfl, rfl⟩
      · rw [w_nil, w_tuple, enum_filter]
        refine ⟨rfl, ?_⟩
        rw [List.take_add_one, q, List.map_append, List.map_append]
        rfl
  · rintro xs S2 hxl ⟨rfl, rfl⟩
    rw [List.length_map, List.take_length]
    rfl
end K23

set_option Elab.async false
set_option linter.all false
set_option maxRecDepth 100000
set_option maxHeartbeats 4000000
set_option autoImplicit false
namespace K23
open PySem PySem.Spec L2 DL
def sizesD (ns : List Nat) : D := .tup ((lots ns).map fun l => .int (l.length : Nat))
def ptN : List Str := ["plots", "many", "names", "lots", "sizes"]
def ptD (cP : Addr) (ns : List Nat) : D := .obj cP ptN [.int (ns.length : Nat), .int ((lots ns).length : Nat), nmD ns, lotsD ns, sizesD ns]
def stoO (C : Addr) (nms : List Str) (ds : List D) : Sto := { sto0 with mode := .ob ⟨C, nms, ds⟩ }
theorem self_ok {C : Addr} {i : Nat} {f : Str} {φe : Ph D} {ρ : List L} {nms : List Str} {ds : List D} {d : D} (h : φe ρ (stoO C nms ds) = .ok d (stoO C nms ds)) (hr : ρ[i]? = some .st) (hf : f ∉ nms) (hl : nms.length < 900) : mSelf C i f φe ρ (stoO C nms ds) = .ok (.nx ρ) (stoO C (nms ++ [f]) (ds ++ [d])) := by
  unfold mSelf
  rw [h]
  show (match ρ[i]?, (stoO C nms ds).mode with
    | some .st, .ob o => if o.C = C ∧ f ∉ o.ns ∧ o.ns.length < 900 then Out.ok (Ctl.nx ρ) { stoO C nms ds with mode := .ob { o with ns := o.ns ++ [f], ds := o.ds ++ [d] } } else .bad
    | _, _ => .bad) = _
  rw [hr]
  show (if C = C ∧ f ∉ nms ∧ nms.length < 900 then _ else _) = _
  rw [if_pos ⟨rfl, hf, hl⟩]
  rfl
theorem amount_ok (a : Int) (S : Sto) (x : Str) (h1 : 1 ≤ a) (h2 : a ≤ 16) : wp (m_check_amount [.int a, .str x] S) fun r S' => True := by
  have hm : ∀ S, wp (m_check_most [.int a, .str x] S) fun r S' => True := fun S => by
    refine wp_run [.d (.int a), .d (.str x)] rfl ?_
    unfold b_check_most
    rw [w_ifs, w_B, w_m2, w_var]
    simp only [List.getElem?_cons_zero, varQ_d, w_c, wp_gt, wp_toB]
    rw [if_neg (by simp; omega), w_next]
    trivial
  refine wp_run [.d (.int a), .d (.str x)] rfl ?_
  unfold b_check_amount
  rw [wp_seq, w_ifs, w_B, w_m2, w_var]
  simp only [List.getElem?_cons_zero, varQ_d, w_c, wp_lt, wp_toB]
  rw [if_neg (by simp; omega), w_next, sq_nx]
  unfold mDrop
  rw [wp_bind, w_call0, w_cons, w_var]
  simp only [List.getElem?_cons_zero, List.getElem?_cons_succ, varQ_d]
  rw [w_cons, w_var]
  simp only [List.getElem?_cons_zero, List.getElem?_cons_succ, varQ_d]
  rw [w_nil]
  refine wp.mono (hm sto0) fun r S' _ => ?_
  rw [wp_ok]
  trivial
theorem whole_ok (a : Int) (S : Sto) : m_is_whole [.int a] S = .ok (.d (.bl true)) S := rfl
theorem init_ok (cP : Addr) (ns : List Nat) (hc : Cn ns) (h1 : 1 ≤ ns.length) (hl : ns.length ≤ 16) : ∃ S', m_Parting_init cP [.lst (ns.map inD)] (stoC cP) = .ok (.d .non) S' ∧ S'.mode = .ob ⟨cP, ptN, [.int (ns.length : Nat), .int ((lots ns).length : Nat), nmD ns, lotsD ns, sizesD ns]⟩ := by
  have hen : ∀ (S : Sto) (ρ : List L), ρ[1]? = some (.d (.lst (ns.map inD))) → mEnum (mCons (mVar 1) mNil) ρ S = .ok (enumD (ns.map inD)) S := fun S ρ h => by
    unfold mEnum mCons mVar
    rw [h]; rfl
  have hfp := (first_ok ns hc hl sto0)
  have hbn := (byname_ok ns hc hl sto0)
  have hlenL : ∀ (S : Sto) (Q : D → Sto → Prop), wp (pureC lenC [D.lst (ns.map inD)] S) Q = Q (.int (ns.length : Nat)) S := fun S Q => by rw [w_lenL, List.length_map]
  have main : wp (m_Parting_init cP [.lst (ns.map inD)] (stoO cP [] [])) fun r S' => r = .d .non ∧ S' = stoO cP ptN [.int (ns.length : Nat), .int ((lots ns).length : Nat), nmD ns, lotsD ns, sizesD ns] := by
    generalize hnd : D.lst (ns.map inD) = nd at *
    refine wp_run [.st, .d nd, .un, .un, .un, .un, .un] rfl ?_
    unfold b_Parting_init
    rw [wp_seq]
    unfold mDrop
    rw [wp_bind, w_call0, w_cons, w_cb, w_cons, w_var]
    simp only [List.getElem?_cons_zero, List.getElem?_cons_succ, varQ_d, w_nil]
    rw [hlenL, w_cons, w_c, w_nil]
    refine wp.mono (amount_ok _ _ _ (by omega) (by omega)) fun _ _ _ => ?_
    rw [wp_ok, sq_nx, wp_seq, w_for]
    refine wp.of (hen _ _ rfl) ?_
    refine forD_inv _ (fun k ρ S' => S' = stoO cP [] [] ∧ ∃ l2 l3, ρ = [.st, .d nd, l2, l3, .un, .un, .un]) _ _ ⟨rfl, _, _, rfl⟩ ?_ ?_
    · rintro k d ρ S2 hk ⟨rfl, l2, l3, rfl⟩
      rw [enumD_get, List.getElem?_map] at hk
      cases q : ns[k]? with
      | none => rw [q] at hk; cases hk
      | some v =>
        rw [q] at hk
        cases hk
        refine ⟨_, rfl, ?_⟩
        show wp (mIfS _ _ _ ([.st, .d nd, .d (.int (k : Nat)), .d (inD v), .un, .un, .un] : List L) (stoO cP [] [])) _
        rw [w_ifs, w_not, w_or, w_B, w_call0, w_cons, w_var]
        simp only [List.getElem?_cons_zero, List.getElem?_cons_succ, varQ_d, w_nil]
        unfold inD
        rw [whole_ok, wp_ok]
        show wp (toB (.bl true) _) _
        rw [wp_toB, if_pos rfl]
        rw [if_neg (by decide), w_next, stepQ_nx]
        exact ⟨rfl, _, _, rfl⟩
    · rintro ρ S2 ⟨rfl, l2, l3, rfl⟩
      rw [sq_nx, wp_seq, w_set, w_call0, w_cons, w_var]
      simp only [List.getElem?_cons_zero, List.getElem?_cons_succ, varQ_d, w_nil]
      refine wp.mono hfp ?_
      rintro _ _ rfl
      rw [sq_nx, wp_seq, w_set, w_call0, w_cons, w_var]
      simp only [List.set_cons_zero, List.set_cons_succ, List.getElem?_cons_zero, List.getElem?_cons_succ, varQ_d, w_nil]
      show wp (m_lots_by_name [D.lst (ns.map inD)] sto0) _
      rw [hnd]
      refine wp.mono hbn ?_
      rintro _ _ rfl
      rw [sq_nx]
      show wp (mSeq _ _ ([.st, .d nd, l2, l3, .d (.lst (ns.map inD)), .d (.lst ((lots ns).map nmD)), .un] : List L) (stoO cP [] [])) _
      rw [wp_seq]
      refine wp.of (self_ok (d := .int (ns.length : Nat)) (by show Out.ok (D.int ((ns.map inD).length : Nat)) _ = _; rw [List.length_map]) rfl (by decide) (by decide)) ?_
      rw [sq_nx, wp_seq]
      refine wp.of (self_ok (d := .int ((lots ns).length : Nat)) (by show Out.ok (D.int (((lots ns).map nmD).length : Nat)) _ = _; rw [List.length_map]) rfl (by decide) (by decide)) ?_
      rw [sq_nx, wp_seq]
      refine wp.of (self_ok (d := nmD ns) rfl rfl (by decide) (by decide)) ?_
      rw [sq_nx, wp_seq]
      refine wp.of (self_ok (d := lotsD ns) rfl rfl (by decide) (by decide)) ?_
      rw [sq_nx]
      have hll : (lots ns).length ≤ 16 := by
        unfold lots
        rw [List.length_map]
        exact Nat.le_trans (List.length_filter_le _ _) (by rw [List.length_range]; exact hl)
      refine wp.of (self_ok (d := sizesD ns) (wp_eq ?_) rfl (by decide) (by decide)) ?_
      · rw [w_cb, w_cons, w_frz, w_lc, w_seqI, w_var]
        show wp (seqOf (.lst ((lots ns).map nmD)) _) _
        rw [w_seqL]
        refine ⟨by simp only [line, decide_eq_true_eq, List.length_map]; omega, ?_⟩
        generalize stoO cP _ _ = SS
        refine comp_inv _ (fun k xs S' => SS = S' ∧ xs = ((lots ns).take k).map fun l => D.int (l.length : Nat)) _ _ ⟨rfl, rfl⟩ ?_ ?_
        · rintro k d xs S3 hk hxl ⟨rfl, rfl⟩
          rw [List.getElem?_map] at hk
          cases q : (lots ns)[k]? with
          | none => rw [q] at hk; cases hk
          | some l =>
            rw [q] at hk
            cases hk
            refine ⟨_, rfl, ?_⟩
            show wp (mCB (pureC lenC) (mCons (mVar 6) mNil) ([.st, .d nd, l2, l3, .d (.lst (ns.map inD)), .d (.lst ((lots ns).map nmD)), .d (nmD l)] : List L) SS) _
            rw [w_cb, w_cons, w_var]
            simp only [List.getElem?_cons_zero, List.getElem?_cons_succ, varQ_d, w_nil]
            unfold nmD
            rw [w_lenT, List.length_map]
            refine ⟨rfl, ?_⟩
            rw [List.take_add_one, q, List.map_append]
            rfl
        · rintro xs S3 hxl ⟨rfl, rfl⟩
          rw [w_nil, w_tuple, List.length_map, List.take_length]
          exact ⟨rfl, rfl⟩
      · exact ⟨trivial, rfl⟩
  obtain ⟨r, S', e, rfl, rfl⟩ := main.get
  exact ⟨_, e, rfl⟩
end K23

set_option Elab.async false
set_option linter.all false
set_option maxRecDepth 100000
set_option maxHeartbeats 4000000
set_option autoImplicit false
namespace K23
open PySem PySem.Spec L2 DL
theorem make_ok {cP : Addr} {ns : List Nat} {p : Nat} {φl : Ph (List D)} {ρ : List L} {S : Sto} (hn : Nm ns p) (h1 : 1 ≤ p) (hl : p ≤ 16) (h : φl ρ S = .ok [.lst (ns.map inD)] S) : mMake cP (m_Parting_init cP) φl ρ S = .ok (ptD cP ns) S := by
  obtain ⟨S', e, hm⟩ := init_ok cP ns hn.cn (by rw [hn.len]; exact h1) (by rw [hn.len]; exact hl)
  unfold mMake
  rw [h]
  show (match m_Parting_init cP [.lst (ns.map inD)] (stoC cP) with
    | .ok (.d .non) S2 => (match S2.mode with
      | .ob o => Out.ok (D.obj o.C o.ns o.ds) S
      | _ => .bad)
    | .exc x _ _ => .exc x ρ S
    | _ => .bad) = _
  rw [e]
  show (match S'.mode with
      | .ob o => Out.ok (D.obj o.C o.ns o.ds) S
      | _ => .bad) = _
  rw [hm]
  rfl
theorem getF_pt (cP : Addr) (f : Str) (ns : List Nat) : getF cP f (ptD cP ns) = (ptN.zip [.int (ns.length : Nat), .int ((lots ns).length : Nat), nmD ns, lotsD ns, sizesD ns]).lookup f := by
  show (if cP = cP then _ else none) = _
  rw [if_pos rfl]
theorem g_plots (cP : Addr) (ns : List Nat) (S : Sto) : gFld cP "plots" (ptD cP ns) S = .ok (.int (ns.length : Nat)) S := by
  unfold gFld; rw [getF_pt]; rfl
theorem g_names (cP : Addr) (ns : List Nat) (S : Sto) : gFld cP "names" (ptD cP ns) S = .ok (nmD ns) S := by
  unfold gFld; rw [getF_pt]; rfl
theorem g_lots (cP : Addr) (ns : List Nat) (S : Sto) : gFld cP "lots" (ptD cP ns) S = .ok (lotsD ns) S := by
  unfold gFld; rw [getF_pt]; rfl
theorem in_ok (p : Nat) (r : List Nat) (S : Sto) : pure2 (in2 false) (inD p) (nmD r) S = .ok (.bl (decide (p ∈ r))) S := by
  have hf : ∀ l : List Nat, (l.map inD).all flatD = true := fun l => by
    rw [List.all_eq_true]
    intro d hd
    obtain ⟨k, _, rfl⟩ := List.mem_map.mp hd
    rfl
  have hin : ∀ l : List Nat, inF (inD p) (l.map inD) = decide (p ∈ l) := fun l => by
    unfold inF
    induction l with
    | nil => simp
    | cons x l ih =>
      rw [List.map_cons, List.any_cons, ih]
      have : eqF (inD x) (inD p) = decide (x = p) := by
        by_cases h : x = p
        · simp [h, inD, eqF]
        · have h' : ¬ ((x : Int) = (p : Int)) := by omega
          simp [h, inD, eqF, h']
      rw [this]
      by_cases h : x = p
      · simp [h]
      · have h2 : ¬ p = x := fun e => h e.symm
        simp [h, h2]
  unfold pure2 in2 nmD
  simp only
  rw [if_pos ⟨rfl, hf r⟩]
  simp only [Bool.false_eq_true, if_false, hin]
def cnt (l r : List Nat) : Nat := (l.filter fun p => decide (p ∈ r)).length
def tbl (f s : List Nat) : List (List Int) := (lots f).map fun l => (lots s).map fun r => (cnt l r : Int)
theorem lots_len (ns : List Nat) (h : ns.length ≤ 16) : (lots ns).length ≤ 16 := by
  unfold lots
  rw [List.length_map]
  exact Nat.le_trans (List.length_filter_le _ _) (by rw [List.length_range]; exact h)
theorem lot_len {ns : List Nat} (h : ns.length ≤ 16) {l : List Nat} (hl : l ∈ lots ns) : l.length ≤ 16 := by
  obtain ⟨v, _, rfl⟩ := List.mem_map.mp hl
  exact Nat.le_trans (List.length_filter_le _ _) (by rw [List.length_range]; exact h)
theorem alike_ok (cP cU : Addr) (s : List Nat) (p : Nat) (S : Sto) (h : s.length = p) : wp (m_check_alike cP cU [.int (p : Nat), .lst [ptD cP s]] S) fun r S' => True := by
  have hg : ∀ S, gFld cP "plots" (ptD cP s) S = .ok (.int (s.length : Nat)) S := fun S => g_plots cP s S
  generalize hpd : ptD cP s = pd at *
  generalize hpi : ((p : Nat) : Int) = pi at *
  generalize hl1 : D.lst [pd] = LD at *
  refine wp_run [.d (.int pi), .d LD, .un] rfl ?_
  subst hl1
  unfold b_check_alike
  rw [w_for, w_seqI, w_var]
  simp only [List.getElem?_cons_zero, List.getElem?_cons_succ, varQ_d]
  rw [w_seqL]
  refine forD_inv _ (fun k ρ S' => ∃ l2, ρ = [.d (.int pi), .d (.lst [pd]), l2]) _ _ ⟨_, rfl⟩ ?_ ?_
  · rintro k d ρ S2 hk ⟨l2, rfl⟩
    match k, hk with
    | 0, hk =>
      cases hk
      refine ⟨_, rfl, ?_⟩
      show wp (mIfS _ _ _ ([.d (.int pi), .d (.lst [pd]), .d pd] : List L) S2) _
      rw [w_ifs, w_B, w_m2, w_m1, w_var]
      simp only [List.getElem?_cons_zero, List.getElem?_cons_succ, varQ_d]
      rw [hg, wp_ok, w_var]
      simp only [List.getElem?_cons_zero, List.getElem?_cons_succ, varQ_d]
      rw [wp_neI, wp_toB, if_neg (by simp; omega), w_next, stepQ_nx]
      exact ⟨_, rfl⟩
    | k + 1, hk => cases hk
  · rintro ρ S2 _; trivial
end K23

set_option Elab.async false
set_option linter.all false
set_option maxRecDepth 100000
set_option maxHeartbeats 4000000
set_option autoImplicit false
namespace K23
open PySem PySem.Spec L2 DL
theorem w_seqN {φt φu : Ph Ctl} {ρ : List L} {S : Sto} {Q : Ctl → Sto → Prop} (h : wp (φt ρ S) fun c S' => ∃ ρ', c = .nx ρ' ∧ wp (φu ρ' S') Q) : wp (mSeqN φt φu ρ S) Q := by
  obtain ⟨c, S', e, ρ', rfl, q⟩ := h.get
  unfold mSeqN
  rw [e]
  exact q
theorem w_sc {φ : Ph D} {ρ : List L} {S : Sto} {Q : D → Sto → Prop} (h : wp (φ ρ S) fun d S' => scD d = true ∧ Q d S') : wp (mSc φ ρ S) Q := by
  unfold mSc
  rw [wp_bind]
  refine wp.mono h fun d S' hq => ?_
  rw [if_pos hq.1, wp_ok]
  exact hq.2
theorem filt_in (l r : List Nat) : (((l.map inD).filter (pD fun p => decide (p ∈ r))).map id).length = cnt l r := by
  rw [List.map_id, List.filter_map, List.length_map]
  unfold cnt
  congr 1
theorem cell_ok {x0 x1 x4 : L} (l r : List Nat) (hl : l.length ≤ 16) (S : Sto) : mSc (mCB (pureC lenC) (mCons (mFrz (mLc (.one 4) [4] (mSeqI (mVar 2)) (mB (m2 (pure2 (in2 false)) (mVar 4) (mVar 3))) (mVar 4))) mNil)) ([x0, x1, .d (nmD l), .d (nmD r), x4] : List L) S = .ok (.int (cnt l r : Nat)) S := by
  refine wp_eq (w_sc ?_)
  have hnl : ∀ (S : Sto) (Q : List D → Sto → Prop), wp (seqOf (nmD l) S) Q = Q (l.map inD) S := fun S Q => by unfold nmD; rw [w_seqT]
  generalize nmD l = nl at *
  rw [w_cb, w_cons, w_frz, w_lc, w_seqI, w_var]
  simp only [List.getElem?_cons_zero, List.getElem?_cons_succ, varQ_d]
  rw [hnl]
  refine ⟨by simp only [line, decide_eq_true_eq, List.length_map]; omega, ?_⟩
  refine comp_filter (pD fun p => decide (p ∈ r)) id _ _ _ (fun d hd => ?_) ?_
  · obtain ⟨p, _, rfl⟩ := List.mem_map.mp hd
    refine ⟨_, rfl, wp_eq ?_, fun _ => rfl⟩
    show wp (mB _ ([x0, x1, .d nl, .d (nmD r), .d (inD p)] : List L) S) _
    rw [w_B, w_m2, w_var]
    simp only [List.getElem?_cons_zero, List.getElem?_cons_succ, varQ_d]
    rw [w_var]
    simp only [List.getElem?_cons_zero, List.getElem?_cons_succ, varQ_d]
    rw [in_ok, wp_ok, wp_toB]
    exact ⟨rfl, rfl⟩
  · rw [w_nil, w_lenL, filt_in]
    exact ⟨rfl, rfl, rfl⟩
theorem row_ok {cP : Addr} {x0 x3 x4 : L} (l : List Nat) (s : List Nat) (hl : l.length ≤ 16) (hs : s.length ≤ 16) (S : Sto) : mFrz (mLc (.one 3) [3] (mSeqI (m1 (gFld cP "lots") (mVar 1))) mYes (mSc (mCB (pureC lenC) (mCons (mFrz (mLc (.one 4) [4] (mSeqI (mVar 2)) (mB (m2 (pure2 (in2 false)) (mVar 4) (mVar 3))) (mVar 4))) mNil)))) ([x0, .d (ptD cP s), .d (nmD l), x3, x4] : List L) S = .ok (rowD ((lots s).map fun r => (cnt l r : Int))) S := by
  refine wp_eq ?_
  have hg : ∀ S, gFld cP "lots" (ptD cP s) S = .ok (lotsD s) S := fun S => g_lots cP s S
  generalize ptD cP s = pd at *
  rw [w_frz, w_lc, w_seqI, w_m1, w_var]
  simp only [List.getElem?_cons_zero, List.getElem?_cons_succ, varQ_d]
  rw [hg, wp_ok]
  unfold lotsD
  rw [w_seqT]
  have hll := lots_len s hs
  refine ⟨by simp only [line, decide_eq_true_eq, List.length_map]; omega, ?_⟩
  refine comp_inv _ (fun k xs S' => S = S' ∧ xs = ((lots s).take k).map fun r => D.int (cnt l r : Int)) _ _ ⟨rfl, rfl⟩ ?_ ?_
  · rintro k d xs S2 hk hxl ⟨rfl, rfl⟩
    rw [List.getElem?_map] at hk
    cases q : (lots s)[k]? with
    | none => rw [q] at hk; cases hk
    | some r =>
      rw [q] at hk
      cases hk
      refine ⟨_, rfl, ?_⟩
      refine wp.of (cell_ok (x0 := x0) (x1 := .d pd) (x4 := x4) l r hl S) ⟨rfl, ?_⟩
      rw [List.take_add_one, q, List.map_append]
      rfl
  · rintro xs S2 hxl ⟨rfl, rfl⟩
    rw [List.length_map, List.take_length]
    refine ⟨?_, rfl⟩
    unfold rowD
    rw [List.map_map]; rfl
theorem count_ok (cP cU : Addr) (f s : List Nat) (hf : f.length ≤ 16) (hs : s.length ≤ 16) (he : s.length = f.length) : wp (m_count_table cP cU [ptD cP f, ptD cP s] sto0) fun r S' => r = .d (tblD (tbl f s)) := by
  have hg : ∀ S, gFld cP "lots" (ptD cP f) S = .ok (lotsD f) S := fun S => g_lots cP f S
  have hp : ∀ S, gFld cP "plots" (ptD cP f) S = .ok (.int (f.length : Nat)) S := fun S => g_plots cP f S
  have ha := alike_ok cP cU s f.length sto0 he
  have hr := fun (l : List Nat) (x0 x3 x4 : L) (hl : l.length ≤ 16) (S : Sto) => row_ok (cP := cP) (x0 := x0) (x3 := x3) (x4 := x4) l s hl hs S
  generalize ptD cP f = pf at *
  generalize ptD cP s = pd at *
  refine wp_run [.d pf, .d pd, .un, .un, .un] rfl ?_
  unfold b_count_table
  refine w_seqN ?_
  unfold mDrop
  rw [wp_bind, w_call0, w_cons, w_m1, w_var]
  simp only [List.getElem?_cons_zero, List.getElem?_cons_succ, varQ_d]
  rw [hp, wp_ok, w_cons, w_frz, w_lst, w_cons, w_var]
  simp only [List.getElem?_cons_zero, List.getElem?_cons_succ, varQ_d]
  rw [w_nil]
  refine ⟨rfl, ?_⟩
  rw [w_nil]
  refine wp.mono ha fun r0 S0 _ => ?_
  rw [wp_ok]
  refine ⟨_, rfl, ?_⟩
  rw [w_ret, w_frz, w_lc, w_seqI, w_m1, w_var]
  simp only [List.getElem?_cons_zero, List.getElem?_cons_succ, varQ_d]
  rw [hg, wp_ok]
  unfold lotsD
  rw [w_seqT]
  have hll := lots_len f hf
  refine ⟨by simp only [line, decide_eq_true_eq, List.length_map]; omega, ?_⟩
  refine comp_inv _ (fun k xs S' => xs = ((lots f).take k).map fun l => rowD ((lots s).map fun r => (cnt l r : Int))) _ _ rfl ?_ ?_
  · rintro k d xs S2 hk hxl rfl
    rw [List.getElem?_map] at hk
    cases q : (lots f)[k]? with
    | none => rw [q] at hk; cases hk
    | some l =>
      rw [q] at hk
      cases hk
      refine ⟨_, rfl, ?_⟩
      refine wp.of (hr l (.d pf) .un .un (lot_len hf (List.mem_of_getElem? q)) S2) ?_
      rw [List.take_add_one, q, List.map_append]
      rfl
  · rintro xs S2 hxl rfl
    rw [List.length_map, List.take_length]
    show Res.d _ = Res.d _
    unfold tblD tbl
    rw [List.map_map]; rfl
end K23

set_option Elab.async false
set_option linter.all false
set_option maxRecDepth 100000
set_option maxHeartbeats 4000000
set_option autoImplicit false
namespace K23
open PySem PySem.Spec L2 DL
theorem mem_lot {ns : List Nat} {v p : Nat} : p ∈ lotOf ns v ↔ ns[p]? = some v := by
  unfold lotOf
  rw [List.mem_filter, List.mem_range]
  constructor
  · intro h; simpa using h.2
  · intro h; exact ⟨(List.getElem?_eq_some_iff.mp h).1, by simpa using h⟩
theorem cnt_comm (f s : List Nat) (v w : Nat) (h : s.length = f.length) : cnt (lotOf f v) (lotOf s w) = cnt (lotOf s w) (lotOf f v) := by
  have key : ∀ (f s : List Nat) (v w : Nat), (lotOf f v).filter (fun p => decide (p ∈ lotOf s w)) = (List.range f.length).filter fun p => decide (f[p]? = some v) && decide (s[p]? = some w) := fun f s v w => by
    show ((List.range f.length).filter fun k => decide (f[k]? = some v)).filter _ = _
    rw [List.filter_filter]
    refine List.filter_congr fun p _ => ?_
    have : (decide (p ∈ lotOf s w)) = decide (s[p]? = some w) := by
      by_cases c : s[p]? = some w
      · simp [c, mem_lot.mpr c]
      · have : ¬ p ∈ lotOf s w := fun e => c (mem_lot.mp e)
        simp [c, this]
    rw [this, Bool.and_comm]
  unfold cnt
  rw [key f s v w, key s f w v, h]
  congr 1
  refine List.filter_congr fun p _ => Bool.and_comm _ _
theorem sum_one : ∀ (l : List Nat) (v : Nat), l.Nodup → v ∈ l → (l.map fun u => if v = u then (1 : Nat) else 0).sum = 1
  | [], v, _, h => by simp at h
  | u :: l, v, hn, h => by
    rw [List.nodup_cons] at hn
    rw [List.map_cons, List.sum_cons]
    by_cases c : v = u
    · subst c
      have hz : (l.map fun u => if v = u then (1 : Nat) else 0).sum = 0 := by
        have : ∀ m : List Nat, v ∉ m → (m.map fun u => if v = u then (1 : Nat) else 0).sum = 0 := fun m => by
          induction m with
          | nil => intro _; rfl
          | cons x m ih =>
            intro hm
            rw [List.map_cons, List.sum_cons, if_neg (fun e => hm (by rw [e]; exact List.mem_cons_self)), ih fun e => hm (List.mem_cons_of_mem _ e)]
        exact this l hn.1
      rw [if_pos rfl, hz]
    · rw [if_neg c, sum_one l v hn.2 ((List.mem_cons.mp h).resolve_left c)]
theorem sum_add : ∀ (l : List Nat) (f g : Nat → Nat), (l.map fun u => f u + g u).sum = (l.map f).sum + (l.map g).sum
  | [], f, g => rfl
  | u :: l, f, g => by
    rw [List.map_cons, List.map_cons, List.map_cons, List.sum_cons, List.sum_cons, List.sum_cons, sum_add l f g]
    omega
theorem sum_cnt (s : List Nat) (hc : Cn s) : ∀ l : List Nat, (∀ p ∈ l, p < s.length) → ((reps s).map fun v => cnt l (lotOf s v)).sum = l.length
  | [], _ => by
    have : ∀ m : List Nat, (m.map fun v => cnt [] (lotOf s v)).sum = 0 := fun m => by
      induction m with
      | nil => rfl
      | cons x m ih => rw [List.map_cons, List.sum_cons, ih]; rfl
    exact this _
  | p :: l, h => by
    have hp : p < s.length := h p List.mem_cons_self
    have ih := sum_cnt s hc l fun q hq => h q (List.mem_cons_of_mem _ hq)
    have e : ∀ v, cnt (p :: l) (lotOf s v) = (if s[p] = v then 1 else 0) + cnt l (lotOf s v) := fun v => by
      unfold cnt
      rw [List.filter_cons]
      by_cases c : s[p] = v
      · have : p ∈ lotOf s v := mem_lot.mpr (by rw [List.getElem?_eq_getElem hp, c])
        rw [if_pos (by simpa using this), if_pos c, List.length_cons]; omega
      · have : ¬ p ∈ lotOf s v := fun z => c (by have := mem_lot.mp z; rw [List.getElem?_eq_getElem hp] at this; exact Option.some.inj this)
        rw [if_neg (by simpa using this), if_neg c]; omega
    have e2 : ((reps s).map fun v => cnt (p :: l) (lotOf s v)) = (reps s).map fun v => (if s[p] = v then 1 else 0) + cnt l (lotOf s v) := List.map_congr_left fun v _ => e v
    rw [e2, sum_add, ih]
    have hm : s[p] ∈ reps s := by
      obtain ⟨h1, h2⟩ := hc p s[p] (List.getElem?_eq_getElem hp)
      exact List.mem_filter.mpr ⟨List.mem_range.mpr (by omega), by simpa using h2⟩
    have hn : (reps s).Nodup := (List.Pairwise.filter _ (List.pairwise_lt_range (n := s.length))).imp Nat.ne_of_lt
    rw [sum_one _ _ hn hm, List.length_cons]
    omega
theorem lot_lt {ns l : List Nat} (h : l ∈ lots ns) : ∀ p ∈ l, p < ns.length := by
  obtain ⟨v, _, rfl⟩ := List.mem_map.mp h
  intro p hp
  exact (List.getElem?_eq_some_iff.mp (mem_lot.mp hp)).1
theorem sum_cast : ∀ (l : List Nat), (l.map fun (n : Nat) => (n : Int)).sum = (l.sum : Nat)
  | [] => rfl
  | x :: l => by rw [List.map_cons, List.sum_cons, List.sum_cons, sum_cast l]; push_cast; rfl
/-- along a row -/
theorem row_sum (f s : List Nat) (hs : Cn s) (he : s.length = f.length) {l : List Nat} (hl : l ∈ lots f) : ((lots s).map fun r => (cnt l r : Int)).sum = (l.length : Nat) := by
  have h := sum_cnt s hs l (fun p hp => by rw [he]; exact lot_lt hl p hp)
  have e : ((lots s).map fun r => (cnt l r : Int)) = ((reps s).map fun v => cnt l (lotOf s v)).map fun (n : Nat) => (n : Int) := by
    unfold lots; rw [List.map_map, List.map_map]; rfl
  rw [e, sum_cast, h]
theorem tbl_comm {f s l r : List Nat} (hl : l ∈ lots f) (hr : r ∈ lots s) (he : s.length = f.length) : cnt l r = cnt r l := by
  obtain ⟨v, _, rfl⟩ := List.mem_map.mp hl
  obtain ⟨w, _, rfl⟩ := List.mem_map.mp hr
  exact cnt_comm f s v w he
/-- down a column -/
theorem col_sum (f s : List Nat) (hf : Cn f) (he : s.length = f.length) {r : List Nat} (hr : r ∈ lots s) : ((lots f).map fun l => (cnt l r : Int)).sum = (r.length : Nat) := by
  rw [← row_sum s f hf he.symm hr]
  congr 1
  refine List.map_congr_left fun l hl => ?_
  rw [tbl_comm hl hr he]
end K23

set_option Elab.async false
set_option linter.all false
set_option maxRecDepth 100000
set_option maxHeartbeats 4000000
set_option autoImplicit false
namespace K23
open PySem PySem.Spec L2 DL
theorem isi_lst (xs : List D) (S : Sto) : gIsi "list" (.lst xs) S = .ok (.bl true) S := rfl
theorem isw_ok (a : Int) (S : Sto) : m_law_iswhole [.int a] S = .ok (.d (.bl true)) S := rfl
theorem atX {xs : List D} {k : Nat} {d : D} (h : xs[k]? = some d) {S : Sto} {Q : D → Sto → Prop} (q : Q d S) : wp (gIx (.lst xs) (.int (k : Nat)) S) Q := by
  rw [wp_ix]; exact ⟨d, atL h, q⟩
theorem atXT {xs : List D} {k : Nat} {d : D} (h : xs[k]? = some d) {S : Sto} {Q : D → Sto → Prop} (q : Q d S) : wp (gIx (.tup xs) (.int (k : Nat)) S) Q := by
  rw [wp_ixT]; exact ⟨d, atL h, q⟩
theorem ints_row : ∀ is : List Int, intsOf (is.map D.int) = some is
  | [] => rfl
  | i :: is => by
    rw [List.map_cons]
    unfold intsOf
    rw [ints_row is]; rfl
theorem w_sumR {is : List Int} {S : Sto} {Q : D → Sto → Prop} : wp (pureC sumC [rowD is] S) Q = Q (.int is.sum) S := by
  have e : pureC sumC [rowD is] S = .ok (.int is.sum) S := by
    show (match (intsOf (is.map D.int)).map fun is => D.int is.sum with
      | some d => Out.ok d S
      | none => .bad) = _
    rw [ints_row]; rfl
  rw [e, wp_ok]
structure Rt (f s : List Nat) (TD LF LS : D) : Prop where
  tix : ∀ (j : Nat) (l : List Nat) (S : Sto) (Q : D → Sto → Prop), (lots f)[j]? = some l → Q (rowD ((lots s).map fun r => (cnt l r : Int))) S → wp (gIx TD (.int (j : Nat)) S) Q
  tln : ∀ (S : Sto) (Q : D → Sto → Prop), wp (pureC lenC [TD] S) Q = Q (.int ((lots f).length : Nat)) S
  tsq : ∀ (S : Sto) (Q : List D → Sto → Prop), wp (seqOf TD S) Q = Q ((lots f).map fun l => rowD ((lots s).map fun r => (cnt l r : Int))) S
  tis : ∀ S, gIsi "list" TD S = .ok (.bl true) S
  fix : ∀ (j : Nat) (l : List Nat) (S : Sto) (Q : D → Sto → Prop), (lots f)[j]? = some l → Q (nmD l) S → wp (gIx LF (.int (j : Nat)) S) Q
  fln : ∀ (S : Sto) (Q : D → Sto → Prop), wp (pureC lenC [LF] S) Q = Q (.int ((lots f).length : Nat)) S
  six : ∀ (j : Nat) (l : List Nat) (S : Sto) (Q : D → Sto → Prop), (lots s)[j]? = some l → Q (nmD l) S → wp (gIx LS (.int (j : Nat)) S) Q
  sln : ∀ (S : Sto) (Q : D → Sto → Prop), wp (pureC lenC [LS] S) Q = Q (.int ((lots s).length : Nat)) S
theorem rt_mk (f s : List Nat) : Rt f s (tblD (tbl f s)) (lotsD f) (lotsD s) where
  tix := fun j l S Q h q => by
    unfold tblD tbl
    exact atX (by rw [List.getElem?_map, List.getElem?_map, h]; rfl) q
  tln := fun S Q => by unfold tblD tbl; rw [w_lenL, List.length_map, List.length_map]
  tsq := fun S Q => by unfold tblD tbl; rw [w_seqL, List.map_map]; rfl
  tis := fun S => rfl
  fix := fun j l S Q h q => by unfold lotsD; exact atXT (by rw [List.getElem?_map, h]; rfl) q
  fln := fun S Q => by unfold lotsD; rw [w_lenT, List.length_map]
  six := fun j l S Q h q => by unfold lotsD; exact atXT (by rw [List.getElem?_map, h]; rfl) q
  sln := fun S Q => by unfold lotsD; rw [w_lenT, List.length_map]
theorem lenN (l : List Nat) (S : Sto) (Q : D → Sto → Prop) : wp (pureC lenC [nmD l] S) Q = Q (.int (l.length : Nat)) S := by unfold nmD; rw [w_lenT, List.length_map]
theorem right_ok (f s : List Nat) (hf : Cn f) (hs : Cn s) (h1 : f.length ≤ 16) (h2 : s.length ≤ 16) (he : s.length = f.length) (S0 : Sto) : wp (m_law_right [tblD (tbl f s), nmD f, nmD s] S0) fun r S' => r = .d (.bl true) := by
  have R := rt_mk f s
  have lf := law_lots_ok f h1
  have ls := law_lots_ok s h2
  have hlf := lots_len f h1
  have hls := lots_len s h2
  generalize tblD (tbl f s) = TD at *
  generalize nmD f = fd at *
  generalize nmD s = sd at *
  refine wp_run [.d TD, .d fd, .d sd, .un, .un, .un, .un, .un, .un] rfl ?_
  unfold b_law_right
  rw [wp_seq, w_set, w_call0, w_cons, w_var]
  simp only [List.getElem?_cons_zero, List.getElem?_cons_succ, varQ_d]
  rw [w_nil]
  refine wp.mono lf ?_
  rintro _ _ rfl
  rw [sq_nx, wp_seq, w_set, w_call0, w_cons, w_var]
  simp only [List.set_cons_zero, List.set_cons_succ, List.getElem?_cons_zero, List.getElem?_cons_succ, varQ_d]
  rw [w_nil]
  refine wp.mono ls ?_
  rintro _ _ rfl
  rw [sq_nx]
  show wp (mSeq _ _ ([.d TD, .d fd, .d sd, .d (lotsD f), .d (lotsD s), .un, .un, .un, .un] : List L) S0) _
  generalize lotsD f = LF at *
  generalize lotsD s = LS at *
  rw [wp_seq, w_ifs, w_or, w_not, w_B, w_m1, w_var]
  simp only [List.getElem?_cons_zero, List.getElem?_cons_succ, varQ_d]
  rw [R.tis, wp_ok, wp_toB, if_neg (by decide), w_B, w_m2, w_cb, w_cons, w_var]
  simp only [List.getElem?_cons_zero, List.getElem?_cons_succ, varQ_d]
  rw [w_nil, R.tln, w_cb, w_cons, w_var]
  simp only [List.getElem?_cons_zero, List.getElem?_cons_succ, varQ_d]
  rw [w_nil, R.fln, wp_neI, wp_toB, if_neg (by simp), w_next, sq_nx, wp_seq, w_for, w_range1, w_cons, w_cb, w_cons, w_var]
  simp only [List.getElem?_cons_zero, List.getElem?_cons_succ, varQ_d]
  rw [w_nil, R.fln, w_nil, rngQ_int]
  refine ⟨by unfold okR; simp; omega, ?_⟩
  refine forD_inv _ (fun k ρ S' => ∃ l5 l6 l7 l8, ρ = [.d TD, .d fd, .d sd, .d LF, .d LS, l5, l6, l7, l8]) _ _ ⟨_, _, _, _, rfl⟩ ?_ ?_
  · rintro j d ρ S2 hj ⟨l5, l6, l7, l8, rfl⟩
    obtain ⟨hj', rfl⟩ := rangeD_at hj
    have hjl : j < (lots f).length := by simpa using hj'
    have hl : (lots f)[j]? = some (lots f)[j] := List.getElem?_eq_getElem hjl
    have hlm : (lots f)[j] ∈ lots f := List.getElem_mem hjl
    generalize (lots f)[j] = l at *
    have hll := lot_len h1 hlm
    have hrs := row_sum f s hs he hlm
    refine ⟨_, rfl, ?_⟩
    show wp (mSeq _ _ ([.d TD, .d fd, .d sd, .d LF, .d LS, .d (.int (j : Nat)), l6, l7, l8] : List L) S2) _
    rw [wp_seq, w_set, w_m2, w_var]
    simp only [List.getElem?_cons_zero, List.getElem?_cons_succ, varQ_d]
    rw [w_var]
    simp only [List.getElem?_cons_zero, List.getElem?_cons_succ, varQ_d]
    refine R.tix j l _ _ hl ?_
    rw [sq_nx]
    show wp (mSeq _ _ ([.d TD, .d fd, .d sd, .d LF, .d LS, .d (.int (j : Nat)), .d (rowD ((lots s).map fun r => (cnt l r : Int))), l7, l8] : List L) S2) _
    have rln : ∀ (S : Sto) (Q : D → Sto → Prop), wp (pureC lenC [rowD ((lots s).map fun r => (cnt l r : Int))] S) Q = Q (.int ((lots s).length : Nat)) S := fun S Q => by unfold rowD; rw [w_lenL, List.length_map, List.length_map]
    have ris : ∀ S, gIsi "list" (rowD ((lots s).map fun r => (cnt l r : Int))) S = .ok (.bl true) S := fun S => rfl
    have rsm : ∀ (S : Sto) (Q : D → Sto → Prop), wp (pureC sumC [rowD ((lots s).map fun r => (cnt l r : Int))] S) Q = Q (.int (l.length : Nat)) S := fun S Q => by rw [w_sumR, hrs]
    have rix : ∀ (k : Nat) (r : List Nat) (S : Sto) (Q : D → Sto → Prop), (lots s)[k]? = some r → Q (.int (cnt l r : Nat)) S → wp (gIx (rowD ((lots s).map fun r => (cnt l r : Int))) (.int (k : Nat)) S) Q := fun k r S Q h q => by
      unfold rowD
      exact atX (by rw [List.getElem?_map, List.getElem?_map, h]; rfl) q
    generalize rowD ((lots s).map fun r => (cnt l r : Int)) = RD at *
    rw [wp_seq, w_ifs, w_or, w_not, w_B, w_m1, w_var]
    simp only [List.getElem?_cons_zero, List.getElem?_cons_succ, varQ_d]
    rw [ris, wp_ok, wp_toB, if_neg (by decide), w_B, w_m2, w_cb, w_cons, w_var]
    simp only [List.getElem?_cons_zero, List.getElem?_cons_succ, varQ_d]
    rw [w_nil, rln, w_cb, w_cons, w_var]
    simp only [List.getElem?_cons_zero, List.getElem?_cons_succ, varQ_d]
    rw [w_nil, R.sln, wp_neI, wp_toB, if_neg (by simp), w_next, sq_nx, wp_seq, w_for, w_range1, w_cons, w_cb, w_cons, w_var]
    simp only [List.getElem?_cons_zero, List.getElem?_cons_succ, varQ_d]
    rw [w_nil, R.sln, w_nil, rngQ_int]
    refine ⟨by unfold okR; simp; omega, ?_⟩
    refine forD_inv _ (fun k ρ S' => ∃ l7 l8, ρ = [.d TD, .d fd, .d sd, .d LF, .d LS, .d (.int (j : Nat)), .d RD, l7, l8]) _ _ ⟨_, _, rfl⟩ ?_ ?_
    · rintro k d ρ S3 hk ⟨l7, l8, rfl⟩
      obtain ⟨hk', rfl⟩ := rangeD_at hk
      have hkl : k < (lots s).length := by simpa using hk'
      have hr : (lots s)[k]? = some (lots s)[k] := List.getElem?_eq_getElem hkl
      generalize (lots s)[k] = r at *
      refine ⟨_, rfl, ?_⟩
      show wp (mIfS _ _ _ ([.d TD, .d fd, .d sd, .d LF, .d LS, .d (.int (j : Nat)), .d RD, .d (.int (k : Nat)), l8] : List L) S3) _
      have ex : ∀ (S : Sto) (Q : D → Sto → Prop), Q (.int (cnt l r : Nat)) S → wp (m2 gIx (mVar 6) (mVar 7) ([.d TD, .d fd, .d sd, .d LF, .d LS, .d (.int (j : Nat)), .d RD, .d (.int (k : Nat)), l8] : List L) S) Q := fun S Q q => by
        rw [w_m2, w_var]
        simp only [List.getElem?_cons_zero, List.getElem?_cons_succ, varQ_d]
        rw [w_var]
        simp only [List.getElem?_cons_zero, List.getElem?_cons_succ, varQ_d]
        exact rix k r _ _ hr q
      rw [w_ifs, w_or, w_not, w_B, w_call0, w_cons]
      refine ex _ _ ?_
      rw [w_nil, isw_ok, wp_ok]
      show wp (toB (.bl true) _) _
      rw [wp_toB, if_neg (by decide), w_B, w_m2]
      refine ex _ _ ?_
      rw [w_cb, w_cons, w_frz, w_lc, w_seqI, w_m2, w_var]
      simp only [List.getElem?_cons_zero, List.getElem?_cons_succ, varQ_d]
      rw [w_var]
      simp only [List.getElem?_cons_zero, List.getElem?_cons_succ, varQ_d]
      refine R.fix j l _ _ hl ?_
      unfold nmD
      rw [w_seqT]
      refine ⟨by simp only [line, decide_eq_true_eq, List.length_map]; omega, ?_⟩
      refine comp_filter (pD fun p => decide (p ∈ r)) id _ _ _ (fun d hd => ?_) ?_
      · obtain ⟨p, _, rfl⟩ := List.mem_map.mp hd
        refine ⟨_, rfl, wp_eq ?_, fun _ => rfl⟩
        show wp (mB _ ([.d TD, .d fd, .d sd, .d LF, .d LS, .d (.int (j : Nat)), .d RD, .d (.int (k : Nat)), .d (inD p)] : List L) S3) _
        rw [w_B, w_m2, w_var]
        simp only [List.getElem?_cons_zero, List.getElem?_cons_succ, varQ_d]
        rw [w_m2, w_var]
        simp only [List.getElem?_cons_zero, List.getElem?_cons_succ, varQ_d]
        rw [w_var]
        simp only [List.getElem?_cons_zero, List.getElem?_cons_succ, varQ_d]
        refine R.six k r _ _ hr ?_
        rw [in_ok, wp_ok, wp_toB]
        exact ⟨rfl, rfl⟩
      · rw [w_nil, w_lenL, filt_in, wp_neI, wp_toB, if_neg (by simp), w_next, stepQ_nx]
        exact ⟨_, _, rfl⟩
    · rintro ρ S3 ⟨l7, l8, rfl⟩
      rw [sq_nx, w_ifs, w_B, w_m2, w_cb, w_cons, w_var]
      simp only [List.getElem?_cons_zero, List.getElem?_cons_succ, varQ_d]
      rw [w_nil, rsm, w_cb, w_cons, w_m2, w_var]
      simp only [List.getElem?_cons_zero, List.getElem?_cons_succ, varQ_d]
      rw [w_var]
      simp only [List.getElem?_cons_zero, List.getElem?_cons_succ, varQ_d]
      refine R.fix j l _ _ hl ?_
      rw [w_nil, lenN, wp_neI, wp_toB, if_neg (by simp), w_next, stepQ_nx]
      exact ⟨_, _, _, _, rfl⟩
  · rintro ρ S2 ⟨l5, l6, l7, l8, rfl⟩
    rw [sq_nx, wp_seq, w_for, w_range1, w_cons, w_cb, w_cons, w_var]
    simp only [List.getElem?_cons_zero, List.getElem?_cons_succ, varQ_d]
    rw [w_nil, R.sln, w_nil, rngQ_int]
    refine ⟨by unfold okR; simp; omega, ?_⟩
    refine forD_inv _ (fun k ρ S' => ∃ l7, ρ = [.d TD, .d fd, .d sd, .d LF, .d LS, l5, l6, l7, l8]) _ _ ⟨_, rfl⟩ ?_ ?_
    · rintro k d ρ S3 hk ⟨l7, rfl⟩
      obtain ⟨hk', rfl⟩ := rangeD_at hk
      have hkl : k < (lots s).length := by simpa using hk'
      have hr : (lots s)[k]? = some (lots s)[k] := List.getElem?_eq_getElem hkl
      have hrm : (lots s)[k] ∈ lots s := List.getElem_mem hkl
      generalize (lots s)[k] = r at *
      have hcs := col_sum f s hf he hrm
      refine ⟨_, rfl, ?_⟩
      show wp (mIfS _ _ _ ([.d TD, .d fd, .d sd, .d LF, .d LS, l5, l6, .d (.int (k : Nat)), l8] : List L) S3) _
      rw [w_ifs, w_B, w_m2, w_cb, w_cons, w_frz, w_lc, w_seqI, w_var]
      simp only [List.getElem?_cons_zero, List.getElem?_cons_succ, varQ_d]
      rw [R.tsq]
      refine ⟨by simp only [line, decide_eq_true_eq, List.length_map]; omega, ?_⟩
      refine comp_inv _ (fun i xs S' => xs = (((lots f).take i).map fun l => (cnt l r : Int)).map D.int) _ _ rfl ?_ ?_
      · rintro i d xs S4 hi hxl rfl
        rw [List.getElem?_map] at hi
        cases q : (lots f)[i]? with
        | none => rw [q] at hi; cases hi
        | some l =>
          rw [q] at hi
          cases hi
          refine ⟨_, rfl, ?_⟩
          show wp (m2 gIx _ _ ([.d TD, .d fd, .d sd, .d LF, .d LS, l5, .d (rowD ((lots s).map fun r => (cnt l r : Int))), .d (.int (k : Nat)), l8] : List L) S4) _
          rw [w_m2, w_var]
          simp only [List.getElem?_cons_zero, List.getElem?_cons_succ, varQ_d]
          rw [w_var]
          simp only [List.getElem?_cons_zero, List.getElem?_cons_succ, varQ_d]
          unfold rowD
          refine atX (d := .int (cnt l r : Nat)) (by rw [List.getElem?_map, List.getElem?_map, hr]; rfl) ?_
          rw [List.take_add_one, q, List.map_append, List.map_append]
          rfl
      · rintro xs S4 hxl rfl
        rw [List.length_map, List.take_length, w_nil]
        show wp (pureC sumC [rowD _] S4) _
        rw [w_sumR, hcs, w_cb, w_cons, w_m2, w_var]
        simp only [List.getElem?_cons_zero, List.getElem?_cons_succ, varQ_d]
        rw [w_var]
        simp only [List.getElem?_cons_zero, List.getElem?_cons_succ, varQ_d]
        refine R.six k r _ _ hr ?_
        rw [w_nil, lenN, wp_neI, wp_toB, if_neg (by simp), w_next, stepQ_nx]
        exact ⟨_, rfl⟩
    · rintro ρ S3 ⟨l7, rfl⟩
      rw [sq_nx, w_ret, w_c]
end K23

set_option Elab.async false
set_option linter.all false
set_option maxRecDepth 100000
set_option maxHeartbeats 4000000
set_option autoImplicit false
namespace K23
open PySem PySem.Spec L2 DL
theorem isN_ok (d : D) (S : Sto) (Q : D → Sto → Prop) : wp (gIsN d .non S) Q = Q (.bl (isN d)) S := by
  have : gIsN d .non S = .ok (.bl (isN d)) S := rfl
  rw [this, wp_ok]
/-- a value is the same as itself -/
def Sm (n : Nat) (d : D) : Prop := ∀ S, wp (m_law_same n [d, d] S) fun r _ => r = .d (.bl true)
theorem w_if1 {T : String} {v : Nat} {φt φu : Ph Ctl} {ρ : List L} {S : Sto} {Q : Ctl → Sto → Prop} {d : D} {b : Bool} (hv : ρ[v]? = some (.d d)) (hi : ∀ S, gIsi T d S = .ok (.bl b) S) : wp (mIfS (mB (m1 (gIsi T) (mVar v))) φt φu ρ S) Q = if b = true then wp (φt ρ S) Q else wp (φu ρ S) Q := by
  rw [w_ifs, w_B, w_m1, w_var, hv, varQ_d, hi, wp_ok, wp_toB]
theorem sm_int (n : Nat) (i : Int) : Sm (n + 1) (.int i) := fun S => by
  refine wp_run (φ := b_law_same (m_law_same n)) [.d (.int i), .d (.int i), .un] rfl ?_
  unfold b_law_same
  rw [wp_seq, w_ifs, w_B, w_m2, w_var]
  simp only [List.getElem?_cons_zero, List.getElem?_cons_succ, varQ_d]
  rw [w_c, isN_ok, wp_toB, if_neg (fun h : isN (D.int i) = true => by cases h), w_next, sq_nx, wp_seq, w_if1 (b := false) rfl (fun S => rfl), if_neg (by decide), w_next, sq_nx, wp_seq, w_if1 (b := true) rfl (fun S => rfl), if_pos rfl, w_ret, w_andV, w_m1, w_var]
  simp only [List.getElem?_cons_zero, List.getElem?_cons_succ, varQ_d]
  have e1 : gIsi "int" (.int i) S = .ok (.bl true) S := rfl
  have e2 : gIsi "bool" (.int i) S = .ok (.bl false) S := rfl
  rw [e1, wp_ok, wp_toB, if_pos rfl, w_andV, w_notV, w_m1, w_var]
  simp only [List.getElem?_cons_zero, List.getElem?_cons_succ, varQ_d]
  rw [e2, wp_ok, wp_toB, wp_toB, if_pos (by decide : (!false) = true), w_m2, w_var]
  simp only [List.getElem?_cons_zero, List.getElem?_cons_succ, varQ_d]
  rw [w_var]
  simp only [List.getElem?_cons_zero, List.getElem?_cons_succ, varQ_d]
  rw [wp_eqI, sq_rt]
  simp
structure SeqD (d : D) (xs : List D) (t : Bool) : Prop where
  ln : ∀ (S : Sto) (Q : D → Sto → Prop), wp (pureC lenC [d] S) Q = Q (.int (xs.length : Nat)) S
  ix : ∀ (k : Nat) (x : D) (S : Sto) (Q : D → Sto → Prop), xs[k]? = some x → Q x S → wp (gIx d (.int (k : Nat)) S) Q
  nn : isN d = false
  ib : ∀ S, gIsi "bool" d S = .ok (.bl false) S
  ii : ∀ S, gIsi "int" d S = .ok (.bl false) S
  is : ∀ S, gIsi "str" d S = .ok (.bl false) S
  it : ∀ S, gIsi "tuple" d S = .ok (.bl t) S
  il : ∀ S, gIsi "list" d S = .ok (.bl (!t)) S
theorem sm_seq {n : Nat} {d : D} {xs : List D} {t : Bool} (H : SeqD d xs t) (hl : xs.length ≤ 900) (hx : ∀ x ∈ xs, Sm n x) : Sm (n + 1) d := fun S => by
  refine wp_run (φ := b_law_same (m_law_same n)) [.d d, .d d, .un] rfl ?_
  unfold b_law_same
  rw [wp_seq, w_ifs, w_B, w_m2, w_var]
  simp only [List.getElem?_cons_zero, List.getElem?_cons_succ, varQ_d]
  rw [w_c, isN_ok, H.nn, wp_toB, if_neg (by decide), w_next, sq_nx, wp_seq, w_if1 rfl H.ib, if_neg (by decide), w_next, sq_nx, wp_seq, w_if1 rfl H.ii, if_neg (by decide), w_next, sq_nx, wp_seq, w_if1 rfl H.is, if_neg (by decide), w_next, sq_nx, wp_seq]
  have lt : ∀ Q : Ctl → Sto → Prop, Q (.nx [.d d, .d d, .un]) S → wp (mIfS (mB (m1 (gIsi "tuple") (mVar 1))) (mIfS (mOr (mNot (mB (m1 (gIsi "tuple") (mVar 0)))) (mB (m2 gNe (mCB (pureC lenC) (mCons (mVar 0) mNil)) (mCB (pureC lenC) (mCons (mVar 1) mNil))))) (mRet (mC (.bl false)))
   mNext)
   (mIfS (mOr (mNot (mB (m1 (gIsi "list") (mVar 1)))) (mOr (mNot (mB (m1 (gIsi "list") (mVar 0)))) (mB (m2 gNe (mCB (pureC lenC) (mCons (mVar 0) mNil)) (mCB (pureC lenC) (mCons (mVar 1) mNil)))))) (mRet (mC (.bl false)))
   mNext) [.d d, .d d, .un] S) Q := fun Q q => by
    have hne : wp (mB (m2 gNe (mCB (pureC lenC) (mCons (mVar 0) mNil)) (mCB (pureC lenC) (mCons (mVar 1) mNil))) [.d d, .d d, .un] S) fun c S' => c = false ∧ S' = S := by
      rw [w_B, w_m2, w_cb, w_cons, w_var]
      simp only [List.getElem?_cons_zero, List.getElem?_cons_succ, varQ_d]
      rw [w_nil, H.ln, w_cb, w_cons, w_var]
      simp only [List.getElem?_cons_zero, List.getElem?_cons_succ, varQ_d]
      rw [w_nil, H.ln, wp_neI, wp_toB]
      exact ⟨by simp, rfl⟩
    rw [w_if1 rfl H.it]
    cases t
    · rw [if_neg (by decide), w_ifs, w_or, w_not, w_B, w_m1, w_var]
      simp only [List.getElem?_cons_zero, List.getElem?_cons_succ, varQ_d]
      rw [H.il, wp_ok, wp_toB, if_neg (by decide), w_or, w_not, w_B, w_m1, w_var]
      simp only [List.getElem?_cons_zero, List.getElem?_cons_succ, varQ_d]
      rw [H.il, wp_ok, wp_toB, if_neg (by decide)]
      refine wp.mono hne ?_
      rintro _ _ ⟨rfl, rfl⟩
      rw [if_neg (by decide), w_next]
      exact q
    · rw [if_pos rfl, w_ifs, w_or, w_not, w_B, w_m1, w_var]
      simp only [List.getElem?_cons_zero, List.getElem?_cons_succ, varQ_d]
      rw [H.it, wp_ok, wp_toB, if_neg (by decide)]
      refine wp.mono hne ?_
      rintro _ _ ⟨rfl, rfl⟩
      rw [if_neg (by decide), w_next]
      exact q
  refine lt _ ?_
  rw [sq_nx, wp_seq, w_for, w_range1, w_cons, w_cb, w_cons, w_var]
  simp only [List.getElem?_cons_zero, List.getElem?_cons_succ, varQ_d]
  rw [w_nil, H.ln, w_nil, rngQ_int]
  refine ⟨by unfold okR; simp; omega, ?_⟩
  refine forD_inv _ (fun k ρ S' => ∃ l2, ρ = [.d d, .d d, l2]) _ _ ⟨_, rfl⟩ ?_ ?_
  · rintro k e ρ S2 hk ⟨l2, rfl⟩
    obtain ⟨hk', rfl⟩ := rangeD_at hk
    have hkl : k < xs.length := by simpa using hk'
    have hxk : xs[k]? = some xs[k] := List.getElem?_eq_getElem hkl
    have hsm := hx xs[k] (List.getElem_mem hkl)
    generalize xs[k] = x at *
    refine ⟨_, rfl, ?_⟩
    show wp (mIfS _ _ _ ([.d d, .d d, .d (.int (k : Nat))] : List L) S2) _
    rw [w_ifs, w_not, w_B, w_call0, w_cons, w_m2, w_var]
    simp only [List.getElem?_cons_zero, List.getElem?_cons_succ, varQ_d]
    rw [w_var]
    simp only [List.getElem?_cons_zero, List.getElem?_cons_succ, varQ_d]
    refine H.ix k x _ _ hxk ?_
    rw [w_cons, w_m2, w_var]
    simp only [List.getElem?_cons_zero, List.getElem?_cons_succ, varQ_d]
    rw [w_var]
    simp only [List.getElem?_cons_zero, List.getElem?_cons_succ, varQ_d]
    refine H.ix k x _ _ hxk ?_
    rw [w_nil]
    refine wp.mono (hsm sto0) ?_
    rintro _ _ rfl
    show wp (toB (.bl true) _) _
    rw [wp_toB, if_neg (by decide), w_next, stepQ_nx]
    exact ⟨_, rfl⟩
  · rintro ρ S2 ⟨l2, rfl⟩
    rw [sq_nx, w_ret, w_c]
theorem seq_tup (xs : List D) : SeqD (.tup xs) xs true := ⟨fun S Q => w_lenT, fun k x S Q h q => atXT h q, rfl, fun S => rfl, fun S => rfl, fun S => rfl, fun S => rfl, fun S => rfl⟩
theorem seq_lst (xs : List D) : SeqD (.lst xs) xs false := ⟨fun S Q => w_lenL, fun k x S Q h q => atX h q, rfl, fun S => rfl, fun S => rfl, fun S => rfl, fun S => rfl, fun S => rfl⟩
theorem sm_nm (n : Nat) (ns : List Nat) (h : ns.length ≤ 900) : Sm (n + 2) (nmD ns) := by
  have e := seq_tup (ns.map inD)
  unfold nmD
  generalize D.tup (ns.map inD) = d at *
  refine sm_seq e (by rw [List.length_map]; exact h) fun x hx => ?_
  obtain ⟨k, _, rfl⟩ := List.mem_map.mp hx
  exact sm_int n _
theorem sm_row (n : Nat) (is : List Int) (h : is.length ≤ 900) : Sm (n + 2) (rowD is) := by
  have e := seq_lst (is.map D.int)
  unfold rowD
  generalize D.lst (is.map D.int) = d at *
  refine sm_seq e (by rw [List.length_map]; exact h) fun x hx => ?_
  obtain ⟨k, _, rfl⟩ := List.mem_map.mp hx
  exact sm_int n _
theorem sm_tbl (n : Nat) (R : List (List Int)) (h : R.length ≤ 900) (h2 : ∀ r ∈ R, r.length ≤ 900) : Sm (n + 3) (tblD R) := by
  have e := seq_lst (R.map rowD)
  unfold tblD
  generalize D.lst (R.map rowD) = d at *
  refine sm_seq e (by rw [List.length_map]; exact h) fun x hx => ?_
  obtain ⟨r, hr, rfl⟩ := List.mem_map.mp hx
  exact sm_row n r (h2 r hr)
theorem sm_pair (n : Nat) (i j : Int) : Sm (n + 2) (.tup [.int i, .int j]) := sm_seq (seq_tup [.int i, .int j]) (show 2 ≤ 900 by decide) fun x hx => by
  simp at hx
  rcases hx with rfl | rfl <;> exact sm_int n _
end K23

set_option Elab.async false
set_option linter.all false
set_option maxRecDepth 100000
set_option maxHeartbeats 4000000
set_option autoImplicit false
namespace K23
open PySem PySem.Spec L2 DL
theorem w_callN {m : Fn} {φl : Ph (List D)} {ρ : List L} {S : Sto} {Q : D → Sto → Prop} (h : wp (φl ρ S) fun ds S1 => wp (m ds sto0) fun r _ => ∃ d, r = .d d ∧ Q d S1) : wp (mCallN m φl ρ S) Q := by
  unfold mCallN
  rw [wp_bind]
  refine wp.mono h fun ds S1 hq => ?_
  obtain ⟨r, S2, e, d, rfl, q⟩ := hq.get
  rw [e]
  exact wp_ok.mpr q
/-- a copy -/
def Cy (n : Nat) (d : D) : Prop := ∀ S, wp (m_law_copy n [d] S) fun r _ => r = .d d
theorem cy_int (n : Nat) (i : Int) : Cy (n + 1) (.int i) := fun S => by
  refine wp_run (φ := b_law_copy (m_law_copy n)) [.d (.int i), .un] rfl ?_
  unfold b_law_copy
  rw [wp_seq, w_if1 (b := false) rfl (fun S => rfl), if_neg (by decide), w_next, sq_nx, wp_seq, w_if1 (b := false) rfl (fun S => rfl), if_neg (by decide), w_next, sq_nx, w_ret]
  refine w_sc ?_
  rw [w_var]
  exact ⟨rfl, rfl⟩
theorem cy_lst {n : Nat} {d : D} {xs : List D} (hd : d = .lst xs) (H : SeqD d xs false) (hl : xs.length ≤ 900) (hx : ∀ x ∈ xs, Cy n x) : Cy (n + 1) d := fun S => by
  have hsq : ∀ (S : Sto) (Q : List D → Sto → Prop), wp (seqOf d S) Q = Q xs S := fun S Q => by rw [hd, w_seqL]
  have hfin : ∀ ys, ys = xs → Res.d (.lst ys) = Res.d d := fun ys e => by rw [e, hd]
  clear hd
  refine wp_run (φ := b_law_copy (m_law_copy n)) [.d d, .un] rfl ?_
  unfold b_law_copy
  rw [wp_seq, w_if1 rfl H.it, if_neg (by decide), w_next, sq_nx, wp_seq, w_if1 rfl H.il, if_pos (by decide : (!false) = true), w_ret, w_frz, w_lc, w_seqI, w_var]
  simp only [List.getElem?_cons_zero, varQ_d]
  rw [hsq]
  refine ⟨by simp only [line, decide_eq_true_eq]; omega, ?_⟩
  refine comp_inv _ (fun k ys S' => ys = xs.take k) _ _ rfl ?_ ?_
  · rintro k e ys S2 hk hyl rfl
    have hm := List.mem_of_getElem? hk
    refine ⟨_, rfl, ?_⟩
    refine w_callN ?_
    show wp (mCons _ _ ([.d d, .d e] : List L) S2) _
    rw [w_cons, w_var]
    simp only [List.getElem?_cons_zero, List.getElem?_cons_succ, varQ_d]
    rw [w_nil]
    refine wp.mono (hx e hm sto0) ?_
    rintro _ _ rfl
    refine ⟨e, rfl, ?_⟩
    rw [List.take_add_one, hk]
    rfl
  · rintro ys S2 hyl rfl
    rw [List.take_length, sq_rt]
    exact hfin _ rfl
theorem cy_row (n : Nat) (is : List Int) (h : is.length ≤ 900) : Cy (n + 2) (rowD is) := by
  have e := seq_lst (is.map D.int)
  refine cy_lst (xs := is.map D.int) rfl e (by rw [List.length_map]; exact h) fun x hx => ?_
  obtain ⟨k, _, rfl⟩ := List.mem_map.mp hx
  exact cy_int n _
theorem cy_tbl (n : Nat) (R : List (List Int)) (h : R.length ≤ 900) (h2 : ∀ r ∈ R, r.length ≤ 900) : Cy (n + 3) (tblD R) := by
  have e := seq_lst (R.map rowD)
  refine cy_lst (xs := R.map rowD) rfl e (by rw [List.length_map]; exact h) fun x hx => ?_
  obtain ⟨r, hr, rfl⟩ := List.mem_map.mp hx
  exact cy_row n r (h2 r hr)
/-- unlike counts -/
theorem unlike_ok (cP cU : Addr) (f s : List Nat) (he : s.length ≠ f.length) : ∃ ρ' S', m_check_alike cP cU [.int (f.length : Nat), .lst [ptD cP s]] sto0 = .exc ⟨cU, (["right_plots", "left_plots"] : List Str), [.int (s.length : Nat), .int (f.length : Nat)]⟩ ρ' S' := by
  have hg : ∀ S, gFld cP "plots" (ptD cP s) S = .ok (.int (s.length : Nat)) S := fun S => g_plots cP s S
  have hne : ((s.length : Nat) : Int) ≠ ((f.length : Nat) : Int) := by omega
  generalize ptD cP s = pd at *
  generalize ((s.length : Nat) : Int) = si at *
  generalize ((f.length : Nat) : Int) = fi at *
  refine ⟨[], sto0, ?_⟩
  have hT : mB (m2 gNe (m1 (gFld cP "plots") (mVar 2)) (mVar 0)) ([.d (.int fi), .d (.lst [pd]), .d pd] : List L) sto0 = .ok true sto0 := by
    refine wp_eq ?_
    rw [w_B, w_m2, w_m1, w_var]
    simp only [List.getElem?_cons_zero, List.getElem?_cons_succ, varQ_d]
    rw [hg, wp_ok, w_var]
    simp only [List.getElem?_cons_zero, varQ_d]
    rw [wp_neI, wp_toB]
    exact ⟨by simpa using hne, rfl⟩
  have hR : mRaise cU (["left_plots", "right_plots"] : List Str) (mCons (mVar 0) (mCons (m1 (gFld cP "plots") (mVar 2)) mNil)) ([.d (.int fi), .d (.lst [pd]), .d pd] : List L) sto0 = .exc ⟨cU, (["right_plots", "left_plots"] : List Str), [.int si, .int fi]⟩ [.d (.int fi), .d (.lst [pd]), .d pd] sto0 := by
    have e : mCons (mVar 0) (mCons (m1 (gFld cP "plots") (mVar 2)) mNil) ([.d (.int fi), .d (.lst [pd]), .d pd] : List L) sto0 = .ok [.int fi, .int si] sto0 := by
      refine wp_eq ?_
      rw [w_cons, w_var]
      simp only [List.getElem?_cons_zero, varQ_d]
      rw [w_cons, w_m1, w_var]
      simp only [List.getElem?_cons_zero, List.getElem?_cons_succ, varQ_d]
      rw [hg, wp_ok, w_nil]
      exact ⟨rfl, rfl⟩
    unfold mRaise
    rw [e]
    rfl
  have hB : b_check_alike cP cU ([.d (.int fi), .d (.lst [pd]), .un] : List L) sto0 = .exc ⟨cU, (["right_plots", "left_plots"] : List Str), [.int si, .int fi]⟩ [.d (.int fi), .d (.lst [pd]), .d pd] sto0 := by
    have hI : mIfS (mB (m2 gNe (m1 (gFld cP "plots") (mVar 2)) (mVar 0))) (mRaise cU (["left_plots", "right_plots"] : List Str) (mCons (mVar 0) (mCons (m1 (gFld cP "plots") (mVar 2)) mNil))) mNext ([.d (.int fi), .d (.lst [pd]), .d pd] : List L) sto0 = .exc ⟨cU, (["right_plots", "left_plots"] : List Str), [.int si, .int fi]⟩ [.d (.int fi), .d (.lst [pd]), .d pd] sto0 := by
      unfold mIfS
      rw [hT]
      simp only [Out.bind, if_true]
      exact hR
    unfold b_check_alike mFor
    have e : mSeqI (mVar 1) ([.d (.int fi), .d (.lst [pd]), .un] : List L) sto0 = .ok [pd] sto0 := rfl
    rw [e]
    simp only [Out.bind, forD, Tgt.put, List.set_cons_zero, List.set_cons_succ]
    rw [hI]
  have hrun : m_check_alike cP cU [.int fi, .lst [pd]] sto0 = runD false 1 (b_check_alike cP cU) [.int fi, .lst [pd]] sto0 := rfl
  rw [hrun]
  unfold runD
  have hst : startL false 1 [D.int fi, D.lst [pd]] = ([.d (.int fi), .d (.lst [pd]), .un] : List L) := rfl
  rw [hst, hB]
end K23

set_option Elab.async false
set_option linter.all false
set_option maxRecDepth 100000
set_option maxHeartbeats 4000000
set_option autoImplicit false
namespace K23
open PySem PySem.Spec L2 DL
theorem ok_of {α : Type} {o : Out α} {Q : α → Sto → Prop} (h : wp o Q) : ∃ a S, o = .ok a S ∧ Q a S := h.get
theorem count_exc (cP cU : Addr) (f s : List Nat) (he : s.length ≠ f.length) : ∃ S', m_count_table cP cU [ptD cP f, ptD cP s] sto0 = .exc ⟨cU, (["right_plots", "left_plots"] : List Str), [.int (s.length : Nat), .int (f.length : Nat)]⟩ [] S' := by
  obtain ⟨ρ', S', hu⟩ := unlike_ok cP cU f s he
  have hp : ∀ S, gFld cP "plots" (ptD cP f) S = .ok (.int (f.length : Nat)) S := fun S => g_plots cP f S
  generalize ptD cP f = pf at *
  generalize ptD cP s = pd at *
  have hst : startL false 3 [pf, pd] = ([.d pf, .d pd, .un, .un, .un] : List L) := rfl
  have hargs : mCons (m1 (gFld cP "plots") (mVar 0)) (mCons (mFrz (mLst (mCons (mVar 1) mNil))) mNil) ([.d pf, .d pd, .un, .un, .un] : List L) sto0 = .ok [.int (f.length : Nat), .lst [pd]] sto0 := by
    refine wp_eq ?_
    rw [w_cons, w_m1, w_var]
    simp only [List.getElem?_cons_zero, List.getElem?_cons_succ, varQ_d]
    rw [hp, wp_ok, w_cons, w_frz, w_lst, w_cons, w_var]
    simp only [List.getElem?_cons_zero, List.getElem?_cons_succ, varQ_d]
    rw [w_nil]
    refine ⟨rfl, ?_⟩
    rw [w_nil]
    exact ⟨rfl, rfl⟩
  refine ⟨sto0, ?_⟩
  have hrun : m_count_table cP cU [pf, pd] sto0 = runD false 3 (b_count_table cP cU) [pf, pd] sto0 := rfl
  rw [hrun]
  unfold runD
  rw [hst]
  unfold b_count_table mSeqN mDrop mCall0
  rw [hargs]
  simp only [Out.bind, List.append_nil, hu]
theorem refused_ok (cP cU : Addr) (f s : List Nat) (he : s.length ≠ f.length) (S : Sto) : m_law_refused cP cU [ptD cP f, ptD cP s, .tup [.int (f.length : Nat), .int (s.length : Nat)]] S = .ok (.d (.bl true)) S := by
  obtain ⟨S', hx⟩ := count_exc cP cU f s he
  obtain ⟨r, S2, e2, e3⟩ := ok_of (sm_pair 4 (f.length : Nat) (s.length : Nat) sto0)
  generalize ptD cP f = pf at *
  generalize ptD cP s = pd at *
  have hst : startL false 1 [pf, pd, .tup [.int (f.length : Nat), .int (s.length : Nat)]] = ([.d pf, .d pd, .d (.tup [.int (f.length : Nat), .int (s.length : Nat)]), .un] : List L) := rfl
  have hrun : m_law_refused cP cU [pf, pd, .tup [.int (f.length : Nat), .int (s.length : Nat)]] S = runD false 1 (b_law_refused cP cU) [pf, pd, .tup [.int (f.length : Nat), .int (s.length : Nat)]] S := rfl
  rw [hrun]
  unfold runD
  rw [hst]
  have hargs : mCons (mVar 0) (mCons (mVar 1) mNil) ([.d pf, .d pd, .d (.tup [.int (f.length : Nat), .int (s.length : Nat)]), .un] : List L) S = .ok [pf, pd] S := rfl
  have hc : mCallN (m_count_table cP cU) (mCons (mVar 0) (mCons (mVar 1) mNil)) ([.d pf, .d pd, .d (.tup [.int (f.length : Nat), .int (s.length : Nat)]), .un] : List L) S = .exc ⟨cU, (["right_plots", "left_plots"] : List Str), [.int (s.length : Nat), .int (f.length : Nat)]⟩ [.d pf, .d pd, .d (.tup [.int (f.length : Nat), .int (s.length : Nat)]), .un] S := by
    unfold mCallN
    rw [hargs]
    simp only [Out.bind, hx]
  unfold b_law_refused
  rw [hc]
  simp only
  rw [if_pos ⟨trivial, trivial, rfl⟩]
  simp only [List.getElem?_cons_zero, List.getElem?_cons_succ]
  rw [e2, e3]
theorem turned_ok {x0 x1 x2 x3 x4 x5 x6 x7 x9 x10 x11 x12 : L} (f s : List Nat) (hf0 : 1 ≤ (lots f).length) (h1 : f.length ≤ 16) (h2 : s.length ≤ 16) (he : s.length = f.length) (S : Sto) :
    wp (mFrz (mLc (.one 12) [12] (mRange1 (mCons (mCB (pureC lenC) (mCons (m2 gIx (mVar 8) (mC (.int 0))) mNil)) mNil)) mYes (mFrz (mLc (.one 9) [9] (mSeqI (mVar 8)) mYes (m2 gIx (mVar 9) (mVar 12))))) ([x0, x1, x2, x3, x4, x5, x6, x7, .d (tblD (tbl f s)), x9, x10, x11, x12] : List L) S) fun d S' => d = tblD (tbl s f) ∧ S' = S := by
  have R := rt_mk f s
  have hlf := lots_len f h1
  have hls := lots_len s h2
  generalize tblD (tbl f s) = TD at *
  rw [w_frz, w_lc, w_range1, w_cons, w_cb, w_cons, w_m2, w_var]
  simp only [List.getElem?_cons_zero, List.getElem?_cons_succ, varQ_d]
  rw [w_c]
  have h0 : (lots f)[0]? = some (lots f)[0] := List.getElem?_eq_getElem (by omega)
  refine R.tix 0 _ _ _ h0 ?_
  rw [w_nil]
  have hrl : ∀ (S : Sto) (Q : D → Sto → Prop), wp (pureC lenC [rowD ((lots s).map fun r => (cnt (lots f)[0] r : Int))] S) Q = Q (.int ((lots s).length : Nat)) S := fun S Q => by unfold rowD; rw [w_lenL, List.length_map, List.length_map]
  rw [hrl, w_nil, rngQ_int]
  refine ⟨by unfold okR; simp; omega, by rw [rangeD_len]; simp only [line, decide_eq_true_eq]; omega, ?_⟩
  refine comp_inv _ (fun k xs S' => S = S' ∧ xs = ((lots s).take k).map fun r => rowD ((lots f).map fun l => (cnt r l : Int))) _ _ ⟨rfl, rfl⟩ ?_ ?_
  · rintro k d xs S2 hk hxl ⟨rfl, rfl⟩
    obtain ⟨hk', rfl⟩ := rangeD_at hk
    have hkl : k < (lots s).length := by simpa using hk'
    have hr : (lots s)[k]? = some (lots s)[k] := List.getElem?_eq_getElem hkl
    have hrm : (lots s)[k] ∈ lots s := List.getElem_mem hkl
    generalize (lots s)[k] = r at *
    refine ⟨_, rfl, ?_⟩
    show wp (mFrz _ ([x0, x1, x2, x3, x4, x5, x6, x7, .d TD, x9, x10, x11, .d (.int (k : Nat))] : List L) S) _
    rw [w_frz, w_lc, w_seqI, w_var]
    simp only [List.getElem?_cons_zero, List.getElem?_cons_succ, varQ_d]
    rw [R.tsq]
    refine ⟨by simp only [line, decide_eq_true_eq, List.length_map]; omega, ?_⟩
    refine comp_inv _ (fun i ys S' => S = S' ∧ ys = (((lots f).take i).map fun l => (cnt r l : Int)).map D.int) _ _ ⟨rfl, rfl⟩ ?_ ?_
    · rintro i d ys S4 hi hyl ⟨rfl, rfl⟩
      rw [List.getElem?_map] at hi
      cases q : (lots f)[i]? with
      | none => rw [q] at hi; cases hi
      | some l =>
        rw [q] at hi
        cases hi
        have hlm := List.mem_of_getElem? q
        refine ⟨_, rfl, ?_⟩
        show wp (m2 gIx _ _ ([x0, x1, x2, x3, x4, x5, x6, x7, .d TD, .d (rowD ((lots s).map fun r => (cnt l r : Int))), x10, x11, .d (.int (k : Nat))] : List L) S) _
        rw [w_m2, w_var]
        simp only [List.getElem?_cons_zero, List.getElem?_cons_succ, varQ_d]
        rw [w_var]
        simp only [List.getElem?_cons_zero, List.getElem?_cons_succ, varQ_d]
        unfold rowD
        refine atX (d := .int (cnt l r : Nat)) (by rw [List.getElem?_map, List.getElem?_map, hr]; rfl) ?_
        refine ⟨rfl, ?_⟩
        rw [List.take_add_one, q, List.map_append, List.map_append, tbl_comm hlm hrm he]
        rfl
    · rintro ys S4 hyl ⟨rfl, rfl⟩
      rw [List.length_map, List.take_length]
      refine ⟨rfl, ?_⟩
      rw [List.take_add_one, hr, List.map_append]
      rfl
  · rintro xs S2 hxl ⟨rfl, rfl⟩
    rw [rangeD_len]
    refine ⟨?_, rfl⟩
    have e : (lots s).take (((lots s).length : Nat) : Int).toNat = lots s := by rw [Int.toNat_natCast, List.take_length]
    rw [e]
    unfold tblD tbl
    rw [List.map_map]; rfl
end K23

set_option Elab.async false
set_option linter.all false
set_option maxRecDepth 100000
set_option maxHeartbeats 4000000
set_option autoImplicit false
namespace K23
open PySem PySem.Spec L2 DL
theorem w_make {cP : Addr} {φl : Ph (List D)} {ρ : List L} {S : Sto} {Q : D → Sto → Prop} (h : wp (φl ρ S) fun ds S1 => ∃ (ns : List Nat) (p : Nat), ds = [.lst (ns.map inD)] ∧ Nm ns p ∧ 1 ≤ p ∧ p ≤ 16 ∧ Q (ptD cP ns) S1) : wp (mMake cP (m_Parting_init cP) φl ρ S) Q := by
  obtain ⟨ds, S1, e, ns, p, rfl, hn, h1, hl, q⟩ := h.get
  obtain ⟨S', e', hm⟩ := init_ok cP ns hn.cn (by rw [hn.len]; exact h1) (by rw [hn.len]; exact hl)
  have : mMake cP (m_Parting_init cP) φl ρ S = .ok (ptD cP ns) S1 := by
    unfold mMake
    rw [e]
    show (match m_Parting_init cP [.lst (ns.map inD)] (stoC cP) with
      | .ok (.d .non) S2 => (match S2.mode with
        | .ob o => Out.ok (D.obj o.C o.ns o.ds) S1
        | _ => .bad)
      | .exc x _ _ => .exc x ρ S1
      | _ => .bad) = _
    rw [e']
    show (match S'.mode with
        | .ob o => Out.ok (D.obj o.C o.ns o.ds) S1
        | _ => .bad) = _
    rw [hm]
    rfl
  rw [this, wp_ok]
  exact q
theorem w_right {φl : Ph (List D)} {ρ : List L} {S : Sto} {Q : Bool → Sto → Prop} (h : wp (φl ρ S) fun ds S1 => ∃ (f s : List Nat), ds = [tblD (tbl f s), nmD f, nmD s] ∧ Cn f ∧ Cn s ∧ f.length ≤ 16 ∧ s.length ≤ 16 ∧ s.length = f.length ∧ Q false S1) : wp (mNot (mB (mCall0 m_law_right [] φl)) ρ S) Q := by
  rw [w_not, w_B, w_call0]
  refine wp.mono h ?_
  rintro _ S1 ⟨f, s, rfl, h1, h2, h3, h4, h5, q⟩
  refine wp.mono (right_ok f s h1 h2 h3 h4 h5 sto0) ?_
  rintro _ _ rfl
  show wp (toB (.bl true) _) _
  rw [wp_toB]
  exact q
theorem w_same {φl : Ph (List D)} {ρ : List L} {S : Sto} {Q : D → Sto → Prop} (h : wp (φl ρ S) fun ds S1 => ∃ d, ds = [d, d] ∧ Sm 6 d ∧ Q (.bl true) S1) : wp (mCall0 (m_law_same 6) [] φl ρ S) Q := by
  rw [w_call0]
  refine wp.mono h ?_
  rintro _ S1 ⟨d, rfl, h1, q⟩
  refine wp.mono (h1 sto0) ?_
  rintro _ _ rfl
  exact q
theorem w_nsame {φl : Ph (List D)} {ρ : List L} {S : Sto} {Q : Bool → Sto → Prop} (h : wp (φl ρ S) fun ds S1 => ∃ d, ds = [d, d] ∧ Sm 6 d ∧ Q false S1) : wp (mNot (mB (mCall0 (m_law_same 6) [] φl)) ρ S) Q := by
  rw [w_not, w_B]
  refine w_same (wp.mono h ?_)
  rintro _ S1 ⟨d, rfl, h1, q⟩
  refine ⟨d, rfl, h1, ?_⟩
  rw [wp_toB]
  exact q
theorem w_count {cP cU : Addr} {φl : Ph (List D)} {ρ : List L} {S : Sto} {Q : D → Sto → Prop} (h : wp (φl ρ S) fun ds S1 => ∃ (f s : List Nat), ds = [ptD cP f, ptD cP s] ∧ f.length ≤ 16 ∧ s.length ≤ 16 ∧ s.length = f.length ∧ Q (tblD (tbl f s)) S1) : wp (mCallN (m_count_table cP cU) φl ρ S) Q := by
  refine w_callN (wp.mono h ?_)
  rintro _ S1 ⟨f, s, rfl, h3, h4, h5, q⟩
  refine wp.mono (count_ok cP cU f s h3 h4 h5) ?_
  rintro _ _ rfl
  exact ⟨_, rfl, q⟩
theorem w_vv {a b : Nat} {x y : D} {ρ : List L} {S : Sto} {Q : List D → Sto → Prop} (ha : ρ[a]? = some (.d x)) (hb : ρ[b]? = some (.d y)) (q : Q [x, y] S) : wp (mCons (mVar a) (mCons (mVar b) mNil) ρ S) Q := by
  rw [w_cons, w_var, ha, varQ_d, w_cons, w_var, hb, varQ_d, w_nil]
  exact q
theorem w_vvv {a b c : Nat} {x y z : D} {ρ : List L} {S : Sto} {Q : List D → Sto → Prop} (ha : ρ[a]? = some (.d x)) (hb : ρ[b]? = some (.d y)) (hc : ρ[c]? = some (.d z)) (q : Q [x, y, z] S) : wp (mCons (mVar a) (mCons (mVar b) (mCons (mVar c) mNil)) ρ S) Q := by
  rw [w_cons, w_var, ha, varQ_d, w_cons, w_var, hb, varQ_d, w_cons, w_var, hc, varQ_d, w_nil]
  exact q
theorem lots_pos (ns : List Nat) (hc : Cn ns) (h : 1 ≤ ns.length) : 1 ≤ (lots ns).length := by
  have h0 : ns[0]? = some ns[0] := List.getElem?_eq_getElem (by omega)
  obtain ⟨a, b⟩ := hc 0 _ h0
  have hz : ns[0] = 0 := by omega
  have hm : 0 ∈ reps ns := List.mem_filter.mpr ⟨List.mem_range.mpr (by omega), by simp [h0, hz]⟩
  unfold lots
  rw [List.length_map]
  exact List.length_pos_of_mem hm
theorem w_nref {cP cU : Addr} {φl : Ph (List D)} {ρ : List L} {S : Sto} {Q : Bool → Sto → Prop} (h : wp (φl ρ S) fun ds S1 => ∃ (f s : List Nat), ds = [ptD cP f, ptD cP s, .tup [.int (f.length : Nat), .int (s.length : Nat)]] ∧ s.length ≠ f.length ∧ Q false S1) : wp (mNot (mB (mCall0 (m_law_refused cP cU) [] φl)) ρ S) Q := by
  rw [w_not, w_B, w_call0]
  refine wp.mono h ?_
  rintro _ S1 ⟨f, s, rfl, he, q⟩
  rw [refused_ok cP cU f s he sto0, wp_ok]
  show wp (toB (.bl true) _) _
  rw [wp_toB]
  exact q
theorem last_ok (cP cU : Addr) (f s : List Nat) (p : Nat) (S2 : Sto) (i2 : Inv S2 (0 + 4000)) (nf : Nm f p) (nS : Nm s p) (p1 : 1 ≤ p) (p16 : p ≤ 16) (pf : 1 ≤ (lots f).length) (smT : Sm 6 (tblD (tbl f s))) (smT2 : Sm 6 (tblD (tbl s f))) : wp (q15 cP cU [.un, .st, .d (nmD f), .d (nmD s), .d (ptD cP f), .d (ptD cP s), .un, .d (tblD (tbl s f)), .d (tblD (tbl f s)), .un, .un, .un, .un] S2) fun c _ => c = .rt (.bl true) := by
  have lf := nf.len
  have ls := nS.len
  unfold q15
  rw [wp_seq, w_set, w_call1]
  show stQ (some .st) _
  rw [stQ_st, w_cons, w_cb, w_cons, w_var]
  show varQ (some (.d (nmD f))) _ _
  rw [varQ_d, w_nil, lenN, w_nil]
  refine wp.mono (otherplots_ok S2 (0 + 4000) (f.length : Nat) (by omega) (by omega) (by decide) i2) ?_
  rintro _ S3 ⟨i3, o, rfl, o1, o2, o3⟩
  rw [sq_nx, wp_seq, w_set]
  refine w_make ?_
  rw [w_cons, w_frz, w_cbo, w_cons]
  refine w_partC rfl ?_
  rw [w_var]
  show varQ (some (.d (.int o))) _ _
  rw [varQ_d]
  refine ⟨o, _, rfl, o1, o2, by decide, i3, fun ms S4 i4 hms => ?_⟩
  have lm := hms.len
  obtain rfl : o = (ms.length : Nat) := by omega
  rw [w_nil]
  show wp (gList [nmD ms] _) _
  have hgl : ∀ (S : Sto) (Q : List D → Sto → Prop), wp (gList [nmD ms] S) Q = Q (ms.map inD) S := fun S Q => by unfold nmD; rw [w_listT]
  rw [hgl, w_nil]
  refine ⟨ms, ms.length, rfl, ⟨hms.cn, rfl⟩, by omega, by omega, ?_⟩
  rw [sq_nx]
  show wp (mSeq _ _ ([.un, .st, .d (nmD f), .d (nmD s), .d (ptD cP f), .d (ptD cP s), .un, .d (tblD (tbl s f)), .d (tblD (tbl f s)), .un, .d (.int (ms.length : Nat)), .d (ptD cP ms), .un] : List L) S4) _
  have hln : ∀ (S : Sto) (Q : D → Sto → Prop), Q (.int (f.length : Nat)) S → wp (mCB (pureC lenC) (mCons (mVar 2) mNil) ([.un, .st, .d (nmD f), .d (nmD s), .d (ptD cP f), .d (ptD cP s), .un, .d (tblD (tbl s f)), .d (tblD (tbl f s)), .un, .d (.int (ms.length : Nat)), .d (ptD cP ms), .un] : List L) S) Q := fun S Q q => by
    rw [w_cb, w_cons, w_var]
    show varQ (some (.d (nmD f))) _ _
    rw [varQ_d, w_nil, lenN]
    exact q
  rw [wp_seq, w_ifs, w_or]
  refine w_nref ?_
  rw [w_cons, w_var]
  show varQ (some (.d (ptD cP f))) _ _
  rw [varQ_d, w_cons, w_var]
  show varQ (some (.d (ptD cP ms))) _ _
  rw [varQ_d, w_cons, w_tup, w_cons]
  refine hln _ _ ?_
  rw [w_cons, w_var]
  show varQ (some (.d (.int (ms.length : Nat)))) _ _
  rw [varQ_d, w_nil]
  refine ⟨rfl, ?_⟩
  rw [w_nil]
  refine ⟨f, ms, rfl, by omega, ?_⟩
  rw [if_neg (by decide)]
  refine w_nref ?_
  rw [w_cons, w_var]
  show varQ (some (.d (ptD cP ms))) _ _
  rw [varQ_d, w_cons, w_var]
  show varQ (some (.d (ptD cP s))) _ _
  rw [varQ_d, w_cons, w_tup, w_cons, w_var]
  show varQ (some (.d (.int (ms.length : Nat)))) _ _
  rw [varQ_d, w_cons]
  refine hln _ _ ?_
  rw [w_nil]
  refine ⟨rfl, ?_⟩
  rw [w_nil]
  refine ⟨ms, s, by rw [show f.length = s.length by omega], by omega, ?_⟩
  rw [if_neg (by decide), w_next, sq_nx, wp_seq, w_ifs]
  refine w_nsame ?_
  rw [w_cons]
  refine wp.mono (turned_ok f s pf (by omega) (by omega) (by omega) S4) ?_
  rintro _ _ ⟨rfl, rfl⟩
  rw [w_cons, w_var]
  show varQ (some (.d (tblD (tbl s f)))) _ _
  rw [varQ_d, w_nil]
  refine ⟨_, rfl, smT2, ?_⟩
  rw [if_neg (by decide), w_next, sq_nx, w_ret, w_andV]
  refine w_same ?_
  rw [w_cons, w_m1, w_var]
  show varQ (some (.d (ptD cP f))) _ _
  rw [varQ_d, g_names, wp_ok, w_cons, w_var]
  show varQ (some (.d (nmD f))) _ _
  rw [varQ_d, w_nil]
  refine ⟨_, rfl, sm_nm 4 f (by omega), ?_⟩
  rw [wp_toB, if_pos rfl, w_andV]
  refine w_same ?_
  rw [w_cons, w_m1, w_var]
  show varQ (some (.d (ptD cP s))) _ _
  rw [varQ_d, g_names, wp_ok, w_cons, w_var]
  show varQ (some (.d (nmD s))) _ _
  rw [varQ_d, w_nil]
  refine ⟨_, rfl, sm_nm 4 s (by omega), ?_⟩
  rw [wp_toB, if_pos rfl]
  refine w_same ?_
  rw [w_cons]
  refine w_count (w_vv rfl rfl ⟨f, s, rfl, by omega, by omega, by omega, ?_⟩)
  rw [w_cons, w_var]
  show varQ (some (.d (tblD (tbl f s)))) _ _
  rw [varQ_d, w_nil]
  exact ⟨_, rfl, smT, rfl⟩
theorem law_math (cP cU : Addr) (cells : List Int) (seed : Int) (hl : cells.length ≤ 63) (hs : seed.natAbs < 2 ^ 70) : ∃ f s one two back kept S2 S3 S4 i0 is0 R, LawEq cP cU ⟨cells, 0, 0, 0, seed, 0, .law⟩ f s one two back kept S2 S3 S4 i0 is0 R ∧ S4.mode = .law := by
  have i0 : Inv ⟨cells, 0, 0, 0, seed, 0, .law⟩ 0 := ⟨rfl, by simp, by simp, hs, by simp, by simp, fun h => absurd h (by simp)⟩
  obtain ⟨r, S2, eP, i2, f, s, p, rfl, nf, nS, p1, p16⟩ := (pair_ok _ 0 (by decide) i0).get
  have lf := nf.len
  have ls := nS.len
  have pf := lots_pos f nf.cn (by omega)
  have ps := lots_pos s nS.cn (by omega)
  have lf16 := lots_len f (by omega)
  have ls16 := lots_len s (by omega)
  obtain ⟨a0, as0, R, eT⟩ : ∃ (a0 : Int) (as0 : List Int) (R : List (List Int)), tbl f s = (a0 :: as0) :: R := by
    unfold tbl
    cases e1 : lots f with
    | nil => rw [e1] at pf; simp at pf
    | cons l rest =>
      cases e2 : lots s with
      | nil => rw [e2] at ps; simp at ps
      | cons r rest2 => exact ⟨_, _, _, rfl⟩
  have tl : (tbl f s).length ≤ 16 := by unfold tbl; rw [List.length_map]; exact lf16
  have tr : ∀ r ∈ tbl f s, r.length ≤ 16 := fun r hr => by
    unfold tbl at hr
    obtain ⟨l, _, rfl⟩ := List.mem_map.mp hr
    rw [List.length_map]; exact ls16
  have tl2 : (tbl s f).length ≤ 16 := by unfold tbl; rw [List.length_map]; exact ls16
  have tr2 : ∀ r ∈ tbl s f, r.length ≤ 16 := fun r hr => by
    unfold tbl at hr
    obtain ⟨l, _, rfl⟩ := List.mem_map.mp hr
    rw [List.length_map]; exact lf16
  have smT : Sm 6 (tblD (tbl f s)) := sm_tbl 3 _ (by omega) fun r hr => by have := tr r hr; omega
  have smT2 : Sm 6 (tblD (tbl s f)) := sm_tbl 3 _ (by omega) fun r hr => by have := tr2 r hr; omega
  have cyT : Cy 6 (tblD (tbl f s)) := cy_tbl 3 _ (by omega) fun r hr => by have := tr r hr; omega
  have hT : (as0.length ≤ 100 ∧ R.length ≤ 100) := by
    rw [eT] at tl tr
    have := tr _ List.mem_cons_self
    simp only [List.length_cons] at tl this
    omega
  have smR : Sm 6 (.lst (R.map rowD)) := sm_tbl 3 R (by omega) fun r hr => by
    have := tr r (by rw [eT]; exact List.mem_cons_of_mem _ hr)
    omega
  refine ⟨nmD f, nmD s, ptD cP f, ptD cP s, tblD (tbl s f), tblD (tbl f s), S2, S2, S2, a0, as0, R, ?_, i2.1⟩
  constructor
  · -- e1
    have e : mCall1 m_law_pair 1 (mCons (mC (.int 16)) mNil) ([.un, .st, .un, .un, .un, .un, .un, .un, .un, .un, .un, .un, .un] : List L) ⟨cells, 0, 0, 0, seed, 0, .law⟩ = .ok (.tup [nmD f, nmD s]) S2 := by
      show (match m_law_pair [.int 16] ⟨cells, 0, 0, 0, seed, 0, .law⟩ with
        | .ok r S2 => Out.ok r.toD S2
        | .exc x _ S2 => .exc x _ S2
        | .bad => .bad) = _
      rw [eP]; rfl
    unfold q1 mSets
    rw [e]
    rfl
  · unfold q2 mSet
    rw [make_ok nf p1 p16 (S := S2) rfl]
    rfl
  · unfold q3 mSet
    rw [make_ok nS p1 p16 (S := S2) rfl]
    rfl
  · refine ⟨sto0, wp_eq ?_⟩
    unfold q4
    refine w_count (w_vv rfl rfl ⟨f, s, rfl, by omega, by omega, by omega, ?_⟩)
    exact ⟨by rw [eT], rfl⟩
  · refine ⟨sto0, wp_eq ?_⟩
    unfold q5
    exact w_count (w_vv rfl rfl ⟨s, f, rfl, by omega, by omega, by omega, rfl, rfl⟩)
  · refine ⟨sto0, wp_eq ?_⟩
    unfold q6
    rw [w_or, ← eT]
    refine w_right (w_vvv rfl rfl rfl ⟨f, s, rfl, nf.cn, nS.cn, by omega, by omega, by omega, ?_⟩)
    rw [if_neg (by decide)]
    exact w_right (w_vvv rfl rfl rfl ⟨s, f, rfl, nS.cn, nf.cn, by omega, by omega, by omega, rfl, rfl⟩)
  · refine ⟨sto0, wp_eq ?_⟩
    unfold q7
    refine w_right ?_
    rw [w_cons]
    refine w_count (w_vv rfl rfl ⟨f, f, rfl, by omega, by omega, rfl, ?_⟩)
    exact w_vv rfl rfl ⟨f, f, rfl, nf.cn, nf.cn, by omega, by omega, rfl, rfl, rfl⟩
  · refine ⟨sto0, wp_eq ?_⟩
    unfold q8
    refine w_right ?_
    rw [w_cons]
    refine w_count ?_
    rw [w_cons]
    refine w_make (wp.of (a := [.lst (s.map inD)]) (S := sto0) rfl ⟨s, p, rfl, nS, p1, p16, ?_⟩)
    rw [w_cons, w_var]
    show varQ (some (.d (ptD cP s))) _ _
    rw [varQ_d, w_nil]
    refine ⟨s, s, rfl, by omega, by omega, rfl, ?_⟩
    exact w_vv rfl rfl ⟨s, s, rfl, nS.cn, nS.cn, by omega, by omega, rfl, rfl, rfl⟩
  · refine ⟨sto0, wp_eq ?_⟩
    unfold q9
    rw [← eT]
    refine w_callN ?_
    rw [w_cons, w_var]
    show varQ (some (.d (tblD (tbl f s)))) _ _
    rw [varQ_d, w_nil]
    refine wp.mono (cyT sto0) ?_
    rintro _ _ rfl
    exact ⟨_, rfl, rfl, rfl⟩
  · refine ⟨sto0, wp_eq ?_⟩
    unfold q13
    rw [w_or]
    refine w_nsame ?_
    rw [w_cons, w_m1, w_var]
    show varQ (some (.d (tblD ((99 :: as0 ++ [99]) :: R)))) _ _
    rw [varQ_d]
    refine wp.of (a := .lst (R.map rowD)) (S := sto0) rfl ?_
    rw [w_cons, w_m1, w_var]
    show varQ (some (.d (tblD (tbl f s)))) _ _
    rw [varQ_d]
    refine wp.of (a := .lst (R.map rowD)) (S := sto0) (by rw [eT]; rfl) ?_
    rw [w_nil]
    refine ⟨_, rfl, smR, ?_⟩
    rw [if_neg (by decide)]
    refine w_nsame ?_
    rw [w_cons]
    refine w_count (w_vv rfl rfl ⟨f, s, rfl, by omega, by omega, by omega, ?_⟩)
    rw [w_cons, w_var]
    show varQ (some (.d (tblD (tbl f s)))) _ _
    rw [varQ_d, w_nil]
    exact ⟨_, rfl, smT, rfl, rfl⟩
  · obtain ⟨c, S, e, rfl⟩ := (last_ok cP cU f s p S2 i2 nf nS p1 p16 pf smT smT2).get
    exact ⟨S, e⟩
  · exact hT
end K23

open PySem PySem.W PyProof.Rows
set_option Elab.async false
set_option maxRecDepth 100000
set_option maxHeartbeats 0 in
theorem PySem.Challenge.cw_crossmeans_k23_count_table_holds : PySem.Challenge.rw_crossmeans_k23_count_table.Holds := by
  w_on; o_law; k_head; (case hw => w_witness2)
  k_fill
  refine L2.walk_of (l := PySem.Challenge.rw_crossmeans_k23_count_table) (n := 63) (k := 9) (x := "script") (CX := fun w => L2N.CX PySem.Challenge.pw_crossmeans_k23_count_table w) (sp := fun w => K23.spLaw _) rfl (by decide) rfl ⟨rfl, by decide, by decide⟩ (fun w h Y => PySem.W.kIn_of Y) ?F (fun _ _ a ns hl _ hS => ⟨a, ns, rfl, hS, hl, fun _ => rfl⟩) (fun _ _ _ _ _ h => by obtain ⟨_, _, _, _, _, _, _, _, _, _, _, _, z⟩ := h; exact z.elim)
  case F =>
    intro w mg fa h KX G hmg
    refine' K23.all_mk KX G hmg K23.seed_ok K23.law_math ?a0 ?l0 ?c0 ?k0 ?a1 ?l1 ?c1 ?k1 ?a2 ?l2 ?c2 ?k2 ?a3 ?l3 ?c3 ?k3 ?a4 ?l4 ?c4 ?k4 ?a5 ?l5 ?c5 ?k5 ?a6 ?l6 ?c6 ?k6 ?a7 ?l7 ?c7 ?k7 ?a8 ?l8 ?c8 ?k8 ?a9 ?l9 ?c9 ?k9 ?a10 ?l10 ?c10 ?k10 ?a11 ?l11 ?c11 ?k11 ?a12 ?l12 ?c12 ?k12 ?a13 ?l13 ?c13 ?k13 ?a14 ?l14 ?c14 ?k14 ?a15 ?l15 ?c15 ?k15 ?a16 ?l16 ?c16 ?k16 ?a17 ?l17 ?c17 ?k17 ?a18 ?l18 ?c18 ?k18 ?a19 ?l19 ?c19 ?k19 ?a20 ?l20 ?c20 ?k20 ?a21 ?l21 ?c21 ?k21 ?a22 ?l22 ?c22 ?k22 ?a23 ?l23 ?c23 ?k23 ?aP ?aI ?iI ?lI ?cI ?kI ?pg ?hd ?po ?sa ?mk ?kc ?n_plots ?n_many ?n_names ?n_lots ?n_sizes ?aU ?xU ?vU ?saU ?gaU ?ggU ?eU ?tU ?hU ?kU ?sU ?nlU ?nrU ?clU ?spU ?tkU ?mrU ?iU ?tfU ?lU ?cU2 ?kU2 ?g_cLi ?g_cAn ?g_cTo ?g_cIn ?g_cCr ?y_cLi ?y_cAn ?y_cTo ?y_cIn ?y_cCr ?y_Va ?aM ?z_abs ?z_bool ?z_enumerate ?z_int ?z_isinstance ?z_len ?z_list ?z_max ?z_min ?z_range ?z_set ?z_sorted ?z_str ?z_sum ?z_tuple ?z_VE
    (case a0 => k_is)
    (case l0 => k_is)
    (case c0 => k_is)
    (case k0 => k_is)
    (case a1 => k_is)
    (case l1 => k_is)
    (case c1 => k_is)
    (case k1 => k_is)
    (case a2 => k_is)
    (case l2 => k_is)
    (case c2 => k_is)
    (case k2 => k_is)
    (case a3 => k_is)
    (case l3 => k_is)
    (case c3 => k_is)
    (case k3 => k_is)
    (case a4 => k_is)
    (case l4 => k_is)
    (case c4 => k_is)
    (case k4 => k_is)
    (case a5 => k_is)
    (case l5 => k_is)
    (case c5 => k_is)
    (case k5 => k_is)
    (case a6 => k_is)
    (case l6 => k_is)
    (case c6 => k_is)
    (case k6 => k_is)
    (case a7 => k_is)
    (case l7 => k_is)
    (case c7 => k_is)
    (case k7 => k_is)
    (case a8 => k_is)
    (case l8 => k_is)
    (case c8 => k_is)
    (case k8 => k_is)
    (case a9 => k_is)
    (case l9 => k_is)
    (case c9 => k_is)
    (case k9 => k_is)
    (case a10 => k_is)
    (case l10 => k_is)
    (case c10 => k_is)
    (case k10 => k_is)
    (case a11 => k_is)
    (case l11 => k_is)
    (case c11 => k_is)
    (case k11 => k_is)
    (case a12 => k_is)
    (case l12 => k_is)
    (case c12 => k_is)
    (case k12 => k_is)
    (case a13 => k_is)
    (case l13 => k_is)
    (case c13 => k_is)
    (case k13 => k_is)
    (case a14 => k_is)
    (case l14 => k_is)
    (case c14 => k_is)
    (case k14 => k_is)
    (case a15 => k_is)
    (case l15 => k_is)
    (case c15 => k_is)
    (case k15 => k_is)
    (case a16 => k_is)
    (case l16 => k_is)
    (case c16 => k_is)
    (case k16 => k_is)
    (case a17 => k_is)
    (case l17 => k_is)
    (case c17 => k_is)
    (case k17 => k_is)
    (case a18 => k_is)
    (case l18 => k_is)
    (case c18 => k_is)
    (case k18 => k_is)
    (case a19 => k_is)
    (case l19 => k_is)
    (case c19 => k_is)
    (case k19 => k_is)
    (case a20 => k_is)
    (case l20 => k_is)
    (case c20 => k_is)
    (case k20 => k_is)
    (case a21 => k_is)
    (case l21 => k_is)
    (case c21 => k_is)
    (case k21 => k_is)
    (case a22 => k_is)
    (case l22 => k_is)
    (case c22 => k_is)
    (case k22 => k_is)
    (case a23 => k_is)
    (case l23 => k_is)
    (case c23 => k_is)
    (case k23 => k_is)
    (case aP => k_is)
    (case aI => k_is)
    (case iI => k_is)
    (case lI => k_is)
    (case cI => k_is)
    (case kI => k_is)
    (case pg => k_is)
    (case hd => k_is)
    (case po => k_is)
    (case sa => k_is)
    (case mk => k_is)
    (case kc => k_is)
    (case n_plots => k_is)
    (case n_many => k_is)
    (case n_names => k_is)
    (case n_lots => k_is)
    (case n_sizes => k_is)
    (case aU => k_is)
    (case xU => k_is)
    (case vU => first | rfl | decide +kernel | k_is)
    (case saU => k_is)
    (case gaU => k_is)
    (case ggU => k_is)
    (case eU => k_is)
    (case tU => k_is)
    (case hU => k_is)
    (case kU => k_is)
    (case sU => first | rfl | k_is)
    (case nlU => k_is)
    (case nrU => k_is)
    (case clU => k_is)
    (case spU => k_is)
    (case tkU => k_is)
    (case mrU => k_is)
    (case iU => k_is)
    (case tfU => k_is)
    (case lU => k_is)
    (case cU2 => k_is)
    (case kU2 => k_is)
    (case g_cLi => k_is)
    (case g_cAn => k_is)
    (case g_cTo => k_is)
    (case g_cIn => k_is)
    (case g_cCr => k_is)
    (case y_cLi => first | k_is | kit_is)
    (case y_cAn => first | k_is | kit_is)
    (case y_cTo => first | k_is | kit_is)
    (case y_cIn => first | k_is | kit_is)
    (case y_cCr => first | k_is | kit_is)
    (case y_Va => first | k_is | kit_is)
    (case aM => k_is)
    (case z_abs => k_is)
    (case z_bool => k_is)
    (case z_enumerate => k_is)
    (case z_int => k_is)
    (case z_isinstance => k_is)
    (case z_len => k_is)
    (case z_list => k_is)
    (case z_max => k_is)
    (case z_min => k_is)
    (case z_range => k_is)
    (case z_set => k_is)
    (case z_sorted => k_is)
    (case z_str => k_is)
    (case z_sum => k_is)
    (case z_tuple => k_is)
    (case z_VE => k_is)
