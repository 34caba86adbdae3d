import PyProof.Rows.All
import HandS.ForMost
import HandS.ForExc
import HandS.Wide
import HandS.IsInst
import HandS.CallSlots
import HandS.Conv
import HandS.TupAny
import HandS.SetFor
import HandS.Walk
import HandS.ExcCtx
import HandS.Style
import HandS.Defaults
import HandS.Strs
import HandS.ExcInit
import HandS.Iter
import HandS.HotCalls
import HandS.ExcField
import HandS.ExcIs
import KE.KExcIs
import HandS.SortInts
import KE.GoesEnum
import HandS.Deep
import HandS.Small
import PySem.Challenge.RW_crossmeans_k17_rows_of_a_meeting
import HandS.Ends
import Wide.All
import OpenK.AllK
import Wide.FinOn
set_option Elab.async false
set_option linter.all false
set_option maxRecDepth 100000
set_option maxHeartbeats 4000000
/-! DL0: tuples whose object is known to have no dict: what makes them, and count. -/
namespace DL
set_option autoImplicit false
open PySem PySem.Spec L2 PyProof.Rows

section
variable {X : Cx} {pins : List (Addr × Obj)} {σ : L2.St} {H : Hp} {s : Shared} {h' : Heap}
/-- laying such a tuple -/
theorem laidF {a : Addr} {xs : List V} {its : List Value} {o : Obj} {t' : Nat} (I : Inv X pins σ H s) (k : ∀ b u, s.heap.get? b = some u → h'.get? b = some u) (hp : s.heap.objs.size ≤ a) (hz : xs.length ≤ sizeLine) (r : Vals xs its)
    (e : h'.get? a = some o) (hc : o.cls = .type "tuple") (hd : ∃ n, o.data = .seq its.toArray n) : Inv X pins σ (upd H a (.frz o (.tup xs))) { s with heap := h', toks := t' } :=
  I.laid (t' := t') k hp ⟨e, hz, its, r, ⟨o, e, hc, hd⟩⟩
def tTupF (t : TA) : TE := fun σ H Q => t σ H fun xs H1 => xs.length ≤ sizeLine ∧ ∀ (p : Addr) (o : Obj), o.dict = none → H1 p = none → Q (.ref p) (upd H1 p (.frz o (.tup xs)))
theorem pe_tupF {es : List Expr} {t : TA} {pos : Pos} {x1} (h : PA X es t) : PE X (.Tuple es x1 pos) (tTupF t) := by
  refine ⟨fun pins s σ H Q I hq => ?_⟩
  refine wpAny_Tuple_spliced (thn (h.run pos pins s σ H _ I hq) fun us s1 ⟨xs, H1, I1, r, z, q⟩ => ⟨by rw [← r.length]; exact z, ?_⟩)
  have hf : H1 s1.heap.objs.size = none := I1.hok.fresh (Nat.le_refl _)
  exact ⟨.ref s1.heap.objs.size, _, laidF (t' := s1.toks) I1 (fun b u e => Heap.get?_push_of_some _ e) (Nat.le_refl _) z r (Heap.get?_push_size _ rfl) rfl ⟨_, rfl⟩, rfl, q _ _ rfl hf⟩
def rTupF (K : PySem.W.Frag) : List V → Hp → VK → Prop := fun xs H Q => ∃ p ys, xs = [.ref p] ∧ ((SqL K H p ys ∧ ∀ (l : Addr) (o : Obj), o.dict = none → H l = none → Q (.ref l) (upd H l (.frz o (.tup ys)))) ∨ (SqT K H p ys ∧ Q (.ref p) H))
theorem call_tupF : CallR X (.type "tuple") (rTupF X.K) := by
  intro pins s σ H xs us Q I r h
  obtain ⟨p, ys, rfl, h⟩ := h
  obtain ⟨u, rfl, rx⟩ := vals1 r
  cases rx
  rcases h with ⟨hq, q⟩ | ⟨hq, q⟩
  · obtain ⟨its, r', pl, hz⟩ := I.list hq
    have hlen := r'.length
    refine call_tuple_list pl.isList (fun h' kp => ?_) (by simp only [List.size_toArray] <;> omega)
    have I1 : Inv X pins σ H { s with heap := h' } := I.kept (t' := s.toks) kp
    exact ⟨.ref h'.objs.size, _, laidF (s := { s with heap := h' }) (a := h'.objs.size) (o := { cls := .type "tuple", data := .seq its.toArray }) (t' := s.toks) I1 (fun b o e => Heap.get?_push_of_some _ e) (Nat.le_refl _) hz r' (Heap.get?_push_size _ rfl) rfl ⟨_, rfl⟩, rfl, q _ _ rfl (I1.hok.fresh (Nat.le_refl _))⟩
  · obtain ⟨its, r', pl, hz⟩ := I.tuple hq
    exact call_tuple_same pl ⟨.ref p, H, I, rfl, q⟩
variable {e : Expr} {te : L2.St → Hp → (Int → Int → Hp → Prop) → Prop}
def tTupRgF (te : L2.St → Hp → (Int → Int → Hp → Prop) → Prop) : TE := fun σ H Q => te σ H fun a b H1 => RgOk a b ∧ ∀ (q : Addr) (o : Obj), o.dict = none → H1 q = none → Q (.ref q) (upd H1 q (.frz o (.tup (rgV a b))))
theorem pe_tupRgF {p pos : Pos} (hc : X.calm = true) (hg : Gl X "tuple") (hm : X.mg "tuple" = none) (he : PRg X e te) (na : starEach [e] X.env = (false, eval e X.env) :: starEach [] X.env := by rfl) : PE X (.Call (.Name "tuple" p) [e] [] pos) (tTupRgF te) := by
  refine ⟨fun pins s σ H Q I h => ?_⟩
  refine Call_ (ld_blt I hg hm boot_tuple (PyProof.Rows.callWith_type1 (args_cons (thn (he pins s σ H _ I h) fun x s1 ⟨r, a, b, t, u, v, H1, ex, hr, I1, ok, q⟩ => args_nil ?_) na) na))
  subst ex
  obtain ⟨b1, b2, b3, b4, b5⟩ := ok
  refine call_tuple_range (n := (b - a).toNat) (I1.ok.hd hc) hr (small_one b1 b2 b3 b4) (rangeSize_nat a b) b5 fun h' tk acc hk hi => ?_
  have I2 : Inv X pins σ H1 { s1 with heap := h', toks := tk } := I1.kept hk
  exact ⟨.ref h'.objs.size, _, laidF (s := { s1 with heap := h', toks := tk }) (a := h'.objs.size) (o := { cls := .type "tuple", data := .seq acc }) (t' := tk) (its := acc.toList) I2 (fun c o e => Heap.get?_push_of_some _ e) (Nat.le_refl _) (by rw [rgV_length, sizeLine_eq]; omega) (vals_rg hi) (Heap.get?_push_size _ rfl) rfl ⟨0, by rw [Array.toArray_toList]⟩, rfl, q _ _ rfl (I2.hok.fresh (Nat.le_refl _))⟩
/-- t + u -/
def rCatF (K : PySem.W.Frag) : R2 := fun x y H Q => ∃ a b xs ys, x = .ref a ∧ y = .ref b ∧ SqT K H a xs ∧ SqT K H b ys ∧ xs.length + ys.length ≤ sizeLine ∧
  (xs = [] → Q (.ref b) H) ∧ (xs ≠ [] → ys = [] → Q (.ref a) H) ∧ (xs ≠ [] → ys ≠ [] → ∀ (p : Addr) (o : Obj), o.dict = none → H p = none → Q (.ref p) (upd H p (.frz o (.tup (xs ++ ys)))))
theorem op_catF : OpR X (binaryOp .Add) (rCatF X.K) := by
  intro pins s σ H x y v u Q I rx ry h
  obtain ⟨a, b, xs, ys, rfl, rfl, ha, hb, hz, q0, q1, q2⟩ := h
  by_cases hx : xs = []
  · exact op_catA pins s σ H _ _ v u Q I rx ry ⟨a, b, xs, ys, rfl, rfl, ha, hb, hz, q0, fun z => absurd hx z, fun z => absurd hx z⟩
  · cases rx
    cases ry
    obtain ⟨its, r1, p1, _⟩ := I.tuple ha
    obtain ⟨its2, r2, p2, _⟩ := I.tuple hb
    refine HT.cat_tup p1 p2 (fun z => hx (r1.nil_iff.mp z)) (fun z => ⟨.ref a, H, I, rfl, q1 hx (r2.nil_iff.mp z)⟩) (fun z => ?_) (by rw [← r1.length, ← r2.length]; exact hz)
    exact ⟨.ref s.heap.objs.size, _, laidF (t' := s.toks) I (fun b ob q => Heap.get?_push_of_some _ q) (Nat.le_refl _) (by rw [List.length_append]; exact hz) (r1.append r2) (Heap.get?_push_size _ rfl) rfl ⟨_, rfl⟩, rfl, q2 hx (fun w => z (r2.nil_iff.mpr w)) _ _ rfl (I.hok.fresh (Nat.le_refl _))⟩
/-- t[lo:hi] -/
def rSlF (K : PySem.W.Frag) : V → Option Int → Option Int → Hp → VK → Prop := fun x lo hi H Q => ∃ a xs, x = .ref a ∧ SqT K H a xs ∧
  (HT.sIx xs.length 0 lo = 0 ∧ HT.sIx xs.length xs.length hi = xs.length → Q (.ref a) H) ∧ (¬ (HT.sIx xs.length 0 lo = 0 ∧ HT.sIx xs.length xs.length hi = xs.length) → ∀ (p : Addr) (o : Obj), o.dict = none → H p = none → Q (.ref p) (upd H p (.frz o (.tup (cutV xs lo hi)))))
theorem sl_tupF : SlR X (rSlF X.K) := by
  intro pins s σ H x v vl vu lo hi sl Q I rx hs pl pu h
  obtain ⟨a, xs, rfl, hx, q1, q2⟩ := h
  by_cases hw : HT.sIx xs.length 0 lo = 0 ∧ HT.sIx xs.length xs.length hi = xs.length
  · exact sl_tupA pins s σ H _ v vl vu lo hi sl Q I rx hs pl pu ⟨a, xs, rfl, hx, q1, fun z => absurd hw z⟩
  · cases rx
    obtain ⟨its, r, ht, hz⟩ := I.tuple hx
    have hlen : its.toArray.size = xs.length := by rw [List.size_toArray]; exact r.length.symm
    refine ⟨"tuple", _, PyProof.Rows.slot_tuple_getitem.lookup, ht.typeIs, ?_⟩
    refine HT.getItem_tuple_cut ht hs pl pu (by rw [hlen]; exact hw) ?_ (by rw [hlen]; exact hz)
    rw [hlen]
    exact ⟨.ref s.heap.objs.size, _, laidF (t' := s.toks) I (fun b ob q => Heap.get?_push_of_some _ q) (Nat.le_refl _) (Nat.le_trans (cutV_length xs lo hi) hz) ((r.drop (HT.sIx xs.length 0 lo)).take (HT.sIx xs.length xs.length hi - HT.sIx xs.length 0 lo)) (Heap.get?_push_size _ rfl) rfl ⟨_, rfl⟩, rfl, q2 hw _ _ rfl (I.hok.fresh (Nat.le_refl _))⟩
/-- t.count(i), whole numbers -/
def rCntF : V → List V → Hp → VK → Prop := fun x xs H Q => ∃ (p : Addr) (o : Obj) (ns : List Int) (k : Int), x = .ref p ∧ xs = [.int k] ∧ o.dict = none ∧ H p = some (.frz o (.tup (ns.map V.int))) ∧ Q (.int (ns.count k : Nat)) H
theorem mt_tcount : MtR X "tuple.count" rCntF := by
  intro pins s σ H x xs v us Q I rx rxs h
  obtain ⟨p, o, ns, k, rfl, rfl, hdn, hs, q⟩ := h
  cases rx
  obtain ⟨u, rfl, ru⟩ := rxs.one
  obtain ⟨t, rfl⟩ := ru
  obtain ⟨ho, _, its, rv, o2, ho2, hc, n, hd⟩ := (show ObjOk X.prog X.w H s.heap p (.frz o (.tup (ns.map V.int))) from I.hok p _ hs)
  rw [ho] at ho2
  cases ho2
  obtain ⟨cls, dd, data, sl⟩ := o
  simp only at hc hd
  subst hc hd
  have hi := ints_of_vals rv
  refine call_meets PySem.F.slot_tuple_count ⟨_, ho, rfl⟩ PySem.F.entry_tuple_count (PySem.F.args_tuple_count_2 _ _)
    (SeqAt.tuple_countAt p its.toArray n dd sl (.int k t) (eqk k)) ⟨ho, fun y hy => (eqk_gives hi y (by simpa using hy)).at _ _, ?_⟩
  have ec : its.toArray.toList.countP (eqk k) = ns.count k := eqk_count hi
  refine ⟨.int (ns.count k : Nat), H, I.tok _, ⟨s.toks, ?_⟩, q⟩
  show Value.int ((its.toArray.toList.countP (eqk k) : Nat) : Int) s.toks = Value.int ((ns.count k : Nat) : Int) s.toks
  rw [ec]
def tCnt (to : TE) (t : TA) : TE := fun σ H Q => to σ H fun x H1 => (∃ (p : Addr) (o : Obj) (ys : List V), x = .ref p ∧ o.dict = none ∧ H1 p = some (.frz o (.tup ys))) ∧ t σ H1 fun xs H2 => rCntF x xs H2 Q
end
end DL

set_option Elab.async false
set_option linter.all false
set_option maxRecDepth 100000
set_option maxHeartbeats 4000000
/-! DL: readings of the hand layer held against plain Lean functions over data. -/
namespace DL
set_option autoImplicit false
open PySem PySem.Spec L2

/-- a value as data -/
inductive D where
  | non | bl (b : Bool) | int (i : Int) | str (x : Str) | tup (xs : List D) | lst (xs : List D) | obj (C : Addr) (ns : List Str) (ds : List D) | pr (xs : List D)
/-- a tuple that stands, its object without a dict -/
def TupAt (F : Hp) (a : Addr) (xs : List V) : Prop := ∃ o : Obj, o.dict = none ∧ F a = some (.frz o (.tup xs))

mutual
def Rep (F : Hp) : D → V → Prop
  | .non, v => v = .non
  | .bl b, v => v = .bl b
  | .int i, v => v = .int i
  | .str x, v => v = .str x
  | .tup ds, v => ∃ a xs, v = .ref a ∧ TupAt F a xs ∧ Reps F ds xs
  | .pr ds, v => ∃ a xs, v = .ref a ∧ F a = some (.tup xs) ∧ Reps F ds xs
  | .lst ds, v => ∃ a xs, v = .ref a ∧ F a = some (.lst xs) ∧ Reps F ds xs
  | .obj C ns ds, v => ∃ a dx xs, v = .ref a ∧ F a = some (.ins C dx (ns.zip xs)) ∧ ns.length = xs.length ∧ Reps F ds xs
def Reps (F : Hp) : List D → List V → Prop
  | [], xs => xs = []
  | d :: ds, xs => ∃ x r, xs = x :: r ∧ Rep F d x ∧ Reps F ds r
end

/-- what is frozen stands -/
def Sub (F H : Hp) : Prop := ∀ a o, F a = some o → H a = some o
theorem Sub.refl (F : Hp) : Sub F F := fun _ _ h => h
theorem Sub.trans {F G H : Hp} (a : Sub F G) (b : Sub G H) : Sub F H := fun x o h => b x o (a x o h)
theorem Sub.none {F H : Hp} (s : Sub F H) {a : Addr} (h : H a = none) : F a = none := by
  cases q : F a with
  | none => rfl
  | some o => rw [s a o q] at h; cases h

theorem TupAt.mono {F G : Hp} {a : Addr} {xs : List V} (f : TupAt F a xs) (s : Sub F G) : TupAt G a xs := let ⟨o, h, e⟩ := f; ⟨o, h, s _ _ e⟩
theorem TupAt.sq {K : PySem.W.Frag} {F H : Hp} {a : Addr} {xs : List V} (f : TupAt F a xs) (s : Sub F H) : SqT K H a xs := let ⟨o, _, e⟩ := f; .inl (.inr ⟨o, s _ _ e⟩)
theorem TupAt.upd {F : Hp} {p : Addr} {o : Obj} {xs : List V} (h : o.dict = none) : TupAt (upd F p (.frz o (.tup xs))) p xs := ⟨o, h, upd_same⟩
mutual
theorem Rep.mono {F G : Hp} (s : Sub F G) : ∀ (d : D) (v : V), Rep F d v → Rep G d v
  | .non, v, h => by simpa [Rep] using h
  | .bl b, v, h => by simpa [Rep] using h
  | .int i, v, h => by simpa [Rep] using h
  | .str x, v, h => by simpa [Rep] using h
  | .tup ds, v, h => by
    simp only [Rep] at h ⊢
    obtain ⟨a, xs, e, f, r⟩ := h
    exact ⟨a, xs, e, f.mono s, Reps.mono s ds xs r⟩
  | .pr ds, v, h => by
    simp only [Rep] at h ⊢
    obtain ⟨a, xs, e, f, r⟩ := h
    exact ⟨a, xs, e, s _ _ f, Reps.mono s ds xs r⟩
  | .lst ds, v, h => by
    simp only [Rep] at h ⊢
    obtain ⟨a, xs, e, f, r⟩ := h
    exact ⟨a, xs, e, s _ _ f, Reps.mono s ds xs r⟩
  | .obj C ns ds, v, h => by
    simp only [Rep] at h ⊢
    obtain ⟨a, dx, xs, e, f, l, r⟩ := h
    exact ⟨a, dx, xs, e, s _ _ f, l, Reps.mono s ds xs r⟩
theorem Reps.mono {F G : Hp} (s : Sub F G) : ∀ (ds : List D) (xs : List V), Reps F ds xs → Reps G ds xs
  | [], xs, h => by simpa [Reps] using h
  | d :: ds, xs, h => by
    simp only [Reps] at h ⊢
    obtain ⟨x, r, e, h1, h2⟩ := h
    exact ⟨x, r, e, Rep.mono s d x h1, Reps.mono s ds r h2⟩
end

theorem reps_nil {F : Hp} {xs : List V} : Reps F [] xs ↔ xs = [] := by simp [Reps]
theorem reps_cons {F : Hp} {d : D} {ds : List D} {xs : List V} : Reps F (d :: ds) xs ↔ ∃ x r, xs = x :: r ∧ Rep F d x ∧ Reps F ds r := by simp [Reps]
theorem Reps.length {F : Hp} : ∀ {ds : List D} {xs : List V}, Reps F ds xs → xs.length = ds.length
  | [], xs, h => by rw [reps_nil.mp h]; rfl
  | d :: ds, xs, h => by
    obtain ⟨x, r, e, _, h2⟩ := reps_cons.mp h
    rw [e, List.length_cons, List.length_cons, Reps.length h2]
theorem Reps.get {F : Hp} : ∀ {ds : List D} {xs : List V} {i : Nat} {d : D}, Reps F ds xs → ds[i]? = some d → ∃ x, xs[i]? = some x ∧ Rep F d x
  | [], _, _, _, _, h => by simp at h
  | d :: ds, xs, 0, d', h, e => by
    obtain ⟨x, r, ex, h1, h2⟩ := reps_cons.mp h
    simp at e; subst e; exact ⟨x, by rw [ex]; rfl, h1⟩
  | d :: ds, xs, i + 1, d', h, e => by
    obtain ⟨x, r, ex, h1, h2⟩ := reps_cons.mp h
    obtain ⟨y, hy, ry⟩ := Reps.get (i := i) (d := d') h2 (by simpa using e)
    exact ⟨y, by rw [ex]; simpa using hy, ry⟩
theorem Reps.get' {F : Hp} {ds : List D} {xs : List V} {i : Nat} {x : V} (h : Reps F ds xs) (e : xs[i]? = some x) : ∃ d, ds[i]? = some d ∧ Rep F d x := by
  have hl := h.length
  have hi : i < xs.length := (List.getElem?_eq_some_iff.mp e).1
  have hd : ds[i]? = some ds[i] := List.getElem?_eq_getElem (by omega)
  obtain ⟨y, hy, ry⟩ := h.get hd
  rw [e] at hy
  cases hy
  exact ⟨_, hd, ry⟩
theorem Reps.append {F : Hp} : ∀ {ds es : List D} {xs ys : List V}, Reps F ds xs → Reps F es ys → Reps F (ds ++ es) (xs ++ ys)
  | [], es, xs, ys, h, k => by rw [reps_nil.mp h]; exact k
  | d :: ds, es, xs, ys, h, k => by
    obtain ⟨x, r, e, h1, h2⟩ := reps_cons.mp h
    rw [e]
    exact reps_cons.mpr ⟨x, r ++ ys, rfl, h1, Reps.append h2 k⟩
theorem Reps.one {F : Hp} {d : D} {x : V} (h : Rep F d x) : Reps F [d] [x] := reps_cons.mpr ⟨x, [], rfl, h, reps_nil.mpr rfl⟩
theorem Reps.of_get {F : Hp} : ∀ {ds : List D} {xs : List V}, xs.length = ds.length → (∀ (i : Nat) (d : D) (x : V), ds[i]? = some d → xs[i]? = some x → Rep F d x) → Reps F ds xs
  | [], xs, hl, _ => reps_nil.mpr (List.eq_nil_of_length_eq_zero hl)
  | d :: ds, [], hl, _ => by simp at hl
  | d :: ds, x :: xs, hl, h => reps_cons.mpr ⟨x, xs, rfl, h 0 d x rfl rfl, Reps.of_get (by simpa using hl) fun i d' x' a b => h (i + 1) d' x' (by simpa using a) (by simpa using b)⟩
theorem Reps.set {F : Hp} {ds : List D} {xs : List V} {d : D} {x : V} (h : Reps F ds xs) (r : Rep F d x) (i : Nat) : Reps F (ds.set i d) (xs.set i x) := by
  refine Reps.of_get (by rw [List.length_set, List.length_set]; exact h.length) fun j d' x' a b => ?_
  rw [List.getElem?_set] at a b
  by_cases e : i = j
  · subst e
    have hl := h.length
    rw [if_pos rfl] at a b
    by_cases hi : i < ds.length
    · rw [if_pos hi] at a
      rw [if_pos (by omega)] at b
      cases a; cases b; exact r
    · rw [if_neg hi] at a; cases a
  · rw [if_neg e] at a b
    obtain ⟨y, hy, ry⟩ := h.get a
    rw [b] at hy; cases hy; exact ry
theorem Reps.take {F : Hp} {ds : List D} {xs : List V} (h : Reps F ds xs) (n : Nat) : Reps F (ds.take n) (xs.take n) := by
  refine Reps.of_get (by rw [List.length_take, List.length_take, h.length]) fun j d x a b => ?_
  rw [List.getElem?_take] at a b
  by_cases e : j < n
  · rw [if_pos e] at a b
    obtain ⟨y, hy, ry⟩ := h.get a
    rw [b] at hy; cases hy; exact ry
  · rw [if_neg e] at a; cases a
theorem Reps.drop {F : Hp} {ds : List D} {xs : List V} (h : Reps F ds xs) (n : Nat) : Reps F (ds.drop n) (xs.drop n) := by
  refine Reps.of_get (by rw [List.length_drop, List.length_drop, h.length]) fun j d x a b => ?_
  rw [List.getElem?_drop] at a b
  obtain ⟨y, hy, ry⟩ := h.get a
  rw [b] at hy; cases hy; exact ry
theorem Reps.ints {F : Hp} : ∀ {ns : List Int} {xs : List V}, Reps F (ns.map D.int) xs ↔ xs = ns.map V.int
  | [], xs => by simp [Reps]
  | n :: ns, xs => by
    rw [List.map_cons, reps_cons]
    constructor
    · rintro ⟨x, r, e, h1, h2⟩
      simp only [Rep] at h1
      rw [e, h1, Reps.ints.mp h2]; rfl
    · intro e
      exact ⟨_, _, e, by simp [Rep], Reps.ints.mpr rfl⟩

/-! ### the store of a law -/
/-- an object that is being made -/
structure Ob where
  C : Addr
  ns : List Str
  ds : List D
/-- what the one object is that a def may change: a law's store, the object that an __init__ makes, a dict of numbers -/
inductive Mode where
  | law | ob (o : Ob) | dc (kvs : List (Key × Int))
structure Sto where
  cells : List Int
  i : Int
  two : Int
  three : Int
  seed : Int
  cnt : Int
  mode : Mode := .law
def StoIn (F : Hp) (s : Sto) (o : HO) : Prop := match s.mode with
  | .law => ∃ ca, o = .lst [.ref ca, .int s.i, .int s.two, .int s.three, .int s.seed, .int s.cnt] ∧ F ca = some (.lst (s.cells.map V.int))
  | .dc kvs => o = .dK (kvs.map fun p => (p.1, V.int p.2))
  | .ob b => ∃ dx vs, o = .ins b.C dx (b.ns.zip vs) ∧ b.ns.length = vs.length ∧ Reps F b.ds vs
def StoAt (F H : Hp) (st : Addr) (s : Sto) : Prop := F st = none ∧ ∃ o, H st = some o ∧ StoIn F s o
theorem StoIn.mono {F G : Hp} {s : Sto} {o : HO} (h : StoIn F s o) (u : Sub F G) : StoIn G s o := by
  unfold StoIn at h ⊢
  cases e : s.mode with
  | law =>
    rw [e] at h
    obtain ⟨ca, h1, h2⟩ := h
    exact ⟨ca, h1, u _ _ h2⟩
  | ob b =>
    rw [e] at h
    obtain ⟨dx, vs, h1, h2, h3⟩ := h
    exact ⟨dx, vs, h1, h2, Reps.mono u _ _ h3⟩
  | dc kvs =>
    rw [e] at h
    exact h

/-- what a name of a def holds: not known; data; a list of the def's own; the store -/
inductive L where
  | un | d (x : D) | own (xs : List D) | st
def LocAt (F H H0 : Hp) (st : Addr) (hb : Bool) (v : Option (Option V)) : L → Prop
  | .un => True
  | .d x => ∃ u, v = some (some u) ∧ Rep F x u
  | .own xs => ∃ p vs, v = some (some (.ref p)) ∧ H p = some (.lst vs) ∧ F p = none ∧ H0 p = none ∧ Reps F xs vs
  | .st => hb = true ∧ v = some (some (.ref st))

/-- from (F, H) to (F', H'): what was tracked stands, but the store; what is newly frozen is new -/
structure Ext (st : Addr) (hb : Bool) (F H F' H' : Hp) : Prop where
  ff : Sub F F'
  keep : ∀ a o, H a = some o → (hb = true → a ≠ st) → H' a = some o
  new : ∀ a, F a = none → H a ≠ none → F' a = none
theorem Ext.refl {st : Addr} {hb : Bool} {F H : Hp} : Ext st hb F H F H := ⟨Sub.refl _, fun _ _ h _ => h, fun _ h _ => h⟩
theorem Ext.trans {st : Addr} {hb : Bool} {F H F' H' F'' H'' : Hp} (a : Ext st hb F H F' H') (b : Ext st hb F' H' F'' H'') (hst : hb = true → H' st ≠ none) : Ext st hb F H F'' H'' :=
  ⟨a.ff.trans b.ff, fun x o h n => b.keep x o (a.keep x o h n) n, fun x h n => by
    refine b.new x (a.new x h n) ?_
    cases q : H x with
    | none => exact absurd q n
    | some o =>
      by_cases e : hb = true ∧ x = st
      · rw [e.2]; exact hst e.1
      · rw [a.keep x o q fun hb' es => e ⟨hb', es⟩]; exact nofun⟩

/-- the state of a def's body -/
structure Bd (F0 H0 : Hp) (st : Addr) (hb : Bool) (F H : Hp) (S : Sto) (ρ : List L) (σ : L2.St) : Prop where
  sub : Sub F H
  ext : Ext st hb F0 H0 F H
  sto : hb = true → StoAt F H st S
  st0 : hb = true → H0 st ≠ none
  loc : ∀ (i : Nat) (l : L), ρ[i]? = some l → LocAt F H H0 st hb σ[i]? l
  dis : ∀ (i j : Nat) (p : Addr) (xs ys : List D), i ≠ j → ρ[i]? = some (.own xs) → ρ[j]? = some (.own ys) → σ[i]? = some (some (.ref p)) → σ[j]? = some (some (.ref p)) → False
  len : σ.length = ρ.length

section
variable {F0 H0 F H F' H' : Hp} {st : Addr} {hb : Bool} {S S' : Sto} {ρ : List L} {σ : L2.St}
theorem Bd.stH (b : Bd F0 H0 st hb F H S ρ σ) : hb = true → H st ≠ none := fun h => by
  obtain ⟨_, ca, e, _⟩ := b.sto h
  rw [e]; exact nofun
/-- an expression has run -/
theorem Bd.go (b : Bd F0 H0 st hb F H S ρ σ) (e : Ext st hb F H F' H') (s : Sub F' H') (sto : hb = true → StoAt F' H' st S') : Bd F0 H0 st hb F' H' S' ρ σ where
  sub := s
  ext := b.ext.trans e b.stH
  sto := sto
  st0 := b.st0
  loc := fun i l h => by
    have q := b.loc i l h
    cases l with
    | un => trivial
    | d x => obtain ⟨u, e1, r⟩ := q; exact ⟨u, e1, Rep.mono e.ff x u r⟩
    | own xs =>
      obtain ⟨p, vs, e1, e2, e3, e4, r⟩ := q
      refine ⟨p, vs, e1, e.keep p _ e2 fun h1 h2 => ?_, e.new p e3 (by rw [e2]; exact nofun), e4, Reps.mono e.ff xs vs r⟩
      rw [h2] at e4
      exact b.st0 h1 e4
    | st => exact q
  dis := b.dis
  len := b.len
/-- forget the names -/
theorem Bd.bare (b : Bd F0 H0 st hb F H S ρ σ) : Bd F0 H0 st hb F H S [] [] := ⟨b.sub, b.ext, b.sto, b.st0, fun i l h => by simp at h, fun i j p xs ys _ h => by simp at h, rfl⟩
/-- a name is set to data -/
theorem Bd.set (b : Bd F0 H0 st hb F H S ρ σ) {i : Nat} {d : D} {v : V} (r : Rep F d v) : Bd F0 H0 st hb F H S (ρ.set i (.d d)) (σ.set i (some v)) where
  sub := b.sub
  ext := b.ext
  sto := b.sto
  st0 := b.st0
  loc := fun j l h => by
    rw [List.getElem?_set] at h
    by_cases e : i = j
    · subst e
      rw [if_pos rfl] at h
      by_cases hi : i < ρ.length
      · rw [if_pos hi] at h; cases h
        exact ⟨v, by rw [List.getElem?_set, if_pos rfl, if_pos (by rw [b.len]; exact hi)], r⟩
      · rw [if_neg hi] at h; cases h
    · rw [if_neg e] at h
      have q := b.loc j l h
      rw [show (σ.set i (some v))[j]? = σ[j]? by rw [List.getElem?_set, if_neg e]]
      exact q
  dis := fun j k p xs ys n h1 h2 h3 h4 => by
    rw [List.getElem?_set] at h1 h2
    by_cases e : i = j
    · rw [if_pos e] at h1; split at h1 <;> cases h1
    · by_cases e' : i = k
      · rw [if_pos e'] at h2; split at h2 <;> cases h2
      · rw [if_neg e] at h1; rw [if_neg e'] at h2
        rw [List.getElem?_set, if_neg e] at h3
        rw [List.getElem?_set, if_neg e'] at h4
        exact b.dis j k p xs ys n h1 h2 h3 h4
  len := by rw [List.length_set, List.length_set, b.len]
/-- a name is forgotten -/
theorem Bd.wipe (b : Bd F0 H0 st hb F H S ρ σ) {i : Nat} {v : Option V} : Bd F0 H0 st hb F H S (ρ.set i .un) (σ.set i v) where
  sub := b.sub
  ext := b.ext
  sto := b.sto
  st0 := b.st0
  loc := fun j l h => by
    rw [List.getElem?_set] at h
    by_cases e : i = j
    · rw [if_pos e] at h
      split at h
      · cases h; trivial
      · cases h
    · rw [if_neg e] at h
      have q := b.loc j l h
      rw [show (σ.set i v)[j]? = σ[j]? by rw [List.getElem?_set, if_neg e]]
      exact q
  dis := fun j k p xs ys n h1 h2 h3 h4 => by
    rw [List.getElem?_set] at h1 h2
    by_cases e : i = j
    · rw [if_pos e] at h1; split at h1 <;> cases h1
    · by_cases e' : i = k
      · rw [if_pos e'] at h2; split at h2 <;> cases h2
      · rw [if_neg e] at h1; rw [if_neg e'] at h2
        rw [List.getElem?_set, if_neg e] at h3
        rw [List.getElem?_set, if_neg e'] at h4
        exact b.dis j k p xs ys n h1 h2 h3 h4
  len := by rw [List.length_set, List.length_set, b.len]
/-- a name is set to a new list of the def's own -/
theorem Bd.setOwn (b : Bd F0 H0 st hb F H S ρ σ) {i : Nat} {xs : List D} {vs : List V} {p : Addr} (hp : H p = some (.lst vs)) (fp : F p = none) (h0 : H0 p = none) (r : Reps F xs vs)
    (nw : ∀ (j : Nat) (ys : List D), j ≠ i → ρ[j]? = some (.own ys) → σ[j]? ≠ some (some (.ref p))) : Bd F0 H0 st hb F H S (ρ.set i (.own xs)) (σ.set i (some (.ref p))) where
  sub := b.sub
  ext := b.ext
  sto := b.sto
  st0 := b.st0
  loc := fun j l h => by
    rw [List.getElem?_set] at h
    by_cases e : i = j
    · subst e
      rw [if_pos rfl] at h
      by_cases hi : i < ρ.length
      · rw [if_pos hi] at h; cases h
        exact ⟨p, vs, by rw [List.getElem?_set, if_pos rfl, if_pos (by rw [b.len]; exact hi)], hp, fp, h0, r⟩
      · rw [if_neg hi] at h; cases h
    · rw [if_neg e] at h
      have q := b.loc j l h
      rw [show (σ.set i (some (V.ref p)))[j]? = σ[j]? by rw [List.getElem?_set, if_neg e]]
      exact q
  dis := fun j k q ys zs n h1 h2 h3 h4 => by
    rw [List.getElem?_set] at h1 h2
    rw [List.getElem?_set] at h3 h4
    by_cases e : i = j
    · by_cases e' : i = k
      · exact n (e.symm.trans e')
      · rw [if_neg e'] at h2 h4
        rw [if_pos e] at h3
        split at h3
        · cases h3
          exact nw k zs (fun z => e' z.symm) h2 h4
        · cases h3
    · by_cases e' : i = k
      · rw [if_neg e] at h1 h3
        rw [if_pos e'] at h4
        split at h4
        · cases h4
          exact nw j ys (fun z => e z.symm) h1 h3
        · cases h4
      · rw [if_neg e] at h1 h3
        rw [if_neg e'] at h2 h4
        exact b.dis j k q ys zs n h1 h2 h3 h4
  len := by rw [List.length_set, List.length_set, b.len]
/-- no name holds a new address as its own list -/
theorem Bd.noOwn (b : Bd F0 H0 st hb F H S ρ σ) {p : Addr} (hp : H p = none) (j : Nat) (ys : List D) (h : ρ[j]? = some (.own ys)) : σ[j]? ≠ some (some (.ref p)) := fun e => by
  obtain ⟨q, vs, e1, e2, _⟩ := b.loc j _ h
  rw [e] at e1
  cases e1
  rw [hp] at e2
  cases e2
theorem Bd.h0none (b : Bd F0 H0 st hb F H S ρ σ) {p : Addr} (hp : H p = none) : H0 p = none := by
  cases q : H0 p with
  | none => rfl
  | some o =>
    by_cases e : hb = true ∧ p = st
    · obtain ⟨h1, h2⟩ := e
      subst h2
      exact absurd hp (b.stH h1)
    · rw [b.ext.keep p o q fun h1 h2 => e ⟨h1, h2⟩] at hp; cases hp
/-- a new object is laid and frozen -/
theorem Ext.lay (s : Sub F H) {p : Addr} {o : HO} (hp : H p = none) : Ext st hb F H (upd F p o) (upd H p o) ∧ Sub (upd F p o) (upd H p o) := by
  have fp := s.none hp
  refine ⟨⟨fun a u h => by rw [upd_ne (ne_of_none h fp)]; exact h, fun a u h _ => by rw [upd_ne (ne_of_none h hp)]; exact h, fun a h n => ?_⟩, fun a u h => ?_⟩
  · by_cases e : a = p
    · subst e; exact absurd hp n
    · rw [upd_ne e]; exact h
  · by_cases e : a = p
    · subst e; rw [upd_same] at h ⊢; exact h
    · rw [upd_ne e] at h ⊢; exact s a u h
/-- a new object is laid, not frozen -/
theorem Ext.lay0 (s : Sub F H) {p : Addr} {o : HO} (hp : H p = none) : Ext st hb F H F (upd H p o) ∧ Sub F (upd H p o) := by
  have fp := s.none hp
  refine ⟨⟨Sub.refl _, fun a u h _ => by rw [upd_ne (ne_of_none h hp)]; exact h, fun a h n => h⟩, fun a u h => ?_⟩
  rw [upd_ne (ne_of_none h fp)]; exact s a u h
theorem StoAt.ext (x : StoAt F H st S) (e : ∀ a o, H a = some o → H' a = some o) (s : Sub F F') (f : F' st = none) : StoAt F' H' st S := by
  obtain ⟨_, o, h1, h2⟩ := x
  exact ⟨f, o, e _ _ h1, h2.mono s⟩
/-- the state behind a new frozen object -/
theorem Bd.lay (b : Bd F0 H0 st hb F H S ρ σ) {p : Addr} {o : HO} (hp : H p = none) : Bd F0 H0 st hb (upd F p o) (upd H p o) S ρ σ := by
  obtain ⟨e, s⟩ := Ext.lay (st := st) (hb := hb) (o := o) b.sub hp
  refine b.go e s fun h => (b.sto h).ext (fun a u q => by rw [upd_ne (ne_of_none q hp)]; exact q) e.ff ?_
  refine e.new st (b.sto h).1 (b.stH h)
theorem Bd.lay0 (b : Bd F0 H0 st hb F H S ρ σ) {p : Addr} {o : HO} (hp : H p = none) : Bd F0 H0 st hb F (upd H p o) S ρ σ := by
  obtain ⟨e, s⟩ := Ext.lay0 (st := st) (hb := hb) (o := o) b.sub hp
  exact b.go e s fun h => (b.sto h).ext (fun a u q => by rw [upd_ne (ne_of_none q hp)]; exact q) e.ff (b.sto h).1
/-- a list of one's own is frozen -/
theorem Ext.frz (s : Sub F H) {p : Addr} {o : HO} (hp : H p = some o) (h0 : H0 p = none) (e : Ext st hb F0 H0 F H) (fp : F p = none) : Ext st hb F0 H0 (upd F p o) H ∧ Sub (upd F p o) H := by
  refine ⟨⟨fun a u h => ?_, e.keep, fun a h n => ?_⟩, fun a u h => ?_⟩
  · have q := e.ff a u h
    rw [upd_ne (ne_of_none q fp)]; exact q
  · by_cases z : a = p
    · subst z; exact absurd h0 n
    · rw [upd_ne z]; exact e.new a h n
  · by_cases z : a = p
    · subst z; rw [upd_same] at h; rw [hp]; exact h
    · rw [upd_ne z] at h; exact s a u h
end
end DL

set_option Elab.async false
set_option linter.all false
set_option maxRecDepth 100000
set_option maxHeartbeats 4000000
set_option autoImplicit false
namespace DL
open PySem PySem.Spec L2

structure XD where
  c : Addr
  ns : List Str
  ds : List D
def XRep (F H : Hp) (x : XD) (cls : Value) (dx : Option Addr) : Prop :=
  cls = .ref x.c ∧ ((x.ns = [] ∧ dx = none) ∨ ∃ dd vs, dx = some dd ∧ H dd = some (.xd (x.ns.zip vs)) ∧ x.ns.length = vs.length ∧ Reps F x.ds vs)

inductive Out (α : Type) where
  | ok (a : α) (S : Sto) | exc (x : XD) (ρ : List L) (S : Sto) | bad
def Out.bind {α β : Type} (o : Out α) (k : α → Sto → Out β) : Out β := match o with
  | .ok a S => k a S
  | .exc x ρ S => .exc x ρ S
  | .bad => .bad
abbrev Ph (α : Type) := List L → Sto → Out α
abbrev RR (α β : Type) := Addr → Hp → Hp → Hp → α → β → Prop

/-- what is wanted of an expression's outcome; (F, H) stood ahead of it -/
def GW {α β : Type} (R : RR α β) (W : WX) (F0 H0 : Hp) (st : Addr) (hb : Bool) (F H : Hp) (ρ : List L) (σ : L2.St) (o : Out α) (Q : β → Hp → Prop) : Prop := match o with
  | .ok a S' => ∀ (b : β) (F' H' : Hp), Bd F0 H0 st hb F' H' S' ρ σ → Ext st hb F H F' H' → R st H F' H' a b → Q b H'
  | .exc x ρ' S' => ∀ (cls : Value) (dx : Option Addr) (F' H' : Hp), Bd F0 H0 st hb F' H' S' ρ' σ → XRep F' H' x cls dx → W cls dx σ H'
  | .bad => False
def GT {α β : Type} (R : RR α β) (W : WX) (t : L2.St → Hp → (β → Hp → Prop) → Prop) (φ : Ph α) : Prop :=
  ∀ (F0 H0 : Hp) (st : Addr) (hb : Bool) (F H : Hp) (S : Sto) (ρ : List L) (σ : L2.St) (Q : β → Hp → Prop), Bd F0 H0 st hb F H S ρ σ → GW R W F0 H0 st hb F H ρ σ (φ ρ S) Q → t σ H Q
def RD : RR D V := fun _ _ F' _ d v => Rep F' d v
def RO : RR (List D) V := fun _ H F' H' xs v => ∃ p vs, v = .ref p ∧ H p = none ∧ H' p = some (.lst vs) ∧ F' p = none ∧ Reps F' xs vs
def RB : RR Bool Bool := fun _ _ _ _ a b => a = b
def RA : RR (List D) (List V) := fun _ _ F' _ ds vs => Reps F' ds vs
def RS : RR (List D) (List V) := fun st _ F' _ ds vs => ∃ vs', vs = .ref st :: vs' ∧ Reps F' ds vs'
abbrev ET (W : WX) (t : TE) (φ : Ph D) : Prop := GT RD W t φ
abbrev OT (W : WX) (t : TE) (φ : Ph (List D)) : Prop := GT RO W t φ
abbrev BT (W : WX) (t : TT) (φ : Ph Bool) : Prop := GT RB W t φ
abbrev AT (W : WX) (t : TA) (φ : Ph (List D)) : Prop := GT RA W t φ
abbrev AS (W : WX) (t : TA) (φ : Ph (List D)) : Prop := GT RS W t φ

/-- what is told holds still of an earlier heap -/
def RM {α β : Type} (R : RR α β) : Prop := ∀ st H H' F2 H2 a b, (∀ p, H' p = none → H p = none) → R st H' F2 H2 a b → R st H F2 H2 a b
theorem rm_d : RM RD := fun _ _ _ _ _ _ _ _ h => h
theorem rm_o : RM RO := fun _ _ _ _ _ _ _ k h => by
  obtain ⟨p, vs, e, n, r⟩ := h
  exact ⟨p, vs, e, k p n, r⟩
theorem rm_b : RM RB := fun _ _ _ _ _ _ _ _ h => h
theorem rm_a : RM RA := fun _ _ _ _ _ _ _ _ h => h
theorem rm_s : RM RS := fun _ _ _ _ _ _ _ _ h => h
theorem Ext.nones {st : Addr} {hb : Bool} {F H F' H' : Hp} (e : Ext st hb F H F' H') (hs : hb = true → H' st ≠ none) (p : Addr) (h : H' p = none) : H p = none := by
  cases q : H p with
  | none => rfl
  | some o =>
    by_cases z : hb = true ∧ p = st
    · rw [z.2] at h; exact absurd h (hs z.1)
    · rw [e.keep p o q fun a b => z ⟨a, b⟩] at h; cases h
section
variable {α β γ δ : Type} {R : RR α β} {R2 : RR γ δ} {W : WX} {F0 H0 F H F' H' : Hp} {st : Addr} {hb : Bool} {S S' : Sto} {ρ : List L} {σ : L2.St}
theorem GW.rebase {o : Out α} {Q : β → Hp → Prop} (rm : RM R) (h : GW R W F0 H0 st hb F H ρ σ o Q) (b : Bd F0 H0 st hb F' H' S' ρ σ) (e : Ext st hb F H F' H') : GW R W F0 H0 st hb F' H' ρ σ o Q := by
  cases o with
  | ok a S1 => exact fun v F2 H2 b2 e2 r => h v F2 H2 b2 (e.trans e2 b.stH) (rm _ _ _ _ _ _ _ (e.nones b.stH) r)
  | exc x ρ' S1 => exact h
  | bad => exact h
theorem GW.bind {o : Out α} {k : α → Sto → Out γ} {Q : δ → Hp → Prop} {Q1 : β → Hp → Prop} (rm : RM R2) (h : GW R2 W F0 H0 st hb F H ρ σ (o.bind k) Q)
    (hk : ∀ a S1 b F1 H1, Bd F0 H0 st hb F1 H1 S1 ρ σ → Ext st hb F H F1 H1 → R st H F1 H1 a b → GW R2 W F0 H0 st hb F1 H1 ρ σ (k a S1) Q → Q1 b H1) : GW R W F0 H0 st hb F H ρ σ o Q1 := by
  cases o with
  | ok a S1 => exact fun v F2 H2 b2 e2 r => hk a S1 v F2 H2 b2 e2 r (GW.rebase rm h b2 e2)
  | exc x ρ' S1 => exact h
  | bad => exact h
end

/-! ### expressions -/
section
variable {W : WX} {ta tb tc : TE} {φa φb φc : Ph D} {K : PySem.W.Frag}
def mVar (i : Nat) : Ph D := fun ρ S => match ρ[i]? with
  | some (.d x) => .ok x S
  | _ => .bad
theorem et_var (i : Nat) : ET W (tVar i) (mVar i) := fun F0 H0 st hb F H S ρ σ Q b h => by
  unfold mVar at h
  cases q : ρ[i]? with
  | none => rw [q] at h; exact h.elim
  | some l =>
    rw [q] at h
    cases l with
    | d x =>
      obtain ⟨u, e, r⟩ := b.loc i _ q
      exact ⟨u, e, h u F H b Ext.refl r⟩
    | un => exact h.elim
    | own xs => exact h.elim
    | st => exact h.elim
def mC (d : D) : Ph D := fun _ S => .ok d S
theorem et_c {v : V} (d : D) (r : ∀ F, Rep F d v) : ET W (tC v) (mC d) := fun F0 H0 st hb F H S ρ σ Q b h => h v F H b Ext.refl (r F)
theorem et_int (i : Int) : ET W (tC (.int i)) (mC (.int i)) := et_c _ fun F => by simp [Rep]
theorem et_bl (i : Bool) : ET W (tC (.bl i)) (mC (.bl i)) := et_c _ fun F => by simp [Rep]
theorem et_non : ET W (tC .non) (mC .non) := et_c _ fun F => by simp [Rep]
theorem et_str (x : Str) : ET W (tC (.str x)) (mC (.str x)) := et_c _ fun F => by simp [Rep]
/-- an operation on two values, by data -/
def O2 (W : WX) (r : L2.R2) (g : D → D → Sto → Out D) : Prop :=
  ∀ (F0 H0 : Hp) (st : Addr) (hb : Bool) (F H : Hp) (S : Sto) (ρ : List L) (σ : L2.St) (Q : VK) (dx dy : D) (x y : V), Bd F0 H0 st hb F H S ρ σ → Rep F dx x → Rep F dy y → GW RD W F0 H0 st hb F H ρ σ (g dx dy S) Q → r x y H Q
def m2 (g : D → D → Sto → Out D) (φa φb : Ph D) : Ph D := fun ρ S => (φa ρ S).bind fun x S1 => (φb ρ S1).bind fun y S2 => g x y S2
theorem et_op {r : L2.R2} {g : D → D → Sto → Out D} (hr : O2 W r g) (ha : ET W ta φa) (hb : ET W tb φb) : ET W (tOp r ta tb) (m2 g φa φb) := fun F0 H0 st hs F H S ρ σ Q b h =>
  ha _ _ _ _ _ _ _ _ _ _ b (GW.bind rm_d h fun x S1 v F1 H1 b1 e1 r1 h1 =>
    hb _ _ _ _ _ _ _ _ _ _ b1 (GW.bind rm_d h1 fun y S2 u F2 H2 b2 e2 r2 h2 => hr _ _ _ _ _ _ _ _ _ _ _ _ _ _ b2 (Rep.mono e2.ff _ _ r1) r2 h2))
/-- the pure ones -/
def pure2 (g : D → D → Option D) : D → D → Sto → Out D := fun x y S => match g x y with
  | some d => .ok d S
  | none => .bad
theorem o2_pure {r : L2.R2} {g : D → D → Option D} (hr : ∀ (F H : Hp) (Q : VK) (dx dy d : D) (x y : V), Sub F H → Rep F dx x → Rep F dy y → g dx dy = some d → (∀ v, Rep F d v → Q v H) → r x y H Q) : O2 W r (pure2 g) :=
  fun F0 H0 st hb F H S ρ σ Q dx dy x y b r1 r2 h => by
    unfold pure2 at h
    cases e : g dx dy with
    | none => rw [e] at h; exact h.elim
    | some d =>
      rw [e] at h
      exact hr F H Q dx dy d x y b.sub r1 r2 e fun v rv => h v F H b Ext.refl rv
/-- two ints -/
def int2 (C : Int → Int → Bool) (f : Int → Int → D) : D → D → Option D
  | .int i, .int j => if C i j then some (f i j) else none
  | _, _ => none
theorem o2_int {C' : Int → Int → Prop} {g : Int → Int → V} {C : Int → Int → Bool} {f : Int → Int → D} (hC : ∀ i j, C i j = true → C' i j) (hf : ∀ F i j, Rep F (f i j) (g i j)) : O2 W (rI C' g) (pure2 (int2 C f)) :=
  o2_pure fun F H Q dx dy d x y s r1 r2 e q => by
    cases dx <;> try (simp [int2] at e; done)
    cases dy <;> try (simp [int2] at e; done)
    rename_i i j
    simp only [int2] at e
    by_cases c : C i j = true
    · rw [if_pos c] at e; cases e
      simp only [Rep] at r1 r2
      exact ⟨i, j, r1, r2, hC i j c, q _ (hf F i j)⟩
    · rw [if_neg c] at e; cases e
theorem o2_int0 {g : Int → Int → V} {f : Int → Int → D} (hf : ∀ F i j, Rep F (f i j) (g i j)) : O2 W (rI0 g) (pure2 (int2 (fun _ _ => true) f)) :=
  o2_pure fun F H Q dx dy d x y s r1 r2 e q => by
    cases dx <;> try (simp [int2] at e; done)
    cases dy <;> try (simp [int2] at e; done)
    rename_i i j
    simp only [int2] at e
    cases e
    simp only [Rep] at r1 r2
    exact ⟨i, j, r1, r2, q _ (hf F i j)⟩
end
end DL

set_option Elab.async false
set_option linter.all false
set_option maxRecDepth 100000
set_option maxHeartbeats 4000000
set_option autoImplicit false
namespace DL
open PySem PySem.Spec L2

/-! ### operations -/
section
variable {W : WX} {K : PySem.W.Frag}
theorem rep_int {F : Hp} (i : Int) : Rep F (.int i) (.int i) := by simp [Rep]
theorem rep_bl {F : Hp} (i : Bool) : Rep F (.bl i) (.bl i) := by simp [Rep]
instance (i j : Int) : Decidable (CMulW i j) := by unfold CMulW; infer_instance
instance (i j : Int) : Decidable (CDivW i j) := by unfold CDivW; infer_instance
instance (i j : Int) : Decidable (CPow i j) := by unfold CPow; infer_instance
def gAdd := pure2 (int2 (fun _ _ => true) fun i j => .int (i + j))
def gMinus := pure2 (int2 (fun _ _ => true) fun i j => .int (i - j))
def gMul := pure2 (int2 (fun i j => decide (CMulW i j)) fun i j => .int (i * j))
def gFdiv := pure2 (int2 (fun i j => decide (CDivW i j)) fun i j => .int (i / j))
def gMod := pure2 (int2 (fun i j => decide (0 < j)) fun i j => .int (i % j))
def gPow := pure2 (int2 (fun i j => decide (CPow i j)) fun i j => .int (i ^ j.toNat))
def gLt := pure2 (int2 (fun _ _ => true) fun i j => .bl (decide (i < j)))
def gLe := pure2 (int2 (fun _ _ => true) fun i j => .bl (decide (i ≤ j)))
def gGt := pure2 (int2 (fun _ _ => true) fun i j => .bl (decide (j < i)))
def gGe := pure2 (int2 (fun _ _ => true) fun i j => .bl (decide (j ≤ i)))
theorem o_add : O2 W (rI0 fun i j => .int (i + j)) gAdd := o2_int0 fun F i j => rep_int _
theorem o_sub : O2 W (rI0 fun i j => .int (i - j)) gMinus := o2_int0 fun F i j => rep_int _
theorem o_mul : O2 W (rI CMulW fun i j => .int (i * j)) gMul := o2_int (fun i j h => of_decide_eq_true h) fun F i j => rep_int _
theorem o_fdiv : O2 W (rI CDivW fun i j => .int (i / j)) gFdiv := o2_int (fun i j h => of_decide_eq_true h) fun F i j => rep_int _
theorem o_mod : O2 W (rI (fun _ j => 0 < j) fun i j => .int (i % j)) gMod := o2_int (fun i j h => of_decide_eq_true h) fun F i j => rep_int _
theorem o_pow : O2 W (rI CPow fun i j => .int (i ^ j.toNat)) gPow := o2_int (fun i j h => of_decide_eq_true h) fun F i j => rep_int _
theorem o_lt : O2 W (rI0 fun i j => .bl (decide (i < j))) gLt := o2_int0 fun F i j => rep_bl _
theorem o_le : O2 W (rI0 fun i j => .bl (decide (i ≤ j))) gLe := o2_int0 fun F i j => rep_bl _
theorem o_gt : O2 W (rI0 fun i j => .bl (decide (j < i))) gGt := o2_int0 fun F i j => rep_bl _
theorem o_ge : O2 W (rI0 fun i j => .bl (decide (j ≤ i))) gGe := o2_int0 fun F i j => rep_bl _

mutual
def toP : D → PyData
  | .non => .none
  | .bl b => .bool b
  | .int i => .int i
  | .str x => .str x
  | .tup ds => .tuple (toPs ds)
  | .pr _ => .none
  | .lst ds => .list (toPs ds)
  | .obj _ _ _ => .none
def toPs : List D → List PyData
  | [] => []
  | d :: ds => toP d :: toPs ds
end
mutual
def isP : D → Bool
  | .tup ds => isPs ds
  | .pr _ => false
  | .lst ds => isPs ds
  | .obj _ _ _ => false
  | _ => true
def isPs : List D → Bool
  | [] => true
  | d :: ds => isP d && isPs ds
end
mutual
theorem Rep.dp {F H : Hp} (s : Sub F H) : ∀ (d : D) (v : V), isP d = true → Rep F d v → Dp K H v (toP d)
  | .non, v, _, h => by simp only [Rep] at h; rw [h, toP]; exact .non
  | .bl b, v, _, h => by simp only [Rep] at h; rw [h, toP]; exact .bl b
  | .int i, v, _, h => by simp only [Rep] at h; rw [h, toP]; exact .int i
  | .str x, v, _, h => by simp only [Rep] at h; rw [h, toP]; exact .str x
  | .tup ds, v, p, h => by
    simp only [Rep] at h
    obtain ⟨a, xs, e, f, r⟩ := h
    rw [e, toP]
    exact .tup (f.sq s) (Reps.dp s ds xs (by simpa [isP] using p) r)
  | .lst ds, v, p, h => by
    simp only [Rep] at h
    obtain ⟨a, xs, e, f, r⟩ := h
    rw [e, toP]
    exact .lst (SqL.of (s _ _ f)) (Reps.dp s ds xs (by simpa [isP] using p) r)
  | .obj _ _ _, v, p, h => by simp [isP] at p
  | .pr _, v, p, h => by simp [isP] at p
theorem Reps.dp {F H : Hp} (s : Sub F H) : ∀ (ds : List D) (xs : List V), isPs ds = true → Reps F ds xs → DpAll K H xs (toPs ds)
  | [], xs, _, h => by rw [reps_nil.mp h, toPs]; exact .nil
  | d :: ds, xs, p, h => by
    obtain ⟨x, r, e, h1, h2⟩ := reps_cons.mp h
    simp only [isPs, Bool.and_eq_true] at p
    rw [e, toPs]
    exact .cons (Rep.dp s d x p.1 h1) (Reps.dp s ds r p.2 h2)
end
def shp (d : D) : Bool := isP d && SeqAt.shaped (toP d)
def eqB (x y : D) : Bool := PyData.eqv (toP x) (toP y)
def eq2 (x y : D) : Option D := if shp x = true ∧ shp y = true then some (.bl (eqB x y)) else none
def ne2 (x y : D) : Option D := if shp x = true ∧ shp y = true then some (.bl (!eqB x y)) else none
def gEq := pure2 eq2
def gNe := pure2 ne2
theorem o_eq : O2 W (rEqD K) gEq := o2_pure fun F H Q dx dy d x y s r1 r2 e q => by
  unfold eq2 at e
  by_cases c : shp dx = true ∧ shp dy = true
  · rw [if_pos c] at e; cases e
    obtain ⟨c1, c2⟩ := c
    simp only [shp, Bool.and_eq_true] at c1 c2
    exact ⟨_, _, Rep.dp s dx x c1.1 r1, Rep.dp s dy y c2.1 r2, c1.2, c2.2, q _ (rep_bl _)⟩
  · rw [if_neg c] at e; cases e
theorem o_ne : O2 W (rNeD K) gNe := o2_pure fun F H Q dx dy d x y s r1 r2 e q => by
  unfold ne2 at e
  by_cases c : shp dx = true ∧ shp dy = true
  · rw [if_pos c] at e; cases e
    obtain ⟨c1, c2⟩ := c
    simp only [shp, Bool.and_eq_true] at c1 c2
    exact ⟨_, _, Rep.dp s dx x c1.1 r1, Rep.dp s dy y c2.1 r2, c1.2, c2.2, q _ (rep_bl _)⟩
  · rw [if_neg c] at e; cases e
def isN : D → Bool
  | .non => true
  | _ => false
theorem Rep.non_iff {F : Hp} {d : D} {v : V} (r : Rep F d v) : decide (v = .non) = isN d := by
  cases d <;> simp only [Rep] at r
  · rw [r]; rfl
  · rw [r]; rfl
  · rw [r]; rfl
  · rw [r]; rfl
  · obtain ⟨a, xs, e, _⟩ := r; rw [e]; rfl
  · obtain ⟨a, xs, e, _⟩ := r; rw [e]; rfl
  · obtain ⟨a, dx, xs, e, _⟩ := r; rw [e]; rfl
  · obtain ⟨a, xs, e, _⟩ := r; rw [e]; rfl
def gIsN := pure2 fun x y => if isN y = true then some (.bl (isN x)) else none
def gNotN := pure2 fun x y => if isN y = true then some (.bl (!isN x)) else none
theorem isN_eq {F : Hp} {d : D} {v : V} (r : Rep F d v) (h : isN d = true) : v = .non := by
  rw [← r.non_iff] at h; exact of_decide_eq_true h
theorem o_isN : O2 W (fun x y H Q => y = .non ∧ Q (.bl (decide (x = .non))) H) gIsN := o2_pure fun F H Q dx dy d x y s r1 r2 e q => by
  by_cases c : isN dy = true
  · rw [if_pos c] at e; cases e
    exact ⟨isN_eq r2 c, by rw [r1.non_iff]; exact q _ (rep_bl _)⟩
  · rw [if_neg c] at e; cases e
theorem o_notN : O2 W (fun x y H Q => y = .non ∧ Q (.bl (!decide (x = .non))) H) gNotN := o2_pure fun F H Q dx dy d x y s r1 r2 e q => by
  by_cases c : isN dy = true
  · rw [if_pos c] at e; cases e
    exact ⟨isN_eq r2 c, by rw [r1.non_iff]; exact q _ (rep_bl _)⟩
  · rw [if_neg c] at e; cases e
/-- x[i] of a tuple or list -/
def ix2 : D → D → Option D
  | .tup ds, .int i => atI ds i
  | .lst ds, .int i => atI ds i
  | _, _ => none
def gIx := pure2 ix2
theorem Reps.atI {F : Hp} {ds : List D} {xs : List V} {i : Int} {d : D} (r : Reps F ds xs) (e : L2.atI ds i = some d) : ∃ x, L2.atI xs i = some x ∧ Rep F d x := by
  unfold L2.atI at e ⊢
  rw [r.length]
  cases q : ixN ds.length i with
  | none => rw [q] at e; cases e
  | some j => rw [q] at e; exact r.get e
theorem o_ix : O2 W (rIx K) gIx := o2_pure fun F H Q dx dy d x y s r1 r2 e q => by
  cases dy <;> try (cases dx <;> simp [ix2] at e; done)
  rename_i i
  simp only [Rep] at r2
  cases dx <;> try (simp [ix2] at e; done)
  · simp only [ix2] at e
    simp only [Rep] at r1
    obtain ⟨a, xs, e1, f, r⟩ := r1
    obtain ⟨v, e2, rv⟩ := r.atI e
    exact .inr (.inl ⟨a, xs, i, v, e1, r2, f.sq s, e2, q v rv⟩)
  · simp only [ix2] at e
    simp only [Rep] at r1
    obtain ⟨a, xs, e1, f, r⟩ := r1
    obtain ⟨v, e2, rv⟩ := r.atI e
    exact .inl ⟨a, xs, i, v, e1, r2, SqL.of (s _ _ f), e2, q v rv⟩
/-- one-place -/
def gNeg : D → Sto → Out D := fun x S => match x with
  | .int i => .ok (.int (-i)) S
  | _ => .bad
end

section
variable {W : WX} {K : PySem.W.Frag} {ta tb tc : TE} {φa φb φc : Ph D} {φl : Ph (List D)} {tr : TA} {tA tB' : TT} {φA φB : Ph Bool}
def m1 (g : D → Sto → Out D) (φa : Ph D) : Ph D := fun ρ S => (φa ρ S).bind g
theorem et_neg (ha : ET W ta φa) : ET W (tUn (rU fun i => .int (-i)) ta) (m1 gNeg φa) := fun F0 H0 st hs F H S ρ σ Q b h =>
  ha _ _ _ _ _ _ _ _ _ _ b (GW.bind rm_d h fun x S1 v F1 H1 b1 e1 r1 h1 => by
    cases x <;> try exact h1.elim
    rename_i i
    simp only [RD, Rep] at r1
    exact ⟨i, r1, h1 _ F1 H1 b1 Ext.refl (rep_int _)⟩)

/-! ### arguments, displays -/
def mNil : Ph (List D) := fun _ S => .ok [] S
def mCons (φa : Ph D) (φl : Ph (List D)) : Ph (List D) := fun ρ S => (φa ρ S).bind fun x S1 => (φl ρ S1).bind fun xs S2 => .ok (x :: xs) S2
theorem at_nil : AT W tNil mNil := fun F0 H0 st hb F H S ρ σ Q b h => h [] F H b Ext.refl (reps_nil.mpr rfl)
theorem at_cons (ha : ET W ta φa) (hr : AT W tr φl) : AT W (tCons ta tr) (mCons φa φl) := fun F0 H0 st hs F H S ρ σ Q b h =>
  ha _ _ _ _ _ _ _ _ _ _ b (GW.bind rm_a h fun x S1 v F1 H1 b1 e1 r1 h1 =>
    hr _ _ _ _ _ _ _ _ _ _ b1 (GW.bind rm_a h1 fun xs S2 vs F2 H2 b2 e2 r2 h2 =>
      h2 (v :: vs) F2 H2 b2 Ext.refl (reps_cons.mpr ⟨v, vs, rfl, Rep.mono e2.ff _ _ r1, r2⟩)))
/-- the store as the first argument -/
def mSt (i : Nat) (φl : Ph (List D)) : Ph (List D) := fun ρ S => match ρ[i]? with
  | some .st => φl ρ S
  | _ => .bad
theorem as_cons (i : Nat) (hr : AT W tr φl) : AS W (tCons (tVar i) tr) (mSt i φl) := fun F0 H0 st hs F H S ρ σ Q b h => by
  unfold mSt at h
  cases q : ρ[i]? with
  | none => rw [q] at h; exact h.elim
  | some l =>
    rw [q] at h
    cases l with
    | st =>
      have e := (b.loc i _ q).2
      refine ⟨.ref st, e, hr _ _ _ _ _ _ _ _ _ _ b ?_⟩
      cases o : φl ρ S with
      | ok xs S1 =>
        rw [o] at h
        exact fun vs F1 H1 b1 e1 r1 => h (.ref st :: vs) F1 H1 b1 e1 ⟨vs, rfl, r1⟩
      | exc x ρ' S1 => rw [o] at h; exact h
      | bad => rw [o] at h; exact h.elim
    | un => exact h.elim
    | own xs => exact h.elim
    | d x => exact h.elim
def line (n : Nat) : Bool := decide (n ≤ 1000)
theorem line_ok {n : Nat} (h : line n = true) : n ≤ sizeLine := Nat.le_of_lt (small1000 (of_decide_eq_true h))
theorem line_lt {n : Nat} (h : line n = true) : n < sizeLine := small1000 (of_decide_eq_true h)
def mTup (φl : Ph (List D)) : Ph D := fun ρ S => (φl ρ S).bind fun xs S1 => if line xs.length = true then .ok (.tup xs) S1 else .bad
theorem rep_pr {F : Hp} {p : Addr} {ds : List D} {xs : List V} (r : Reps F ds xs) (h : F p = none) : Rep (upd F p (.tup xs)) (.pr ds) (.ref p) := by
  simp only [Rep]
  exact ⟨p, xs, rfl, upd_same, Reps.mono (fun a o q => by rw [upd_ne (ne_of_none q h)]; exact q) ds xs r⟩
theorem rep_tup {F : Hp} {p : Addr} {o : Obj} {ds : List D} {xs : List V} (r : Reps F ds xs) (h : F p = none) (hd : o.dict = none) : Rep (upd F p (.frz o (.tup xs))) (.tup ds) (.ref p) := by
  simp only [Rep]
  exact ⟨p, xs, rfl, TupAt.upd hd, Reps.mono (fun a o q => by rw [upd_ne (ne_of_none q h)]; exact q) ds xs r⟩
theorem rep_lst {F : Hp} {p : Addr} {ds : List D} {xs : List V} (r : Reps F ds xs) (h : F p = none) : Rep (upd F p (.lst xs)) (.lst ds) (.ref p) := by
  simp only [Rep]
  exact ⟨p, xs, rfl, upd_same, Reps.mono (fun a o q => by rw [upd_ne (ne_of_none q h)]; exact q) ds xs r⟩
theorem et_tup (hr : AT W tr φl) : ET W (tTupF tr) (mTup φl) := fun F0 H0 st hs F H S ρ σ Q b h =>
  hr _ _ _ _ _ _ _ _ _ _ b (GW.bind rm_d h fun xs S1 vs F1 H1 b1 e1 r1 h1 => by
    have r1' : Reps F1 xs vs := r1
    by_cases c : line xs.length = true
    · rw [if_pos c] at h1
      refine ⟨by rw [r1'.length]; exact line_ok c, fun p o hd hp => h1 _ _ _ (b1.lay hp) (Ext.lay b1.sub hp).1 (rep_tup r1' (b1.sub.none hp) hd)⟩
    · rw [if_neg c] at h1; exact h1.elim)
def mLst (φl : Ph (List D)) : Ph (List D) := fun ρ S => (φl ρ S).bind fun xs S1 => if line xs.length = true then .ok xs S1 else .bad
theorem ot_lst (hr : AT W tr φl) : OT W (tLst tr) (mLst φl) := fun F0 H0 st hs F H S ρ σ Q b h =>
  hr _ _ _ _ _ _ _ _ _ _ b (GW.bind rm_o h fun xs S1 vs F1 H1 b1 e1 r1 h1 => by
    have r1' : Reps F1 xs vs := r1
    by_cases c : line xs.length = true
    · rw [if_pos c] at h1
      refine ⟨by rw [r1'.length]; exact line_ok c, fun p hp => h1 _ _ _ (b1.lay0 hp) (Ext.lay0 b1.sub hp).1 ⟨p, vs, rfl, hp, upd_same, b1.sub.none hp, r1'⟩⟩
    · rw [if_neg c] at h1; exact h1.elim)
/-- a new list as data -/
theorem Bd.frz {F0 H0 F H : Hp} {st : Addr} {hb : Bool} {S : Sto} {ρ : List L} {σ : L2.St} (b : Bd F0 H0 st hb F H S ρ σ) {p : Addr} {vs : List V} (hp : H p = some (.lst vs)) (fp : F p = none) (h0 : H0 p = none)
    (nw : ∀ (j : Nat) (ys : List D), ρ[j]? = some (.own ys) → σ[j]? ≠ some (some (.ref p))) : Bd F0 H0 st hb (upd F p (.lst vs)) H S ρ σ := by
  obtain ⟨e, s⟩ := Ext.frz (o := .lst vs) b.sub hp h0 b.ext fp
  have ff : Sub F (upd F p (.lst vs)) := fun a u h => by rw [upd_ne (ne_of_none h fp)]; exact h
  have pst : hb = true → p ≠ st := fun h z => by subst z; exact b.st0 h h0
  refine ⟨s, e, fun h => ?_, b.st0, fun i l q => ?_, b.dis, b.len⟩
  · exact (b.sto h).ext (fun a o q => q) ff (by rw [upd_ne (Ne.symm (pst h))]; exact (b.sto h).1)
  · have z := b.loc i l q
    cases l with
    | un => trivial
    | d x => obtain ⟨u, e1, r⟩ := z; exact ⟨u, e1, Rep.mono ff x u r⟩
    | own xs =>
      obtain ⟨p', vs', e1, e2, e3, e4, r⟩ := z
      have ne : p' ≠ p := fun w => by subst w; exact nw i xs q e1
      exact ⟨p', vs', e1, e2, by rw [upd_ne ne]; exact e3, e4, Reps.mono ff xs vs' r⟩
    | st => exact z
def mFrz (φ : Ph (List D)) : Ph D := fun ρ S => (φ ρ S).bind fun xs S1 => .ok (.lst xs) S1
theorem et_frz {t : TE} {φ : Ph (List D)} (h : OT W t φ) : ET W t (mFrz φ) := fun F0 H0 st hs F H S ρ σ Q b hq =>
  h _ _ _ _ _ _ _ _ _ _ b (by
    unfold mFrz at hq
    cases o : φ ρ S with
    | ok xs S1 =>
      rw [o] at hq
      intro v F1 H1 b1 e1 r1
      obtain ⟨p, vs, rfl, n, hp, fp, r⟩ := r1
      have b2 := b1.frz hp fp (b.h0none n) (fun j ys z => b.noOwn n j ys z)
      refine hq _ _ _ b2 ⟨fun a u w => ?_, e1.keep, fun a w1 w2 => ?_⟩ (rep_lst r fp)
      · have w' := e1.ff a u w
        rw [upd_ne (ne_of_none w' fp)]; exact w'
      · by_cases z : a = p
        · subst z; exact absurd n w2
        · rw [upd_ne z]; exact e1.new a w1 w2
    | exc x ρ' S1 => rw [o] at hq; exact hq
    | bad => rw [o] at hq; exact hq.elim)

/-! ### tests -/
def toB (d : D) (S : Sto) : Out Bool := match d with
  | .bl b => .ok b S
  | _ => .bad
def mB (φ : Ph D) : Ph Bool := fun ρ S => (φ ρ S).bind toB
theorem bt_val (ha : ET W ta φa) : BT W (L2.tB ta) (mB φa) := fun F0 H0 st hs F H S ρ σ Q b h =>
  ha _ _ _ _ _ _ _ _ _ _ b (GW.bind rm_b h fun x S1 v F1 H1 b1 e1 r1 h1 => by
    cases x <;> try exact h1.elim
    rename_i k
    simp only [RD, Rep] at r1
    exact ⟨k, r1, h1 k F1 H1 b1 Ext.refl rfl⟩)
theorem bt_test (ha : ET W ta φa) : BT W (tTest ta) (mB φa) := bt_val ha
def mAnd (φA φB : Ph Bool) : Ph Bool := fun ρ S => (φA ρ S).bind fun c S1 => if c = true then φB ρ S1 else .ok false S1
def mOr (φA φB : Ph Bool) : Ph Bool := fun ρ S => (φA ρ S).bind fun c S1 => if c = true then .ok true S1 else φB ρ S1
def mNot (φA : Ph Bool) : Ph Bool := fun ρ S => (φA ρ S).bind fun c S1 => .ok (!c) S1
theorem bt_and (ha : BT W tA φA) (hb : BT W tB' φB) : BT W (tAnd tA tB') (mAnd φA φB) := fun F0 H0 st hs F H S ρ σ Q b h =>
  ha _ _ _ _ _ _ _ _ _ _ b (GW.bind rm_b h fun x S1 v F1 H1 b1 e1 r1 h1 => by
    cases (show x = v from r1)
    cases x
    · exact iteF (h1 false F1 H1 b1 Ext.refl rfl)
    · exact iteT (hb _ _ _ _ _ _ _ _ _ _ b1 h1))
theorem bt_or (ha : BT W tA φA) (hb : BT W tB' φB) : BT W (tOr tA tB') (mOr φA φB) := fun F0 H0 st hs F H S ρ σ Q b h =>
  ha _ _ _ _ _ _ _ _ _ _ b (GW.bind rm_b h fun x S1 v F1 H1 b1 e1 r1 h1 => by
    cases (show x = v from r1)
    cases x
    · exact iteF (hb _ _ _ _ _ _ _ _ _ _ b1 h1)
    · exact iteT (h1 true F1 H1 b1 Ext.refl rfl))
theorem bt_not (ha : BT W tA φA) : BT W (tNot tA) (mNot φA) := fun F0 H0 st hs F H S ρ σ Q b h =>
  ha _ _ _ _ _ _ _ _ _ _ b (GW.bind rm_b h fun x S1 v F1 H1 b1 e1 r1 h1 => by
    cases (show x = v from r1)
    exact h1 (!x) F1 H1 b1 Ext.refl rfl)
def mIf (φA : Ph Bool) (φa φb : Ph D) : Ph D := fun ρ S => (φA ρ S).bind fun c S1 => if c = true then φa ρ S1 else φb ρ S1
theorem et_if (hA : BT W tA φA) (ha : ET W ta φa) (hb : ET W tb φb) : ET W (tIf tA ta tb) (mIf φA φa φb) := fun F0 H0 st hs F H S ρ σ Q b h =>
  hA _ _ _ _ _ _ _ _ _ _ b (GW.bind rm_d h fun x S1 v F1 H1 b1 e1 r1 h1 => by
    cases (show x = v from r1)
    cases x
    · exact iteF (hb _ _ _ _ _ _ _ _ _ _ b1 h1)
    · exact iteT (ha _ _ _ _ _ _ _ _ _ _ b1 h1))
def mAndV (φa φb : Ph D) : Ph D := fun ρ S => (φa ρ S).bind fun x S1 => match x with
  | .bl c => if c = true then φb ρ S1 else .ok (.bl false) S1
  | _ => .bad
def mOrV (φa φb : Ph D) : Ph D := fun ρ S => (φa ρ S).bind fun x S1 => match x with
  | .bl c => if c = true then .ok (.bl true) S1 else φb ρ S1
  | _ => .bad
def mNotV (φa : Ph D) : Ph D := fun ρ S => (φa ρ S).bind fun x S1 => match x with
  | .bl c => .ok (.bl (!c)) S1
  | _ => .bad
theorem et_and (ha : ET W ta φa) (hb : ET W tb φb) : ET W (tAndV ta tb) (mAndV φa φb) := fun F0 H0 st hs F H S ρ σ Q b h =>
  ha _ _ _ _ _ _ _ _ _ _ b (GW.bind rm_d h fun x S1 v F1 H1 b1 e1 r1 h1 => by
    cases x <;> try exact h1.elim
    rename_i k
    simp only [RD, Rep] at r1
    refine ⟨k, r1, ?_⟩
    cases k
    · exact iteF (h1 _ F1 H1 b1 Ext.refl (rep_bl _))
    · exact iteT (hb _ _ _ _ _ _ _ _ _ _ b1 h1))
theorem et_or (ha : ET W ta φa) (hb : ET W tb φb) : ET W (tOrV ta tb) (mOrV φa φb) := fun F0 H0 st hs F H S ρ σ Q b h =>
  ha _ _ _ _ _ _ _ _ _ _ b (GW.bind rm_d h fun x S1 v F1 H1 b1 e1 r1 h1 => by
    cases x <;> try exact h1.elim
    rename_i k
    simp only [RD, Rep] at r1
    refine ⟨k, r1, ?_⟩
    cases k
    · exact iteF (hb _ _ _ _ _ _ _ _ _ _ b1 h1)
    · exact iteT (h1 _ F1 H1 b1 Ext.refl (rep_bl _)))
theorem et_not (ha : ET W ta φa) : ET W (tNotV ta) (mNotV φa) := fun F0 H0 st hs F H S ρ σ Q b h =>
  ha _ _ _ _ _ _ _ _ _ _ b (GW.bind rm_d h fun x S1 v F1 H1 b1 e1 r1 h1 => by
    cases x <;> try exact h1.elim
    rename_i k
    simp only [RD, Rep] at r1
    exact ⟨k, r1, h1 _ F1 H1 b1 Ext.refl (rep_bl _)⟩)

/-! ### calls of built-ins, by data -/
def OC (W : WX) (r : List V → Hp → VK → Prop) (g : List D → Sto → Out D) : Prop :=
  ∀ (F0 H0 : Hp) (st : Addr) (hb : Bool) (F H : Hp) (S : Sto) (ρ : List L) (σ : L2.St) (Q : VK) (ds : List D) (vs : List V), Bd F0 H0 st hb F H S ρ σ → Reps F ds vs → GW RD W F0 H0 st hb F H ρ σ (g ds S) Q → r vs H Q
def mCB (g : List D → Sto → Out D) (φl : Ph (List D)) : Ph D := fun ρ S => (φl ρ S).bind g
theorem et_cb {r : List V → Hp → VK → Prop} {g : List D → Sto → Out D} (hr : OC W r g) (hl : AT W tr φl) : ET W (tCB r tr) (mCB g φl) := fun F0 H0 st hs F H S ρ σ Q b h =>
  hl _ _ _ _ _ _ _ _ _ _ b (GW.bind rm_d h fun xs S1 vs F1 H1 b1 e1 r1 h1 => hr _ _ _ _ _ _ _ _ _ _ _ _ b1 r1 h1)
/-- the same for what gives a new list -/
def OCo (W : WX) (r : List V → Hp → VK → Prop) (g : List D → Sto → Out (List D)) : Prop :=
  ∀ (F0 H0 : Hp) (st : Addr) (hb : Bool) (F H : Hp) (S : Sto) (ρ : List L) (σ : L2.St) (Q : VK) (ds : List D) (vs : List V), Bd F0 H0 st hb F H S ρ σ → Reps F ds vs → GW RO W F0 H0 st hb F H ρ σ (g ds S) Q → r vs H Q
def mCBo (g : List D → Sto → Out (List D)) (φl : Ph (List D)) : Ph (List D) := fun ρ S => (φl ρ S).bind g
theorem ot_cb {r : List V → Hp → VK → Prop} {g : List D → Sto → Out (List D)} (hr : OCo W r g) (hl : AT W tr φl) : OT W (tCB r tr) (mCBo g φl) := fun F0 H0 st hs F H S ρ σ Q b h =>
  hl _ _ _ _ _ _ _ _ _ _ b (GW.bind rm_o h fun xs S1 vs F1 H1 b1 e1 r1 h1 => hr _ _ _ _ _ _ _ _ _ _ _ _ b1 r1 h1)
end
end DL

set_option Elab.async false
set_option linter.all false
set_option maxRecDepth 100000
set_option maxHeartbeats 4000000
set_option autoImplicit false
namespace DL
open PySem PySem.Spec L2

/-! ### statements -/
inductive Ctl where
  | nx (ρ : List L) | rt (d : D) | ro (xs : List D) | bk (ρ : List L) | ct (ρ : List L)
def SW (W : WX) (F0 H0 : Hp) (st : Addr) (hb : Bool) (o : Out Ctl) (Dn : Ends) : Prop := match o with
  | .ok (.nx ρ') S' => ∀ (σ' : L2.St) (F' H' : Hp), Bd F0 H0 st hb F' H' S' ρ' σ' → Dn.nx σ' H'
  | .ok (.bk ρ') S' => ∀ (σ' : L2.St) (F' H' : Hp), Bd F0 H0 st hb F' H' S' ρ' σ' → Dn.bk σ' H'
  | .ok (.ct ρ') S' => ∀ (σ' : L2.St) (F' H' : Hp), Bd F0 H0 st hb F' H' S' ρ' σ' → Dn.ct σ' H'
  | .ok (.rt d) S' => ∀ (v : V) (F' H' : Hp), Bd F0 H0 st hb F' H' S' [] [] → Rep F' d v → Dn.rt v H'
  | .ok (.ro xs) S' => ∀ (p : Addr) (vs : List V) (F' H' : Hp), Bd F0 H0 st hb F' H' S' [] [] → H' p = some (.lst vs) → F' p = none → H0 p = none → Reps F' xs vs → Dn.rt (.ref p) H'
  | .exc x ρ' S' => ∀ (cls : Value) (dx : Option Addr) (σ' : L2.St) (F' H' : Hp), Bd F0 H0 st hb F' H' S' ρ' σ' → XRep F' H' x cls dx → W cls dx σ' H'
  | .bad => False
def ST (W : WX) (t : TS) (φ : Ph Ctl) : Prop :=
  ∀ (F0 H0 : Hp) (st : Addr) (hb : Bool) (F H : Hp) (S : Sto) (ρ : List L) (σ : L2.St) (Dn : Ends), Bd F0 H0 st hb F H S ρ σ → SW W F0 H0 st hb (φ ρ S) Dn → t Dn σ H
/-- an expression ahead of what a statement does with it -/
theorem GW.stmt {α β : Type} {R : RR α β} {W : WX} {F0 H0 F H : Hp} {st : Addr} {hb : Bool} {ρ : List L} {σ : L2.St} {o : Out α} {k : α → Sto → Out Ctl} {Dn : Ends} {Q1 : β → Hp → Prop} (h : SW W F0 H0 st hb (o.bind k) Dn)
    (hk : ∀ a S1 b F1 H1, Bd F0 H0 st hb F1 H1 S1 ρ σ → Ext st hb F H F1 H1 → R st H F1 H1 a b → SW W F0 H0 st hb (k a S1) Dn → Q1 b H1) : GW R W F0 H0 st hb F H ρ σ o Q1 := by
  cases o with
  | ok a S1 => exact fun v F2 H2 b2 e2 r => hk a S1 v F2 H2 b2 e2 r h
  | exc x ρ' S1 => exact fun cls dx F' H' b' xr => h cls dx σ F' H' b' xr
  | bad => exact h
def Out.seq (o : Out Ctl) (k : Ph Ctl) : Out Ctl := match o with
  | .ok (.nx ρ) S => k ρ S
  | o => o
section
variable {W : WX} {ta tb te : TE} {φ φa φb : Ph D} {φo : Ph (List D)} {t u : TS} {φt φu : Ph Ctl} {tc : TT} {φc : Ph Bool}
def mNext : Ph Ctl := fun ρ S => .ok (.nx ρ) S
theorem st_next : ST W tNext mNext := fun F0 H0 st hb F H S ρ σ Dn b h => h σ F H b
def mSeq (φt φu : Ph Ctl) : Ph Ctl := fun ρ S => (φt ρ S).seq φu
theorem st_seq (h1 : ST W t φt) (h2 : ST W u φu) : ST W (tSeq t u) (mSeq φt φu) := fun F0 H0 st hb F H S ρ σ Dn b h =>
  h1 _ _ _ _ _ _ _ _ _ _ b (by
    unfold mSeq Out.seq at h
    cases o : φt ρ S with
    | ok c S1 =>
      rw [o] at h
      cases c with
      | nx ρ' => exact fun σ' F' H' b' => h2 _ _ _ _ _ _ _ _ _ _ b' h
      | rt d => exact h
      | ro xs => exact h
      | bk ρ' => exact h
      | ct ρ' => exact h
    | exc x ρ' S1 => rw [o] at h; exact h
    | bad => rw [o] at h; exact h.elim)
def mIfS (φc : Ph Bool) (φt φu : Ph Ctl) : Ph Ctl := fun ρ S => (φc ρ S).bind fun c S1 => if c = true then φt ρ S1 else φu ρ S1
theorem st_if (hc : BT W tc φc) (h1 : ST W t φt) (h2 : ST W u φu) : ST W (tIfS tc t u) (mIfS φc φt φu) := fun F0 H0 st hb F H S ρ σ Dn b h =>
  hc _ _ _ _ _ _ _ _ _ _ b (GW.stmt h fun c S1 v F1 H1 b1 e1 r1 h1' => by
    cases (show c = v from r1)
    cases c
    · exact iteF (h2 _ _ _ _ _ _ _ _ _ _ b1 h1')
    · exact iteT (h1 _ _ _ _ _ _ _ _ _ _ b1 h1'))
def mBreak : Ph Ctl := fun ρ S => .ok (.bk ρ) S
theorem st_break : ST W tBreak mBreak := fun F0 H0 st hb F H S ρ σ Dn b h => h σ F H b
def mCont : Ph Ctl := fun ρ S => .ok (.ct ρ) S
theorem st_cont : ST W tCont mCont := fun F0 H0 st hb F H S ρ σ Dn b h => h σ F H b
def mBad : Ph Ctl := fun _ _ => .bad
theorem st_never : ST W tNever mBad := fun F0 H0 st hb F H S ρ σ Dn b h => h
def mRet (φ : Ph D) : Ph Ctl := fun ρ S => (φ ρ S).bind fun d S1 => .ok (.rt d) S1
theorem st_ret (h : ET W te φ) : ST W (tRet te) (mRet φ) := fun F0 H0 st hb F H S ρ σ Dn b q =>
  h _ _ _ _ _ _ _ _ _ _ b (GW.stmt q fun d S1 v F1 H1 b1 e1 r1 q1 => q1 v F1 H1 b1.bare r1)
def mRetO (φ : Ph (List D)) : Ph Ctl := fun ρ S => (φ ρ S).bind fun xs S1 => .ok (.ro xs) S1
theorem st_retO (h : OT W te φo) : ST W (tRet te) (mRetO φo) := fun F0 H0 st hb F H S ρ σ Dn b q =>
  h _ _ _ _ _ _ _ _ _ _ b (GW.stmt q fun xs S1 v F1 H1 b1 e1 r1 q1 => by
    obtain ⟨p, vs, rfl, n, hp, fp, r⟩ := r1
    exact q1 p vs F1 H1 b1.bare hp fp (b.h0none n) r)
/-- return x, x a list of the def's own -/
def mRetV (i : Nat) : Ph Ctl := fun ρ S => match ρ[i]? with
  | some (.own xs) => .ok (.ro xs) S
  | _ => .bad
theorem st_retV (i : Nat) : ST W (tRet (tVar i)) (mRetV i) := fun F0 H0 st hb F H S ρ σ Dn b q => by
  unfold mRetV at q
  cases e : ρ[i]? with
  | none => rw [e] at q; exact q.elim
  | some l =>
    rw [e] at q
    cases l with
    | own xs =>
      obtain ⟨p, vs, e1, hp, fp, h0, r⟩ := b.loc i _ e
      exact ⟨.ref p, e1, q p vs F H b.bare hp fp h0 r⟩
    | un => exact q.elim
    | d x => exact q.elim
    | st => exact q.elim
/-- x = e, data -/
def mSet (i : Nat) (φ : Ph D) : Ph Ctl := fun ρ S => (φ ρ S).bind fun d S1 => .ok (.nx (ρ.set i (.d d))) S1
theorem st_set (i : Nat) (h : ET W te φ) : ST W (tAsg te (gName i)) (mSet i φ) := fun F0 H0 st hb F H S ρ σ Dn b q =>
  h _ _ _ _ _ _ _ _ _ _ b (GW.stmt q fun d S1 v F1 H1 b1 e1 r1 q1 => q1 _ F1 H1 (b1.set r1))
/-- x = e, a new list -/
def mSetO (i : Nat) (φ : Ph (List D)) : Ph Ctl := fun ρ S => (φ ρ S).bind fun xs S1 => .ok (.nx (ρ.set i (.own xs))) S1
theorem st_setO (i : Nat) (h : OT W te φo) : ST W (tAsg te (gName i)) (mSetO i φo) := fun F0 H0 st hb F H S ρ σ Dn b q =>
  h _ _ _ _ _ _ _ _ _ _ b (GW.stmt q fun xs S1 v F1 H1 b1 e1 r1 q1 => by
    obtain ⟨p, vs, rfl, n, hp, fp, r⟩ := r1
    exact q1 _ F1 H1 (b1.setOwn hp fp (b.h0none n) r fun j ys _ z => b.noOwn n j ys z))
/-- the names of a block: set from a list of data -/
def setsL : List Nat → List D → List L → List L
  | i :: is, d :: ds, ρ => setsL is ds (ρ.set i (.d d))
  | _, _, ρ => ρ
def gNames : List Nat → TGs
  | [] => gNil
  | i :: is => gCons (gName i) (gNames is)
theorem gnames_ok {F0 H0 F H : Hp} {st : Addr} {hb : Bool} {S : Sto} : ∀ (is : List Nat) {ds : List D} {vs : List V} {ρ : List L} {σ : L2.St} {Q : L2.St → Hp → Prop}, Bd F0 H0 st hb F H S ρ σ → Reps F ds vs → ds.length = is.length →
    (∀ σ', Bd F0 H0 st hb F H S (setsL is ds ρ) σ' → Q σ' H) → gNames is vs σ H Q
  | [], [], vs, ρ, σ, Q, b, r, _, q => ⟨reps_nil.mp r, q σ b⟩
  | [], d :: ds, vs, ρ, σ, Q, b, r, l, q => by simp at l
  | i :: is, [], vs, ρ, σ, Q, b, r, l, q => by simp at l
  | i :: is, d :: ds, vs, ρ, σ, Q, b, r, l, q => by
    obtain ⟨v, rs, e, h1, h2⟩ := reps_cons.mp r
    exact ⟨v, rs, e, gnames_ok is (b.set h1) h2 (by simpa using l) q⟩
/-- a, b = e -/
def mSets (is : List Nat) (φ : Ph D) : Ph Ctl := fun ρ S => (φ ρ S).bind fun d S1 => match d with
  | .tup ds => if ds.length = is.length then .ok (.nx (setsL is ds ρ)) S1 else .bad
  | _ => .bad
theorem st_sets {K : PySem.W.Frag} (is : List Nat) {n : Nat} (hn : n = is.length) (h : ET W te φ) : ST W (tAsg te (gTup K n (gNames is))) (mSets is φ) := fun F0 H0 st hb F H S ρ σ Dn b q =>
  h _ _ _ _ _ _ _ _ _ _ b (GW.stmt q fun d S1 v F1 H1 b1 e1 r1 q1 => by
    cases d <;> try exact q1.elim
    rename_i ds
    simp only [RD, Rep] at r1
    obtain ⟨a, xs, e, f, r⟩ := r1
    by_cases c : ds.length = is.length
    · simp only [if_pos c] at q1
      refine ⟨a, xs, e, f.sq b1.sub, by rw [r.length, c, hn], gnames_ok is b1 r c fun σ' b' => q1 σ' F1 H1 b'⟩
    · simp only [if_neg c] at q1
      exact q1.elim)
/-- e as a statement -/
def mDrop (φ : Ph D) : Ph Ctl := fun ρ S => (φ ρ S).bind fun _ S1 => .ok (.nx ρ) S1
theorem st_drop (h : ET W te φ) : ST W (tDrop te) (mDrop φ) := fun F0 H0 st hb F H S ρ σ Dn b q =>
  h _ _ _ _ _ _ _ _ _ _ b (GW.stmt q fun d S1 v F1 H1 b1 e1 r1 q1 => q1 σ F1 H1 b1)
/-- a list of the def's own becomes data, ahead of a block -/
def frzL (i : Nat) (ρ : List L) : List L := match ρ[i]? with
  | some (.own xs) => ρ.set i (.d (.lst xs))
  | _ => ρ
theorem Bd.frzL {F0 H0 F H : Hp} {st : Addr} {hb : Bool} {S : Sto} {ρ : List L} {σ : L2.St} (b : Bd F0 H0 st hb F H S ρ σ) (i : Nat) : ∃ F', Sub F F' ∧ Bd F0 H0 st hb F' H S (frzL i ρ) σ := by
  unfold DL.frzL
  split
  · rename_i xs e
    obtain ⟨p, vs, e1, hp, fp, h0, r⟩ := b.loc i _ e
    -- first forget the name, then freeze, then tell it
    have hi : i < σ.length := by
      cases Nat.lt_or_ge i σ.length with
      | inl h => exact h
      | inr h => rw [List.getElem?_eq_none h] at e1; cases e1
    have es : σ.set i (some (.ref p)) = σ := by
      apply List.ext_getElem?
      intro j
      rw [List.getElem?_set]
      by_cases z : i = j
      · subst z; rw [if_pos rfl, if_pos hi, e1]
      · rw [if_neg z]
    have b0 : Bd F0 H0 st hb F H S (ρ.set i .un) (σ.set i (some (.ref p))) := b.wipe
    have nw : ∀ (j : Nat) (ys : List D), (ρ.set i .un)[j]? = some (.own ys) → (σ.set i (some (V.ref p)))[j]? ≠ some (some (.ref p)) := fun j ys h1 h2 => by
      rw [List.getElem?_set] at h1
      by_cases z : i = j
      · rw [if_pos z] at h1; split at h1 <;> cases h1
      · rw [if_neg z] at h1
        rw [List.getElem?_set, if_neg z] at h2
        exact b.dis i j p xs ys z e h1 e1 h2
    have b1 := b0.frz hp fp h0 nw
    have b2 := b1.set (i := i) (rep_lst r fp)
    rw [List.set_set, List.set_set, es] at b2
    exact ⟨_, fun a u h => by rw [upd_ne (ne_of_none h fp)]; exact h, b2⟩
  · exact ⟨F, Sub.refl _, b⟩
def mGh (i : Nat) (φ : Ph Ctl) : Ph Ctl := fun ρ S => φ (frzL i ρ) S
theorem st_gh (i : Nat) (h : ST W t φt) : ST W t (mGh i φt) := fun F0 H0 st hb F H S ρ σ Dn b q => by
  obtain ⟨F', _, b'⟩ := b.frzL i
  exact h _ _ _ _ _ _ _ _ _ _ b' q
end
/-! ### loops -/
def YD (F : Hp) (ds : List D) : Nat → Hp → V → Hp → Prop := fun i H x H' =>
  (H' = H ∧ ∃ d, ds[i]? = some d ∧ Rep F d x) ∨ ∃ T xs es, x = .ref T ∧ H T = none ∧ H' = upd H T (.tup xs) ∧ ds[i]? = some (.pr es) ∧ Reps F es xs
def RI (ds : List D) (F : Hp) (J : It) : Prop := Walk J ds.length (fun H => Sub F H) (YD F ds)
def RIt : RR (List D) It := fun _ _ F' _ ds J => RI ds F' J
abbrev IT (W : WX) (wi : TI) (φ : Ph (List D)) : Prop := GT RIt W wi φ
theorem rm_i : RM RIt := fun _ _ _ _ _ _ _ _ h => h
/-- an item has come -/
theorem YD.go {F0 H0 F2 H2 H3 F : Hp} {st : Addr} {hb : Bool} {S : Sto} {ρ : List L} {σ : L2.St} {ds : List D} {i : Nat} {x : V} (y : YD F ds i H2 x H3) (s : Sub F F2) (b : Bd F0 H0 st hb F2 H2 S ρ σ) :
    ∃ d F3, ds[i]? = some d ∧ Bd F0 H0 st hb F3 H3 S ρ σ ∧ Ext st hb F2 H2 F3 H3 ∧ Rep F3 d x := by
  rcases y with ⟨rfl, d, e, r⟩ | ⟨T, xs, es, rfl, n, rfl, e, r⟩
  · exact ⟨d, F2, e, b, Ext.refl, Rep.mono s d x r⟩
  · exact ⟨.pr es, _, e, b.lay n, (Ext.lay b.sub n).1, rep_pr (Reps.mono s _ _ r) (b.sub.none n)⟩
/-- how an item is given to the names of a target -/
inductive Tgt where
  | one (i : Nat) | many (is : List Nat)
def Tgt.put (g : Tgt) (d : D) (ρ : List L) : Option (List L) := match g with
  | .one i => some (ρ.set i (.d d))
  | .many is => match d with
    | .tup ds => if ds.length = is.length then some (setsL is ds ρ) else none
    | .pr ds => if ds.length = is.length then some (setsL is ds ρ) else none
    | _ => none
def TgtT (K : PySem.W.Frag) (g : Tgt) : TG := match g with
  | .one i => gName i
  | .many is => gTup K is.length (gNames is)
theorem tgt_ok {K : PySem.W.Frag} {F0 H0 F H : Hp} {st : Addr} {hb : Bool} {S : Sto} {ρ ρ' : List L} {σ : L2.St} {g : Tgt} {d : D} {v : V} {Q : L2.St → Hp → Prop} (b : Bd F0 H0 st hb F H S ρ σ) (r : Rep F d v) (e : g.put d ρ = some ρ')
    (q : ∀ σ', Bd F0 H0 st hb F H S ρ' σ' → Q σ' H) : TgtT K g v σ H Q := by
  cases g with
  | one i => simp only [Tgt.put] at e; cases e; exact q _ (b.set r)
  | many is =>
    cases d <;> simp only [Tgt.put] at e <;> try cases e
    all_goals
      rename_i ds
      simp only [Rep] at r
      obtain ⟨a, xs, e1, f, r'⟩ := r
      have f' : SqT K H a xs := by first | exact f.sq b.sub | exact SqT.of (b.sub _ _ f)
      by_cases c : ds.length = is.length
      · rw [if_pos c] at e; cases e
        exact ⟨a, xs, e1, f', by rw [r'.length, c], gnames_ok is b r' c q⟩
      · rw [if_neg c] at e; cases e
/-- the ground may be taken later -/
theorem Bd.up {F0 H0 F H : Hp} {st : Addr} {hb : Bool} {S : Sto} {ρ : List L} {σ : L2.St} (b : Bd F0 H0 st hb F H S ρ σ) : Bd F H0 st hb F H S ρ σ :=
  ⟨b.sub, ⟨Sub.refl _, b.ext.keep, fun a h _ => h⟩, b.sto, b.st0, b.loc, b.dis, b.len⟩
theorem Bd.down {F0 H0 F1 H1 F H : Hp} {st : Addr} {hb : Bool} {S S1 : Sto} {ρ ρ1 : List L} {σ σ1 : L2.St} (b1 : Bd F0 H0 st hb F1 H1 S1 ρ1 σ1) (b : Bd F1 H0 st hb F H S ρ σ) : Bd F0 H0 st hb F H S ρ σ :=
  ⟨b.sub, ⟨b1.ext.ff.trans b.ext.ff, b.ext.keep, fun a h n => b.ext.new a (b1.ext.new a h n) n⟩, b.sto, b.st0, b.loc, b.dis, b.len⟩
theorem SW.up {W : WX} {F0 H0 F1 H1 : Hp} {st : Addr} {hb : Bool} {S1 : Sto} {ρ1 : List L} {σ1 : L2.St} {o : Out Ctl} {Dn : Ends} (b1 : Bd F0 H0 st hb F1 H1 S1 ρ1 σ1) (h : SW W F0 H0 st hb o Dn) : SW W F1 H0 st hb o Dn := by
  cases o with
  | ok c S =>
    cases c with
    | nx ρ => exact fun σ' F' H' b => h σ' F' H' (b1.down b)
    | bk ρ => exact fun σ' F' H' b => h σ' F' H' (b1.down b)
    | ct ρ => exact fun σ' F' H' b => h σ' F' H' (b1.down b)
    | rt d => exact fun v F' H' b => h v F' H' (b1.down b)
    | ro xs => exact fun p vs F' H' b => h p vs F' H' (b1.down b)
  | exc x ρ S => exact fun cls dx σ' F' H' b => h cls dx σ' F' H' (b1.down b)
  | bad => exact h
def forD (g : Tgt) (φ : Ph Ctl) : List D → Ph Ctl
  | [], ρ, S => .ok (.nx ρ) S
  | d :: ds, ρ, S => match g.put d ρ with
    | none => .bad
    | some ρ1 => match φ ρ1 S with
      | .ok (.nx ρ2) S2 => forD g φ ds ρ2 S2
      | .ok (.ct ρ2) S2 => forD g φ ds ρ2 S2
      | .ok (.bk ρ2) S2 => .ok (.nx ρ2) S2
      | o => o
def mFor (g : Tgt) (φi : Ph (List D)) (φ : Ph Ctl) : Ph Ctl := fun ρ S => (φi ρ S).bind fun ds S1 => forD g φ ds ρ S1
theorem st_for {W : WX} {K : PySem.W.Frag} {wi : TI} {tb : TS} {φi : Ph (List D)} {φ : Ph Ctl} (g : Tgt) (hi : IT W wi φi) (hb' : ST W tb φ) : ST W (tFor wi (TgtT K g) tb) (mFor g φi φ) := fun F0 H0 st hb F H S ρ σ Dn b q =>
  hi _ _ _ _ _ _ _ _ _ _ b (GW.stmt q fun ds S1 J F1 H1 b1 e1 r1 q1 => by
    have w : Walk J ds.length (fun H => Sub F1 H) (YD F1 ds) := r1
    refine for_it w (fun i σ H => ∃ F2 S2 ρ2, Bd F1 H0 st hb F2 H S2 ρ2 σ ∧ SW W F1 H0 st hb (forD g φ (ds.drop i) ρ2 S2) Dn) ⟨F1, S1, ρ, b1.up, q1.up b1⟩ ?_ ?_ ?_
    · rintro i σ H _ ⟨F2, S2, ρ2, b2, _⟩
      exact b2.ext.ff.trans b2.sub
    · rintro i x σ2 H2 H3 hi ⟨F2, S2, ρ2, b2, q2⟩ y
      obtain ⟨d, F3, e, b3, e3, r3⟩ := y.go b2.ext.ff b2
      have ed : ds.drop i = d :: ds.drop (i + 1) := by
        rw [List.getElem?_eq_some_iff] at e
        obtain ⟨h1, h2⟩ := e
        rw [← h2]
        exact List.drop_eq_getElem_cons h1
      rw [ed] at q2
      simp only [forD] at q2
      cases p : g.put d ρ2 with
      | none => rw [p] at q2; exact q2.elim
      | some ρ3 =>
        rw [p] at q2
        refine tgt_ok b3 r3 p fun σ' b4 => hb' _ _ _ _ _ _ _ _ _ _ b4 ?_
        simp only at q2
        cases o : φ ρ3 S2 with
        | ok c S4 =>
          rw [o] at q2
          cases c with
          | nx ρ5 => exact fun σ5 F5 H5 b5 => ⟨F5, S4, ρ5, b5, q2⟩
          | ct ρ5 => exact fun σ5 F5 H5 b5 => ⟨F5, S4, ρ5, b5, q2⟩
          | bk ρ5 => exact q2
          | rt d => exact q2
          | ro xs => exact q2
        | exc x ρ5 S4 => rw [o] at q2; exact q2
        | bad => rw [o] at q2; exact q2
    · rintro σ2 H2 ⟨F2, S2, ρ2, b2, q2⟩
      rw [List.drop_length] at q2
      exact q2 σ2 F2 H2 b2)
end DL

set_option Elab.async false
set_option linter.all false
set_option maxRecDepth 100000
set_option maxHeartbeats 4000000
set_option autoImplicit false
namespace DL
open PySem PySem.Spec L2

/-! ### comprehensions -/
def wipeL (ρ : List L) : List Nat → List L
  | [] => ρ
  | v :: vs => (wipeL ρ vs).set v .un
theorem Bd.wipes {F0 H0 F H : Hp} {st : Addr} {hb : Bool} {S : Sto} {ρ : List L} {σ : L2.St} (b : Bd F0 H0 st hb F H S ρ σ) : ∀ vs : List Nat, Bd F0 H0 st hb F H S (wipeL ρ vs) (L2.wipe σ vs)
  | [] => b
  | v :: vs => (b.wipes vs).wipe
theorem wipe_get {σ : L2.St} : ∀ (vs : List Nat) (j : Nat), (wipe σ vs)[j]? = if j ∈ vs then (if j < σ.length then some none else none) else σ[j]?
  | [], j => by simp [wipe]
  | v :: vs, j => by
    rw [wipe, List.getElem?_set, wipe_length, wipe_get vs j]
    by_cases e : v = j
    · subst e; simp
    · have e' : ¬ j = v := fun z => e z.symm
      rw [if_neg e]
      simp [e']
theorem wipe_same {σ τ : L2.St} {vs : List Nat} (hl : τ.length = σ.length) (h : ∀ j, j ∉ vs → τ[j]? = σ[j]?) : wipe τ vs = wipe σ vs := by
  apply List.ext_getElem?
  intro j
  rw [wipe_get, wipe_get, hl]
  by_cases e : j ∈ vs
  · rw [if_pos e, if_pos e]
  · rw [if_neg e, if_neg e, h j e]
/-- where a target stores -/
def Tgt.names : Tgt → List Nat
  | .one i => [i]
  | .many is => is
theorem gnames_len {F : Hp} {H : Hp} : ∀ (is : List Nat) {ds : List D} {vs : List V} {σ : L2.St} {Q : L2.St → Hp → Prop}, Reps F ds vs → ds.length = is.length →
    (∀ σ', σ'.length = σ.length → (∀ j, j ∉ is → σ'[j]? = σ[j]?) → gNames is vs σ H (fun τ _ => τ = σ') → Q σ' H) → gNames is vs σ H Q
  | [], [], vs, σ, Q, r, _, q => ⟨reps_nil.mp r, q σ rfl (fun _ _ => rfl) ⟨reps_nil.mp r, rfl⟩⟩
  | [], d :: ds, vs, σ, Q, r, l, q => by simp at l
  | i :: is, [], vs, σ, Q, r, l, q => by simp at l
  | i :: is, d :: ds, vs, σ, Q, r, l, q => by
    obtain ⟨v, rs, e, h1, h2⟩ := reps_cons.mp r
    refine ⟨v, rs, e, gnames_len is h2 (by simpa using l) fun σ' hl hn g => q σ' (by rw [hl, List.length_set]) (fun j hj => ?_) ⟨v, rs, e, g⟩⟩
    have h1 : j ∉ is := fun z => hj (List.mem_cons_of_mem _ z)
    have h2 : i ≠ j := fun z => hj (by rw [z]; exact List.mem_cons_self)
    rw [hn j h1, List.getElem?_set, if_neg h2]
/-- the target's store, with what it leaves -/
theorem tgt_ok2 {K : PySem.W.Frag} {F0 H0 F H : Hp} {st : Addr} {hb : Bool} {S : Sto} {ρ ρ' : List L} {σ : L2.St} {g : Tgt} {d : D} {v : V} {Q : L2.St → Hp → Prop} (b : Bd F0 H0 st hb F H S ρ σ) (r : Rep F d v) (e : g.put d ρ = some ρ')
    (q : ∀ σ', Bd F0 H0 st hb F H S ρ' σ' → σ'.length = σ.length → (∀ j, j ∉ g.names → σ'[j]? = σ[j]?) → Q σ' H) : TgtT K g v σ H Q := by
  cases g with
  | one i =>
    simp only [Tgt.put] at e; cases e
    refine q _ (b.set r) (by rw [List.length_set]) fun j hj => ?_
    have h2 : i ≠ j := fun z => hj (by rw [z]; exact List.mem_singleton.mpr rfl)
    rw [List.getElem?_set, if_neg h2]
  | many is =>
    cases d <;> simp only [Tgt.put] at e <;> try cases e
    all_goals
      rename_i ds
      simp only [Rep] at r
      obtain ⟨a, xs, e1, f, r'⟩ := r
      have f' : SqT K H a xs := by first | exact f.sq b.sub | exact SqT.of (b.sub _ _ f)
      by_cases c : ds.length = is.length
      · rw [if_pos c] at e; cases e
        refine ⟨a, xs, e1, f', by rw [r'.length, c], ?_⟩
        refine gnames_len is r' c fun σ' hl hn g => ?_
        have bd : Bd F0 H0 st hb F H S (setsL is ds ρ) σ' := by
          have z := gnames_ok (Q := fun τ _ => Bd F0 H0 st hb F H S (setsL is ds ρ) τ) is b r' c fun σ'' b'' => b''
          -- both tell the one state
          have key : ∀ (is : List Nat) (vs : List V) (σ : L2.St) (P P' : L2.St → Hp → Prop), gNames is vs σ H P → gNames is vs σ H P' → gNames is vs σ H (fun τ h => P τ h ∧ P' τ h) := by
            intro is
            induction is with
            | nil => intro vs σ P P' h h'; exact ⟨h.1, h.2, h'.2⟩
            | cons i is ih =>
              intro vs σ P P' h h'
              obtain ⟨v, rs, e, h1⟩ := h
              obtain ⟨v', rs', e', h1'⟩ := h'
              rw [e] at e'
              cases e'
              exact ⟨v, rs, e, ih _ _ _ _ h1 h1'⟩
          have k2 := key _ _ _ _ _ z g
          have key2 : ∀ (is : List Nat) (vs : List V) (σ : L2.St) (P : L2.St → Hp → Prop), gNames is vs σ H P → ∃ τ h, P τ h := by
            intro is
            induction is with
            | nil => intro vs σ P h; exact ⟨_, _, h.2⟩
            | cons i is ih =>
              intro vs σ P h
              obtain ⟨v, rs, e, h1⟩ := h
              exact ih _ _ _ h1
          obtain ⟨τ, h, bτ, rfl⟩ := key2 _ _ _ _ k2
          exact bτ
        exact q σ' bd hl hn
      · rw [if_neg c] at e; cases e
def noX {α : Type} (o : Out α) : Out α := match o with
  | .exc _ _ _ => .bad
  | o => o
abbrev W0 : WX := fun _ _ _ _ => False
def compD (g : Tgt) (φt : Ph Bool) (φe : Ph D) : List D → List L → Sto → Out (List D)
  | [], _, S => .ok [] S
  | d :: ds, ρ, S => match g.put d ρ with
    | none => .bad
    | some ρ1 => (noX (φt ρ1 S)).bind fun c S1 => if c = true then (noX (φe ρ1 S1)).bind fun x S2 => (compD g φt φe ds ρ S2).bind fun xs S3 => .ok (x :: xs) S3 else compD g φt φe ds ρ S1
def mLc (g : Tgt) (vs : List Nat) (φi : Ph (List D)) (φt : Ph Bool) (φe : Ph D) : Ph (List D) := fun ρ S => (φi ρ S).bind fun ds S1 => if line ds.length = true then compD g φt φe ds (wipeL ρ vs) S1 else .bad
def mYes : Ph Bool := fun _ S => .ok true S
theorem bt_yes {W : WX} : BT W tYes mYes := fun F0 H0 st hb F H S ρ σ Q b h => h true F H b Ext.refl rfl
section
variable {F0 H0 F H F1 H1 : Hp} {st : Addr} {hb : Bool} {S : Sto} {ρ : List L} {σ : L2.St}
theorem Ext.updN (e : Ext st hb F1 H1 F H) {p : Addr} {o : HO} (n : H1 p = none) : Ext st hb F1 H1 F (upd H p o) :=
  ⟨e.ff, fun a u h k => by rw [upd_ne (ne_of_none h n)]; exact e.keep a u h k, e.new⟩
theorem Bd.updN (b : Bd F0 H0 st hb F H S ρ σ) {p : Addr} {o : HO} (n : H0 p = none) (fp : F p = none) (nw : ∀ (j : Nat) (ys : List D), ρ[j]? = some (.own ys) → σ[j]? ≠ some (some (.ref p))) : Bd F0 H0 st hb F (upd H p o) S ρ σ where
  sub := fun a u h => by rw [upd_ne (ne_of_none h fp)]; exact b.sub a u h
  ext := b.ext.updN n
  sto := fun h => by
    obtain ⟨f, o, h1, h2⟩ := b.sto h
    exact ⟨f, o, by rw [upd_ne (fun z => b.st0 h (by rw [z]; exact n))]; exact h1, h2⟩
  st0 := b.st0
  loc := fun i l h => by
    have q := b.loc i l h
    cases l with
    | un => trivial
    | d x => exact q
    | own xs =>
      obtain ⟨p', vs, e1, e2, e3, e4, r⟩ := q
      have ne : p' ≠ p := fun z => by subst z; exact nw i xs h e1
      exact ⟨p', vs, e1, by rw [upd_ne ne]; exact e2, e3, e4, r⟩
    | st => exact q
  dis := b.dis
  len := b.len
end
theorem noX_bind {α β γ : Type} {o : Out α} {k : α → Sto → Out β} {R : RR γ (γ)} : True := trivial
/-- an expression of a comprehension's block: it raises nothing -/
theorem GW.noX {α β γ δ : Type} {R : RR α β} {R2 : RR γ δ} {W : WX} {F0 H0 F H Fb Hb' : Hp} {st : Addr} {hb : Bool} {ρ ρ2 : List L} {σ σ2 : L2.St} {o : Out α} {k : α → Sto → Out γ} {Q : δ → Hp → Prop} {Q1 : β → Hp → Prop}
    (h : GW R2 W F0 H0 st hb Fb Hb' ρ2 σ2 ((DL.noX o).bind k) Q)
    (hk : ∀ a S1 b F1 H1, Bd F H0 st hb F1 H1 S1 ρ σ → Ext st hb F H F1 H1 → R st H F1 H1 a b → GW R2 W F0 H0 st hb Fb Hb' ρ2 σ2 (k a S1) Q → Q1 b H1) : GW R DL.W0 F H0 st hb F H ρ σ o Q1 := by
  cases o with
  | ok a S1 => exact fun v F2 H2 b2 e2 r => hk a S1 v F2 H2 b2 e2 r h
  | exc x ρ' S1 => exact h.elim
  | bad => exact h.elim
theorem ot_lc {W : WX} {K : PySem.W.Frag} {wi : TI} {tt : TT} {te : TE} {φi : Ph (List D)} {φt : Ph Bool} {φe : Ph D} (g : Tgt) (vs : List Nat) (hgv : ∀ i ∈ g.names, i ∈ vs) (hi : IT W wi φi) (ht : BT W0 tt φt) (he : ET W0 te φe) :
    OT W (tLc wi (TgtT K g) tt te vs) (mLc g vs φi φt φe) := fun F0 H0 st hb F H S ρ σ Q b q =>
  hi _ _ _ _ _ _ _ _ _ _ b (GW.bind rm_o q fun ds S1 J F1 H1 b1 e1 r1 q1 D hD => by
    have w : Walk J ds.length (fun H => Sub F1 H) (YD F1 ds) := r1
    by_cases hz : line ds.length = true
    · rw [if_pos hz] at q1
      have hz' : ds.length ≤ 1000 := of_decide_eq_true hz
      have h0D : H0 D = none := b1.h0none hD
      have f1D : F1 D = none := b1.sub.none hD
      have nwD : ∀ (j : Nat) (ys : List DL.D), ρ[j]? = some (.own ys) → σ[j]? ≠ some (some (.ref D)) := fun j ys h => b1.noOwn hD j ys h
      refine lc_it w (fun i H2 => ∃ F2 S2 acc accD, Bd F1 H0 st hb F2 H2 S2 ρ σ ∧ Ext st hb F1 H1 F2 H2 ∧ H2 D = some (.lst acc) ∧ F2 D = none ∧ Reps F2 accD acc ∧ accD.length ≤ i ∧
          GW RO W F0 H0 st hb F1 H1 ρ σ ((compD g φt φe (ds.drop i) (wipeL ρ vs) S2).bind fun xs S3 => .ok (accD ++ xs) S3) Q)
        ⟨F1, S1, [], [], b1.up.updN h0D f1D nwD, Ext.refl.updN hD, upd_same, f1D, reps_nil.mpr rfl, Nat.le_refl _, ?_⟩ ?_ ?_ ?_
      · rw [List.drop_zero]
        cases o : compD g φt φe ds (wipeL ρ vs) S1 with
        | ok xs S3 => rw [o] at q1; exact q1
        | exc x ρ' S3 => rw [o] at q1; exact q1
        | bad => rw [o] at q1; exact q1
      · rintro i H2 _ ⟨F2, S2, acc, accD, b2, e2, _⟩
        exact e2.ff.trans b2.sub
      · rintro i x H2 H3 hi ⟨F2, S2, acc, accD, b2, e2, hH, fD, ra, hl, q2⟩ y
        obtain ⟨d, F3, ed, b3, e3, r3⟩ := y.go e2.ff b2
        have hD3 : H3 D = some (.lst acc) := e3.keep D _ hH fun h z => by subst z; exact b2.st0 h h0D
        have fD3 : F3 D = none := e3.new D fD (by rw [hH]; exact nofun)
        have edr : ds.drop i = d :: ds.drop (i + 1) := by
          rw [List.getElem?_eq_some_iff] at ed
          obtain ⟨h1, h2⟩ := ed
          rw [← h2]
          exact List.drop_eq_getElem_cons h1
        rw [edr] at q2
        simp only [compD] at q2
        cases p : g.put d (wipeL ρ vs) with
        | none => rw [p] at q2; exact q2.elim
        | some ρ3 =>
          rw [p] at q2
          simp only at q2
          refine tgt_ok2 (b3.wipes vs) r3 p fun σ' b4 hlen hnm => ⟨?_, ?_⟩
          · refine wipe_same (by rw [hlen, wipe_length]) fun j hj => ?_
            rw [hnm j fun z => hj (hgv j z), wipe_get, if_neg hj]
          · have b4' := b4.up
            -- the test
            refine ht _ _ _ _ _ _ _ _ _ _ b4' ?_
            have asc : ∀ {α β : Type} (o : Out α) (k : α → Sto → Out (List DL.D)) (l : List DL.D → Sto → Out (List DL.D)), (o.bind k).bind l = o.bind fun a S => (k a S).bind l := fun o k l => by cases o <;> rfl
            rw [asc (β := Nat)] at q2
            refine GW.noX q2 fun c S5 c' F5 H5 b5 e5 rc q3 => ?_
            cases (show c = c' from rc)
            have ex5 : Ext st hb F1 H1 F5 H5 := (e2.trans e3 b2.stH).trans e5 b3.stH
            have hD5 : H5 D = some (.lst acc) := e5.keep D _ hD3 fun h z => by subst z; exact b2.st0 h h0D
            have fD5 : F5 D = none := e5.new D fD3 (by rw [hD3]; exact nofun)
            have bρ5 : Bd F1 H0 st hb F5 H5 S5 ρ σ := b3.go (S' := S5) e5 b5.sub b5.sto
            have ra5 : Reps F5 accD acc := Reps.mono (e3.ff.trans e5.ff) _ _ ra
            cases c
            · refine iteF ?_
              rw [if_neg Bool.false_ne_true] at q3
              exact ⟨F5, S5, acc, accD, bρ5, ex5, hD5, fD5, ra5, by omega, q3⟩
            · refine iteT ?_
              rw [if_pos rfl, asc (β := Nat)] at q3
              refine he _ _ _ _ _ _ _ _ _ _ (b5.up) ?_
              refine GW.noX q3 fun z S6 u F6 H6 b6 e6 rz q4 => ?_
              have hD6 : H6 D = some (.lst acc) := e6.keep D _ hD5 fun h z => by subst z; exact b2.st0 h h0D
              have fD6 : F6 D = none := e6.new D fD5 (by rw [hD5]; exact nofun)
              have ra6 : Reps F6 accD acc := Reps.mono e6.ff _ _ ra5
              refine ⟨acc, hD6, ?_, F6, S6, acc ++ [u], accD ++ [z], (bρ5.go (S' := S6) e6 b6.sub b6.sto).updN h0D fD6 nwD, ((ex5.trans e6 b5.stH)).updN hD, upd_same, fD6, ra6.append (Reps.one rz), ?_, ?_⟩
              · rw [ra6.length]; exact small1000 (by omega)
              · rw [List.length_append]; simp only [List.length_cons, List.length_nil]; omega
              · rw [asc (β := Nat)] at q4
                have e : ∀ (o : Out (List DL.D)), (o.bind fun a S => ((Out.ok (z :: a) S : Out (List DL.D)).bind fun xs S3 => Out.ok (accD ++ xs) S3)) = o.bind fun xs S3 => .ok (accD ++ [z] ++ xs) S3 := fun o => by
                  cases o
                  · simp [Out.bind]
                  · rfl
                  · rfl
                rw [e] at q4
                exact q4
      · rintro H2 ⟨F2, S2, acc, accD, b2, e2, hH, fD, ra, hl, q2⟩
        rw [List.drop_length] at q2
        simp only [compD, Out.bind, List.append_nil] at q2
        exact q2 (.ref D) F2 H2 (b1.down b2) e2 ⟨D, acc, rfl, hD, hH, fD, ra⟩
    · rw [if_neg hz] at q1; exact q1.elim)
end DL

set_option Elab.async false
set_option linter.all false
set_option maxRecDepth 100000
set_option maxHeartbeats 4000000
set_option autoImplicit false
namespace DL
open PySem PySem.Spec L2

/-! ### what is walked -/
theorem pi_seq {X : Cx} {tg l : Expr} {tl : TE} (hl : PE X l tl) : PI X tg l (fun σ H R => iList X.K tl σ H R ∨ iTup X.K tl σ H R) :=
  ⟨fun pins s σ H R I h => h.elim (fun h => (pi_list hl).run pins s σ H R I h) (fun h => (pi_tup hl).run pins s σ H R I h)⟩
section
variable {W : WX} {K : PySem.W.Frag} {tl ta : TE} {φ φa : Ph D} {tr : TA} {φl : Ph (List D)}
def seqOf (d : D) (S : Sto) : Out (List D) := match d with
  | .lst ds => .ok ds S
  | .tup ds => .ok ds S
  | _ => .bad
def mSeqI (φ : Ph D) : Ph (List D) := fun ρ S => (φ ρ S).bind seqOf
theorem walk_seqL {F : Hp} {a : Addr} {xs : List V} {ds : List D} (f : F a = some (.lst xs)) (r : Reps F ds xs) : RI ds F (Itl K a) := by
  have w : Walk (Itl K a) xs.length (fun H => SqL K H a xs) (YAt xs) := walk_list
  rw [r.length] at w
  refine w.mono (fun H s => SqL.of (s _ _ f)) fun i H x H' hi s y => .inl ⟨y.1, ?_⟩
  exact r.get' y.2
theorem walk_seqT {F : Hp} {a : Addr} {xs : List V} {ds : List D} (f : TupAt F a xs) (r : Reps F ds xs) : RI ds F (Itt K a) := by
  have w : Walk (Itt K a) xs.length (fun H => SqT K H a xs) (YAt xs) := walk_tup
  rw [r.length] at w
  refine w.mono (fun H s => f.sq s) fun i H x H' hi s y => .inl ⟨y.1, ?_⟩
  exact r.get' y.2
theorem it_seq (h : ET W tl φ) : IT W (fun σ H R => iList K tl σ H R ∨ iTup K tl σ H R) (mSeqI φ) := fun F0 H0 st hb F H S ρ σ Q b q => by
  unfold mSeqI at q
  cases o : φ ρ S with
  | ok d S1 =>
    rw [o] at q
    cases d <;> try exact q.elim
    · rename_i ds
      refine .inr (h _ _ _ _ _ _ _ _ _ _ b ?_)
      rw [o]
      intro v F1 H1 b1 e1 r1
      simp only [RD, Rep] at r1
      obtain ⟨a, xs, e, f, r⟩ := r1
      exact ⟨a, e, ⟨xs, f.sq b1.sub⟩, q _ F1 H1 b1 e1 (walk_seqT f r)⟩
    · rename_i ds
      refine .inl (h _ _ _ _ _ _ _ _ _ _ b ?_)
      rw [o]
      intro v F1 H1 b1 e1 r1
      simp only [RD, Rep] at r1
      obtain ⟨a, xs, e, f, r⟩ := r1
      exact ⟨a, e, ⟨xs, SqL.of (b1.sub _ _ f)⟩, q _ F1 H1 b1 e1 (walk_seqL f r)⟩
  | exc x ρ' S1 =>
    rw [o] at q
    refine .inl (h _ _ _ _ _ _ _ _ _ _ b ?_)
    rw [o]; exact q
  | bad => rw [o] at q; exact q.elim
def rangeD (lo : Int) (n : Nat) : List D := (List.range n).map fun k => .int (lo + (k : Nat))
theorem rangeD_len (lo : Int) (n : Nat) : (rangeD lo n).length = n := by simp [rangeD]
theorem walk_rangeD {F : Hp} (lo : Int) (n : Nat) : RI (rangeD lo n) F (Itr lo n) := by
  have w : Walk (Itr lo n) n (fun _ => True) (YFn fun i => .int (lo + i)) := walk_range
  unfold RI
  rw [rangeD_len]
  refine w.mono (fun H s => trivial) fun i H x H' hi s y => .inl ⟨y.1, .int (lo + (i : Nat)), ?_, ?_⟩
  · simp [rangeD, hi]
  · rw [y.2]; exact rep_int _
def okR (i : Int) : Bool := decide (-(2 ^ 62) ≤ i) && decide (i < 2 ^ 62)
theorem okR_of {i : Int} (h : okR i = true) : -(2 ^ 62) ≤ i ∧ i < 2 ^ 62 := by
  simp only [okR, Bool.and_eq_true, decide_eq_true_eq] at h; exact h
def mRange1 (φl : Ph (List D)) : Ph (List D) := fun ρ S => (φl ρ S).bind fun ds S1 => match ds with
  | [.int j] => if okR j = true then .ok (rangeD 0 j.toNat) S1 else .bad
  | _ => .bad
theorem it_range1 (hl : AT W tr φl) : IT W (iRng1 tr) (mRange1 φl) := fun F0 H0 st hs F H S ρ σ Q b h =>
  hl _ _ _ _ _ _ _ _ _ _ b (GW.bind rm_i h fun ds S1 vs F1 H1 b1 e1 r1 h1 => by
    rcases ds with _ | ⟨d, ds⟩
    · exact h1.elim
    · rcases ds with _ | ⟨d2, ds⟩
      · cases d <;> try exact h1.elim
        rename_i j
        simp only at h1
        by_cases c : okR j = true
        · rw [if_pos c] at h1
          obtain ⟨v, rs, e, h2, h3⟩ := reps_cons.mp r1
          simp only [Rep] at h2
          rw [h2, reps_nil.mp h3] at e
          exact ⟨j, e, (okR_of c).1, (okR_of c).2, h1 _ F1 H1 b1 Ext.refl (walk_rangeD 0 _)⟩
        · rw [if_neg c] at h1; exact h1.elim
      · cases d <;> exact h1.elim)
def enumD (ds : List D) : List D := ds.zipIdx.map fun p => .pr [.int (p.2 : Nat), p.1]
theorem enumD_get (ds : List D) (i : Nat) : (enumD ds)[i]? = ds[i]?.map fun d => .pr [.int (i : Nat), d] := by
  unfold enumD
  rw [List.getElem?_map, List.getElem?_zipIdx, Option.map_map]
  cases ds[i]? <;> simp
theorem enumD_len (ds : List D) : (enumD ds).length = ds.length := by simp [enumD]
def mEnum (φl : Ph (List D)) : Ph (List D) := fun ρ S => (φl ρ S).bind fun ds S1 => match ds with
  | [.lst xs] => .ok (enumD xs) S1
  | _ => .bad
theorem walk_enumD {F : Hp} {a : Addr} {xs : List V} {ds : List D} (f : F a = some (.lst xs)) (r : Reps F ds xs) : RI (enumD ds) F (Ite K a) := by
  have w : Walk (Ite K a) xs.length (fun H => SqL K H a xs) (YPair (fun i => some (.int (i : Nat))) (fun i => xs[i]?)) := walk_enum
  unfold RI
  rw [enumD_len]
  rw [r.length] at w
  refine w.mono (fun H s => SqL.of (s _ _ f)) fun i H x H' hi s y => ?_
  obtain ⟨T, x1, x2, e, n, eH, e1, e2⟩ := y
  cases e1
  obtain ⟨d, ed, rd⟩ := r.get' e2
  refine .inr ⟨T, _, [.int (i : Nat), d], e, n, eH, by rw [enumD_get, ed]; rfl, ?_⟩
  exact reps_cons.mpr ⟨_, _, rfl, rep_int _, Reps.one rd⟩
theorem it_enum (hl : AT W tr φl) : IT W (iEnum K tr) (mEnum φl) := fun F0 H0 st hs F H S ρ σ Q b h =>
  hl _ _ _ _ _ _ _ _ _ _ b (GW.bind rm_i h fun ds S1 vs F1 H1 b1 e1 r1 h1 => by
    rcases ds with _ | ⟨d, ds⟩
    · exact h1.elim
    · rcases ds with _ | ⟨d2, ds⟩
      · cases d <;> try exact h1.elim
        rename_i xs
        obtain ⟨v, rs, e, h2, h3⟩ := reps_cons.mp r1
        simp only [Rep] at h2
        obtain ⟨a, ys, e2, f, r⟩ := h2
        rw [e2, reps_nil.mp h3] at e
        exact ⟨a, ys, e, SqL.of (b1.sub _ _ f), h1 _ F1 H1 b1 Ext.refl (walk_enumD f r)⟩
      · cases d <;> exact h1.elim)

/-! ### built-ins -/
def pureC (g : List D → Option D) : List D → Sto → Out D := fun ds S => match g ds with
  | some d => .ok d S
  | none => .bad
theorem oc_pure {r : List V → Hp → VK → Prop} {g : List D → Option D} (hr : ∀ (F H : Hp) (Q : VK) (ds : List D) (d : D) (vs : List V), Sub F H → Reps F ds vs → g ds = some d → (∀ v, Rep F d v → Q v H) → r vs H Q) : OC W r (pureC g) :=
  fun F0 H0 st hb F H S ρ σ Q ds vs b r1 h => by
    unfold pureC at h
    cases e : g ds with
    | none => rw [e] at h; exact h.elim
    | some d => rw [e] at h; exact hr F H Q ds d vs b.sub r1 e fun v rv => h v F H b Ext.refl rv
theorem reps1 {F : Hp} {d : D} {vs : List V} (r : Reps F [d] vs) : ∃ v, vs = [v] ∧ Rep F d v := by
  obtain ⟨v, rs, e, h2, h3⟩ := reps_cons.mp r
  exact ⟨v, by rw [e, reps_nil.mp h3], h2⟩
theorem reps2 {F : Hp} {d e : D} {vs : List V} (r : Reps F [d, e] vs) : ∃ v u, vs = [v, u] ∧ Rep F d v ∧ Rep F e u := by
  obtain ⟨v, rs, e1, h2, h3⟩ := reps_cons.mp r
  obtain ⟨u, e2, h4⟩ := reps1 h3
  exact ⟨v, u, by rw [e1, e2], h2, h4⟩
def lenC : List D → Option D
  | [.str y] => if line y.length = true then some (.int y.length) else none
  | [.tup ds] => some (.int ds.length)
  | [.lst ds] => some (.int ds.length)
  | _ => none
theorem c_len : OC W (fun xs H Q => ∃ x n, xs = [x] ∧ LenV K x H n ∧ Q (.int n) H) (pureC lenC) := oc_pure fun F H Q ds d vs s r e q => by
  rcases ds with _ | ⟨d1, _ | ⟨d2, ds⟩⟩
  · cases e
  · obtain ⟨v, ev, rv⟩ := reps1 r
    cases d1 <;> simp only [lenC] at e <;> try cases e
    · rename_i y
      by_cases c : line y.length = true
      · rw [if_pos c] at e; cases e
        simp only [Rep] at rv
        exact ⟨v, y.length, ev, by rw [rv]; exact ⟨line_ok c, rfl⟩, q _ (rep_int _)⟩
      · rw [if_neg c] at e; cases e
    · rename_i ds
      simp only [Rep] at rv
      obtain ⟨a, xs, e2, f, r2⟩ := rv
      exact ⟨v, ds.length, ev, by rw [e2]; exact .inr ⟨xs, f.sq s, r2.length.symm⟩, q _ (rep_int _)⟩
    · rename_i ds
      simp only [Rep] at rv
      obtain ⟨a, xs, e2, f, r2⟩ := rv
      exact ⟨v, ds.length, ev, by rw [e2]; exact .inl ⟨xs, SqL.of (s _ _ f), r2.length.symm⟩, q _ (rep_int _)⟩
  · cases d1 <;> cases e
def intC : List D → Option D
  | [.int i] => some (.int i)
  | [.bl k] => some (.int (if k then 1 else 0))
  | _ => none
theorem c_int : OC W (fun xs H Q => (∃ i, xs = [.int i] ∧ Q (.int i) H) ∨ ∃ k, xs = [.bl k] ∧ Q (.int (if k then 1 else 0)) H) (pureC intC) := oc_pure fun F H Q ds d vs s r e q => by
  rcases ds with _ | ⟨d1, _ | ⟨d2, ds⟩⟩
  · cases e
  · obtain ⟨v, ev, rv⟩ := reps1 r
    cases d1 <;> simp only [intC] at e <;> cases e
    · simp only [Rep] at rv
      exact .inr ⟨_, by rw [ev, rv], q _ (rep_int _)⟩
    · simp only [Rep] at rv
      exact .inl ⟨_, by rw [ev, rv], q _ (rep_int _)⟩
  · cases d1 <;> cases e
def absC : List D → Option D
  | [.int i] => some (.int (if i < 0 then -i else i))
  | _ => none
theorem c_abs : OC W (fun xs H Q => ∃ i, xs = [.int i] ∧ Q (.int (if i < 0 then -i else i)) H) (pureC absC) := oc_pure fun F H Q ds d vs s r e q => by
  rcases ds with _ | ⟨d1, _ | ⟨d2, ds⟩⟩
  · cases e
  · obtain ⟨v, ev, rv⟩ := reps1 r
    cases d1 <;> simp only [absC] at e <;> cases e
    simp only [Rep] at rv
    exact ⟨_, by rw [ev, rv], q _ (rep_int _)⟩
  · cases d1 <;> cases e
def maxC : List D → Option D
  | [.int i, .int j] => some (.int (if j > i then j else i))
  | _ => none
def minC : List D → Option D
  | [.int i, .int j] => some (.int (if j < i then j else i))
  | _ => none
theorem c_max : OC W (fun xs H Q => ∃ i j, xs = [.int i, .int j] ∧ Q (.int (if j > i then j else i)) H) (pureC maxC) := oc_pure fun F H Q ds d vs s r e q => by
  rcases ds with _ | ⟨d1, _ | ⟨d2, _ | ⟨d3, ds⟩⟩⟩
  · cases e
  · cases d1 <;> cases e
  · obtain ⟨v, u, ev, rv, ru⟩ := reps2 r
    cases d1 <;> try (cases e; done)
    cases d2 <;> simp only [maxC] at e <;> cases e
    simp only [Rep] at rv ru
    exact ⟨_, _, by rw [ev, rv, ru], q _ (rep_int _)⟩
  · cases d1 <;> cases d2 <;> cases e
theorem c_min : OC W (fun xs H Q => ∃ i j, xs = [.int i, .int j] ∧ Q (.int (if j < i then j else i)) H) (pureC minC) := oc_pure fun F H Q ds d vs s r e q => by
  rcases ds with _ | ⟨d1, _ | ⟨d2, _ | ⟨d3, ds⟩⟩⟩
  · cases e
  · cases d1 <;> cases e
  · obtain ⟨v, u, ev, rv, ru⟩ := reps2 r
    cases d1 <;> try (cases e; done)
    cases d2 <;> simp only [minC] at e <;> cases e
    simp only [Rep] at rv ru
    exact ⟨_, _, by rw [ev, rv, ru], q _ (rep_int _)⟩
  · cases d1 <;> cases d2 <;> cases e
/-- the ints of a list of data -/
def intsOf : List D → Option (List Int)
  | [] => some []
  | .int i :: ds => (intsOf ds).map fun is => i :: is
  | _ => none
theorem intsOf_eq : ∀ {ds : List D} {is : List Int}, intsOf ds = some is → ds = is.map D.int
  | [], is, h => by cases h; rfl
  | d :: ds, is, h => by
    cases d <;> try (simp only [intsOf] at h; cases h; done)
    simp only [intsOf] at h
    cases e : intsOf ds with
    | none => rw [e] at h; cases h
    | some js => rw [e] at h; cases h; rw [intsOf_eq e]; rfl
theorem intsOf_map (is : List Int) : intsOf (is.map D.int) = some is := by
  induction is with
  | nil => rfl
  | cons i is ih => simp [intsOf, ih]
def sumC : List D → Option D
  | [.lst ds] => (intsOf ds).map fun is => .int is.sum
  | _ => none
theorem c_sum : OC W (rSum K) (pureC sumC) := oc_pure fun F H Q ds d vs s r e q => by
  rcases ds with _ | ⟨d1, _ | ⟨d2, ds⟩⟩
  · cases e
  · obtain ⟨v, ev, rv⟩ := reps1 r
    cases d1 <;> simp only [sumC] at e <;> try cases e
    rename_i ds
    cases ei : intsOf ds with
    | none => rw [ei] at e; cases e
    | some is =>
      rw [ei] at e; cases e
      simp only [Rep] at rv
      obtain ⟨a, xs, e2, f, r2⟩ := rv
      rw [intsOf_eq ei] at r2
      rw [Reps.ints.mp r2] at f
      exact ⟨a, is, by rw [ev, e2], SqL.of (s _ _ f), q _ (rep_int _)⟩
  · cases d1 <;> cases e
/-- tuple(xs) -/
def gTuple (ds : List D) (S : Sto) : Out D := match ds with
  | [.lst xs] => .ok (.tup xs) S
  | [.tup xs] => .ok (.tup xs) S
  | _ => .bad
theorem c_tuple : OC W (rTupF K) gTuple :=
  fun F0 H0 st hb F H S ρ σ Q ds vs b r h => by
    rcases ds with _ | ⟨d1, _ | ⟨d2, ds⟩⟩
    · exact h.elim
    · obtain ⟨v, ev, rv⟩ := reps1 r
      cases d1 <;> try exact h.elim
      · rename_i xs
        have rv' := rv
        simp only [Rep] at rv
        obtain ⟨a, ys, e2, f, r2⟩ := rv
        refine ⟨a, ys, by rw [ev, e2], .inr ⟨f.sq b.sub, ?_⟩⟩
        rw [e2] at rv'
        exact h _ F H b Ext.refl rv'
      · rename_i xs
        simp only [Rep] at rv
        obtain ⟨a, ys, e2, f, r2⟩ := rv
        exact ⟨a, ys, by rw [ev, e2], .inl ⟨SqL.of (b.sub _ _ f), fun p o hd hp => h _ _ _ (b.lay hp) (Ext.lay b.sub hp).1 (rep_tup r2 (b.sub.none hp) hd)⟩⟩
    · cases d1 <;> exact h.elim
/-- list(xs) -/
def gList (ds : List D) (S : Sto) : Out (List D) := match ds with
  | [.lst xs] => .ok xs S
  | [.tup xs] => .ok xs S
  | _ => .bad
theorem c_list : OCo W (fun xs H Q => ∃ p ys, xs = [.ref p] ∧ (SqL K H p ys ∨ SqT K H p ys) ∧ ∀ l, H l = none → Q (.ref l) (upd H l (.lst ys))) gList :=
  fun F0 H0 st hb F H S ρ σ Q ds vs b r h => by
    rcases ds with _ | ⟨d1, _ | ⟨d2, ds⟩⟩
    · exact h.elim
    · obtain ⟨v, ev, rv⟩ := reps1 r
      cases d1 <;> try exact h.elim
      · rename_i xs
        simp only [Rep] at rv
        obtain ⟨a, ys, e2, f, r2⟩ := rv
        exact ⟨a, ys, by rw [ev, e2], .inr (f.sq b.sub), fun p hp => h _ _ _ (b.lay0 hp) (Ext.lay0 b.sub hp).1 ⟨p, ys, rfl, hp, upd_same, b.sub.none hp, r2⟩⟩
      · rename_i xs
        simp only [Rep] at rv
        obtain ⟨a, ys, e2, f, r2⟩ := rv
        exact ⟨a, ys, by rw [ev, e2], .inl (SqL.of (b.sub _ _ f)), fun p hp => h _ _ _ (b.lay0 hp) (Ext.lay0 b.sub hp).1 ⟨p, ys, rfl, hp, upd_same, b.sub.none hp, r2⟩⟩
    · cases d1 <;> exact h.elim
/-- sorted(xs) of ints -/
def sortI (is : List Int) : List Int := is.mergeSort fun a b => decide (a ≤ b)
/-- isinstance(x, T), T built in -/
def tyN : D → Option String
  | .non => some "NoneType"
  | .bl _ => some "bool"
  | .int _ => some "int"
  | .str _ => some "str"
  | .tup _ => some "tuple"
  | .lst _ => some "list"
  | .obj _ _ _ => none
  | .pr _ => none
theorem tyN_ok {F H : Hp} {d : D} {v : V} {n : String} (s : Sub F H) (r : Rep F d v) (e : tyN d = some n) : TyX K H v (.type n) := by
  cases d <;> simp only [tyN] at e <;> cases e <;> simp only [Rep] at r
  · rw [r]; exact .base .non
  · rw [r]; exact .base (.bl _)
  · rw [r]; exact .base (.int _)
  · rw [r]; exact .base (.str _)
  · obtain ⟨a, xs, e, f, _⟩ := r; rw [e]; exact .fTuple (s _ _ f.choose_spec.2)
  · obtain ⟨a, xs, e, f, _⟩ := r; rw [e]; exact .base (.lst (s _ _ f))
def isiD (T : String) (d : D) : Option D := (tyN d).bind fun n => (kitB n T).map D.bl
def gIsi (T : String) (d : D) (S : Sto) : Out D := match isiD T d with
  | some x => .ok x S
  | none => .bad
theorem et_isi (T : String) (ha : ET W ta φa) : ET W (tCB (rIsi K) (tCons ta (tCons (tC (.ty T)) tNil))) (m1 (gIsi T) φa) := fun F0 H0 st hs F H S ρ σ Q b h =>
  ha _ _ _ _ _ _ _ _ _ _ b (GW.bind rm_d h fun x S1 v F1 H1 b1 e1 r1 h1 => by
    unfold gIsi at h1
    cases ed : isiD T x with
    | none => rw [ed] at h1; exact h1.elim
    | some y =>
      rw [ed] at h1
      unfold isiD at ed
      cases en : tyN x with
      | none => rw [en] at ed; cases ed
      | some n =>
        rw [en] at ed
        cases ek : kitB n T with
        | none => simp [ek] at ed
        | some k =>
          simp [ek] at ed
          cases ed
          exact ⟨v, .ty T, .type n, .type T, k, rfl, .ty T, (tyN_ok b1.sub r1 en), kit_ty ek, h1 _ F1 H1 b1 Ext.refl (rep_bl _)⟩)
end
end DL

set_option Elab.async false
set_option linter.all false
set_option maxRecDepth 100000
set_option maxHeartbeats 4000000
set_option autoImplicit false
namespace DL
open PySem PySem.Spec L2

section
variable {W : WX} {K : PySem.W.Frag} {ta te ti : TE} {φ φa φi φe : Ph D} {tr : TA} {φl : Ph (List D)}
/-! ### lists of the def's own -/
def ownAt (ρ : List L) (i : Nat) : Option (List D) := match ρ[i]? with
  | some (.own xs) => some xs
  | _ => none
theorem ownAt_of {ρ : List L} {i : Nat} {xs : List D} (h : ownAt ρ i = some xs) : ρ[i]? = some (.own xs) := by
  unfold ownAt at h
  split at h
  · rename_i ys e; cases h; exact e
  · cases h
theorem set_self {σ : L2.St} {i : Nat} {x : Option V} (h : σ[i]? = some x) : σ.set i x = σ := by
  have hi : i < σ.length := (List.getElem?_eq_some_iff.mp h).1
  apply List.ext_getElem?
  intro j
  rw [List.getElem?_set]
  by_cases z : i = j
  · subst z; rw [if_pos rfl, if_pos hi, h]
  · rw [if_neg z]
/-- the list at a name is written -/
theorem Bd.write {F0 H0 F H : Hp} {st : Addr} {hb : Bool} {S : Sto} {ρ : List L} {σ : L2.St} (b : Bd F0 H0 st hb F H S ρ σ) {i : Nat} {xs ys : List D} {p : Addr} {vs us : List V} (h : ρ[i]? = some (.own xs)) (hs : σ[i]? = some (some (.ref p)))
    (fp : F p = none) (h0 : H0 p = none) (r : Reps F ys us) : Bd F0 H0 st hb F (upd H p (.lst us)) S (ρ.set i (.own ys)) σ := by
  have nw : ∀ (j : Nat) (zs : List D), (ρ.set i .un)[j]? = some (.own zs) → (σ.set i (some (V.ref p)))[j]? ≠ some (some (.ref p)) := fun j zs h1 h2 => by
    rw [List.getElem?_set] at h1
    by_cases z : i = j
    · rw [if_pos z] at h1; split at h1 <;> cases h1
    · rw [if_neg z] at h1
      rw [List.getElem?_set, if_neg z] at h2
      exact b.dis i j p xs zs z h h1 hs h2
  have b0 : Bd F0 H0 st hb F H S (ρ.set i .un) (σ.set i (some (.ref p))) := b.wipe
  have b1 := b0.updN (o := .lst us) h0 fp nw
  have b2 := b1.setOwn (i := i) (xs := ys) upd_same fp h0 r (fun j zs n h1 h2 => nw j zs h1 h2)
  rw [List.set_set, List.set_set, set_self hs] at b2
  exact b2
/-- len(x) -/
def mLenO (i : Nat) : Ph D := fun ρ S => match ownAt ρ i with
  | some xs => .ok (.int xs.length) S
  | none => .bad
theorem et_lenO (i : Nat) : ET W (tCB (fun xs H Q => ∃ x n, xs = [x] ∧ LenV K x H n ∧ Q (.int n) H) (tCons (tVar i) tNil)) (mLenO i) := fun F0 H0 st hs F H S ρ σ Q b h => by
  unfold mLenO at h
  cases e : ownAt ρ i with
  | none => rw [e] at h; exact h.elim
  | some xs =>
    rw [e] at h
    obtain ⟨p, vs, e1, hp, fp, h0, r⟩ := b.loc i _ (ownAt_of e)
    exact ⟨.ref p, e1, .ref p, xs.length, rfl, .inl ⟨vs, SqL.of hp, r.length.symm⟩, h _ F H b Ext.refl (rep_int _)⟩
/-- x[e] -/
def mIxO (i : Nat) (φi : Ph D) : Ph D := fun ρ S => match ownAt ρ i with
  | none => .bad
  | some xs => (φi ρ S).bind fun k S1 => match k with
    | .int j => (match atI xs j with
      | some d => .ok d S1
      | none => .bad)
    | _ => .bad
theorem et_ixO (i : Nat) (hi : ET W ti φi) : ET W (tOp (rIx K) (tVar i) ti) (mIxO i φi) := fun F0 H0 st hs F H S ρ σ Q b h => by
  unfold mIxO at h
  cases e : ownAt ρ i with
  | none => rw [e] at h; exact h.elim
  | some xs =>
    rw [e] at h
    obtain ⟨p, vs, e1, hp, fp, h0, r⟩ := b.loc i _ (ownAt_of e)
    refine ⟨.ref p, e1, hi _ _ _ _ _ _ _ _ _ _ b (GW.bind rm_d h fun k S1 v F1 H1 b1 e2 r1 h1 => ?_)⟩
    cases k <;> try exact h1.elim
    rename_i j
    simp only at h1
    cases ea : atI xs j with
    | none => rw [ea] at h1; exact h1.elim
    | some d =>
      rw [ea] at h1
      obtain ⟨p', vs', e1', hp', fp', h0', r'⟩ := b1.loc i _ (ownAt_of e)
      rw [e1] at e1'
      cases e1'
      obtain ⟨x, ex, rx⟩ := r'.atI ea
      simp only [RD, Rep] at r1
      exact .inl ⟨p, vs', j, x, rfl, r1, SqL.of hp', ex, h1 _ F1 H1 b1 Ext.refl rx⟩
/-- x.append(e) -/
def mApp (i : Nat) (φe : Ph D) : Ph Ctl := fun ρ S => match ownAt ρ i with
  | none => .bad
  | some xs => (φe ρ S).bind fun d S1 => if line xs.length = true then .ok (.nx (ρ.set i (.own (xs ++ [d])))) S1 else .bad
theorem st_app (i : Nat) (he : ET W te φe) : ST W (tDrop (tBM K "list" rAppend (tVar i) (tCons te tNil))) (mApp i φe) := fun F0 H0 st hs F H S ρ σ Dn b h => by
  unfold mApp at h
  cases e : ownAt ρ i with
  | none => rw [e] at h; exact h.elim
  | some xs =>
    rw [e] at h
    obtain ⟨p, vs, e1, hp, fp, h0, r⟩ := b.loc i _ (ownAt_of e)
    refine ⟨.ref p, e1, .inl ⟨rfl, vs, SqL.of hp⟩, he _ _ _ _ _ _ _ _ _ _ b (GW.stmt h fun d S1 v F1 H1 b1 e2 r1 h1 => ?_)⟩
    by_cases c : line xs.length = true
    · simp only [if_pos c] at h1
      obtain ⟨p', vs', e1', hp', fp', h0', r'⟩ := b1.loc i _ (ownAt_of e)
      rw [e1] at e1'
      cases e1'
      refine ⟨p, vs', v, rfl, rfl, hp', by rw [r'.length]; exact line_lt c, ?_⟩
      exact h1 _ F1 _ (b1.write (vs := vs') (ownAt_of e) e1 fp' h0' (r'.append (Reps.one r1)))
    · simp only [if_neg c] at h1; exact h1.elim
/-- x[i] = e -/
def mSetI (i : Nat) (φe φi : Ph D) : Ph Ctl := fun ρ S => (φe ρ S).bind fun d S1 => match ownAt ρ i with
  | none => .bad
  | some xs => (φi ρ S1).bind fun k S2 => match k with
    | .int j => (match ixN xs.length j with
      | some n => .ok (.nx (ρ.set i (.own (xs.set n d)))) S2
      | none => .bad)
    | _ => .bad
theorem st_setI (i : Nat) (he : ET W te φe) (hi : ET W ti φi) : ST W (tAsg te (gSub (tVar i) ti rSetL)) (mSetI i φe φi) := fun F0 H0 st hs F H S ρ σ Dn b h =>
  he _ _ _ _ _ _ _ _ _ _ b (GW.stmt h fun d S1 v F1 H1 b1 e1 r1 h1 => by
    cases e : ownAt ρ i with
    | none => rw [e] at h1; exact h1.elim
    | some xs =>
      rw [e] at h1
      obtain ⟨p, vs, e2, hp, fp, h0, r⟩ := b1.loc i _ (ownAt_of e)
      refine ⟨.ref p, e2, hi _ _ _ _ _ _ _ _ _ _ b1 (GW.stmt h1 fun k S2 u F2 H2 b2 e3 r2 h2 => ?_)⟩
      cases k <;> try exact h2.elim
      rename_i j
      simp only at h2
      cases ei : ixN xs.length j with
      | none => rw [ei] at h2; exact h2.elim
      | some n =>
        rw [ei] at h2
        obtain ⟨p', vs', e1', hp', fp', h0', r'⟩ := b2.loc i _ (ownAt_of e)
        rw [e2] at e1'
        cases e1'
        simp only [RD, Rep] at r2
        refine ⟨p, vs', j, n, rfl, r2, hp', by rw [r'.length]; exact ei, ?_⟩
        exact h2 _ F2 _ (b2.write (vs := vs') (ownAt_of e) e2 fp' h0' (r'.set (Rep.mono e3.ff _ _ r1) n)))
/-- x.append(y.pop(e)) -/
def mAppPop (i k : Nat) (φe : Ph D) : Ph Ctl := fun ρ S => match ownAt ρ i, ownAt ρ k with
  | some xs, some ys => (φe ρ S).bind fun a S1 => match a with
    | .int j => (match seqIndex? j ys.length with
      | some n => (match ys[n]? with
        | some d => if line xs.length = true ∧ okR j = true ∧ i ≠ k then .ok (.nx ((ρ.set k (.own (ys.eraseIdx n))).set i (.own (xs ++ [d])))) S1 else .bad
        | none => .bad)
      | none => .bad)
    | _ => .bad
  | _, _ => .bad
theorem Reps.erase {F : Hp} : ∀ {ds : List D} {xs : List V} (n : Nat), Reps F ds xs → Reps F (ds.eraseIdx n) (xs.eraseIdx n)
  | [], xs, n, h => by rw [reps_nil.mp h]; simp [reps_nil]
  | d :: ds, xs, 0, h => by
    obtain ⟨x, r, e, _, h2⟩ := reps_cons.mp h
    rw [e]; exact h2
  | d :: ds, xs, n + 1, h => by
    obtain ⟨x, r, e, h1, h2⟩ := reps_cons.mp h
    rw [e]
    exact reps_cons.mpr ⟨x, _, rfl, h1, Reps.erase n h2⟩
theorem st_appPop (i k : Nat) (he : ET W te φe) : ST W (tDrop (tBM K "list" rAppend (tVar i) (tCons (tBM K "list" rPopAt (tVar k) (tCons te tNil)) tNil))) (mAppPop i k φe) := fun F0 H0 st hs F H S ρ σ Dn b h => by
  unfold mAppPop at h
  cases e : ownAt ρ i with
  | none => rw [e] at h; exact h.elim
  | some xs =>
    cases e' : ownAt ρ k with
    | none => rw [e, e'] at h; exact h.elim
    | some ys =>
      rw [e, e'] at h
      obtain ⟨p, vs, e1, hp, fp, h0, r⟩ := b.loc i _ (ownAt_of e)
      obtain ⟨q, us, g1, hq, fq, k0, s⟩ := b.loc k _ (ownAt_of e')
      refine ⟨.ref p, e1, .inl ⟨rfl, vs, SqL.of hp⟩, .ref q, g1, .inl ⟨rfl, us, SqL.of hq⟩, he _ _ _ _ _ _ _ _ _ _ b (GW.stmt h fun a S1 v F1 H1 b1 e2 r1 h1 => ?_)⟩
      cases a <;> try exact h1.elim
      rename_i j
      simp only at h1
      cases ej : seqIndex? j ys.length with
      | none => rw [ej] at h1; exact h1.elim
      | some n =>
        rw [ej] at h1
        simp only at h1
        cases ed : ys[n]? with
        | none => rw [ed] at h1; exact h1.elim
        | some d =>
          rw [ed] at h1
          simp only at h1
          by_cases c : line xs.length = true ∧ okR j = true ∧ i ≠ k
          · rw [if_pos c] at h1
            obtain ⟨c1, c2, c3⟩ := c
            obtain ⟨p', vs', e1', hp', fp', h0', r'⟩ := b1.loc i _ (ownAt_of e)
            rw [e1] at e1'
            cases e1'
            obtain ⟨q', us', g1', hq', fq', k0', s'⟩ := b1.loc k _ (ownAt_of e')
            rw [g1] at g1'
            cases g1'
            obtain ⟨x, ex, rx⟩ := s'.get ed
            simp only [RD, Rep] at r1
            have npq : p ≠ q := fun z => by subst z; exact b1.dis i k p xs ys c3 (ownAt_of e) (ownAt_of e') e1 g1
            have w1 := b1.write (vs := us') (ownAt_of e') g1 fq' k0' (s'.erase n)
            have e3 : (ρ.set k (.own (ys.eraseIdx n)))[i]? = some (.own xs) := by rw [List.getElem?_set, if_neg (fun z => c3 z.symm)]; exact ownAt_of e
            have w2 := w1.write (vs := vs') e3 e1 fp' h0' (r'.append (Reps.one rx))
            have ok := okR_of c2
            refine ⟨q, us', j, n, x, rfl, by rw [r1], hq', by omega, by omega, by rw [s'.length]; exact ej, ex, p, vs', x, rfl, rfl, by rw [upd_ne npq]; exact hp', by rw [r'.length]; exact line_lt c1, ?_⟩
            exact h1 _ F1 _ w2
          · rw [if_neg c] at h1; exact h1.elim
/-! ### slices of lists -/
def mSlO (φ : Ph D) (lo hi : Option Int) : Ph (List D) := fun ρ S => (φ ρ S).bind fun d S1 => match d with
  | .lst ds => .ok ((ds.drop (HT.sIx ds.length 0 lo)).take (HT.sIx ds.length ds.length hi - HT.sIx ds.length 0 lo)) S1
  | _ => .bad
/-! ### attributes -/
def getF (C : Addr) (f : Str) : D → Option D
  | .obj C' ns ds => if C' = C then (ns.zip ds).lookup f else none
  | _ => none
def gFld (C : Addr) (f : Str) (d : D) (S : Sto) : Out D := match getF C f d with
  | some x => .ok x S
  | none => .bad
theorem reps_lookup {F : Hp} {f : Str} {d : D} : ∀ {ns : List Str} {ds : List D} {xs : List V}, Reps F ds xs → (ns.zip ds).lookup f = some d → ∃ x, (ns.zip xs).lookup f = some x ∧ Rep F d x
  | [], ds, xs, r, h => by simp at h
  | n :: ns, [], xs, r, h => by simp at h
  | n :: ns, d' :: ds, xs, r, h => by
    obtain ⟨x, rs, e, h1, h2⟩ := reps_cons.mp r
    rw [e]
    simp only [List.zip_cons_cons, List.lookup] at h ⊢
    by_cases c : (f == n) = true
    · rw [c] at h ⊢
      cases h
      exact ⟨x, rfl, h1⟩
    · have c' : (f == n) = false := by simpa using c
      rw [c'] at h ⊢
      exact reps_lookup h2 h
theorem et_fld {C : Addr} {f : Str} (hc : Cls K C) (hn : NoAttr K C f) (ha : ET W ta φa) : ET W (tFld K ta f) (m1 (gFld C f) φa) := fun F0 H0 st hs F H S ρ σ Q b h =>
  ha _ _ _ _ _ _ _ _ _ _ b (GW.bind rm_d h fun d S1 v F1 H1 b1 e1 r1 h1 => by
    unfold gFld at h1
    cases e : getF C f d with
    | none => rw [e] at h1; exact h1.elim
    | some x =>
      rw [e] at h1
      cases d <;> try (simp only [getF] at e; cases e; done)
      rename_i C' ns ds
      simp only [getF] at e
      by_cases c : C' = C
      · subst c
        rw [if_pos rfl] at e
        simp only [RD, Rep] at r1
        obtain ⟨a, dx, xs, ev, fa, hl, rs⟩ := r1
        obtain ⟨y, ey, ry⟩ := reps_lookup rs e
        exact ⟨a, _, dx, _, y, ev, b1.sub _ _ fa, hc, hn, ey, h1 _ F1 H1 b1 Ext.refl ry⟩
      · rw [if_neg c] at e; cases e)

/-! ### what a def gives, as a function of data -/
inductive Res where
  | d (x : D) | own (xs : List D)
def Res.toD : Res → D
  | .d x => x
  | .own xs => .lst xs
abbrev Fn := List D → Sto → Out Res
def RW (st : Addr) (hb : Bool) (F H : Hp) (o : Out Res) (Q : VK) (E : XK) : Prop := match o with
  | .ok (.d d) S' => ∀ (v : V) (F' H' : Hp), Ext st hb F H F' H' → Sub F' H' → (hb = true → StoAt F' H' st S') → Rep F' d v → Q v H'
  | .ok (.own xs) S' => ∀ (p : Addr) (vs : List V) (F' H' : Hp), Ext st hb F H F' H' → Sub F' H' → (hb = true → StoAt F' H' st S') → H' p = some (.lst vs) → F' p = none → H p = none → Reps F' xs vs → Q (.ref p) H'
  | .exc x _ S' => ∀ (cls : Value) (dx : Option Addr) (F' H' : Hp), Ext st hb F H F' H' → Sub F' H' → (hb = true → StoAt F' H' st S') → XRep F' H' x cls dx → E cls dx H'
  | .bad => False
/-- n: the count of parameters, the store apart -/
def spD (hb : Bool) (n : Nat) (m : Fn) : Sp := fun vs H Q E => ∃ (F : Hp) (st : Addr) (S : Sto) (ds : List D) (vs' : List V), Sub F H ∧ vs = (if hb = true then [.ref st] else []) ++ vs' ∧ (hb = true → StoAt F H st S) ∧ ds.length = n ∧ Reps F ds vs' ∧ RW st hb F H (m ds S) Q E
theorem spD_len {hb : Bool} {n k : Nat} {m : Fn} (hk : k = (if hb = true then 1 else 0) + n) : ∀ vs H Q E, spD hb n m vs H Q E → vs.length = k := by
  rintro vs H Q E ⟨F, st, S, ds, vs', _, rfl, _, hl, r, _⟩
  rw [List.length_append, r.length, hl, hk]
  cases hb <;> rfl
def startL (hb : Bool) (n : Nat) (ds : List D) : List L := (if hb = true then [.st] else []) ++ ds.map .d ++ List.replicate n .un
/-- a body's outcome as a def's -/
def runD (hb : Bool) (n : Nat) (φ : Ph Ctl) : Fn := fun ds S => match φ (startL hb n ds) S with
  | .ok (.rt d) S' => .ok (.d d) S'
  | .ok (.ro xs) S' => .ok (.own xs) S'
  | .ok (.nx _) S' => .ok (.d .non) S'
  | .exc x _ S' => .exc x [] S'
  | _ => .bad
/-- THE RULE: a body that keeps φ makes a def that keeps runD φ. n: the names that are no parameters -/
theorem fn_ok {hb : Bool} {k n : Nat} {N : List Str} {t : TS} {φ : Ph Ctl} {vs : List V} {H : Hp} {Q : VK} {E : XK} (hN : N.length = (if hb = true then 1 else 0) + k + n) (ht : ST (fun cls d _ H => E cls d H) t φ) (h : spD hb k (runD hb n φ) vs H Q E) :
    t { nx := fun _ H' => Q .non H', rt := Q } (L2.start N vs) H := by
  obtain ⟨F, st, S, ds, vs', sub, rfl, sto, hl, r, h⟩ := h
  have hst : hb = true → H st ≠ none := fun e => by
    obtain ⟨_, ca, q, _⟩ := sto e
    rw [q]; exact nofun
  have es : L2.start N ((if hb = true then [V.ref st] else []) ++ vs') = (if hb = true then [some (V.ref st)] else []) ++ vs'.map some ++ List.replicate n none := by
    unfold L2.start
    rw [List.map_append, List.length_append, r.length, hl, hN]
    congr 1
    · cases hb <;> rfl
    · congr 1
      cases hb
      · show 0 + k + n - (0 + k) = n
        omega
      · show 1 + k + n - (1 + k) = n
        omega
  have b : Bd F H st hb F H S (startL hb n ds) (L2.start N ((if hb = true then [V.ref st] else []) ++ vs')) := by
    rw [es]
    refine ⟨sub, Ext.refl, sto, hst, ?_, ?_, ?_⟩
    · intro i l hi
      unfold startL at hi
      have key : ∀ (i : Nat) (l : L), (ds.map L.d ++ List.replicate n L.un)[i]? = some l → LocAt F H H st hb (vs'.map some ++ List.replicate n none)[i]? l := fun i l hi => by
        rw [List.getElem?_append] at hi
        rw [List.length_map] at hi
        by_cases c : i < ds.length
        · rw [if_pos c, List.getElem?_map] at hi
          cases e : ds[i]? with
          | none => rw [e] at hi; cases hi
          | some d =>
            rw [e] at hi
            cases hi
            obtain ⟨x, ex, rx⟩ := r.get e
            refine ⟨x, ?_, rx⟩
            rw [List.getElem?_append, List.length_map, r.length, if_pos c, List.getElem?_map, ex]; rfl
        · rw [if_neg c] at hi
          rw [List.getElem?_replicate] at hi
          split at hi
          · cases hi; trivial
          · cases hi
      cases hb with
      | false => exact key i l hi
      | true =>
        cases i with
        | zero => cases hi; exact ⟨rfl, rfl⟩
        | succ i => exact key i l hi
    · intro i j p xs ys n' h1 h2
      have no : ∀ (i : Nat) (xs : List D), (startL hb n ds)[i]? ≠ some (.own xs) := fun i xs h => by
        have m : L.own xs ∈ startL hb n ds := List.mem_of_getElem? h
        unfold startL at m
        simp only [List.mem_append, List.mem_map, List.mem_replicate] at m
        rcases m with (m | ⟨d, _, m⟩) | ⟨_, m⟩
        · cases hb
          · simp at m
          · simp at m
        · cases m
        · cases m
      exact absurd h1 (no i xs)
    · unfold startL
      simp only [List.length_append, List.length_map, List.length_replicate]
      rw [r.length]
      cases hb <;> rfl
  refine ht _ _ _ _ _ _ _ _ _ _ b ?_
  unfold runD at h
  cases o : φ (startL hb n ds) S with
  | ok c S' =>
    rw [o] at h
    cases c with
    | nx ρ' => exact fun σ' F' H' b' => h .non F' H' b'.ext b'.sub b'.sto (by simp [Rep])
    | rt d => exact fun v F' H' b' r' => h v F' H' b'.ext b'.sub b'.sto r'
    | ro xs => exact fun p vs F' H' b' e1 e2 e3 r' => h p vs F' H' b'.ext b'.sub b'.sto e1 e2 e3 r'
    | bk ρ' => exact h.elim
    | ct ρ' => exact h.elim
  | exc x ρ' S' =>
    rw [o] at h
    exact fun cls dx σ' F' H' b' xr => h cls dx F' H' b'.ext b'.sub b'.sto xr
  | bad => rw [o] at h; exact h.elim

/-! ### calls -/
def sto0 : Sto := ⟨[], 0, 0, 0, 0, 0, .law⟩
/-- of a def without the store -/
def mCall0 (m : Fn) (dds : List D) (φl : Ph (List D)) : Ph D := fun ρ S => (φl ρ S).bind fun ds S1 => match m (ds ++ dds) sto0 with
  | .ok r _ => .ok r.toD S1
  | .exc x _ _ => .exc x ρ S1
  | .bad => .bad
theorem Ext.of_no {st st' : Addr} {hb : Bool} {F H F' H' : Hp} (e : Ext st' false F H F' H') : Ext st hb F H F' H' := ⟨e.ff, fun a o h _ => e.keep a o h nofun, e.new⟩
theorem Bd.after0 {F0 H0 F H F' H' : Hp} {st st' : Addr} {hb : Bool} {S : Sto} {ρ : List L} {σ : L2.St} (b : Bd F0 H0 st hb F H S ρ σ) (e : Ext st' false F H F' H') (s : Sub F' H') : Bd F0 H0 st hb F' H' S ρ σ :=
  b.go e.of_no s fun h => (b.sto h).ext (fun a o q => e.keep a o q nofun) e.ff (e.new st (b.sto h).1 (b.stH h))
/-- a result that is a new list, taken as data -/
theorem frz_after {F0 H0 F H F' H' : Hp} {st : Addr} {hb : Bool} {S S' : Sto} {ρ : List L} {σ : L2.St} {p : Addr} {vs : List V} (b : Bd F0 H0 st hb F H S ρ σ) (e : Ext st hb F H F' H') (b' : Bd F0 H0 st hb F' H' S' ρ σ) (hp : H' p = some (.lst vs)) (fp : F' p = none) (n : H p = none) :
    Bd F0 H0 st hb (upd F' p (.lst vs)) H' S' ρ σ ∧ Ext st hb F H (upd F' p (.lst vs)) H' := by
  refine ⟨b'.frz hp fp (b.h0none n) (fun j ys z => b.noOwn n j ys z), fun a u w => ?_, e.keep, fun a w1 w2 => ?_⟩
  · have w' := e.ff a u w
    rw [upd_ne (ne_of_none w' fp)]; exact w'
  · by_cases z : a = p
    · subst z; exact absurd n w2
    · rw [upd_ne z]; exact e.new a w1 w2
/-- a list of arguments of a known length -/
def LN (φl : Ph (List D)) (n : Nat) : Prop := ∀ ρ S ds S1, φl ρ S = .ok ds S1 → ds.length = n
theorem ln_nil : LN mNil 0 := fun ρ S ds S1 h => by unfold mNil at h; cases h; rfl
theorem ln_cons {n : Nat} (h : LN φl n) : LN (mCons φa φl) (n + 1) := fun ρ S ds S1 e => by
  unfold mCons at e
  cases o : φa ρ S with
  | ok x S2 =>
    rw [o] at e
    simp only [Out.bind] at e
    cases o2 : φl ρ S2 with
    | ok xs S3 =>
      rw [o2] at e
      cases e
      rw [List.length_cons, h _ _ _ _ o2]
    | exc x ρ' S1 => rw [o2] at e; cases e
    | bad => rw [o2] at e; cases e
  | exc x ρ' S1 => rw [o] at e; cases e
  | bad => rw [o] at e; cases e
theorem et_call0 {n k : Nat} {m : Fn} {dvs : List V} (dds : List D) (hd : ∀ F, Reps F dds dvs) (hn : LN φl k) (hk : n = k + dds.length) (hl : AT W tr φl) : ET W (tCallSD (spD false n m) dvs (WE W) tr) (mCall0 m dds φl) := fun F0 H0 st hb F H S ρ σ Q b h =>
  hl _ _ _ _ _ _ _ _ _ _ b (by
    unfold mCall0 at h
    cases o : φl ρ S with
    | ok ds S1 =>
      rw [o] at h
      have hlen : (ds ++ dds).length = n := by rw [List.length_append, hn ρ S ds S1 o, hk]
      refine fun vs F1 H1 b1 e1 r1 => ⟨F1, 0, sto0, ds ++ dds, vs ++ dvs, b1.sub, by rfl, nofun, hlen, Reps.append r1 (hd _), ?_⟩
      simp only [Out.bind] at h
      cases om : m (ds ++ dds) sto0 with
      | ok rr S2 =>
        rw [om] at h
        cases rr with
        | d d => exact fun v F2 H2 e2 s2 _ r2 => h v F2 H2 (b1.after0 e2 s2) (e1.trans e2.of_no b1.stH) r2
        | own xs =>
          intro p us F2 H2 e2 s2 _ hp fp n2 r2
          have b2 := b1.after0 (st' := 0) e2 s2
          obtain ⟨b3, e3⟩ := frz_after b1 e2.of_no b2 hp fp n2
          exact h _ _ H2 b3 (e1.trans e3 b1.stH) (rep_lst r2 fp)
      | exc x ρ' S2 =>
        rw [om] at h
        exact fun cls dx F2 H2 e2 s2 _ xr => h cls dx F2 H2 (b1.after0 e2 s2) xr
      | bad => rw [om] at h; exact h.elim
    | exc x ρ' S1 => rw [o] at h; exact h
    | bad => rw [o] at h; exact h.elim)
/-- .. whose new list is kept -/
def mCall0O (m : Fn) (dds : List D) (φl : Ph (List D)) : Ph (List D) := fun ρ S => (φl ρ S).bind fun ds S1 => match m (ds ++ dds) sto0 with
  | .ok (.own xs) _ => .ok xs S1
  | .exc x _ _ => .exc x ρ S1
  | _ => .bad
theorem ot_call0 {n k : Nat} {m : Fn} {dvs : List V} (dds : List D) (hd : ∀ F, Reps F dds dvs) (hn : LN φl k) (hk : n = k + dds.length) (hl : AT W tr φl) : OT W (tCallSD (spD false n m) dvs (WE W) tr) (mCall0O m dds φl) := fun F0 H0 st hb F H S ρ σ Q b h =>
  hl _ _ _ _ _ _ _ _ _ _ b (by
    unfold mCall0O at h
    cases o : φl ρ S with
    | ok ds S1 =>
      rw [o] at h
      have hlen : (ds ++ dds).length = n := by rw [List.length_append, hn ρ S ds S1 o, hk]
      refine fun vs F1 H1 b1 e1 r1 => ⟨F1, 0, sto0, ds ++ dds, vs ++ dvs, b1.sub, by rfl, nofun, hlen, Reps.append r1 (hd _), ?_⟩
      simp only [Out.bind] at h
      cases om : m (ds ++ dds) sto0 with
      | ok rr S2 =>
        rw [om] at h
        cases rr with
        | d d => exact h.elim
        | own xs =>
          intro p us F2 H2 e2 s2 _ hp fp n2 r2
          exact h _ F2 H2 (b1.after0 (st' := 0) e2 s2) (e1.trans e2.of_no b1.stH) ⟨p, us, rfl, e1.nones b1.stH p n2, hp, fp, r2⟩
      | exc x ρ' S2 =>
        rw [om] at h
        exact fun cls dx F2 H2 e2 s2 _ xr => h cls dx F2 H2 (b1.after0 e2 s2) xr
      | bad => rw [om] at h; exact h.elim
    | exc x ρ' S1 => rw [o] at h; exact h
    | bad => rw [o] at h; exact h.elim)
/-- of a def with the store -/
def mCall1 (m : Fn) (i : Nat) (φl : Ph (List D)) : Ph D := fun ρ S => match ρ[i]? with
  | some .st => (φl ρ S).bind fun ds S1 => (match m ds S1 with
    | .ok r S2 => .ok r.toD S2
    | .exc x _ S2 => .exc x ρ S2
    | .bad => .bad)
  | _ => .bad
theorem Bd.after1 {F0 H0 F H F' H' : Hp} {st : Addr} {S S' : Sto} {ρ : List L} {σ : L2.St} (b : Bd F0 H0 st true F H S ρ σ) (e : Ext st true F H F' H') (s : Sub F' H') (t : true = true → StoAt F' H' st S') : Bd F0 H0 st true F' H' S' ρ σ := b.go e s t
theorem et_call1 {n : Nat} {m : Fn} (i : Nat) (hn : LN φl n) (hl : AT W tr φl) : ET W (tCallSD (spD true n m) [] (WE W) (tCons (tVar i) tr)) (mCall1 m i φl) := fun F0 H0 st hb F H S ρ σ Q b h => by
  unfold mCall1 at h
  cases q : ρ[i]? with
  | none => rw [q] at h; exact h.elim
  | some l =>
    rw [q] at h
    cases l with
    | un => exact h.elim
    | own xs => exact h.elim
    | d x => exact h.elim
    | st =>
      obtain ⟨hbt, e⟩ := b.loc i _ q
      subst hbt
      refine ⟨.ref st, e, hl _ _ _ _ _ _ _ _ _ _ b ?_⟩
      simp only at h
      cases o : φl ρ S with
      | ok ds S1 =>
        rw [o] at h
        intro vs F1 H1 b1 e1 r1
        refine ⟨F1, st, S1, ds, vs, b1.sub, by rw [List.append_nil]; rfl, b1.sto, hn ρ S ds S1 o, r1, ?_⟩
        simp only [Out.bind] at h
        cases om : m ds S1 with
        | ok rr S2 =>
          rw [om] at h
          cases rr with
          | d d => exact fun v F2 H2 e2 s2 t2 r2 => h v F2 H2 (b1.go e2 s2 t2) (e1.trans e2 b1.stH) r2
          | own xs =>
            intro p us F2 H2 e2 s2 t2 hp fp n2 r2
            obtain ⟨b3, e3⟩ := frz_after b1 e2 (b1.go (S' := S2) e2 s2 t2) hp fp n2
            exact h _ _ H2 b3 (e1.trans e3 b1.stH) (rep_lst r2 fp)
        | exc x ρ' S2 =>
          rw [om] at h
          exact fun cls dx F2 H2 e2 s2 t2 xr => h cls dx F2 H2 (b1.go e2 s2 t2) xr
        | bad => rw [om] at h; exact h.elim
      | exc x ρ' S1 => rw [o] at h; exact h
      | bad => rw [o] at h; exact h.elim
end
end DL

set_option Elab.async false
set_option linter.all false
set_option maxRecDepth 100000
set_option maxHeartbeats 4000000
set_option autoImplicit false
namespace DL
open PySem PySem.Spec L2

section
variable {W : WX} {K : PySem.W.Frag} {ta te ti tb : TE} {φ φa φb φi φe : Ph D} {tr : TA} {φl : Ph (List D)}
/-- tuple(x), x a list of the def's own -/
def mTupO (i : Nat) : Ph D := fun ρ S => match ownAt ρ i with
  | some xs => .ok (.tup xs) S
  | none => .bad
theorem et_tupO (i : Nat) : ET W (tCB (rTupF K) (tCons (tVar i) tNil)) (mTupO i) := fun F0 H0 st hs F H S ρ σ Q b h => by
  unfold mTupO at h
  cases e : ownAt ρ i with
  | none => rw [e] at h; exact h.elim
  | some xs =>
    rw [e] at h
    obtain ⟨p, vs, e1, hp, fp, h0, r⟩ := b.loc i _ (ownAt_of e)
    exact ⟨.ref p, e1, p, vs, rfl, .inl ⟨SqL.of hp, fun l o hd hl => h _ _ _ (b.lay hl) (Ext.lay b.sub hl).1 (rep_tup r (b.sub.none hl) hd)⟩⟩
/-- x[::-1], x a list of the def's own: a new list -/
def mRevO (i : Nat) : Ph (List D) := fun ρ S => match ownAt ρ i with
  | some xs => .ok xs.reverse S
  | none => .bad
theorem Reps.rev {F : Hp} {ds : List D} {xs : List V} (r : Reps F ds xs) : Reps F ds.reverse xs.reverse := by
  refine Reps.of_get (by rw [List.length_reverse, List.length_reverse, r.length]) fun i d x h1 h2 => ?_
  have hi : i < ds.length := by
    have z := (List.getElem?_eq_some_iff.mp h1).1
    rw [List.length_reverse] at z; exact z
  rw [List.getElem?_reverse hi] at h1
  rw [List.getElem?_reverse (by rw [r.length]; exact hi), r.length] at h2
  obtain ⟨y, hy, ry⟩ := r.get h1
  rw [h2] at hy; cases hy; exact ry
theorem ot_revO (i : Nat) : OT W (tRevL K (tVar i)) (mRevO i) := fun F0 H0 st hs F H S ρ σ Q b h => by
  unfold mRevO at h
  cases e : ownAt ρ i with
  | none => rw [e] at h; exact h.elim
  | some xs =>
    rw [e] at h
    obtain ⟨p, vs, e1, hp, fp, h0, r⟩ := b.loc i _ (ownAt_of e)
    exact ⟨.ref p, e1, p, vs, rfl, SqL.of hp, fun l hl => h _ _ _ (b.lay0 hl) (Ext.lay0 b.sub hl).1 ⟨l, _, rfl, hl, upd_same, b.sub.none hl, r.rev⟩⟩
/-- list(range(n)) -/
def mRangeL (φl : Ph (List D)) : Ph (List D) := fun ρ S => (φl ρ S).bind fun ds S1 => match ds with
  | [.int j] => if 0 ≤ j ∧ j ≤ 1000 then .ok (rangeD 0 j.toNat) S1 else .bad
  | _ => .bad
/-- x[i], x[j] = x[j], x[i], the names i and j -/
def mSwap (x i j : Nat) : Ph Ctl := fun ρ S => match ownAt ρ x, ρ[i]?, ρ[j]? with
  | some xs, some (.d (.int a)), some (.d (.int b)) => (match ixN xs.length a, ixN xs.length b with
    | some n, some k => (match xs[n]?, xs[k]? with
      | some d, some e => .ok (.nx (ρ.set x (.own ((xs.set n e).set k d)))) S
      | _, _ => .bad)
    | _, _ => .bad)
  | _, _, _ => .bad
theorem st_swap (x i j : Nat) : ST W (tAsg (tTup (tCons (tOp (rIx K) (tVar x) (tVar j)) (tCons (tOp (rIx K) (tVar x) (tVar i)) tNil))) (gTup K 2 (gCons (L2.gSub (tVar x) (tVar i) rSetL) (gCons (L2.gSub (tVar x) (tVar j) rSetL) gNil)))) (mSwap x i j) :=
  fun F0 H0 st hs F H S ρ σ Dn b h => by
    unfold mSwap at h
    cases e : ownAt ρ x with
    | none => rw [e] at h; exact h.elim
    | some xs =>
      rw [e] at h
      cases ei : ρ[i]? with
      | none => rw [ei] at h; exact h.elim
      | some li =>
        rw [ei] at h
        cases li <;> try exact h.elim
        rename_i di
        cases di <;> try exact h.elim
        rename_i a
        cases ej : ρ[j]? with
        | none => rw [ej] at h; exact h.elim
        | some lj =>
          rw [ej] at h
          cases lj <;> try exact h.elim
          rename_i dj
          cases dj <;> try exact h.elim
          rename_i c
          simp only at h
          cases en : ixN xs.length a with
          | none => rw [en] at h; exact h.elim
          | some n =>
            cases ek : ixN xs.length c with
            | none => rw [en, ek] at h; exact h.elim
            | some k =>
              rw [en, ek] at h
              simp only at h
              cases ed : xs[n]? with
              | none => rw [ed] at h; exact h.elim
              | some d =>
                cases ee : xs[k]? with
                | none => rw [ed, ee] at h; exact h.elim
                | some d' =>
                  rw [ed, ee] at h
                  obtain ⟨p, vs, e1, hp, fp, h0, r⟩ := b.loc x _ (ownAt_of e)
                  obtain ⟨vi, e2, ri⟩ := b.loc i _ ei
                  obtain ⟨vj, e3, rj⟩ := b.loc j _ ej
                  simp only [Rep] at ri rj
                  subst ri; subst rj
                  obtain ⟨u, hu, ru⟩ := r.get ed
                  obtain ⟨w, hw, rw'⟩ := r.get ee
                  have ai : atI vs a = some u := by unfold atI; rw [r.length, en]; exact hu
                  have aj : atI vs c = some w := by unfold atI; rw [r.length, ek]; exact hw
                  refine ⟨.ref p, e1, .int c, e3, .inl ⟨p, vs, c, w, rfl, rfl, SqL.of hp, aj, .ref p, e1, .int a, e2, .inl ⟨p, vs, a, u, rfl, rfl, SqL.of hp, ai, by show 2 ≤ sizeLine; decide, fun t ht => ?_⟩⟩⟩
                  have ntp : p ≠ t := ne_of_none hp ht
                  have bt := b.lay (o := .tup [w, u]) ht
                  have ft : upd F t (.tup [w, u]) p = none := by rw [upd_ne ntp]; exact fp
                  have r1 : Reps (upd F t (.tup [w, u])) (xs.set n d') (vs.set n w) := Reps.mono (Ext.lay (st := st) (hb := hs) b.sub ht).1.ff _ _ (r.set rw' n)
                  have b1 := bt.write (vs := vs) (us := vs.set n w) (ownAt_of e) e1 ft h0 r1
                  have hx : x < ρ.length := (List.getElem?_eq_some_iff.mp (ownAt_of e)).1
                  have e4 : (ρ.set x (.own (xs.set n d')))[x]? = some (.own (xs.set n d')) := by rw [List.getElem?_set, if_pos rfl, if_pos hx]
                  have r2 : Reps (upd F t (.tup [w, u])) ((xs.set n d').set k d) ((vs.set n w).set k u) := r1.set (Rep.mono (Ext.lay (st := st) (hb := hs) b.sub ht).1.ff _ _ ru) k
                  have b2 := b1.write (vs := vs) (us := (vs.set n w).set k u) e4 e1 ft h0 r2
                  rw [List.set_set] at b2
                  refine ⟨t, [w, u], rfl, SqT.of upd_same, rfl, w, [u], rfl, .ref p, e1, .int a, e2, p, vs, a, n, rfl, rfl, by rw [upd_ne ntp]; exact hp, by rw [r.length]; exact en, ?_⟩
                  refine ⟨u, [], rfl, .ref p, e1, .int c, e3, p, vs.set n w, c, k, rfl, rfl, upd_same, by rw [List.length_set, r.length]; exact ek, rfl, ?_⟩
                  exact h σ _ _ b2
/-! ### the store -/
def Sto.get (s : Sto) (k : Nat) : Option Int := match k with
  | 1 => some s.i
  | 2 => some s.two
  | 3 => some s.three
  | 4 => some s.seed
  | 5 => some s.cnt
  | _ => none
def Sto.set (s : Sto) (k : Nat) (v : Int) : Option Sto := match k with
  | 1 => some { s with i := v }
  | 2 => some { s with two := v }
  | 3 => some { s with three := v }
  | 4 => some { s with seed := v }
  | 5 => some { s with cnt := v }
  | _ => none
def isSt (ρ : List L) (i : Nat) (S : Sto) : Bool := match ρ[i]? with
  | some .st => (match S.mode with
    | .law => true
    | _ => false)
  | _ => false
theorem isSt_of {ρ : List L} {i : Nat} {S : Sto} (h : isSt ρ i S = true) : ρ[i]? = some .st ∧ S.mode = .law := by
  unfold isSt at h
  split at h
  · rename_i e
    refine ⟨e, ?_⟩
    split at h
    · assumption
    · cases h
  · cases h
theorem StoAt.list {F H : Hp} {st : Addr} {s : Sto} (h : StoAt F H st s) (e : s.mode = .law) : F st = none ∧ ∃ ca, H st = some (.lst [.ref ca, .int s.i, .int s.two, .int s.three, .int s.seed, .int s.cnt]) ∧ F ca = some (.lst (s.cells.map V.int)) := by
  obtain ⟨f, o, ho, hi⟩ := h
  unfold StoIn at hi
  rw [e] at hi
  obtain ⟨ca, rfl, h2⟩ := hi
  exact ⟨f, ca, ho, h2⟩
theorem StoAt.ofList {F H : Hp} {st ca : Addr} {s : Sto} (e : s.mode = .law) (f : F st = none) (h1 : H st = some (.lst [.ref ca, .int s.i, .int s.two, .int s.three, .int s.seed, .int s.cnt])) (h2 : F ca = some (.lst (s.cells.map V.int))) : StoAt F H st s :=
  ⟨f, _, h1, by unfold StoIn; rw [e]; exact ⟨ca, rfl, h2⟩⟩
/-- store[k], k one of 1 to 5 -/
def mStIx (i k : Nat) : Ph D := fun ρ S => if isSt ρ i S = true then (match S.get k with
  | some v => .ok (.int v) S
  | none => .bad) else .bad
theorem et_stIx (i k : Nat) : ET W (tOp (rIx K) (tVar i) (tC (.int (k : Nat)))) (mStIx i k) := fun F0 H0 st hs F H S ρ σ Q b h => by
  unfold mStIx at h
  by_cases c : isSt ρ i S = true
  · rw [if_pos c] at h
    obtain ⟨c1, c2⟩ := isSt_of c
    obtain ⟨hb, e⟩ := b.loc i _ c1
    obtain ⟨fs, ca, hst, hca⟩ := (b.sto hb).list c2
    cases g : S.get k with
    | none => rw [g] at h; exact h.elim
    | some v =>
      rw [g] at h
      refine ⟨.ref st, e, .inl ⟨st, _, (k : Nat), .int v, rfl, rfl, SqL.of hst, atI_nat ?_, h _ F H b Ext.refl (rep_int _)⟩⟩
      unfold Sto.get at g
      split at g <;> cases g <;> rfl
  · rw [if_neg c] at h; exact h.elim
/-- store[0] -/
def mStCells (i : Nat) : Ph D := fun ρ S => if isSt ρ i S = true then .ok (.lst (S.cells.map D.int)) S else .bad
theorem et_stCells (i : Nat) : ET W (tOp (rIx K) (tVar i) (tC (.int 0))) (mStCells i) := fun F0 H0 st hs F H S ρ σ Q b h => by
  unfold mStCells at h
  by_cases c : isSt ρ i S = true
  · rw [if_pos c] at h
    obtain ⟨c1, c2⟩ := isSt_of c
    obtain ⟨hb, e⟩ := b.loc i _ c1
    obtain ⟨fs, ca, hst, hca⟩ := (b.sto hb).list c2
    refine ⟨.ref st, e, .inl ⟨st, _, (0 : Nat), .ref ca, rfl, rfl, SqL.of hst, atI_nat rfl, h _ F H b Ext.refl ?_⟩⟩
    simp only [RD, Rep]
    exact ⟨ca, _, rfl, hca, Reps.ints.mpr rfl⟩
  · rw [if_neg c] at h; exact h.elim
/-- store[k] = e -/
def mStSet (i k : Nat) (φe : Ph D) : Ph Ctl := fun ρ S => (φe ρ S).bind fun d S1 => if isSt ρ i S1 = true then (match d with
  | .int v => (match S1.set k v with
    | some S2 => .ok (.nx ρ) S2
    | none => .bad)
  | _ => .bad) else .bad
theorem st_stSet (i k : Nat) (he : ET W te φe) : ST W (tAsg te (L2.gSub (tVar i) (tC (.int (k : Nat))) rSetL)) (mStSet i k φe) := fun F0 H0 st hs F H S ρ σ Dn b h =>
  he _ _ _ _ _ _ _ _ _ _ b (GW.stmt h fun d S1 v F1 H1 b1 e1 r1 h1 => by
    by_cases c : isSt ρ i S1 = true
    · rw [if_pos c] at h1
      cases d <;> try exact h1.elim
      rename_i z
      simp only at h1
      cases g : S1.set k z with
      | none => rw [g] at h1; exact h1.elim
      | some S2 =>
        rw [g] at h1
        obtain ⟨c1, c2⟩ := isSt_of c
        obtain ⟨hb, e⟩ := b1.loc i _ c1
        obtain ⟨fs, ca, hst, hca⟩ := (b1.sto hb).list c2
        simp only [RD, Rep] at r1
        subst r1
        have hk : k < 6 ∧ 0 < k ∧ ([V.ref ca, .int S1.i, .int S1.two, .int S1.three, .int S1.seed, .int S1.cnt].set k (.int z) = [V.ref ca, .int S2.i, .int S2.two, .int S2.three, .int S2.seed, .int S2.cnt]) ∧ S2.cells = S1.cells ∧ S2.mode = S1.mode := by
          unfold Sto.set at g
          split at g <;> cases g <;> exact ⟨by decide, by decide, rfl, rfl, rfl⟩
        obtain ⟨k1, k2, k3, k4, k5⟩ := hk
        refine ⟨.ref st, e, st, _, (k : Nat), k, rfl, rfl, hst, ?_, h1 σ F1 _ ?_⟩
        · show ixN 6 (k : Nat) = some k
          unfold ixN
          rw [if_pos (by omega), if_pos (by omega)]; rfl
        · rw [k3]
          have nca : ca ≠ st := fun z => by rw [z, fs] at hca; cases hca
          refine ⟨fun a u w => by rw [upd_ne (ne_of_none w fs)]; exact b1.sub a u w, ⟨b1.ext.ff, fun a u w n => by rw [upd_ne (n hb)]; exact b1.ext.keep a u w n, b1.ext.new⟩, fun _ => StoAt.ofList (by rw [k5]; exact c2) fs upd_same (by rw [k4]; exact hca), b1.st0, fun j l q => ?_, b1.dis, b1.len⟩
          have y := b1.loc j l q
          cases l with
          | un => trivial
          | d x => exact y
          | own xs =>
            obtain ⟨p, vs, y1, y2, y3, y4, y5⟩ := y
            exact ⟨p, vs, y1, by rw [upd_ne (fun w => b1.st0 hb (by rw [← w]; exact y4))]; exact y2, y3, y4, y5⟩
          | st => exact y
    · rw [if_neg c] at h1; exact h1.elim)
/-! ### in, not in -/
def flatD : D → Bool
  | .non => true
  | .bl _ => true
  | .int _ => true
  | .str _ => true
  | _ => false
theorem flat_rep {F : Hp} {d : D} {v : V} (r : Rep F d v) (h : flatD d = true) : flatV v = true := by
  cases d <;> simp only [Rep] at r <;> try (cases h; done)
  all_goals (rw [r]; rfl)
def eqF : D → D → Bool
  | .non, .non => true
  | .bl a, .bl b => a == b
  | .bl a, .int b => (if a then 1 else 0) == b
  | .int a, .bl b => a == (if b then 1 else 0)
  | .int a, .int b => a == b
  | .str a, .str b => a == b
  | _, _ => false
theorem eqF_rep {F : Hp} {d e : D} {v u : V} (r : Rep F d v) (s : Rep F e u) (h : flatD d = true) (k : flatD e = true) : eqV v u = eqF d e := by
  cases d <;> simp only [Rep] at r <;> try (cases h; done)
  all_goals (subst r; cases e <;> simp only [Rep] at s <;> try (cases k; done))
  all_goals (subst s; rfl)
def inF (x : D) (ds : List D) : Bool := ds.any fun y => eqF y x
theorem inF_rep {F : Hp} {x : D} {v : V} (r : Rep F x v) (h : flatD x = true) : ∀ {ds : List D} {xs : List V}, Reps F ds xs → ds.all flatD = true → xs.all flatV = true ∧ inV v xs = inF x ds
  | [], xs, rs, _ => by rw [reps_nil.mp rs]; exact ⟨rfl, rfl⟩
  | d :: ds, xs, rs, k => by
    obtain ⟨y, zs, e, h1, h2⟩ := reps_cons.mp rs
    simp only [List.all_cons, Bool.and_eq_true] at k
    obtain ⟨i1, i2⟩ := inF_rep r h h2 k.2
    rw [e]
    refine ⟨by simp only [List.all_cons, Bool.and_eq_true]; exact ⟨flat_rep h1 k.1, i1⟩, ?_⟩
    unfold inV inF at i2 ⊢
    simp only [List.any_cons]
    rw [eqF_rep h1 r k.1 h, i2]
def in2 (neg : Bool) : D → D → Option D := fun x y => match y with
  | .lst ds => if flatD x = true ∧ ds.all flatD = true then some (.bl (if neg then !inF x ds else inF x ds)) else none
  | .tup ds => if flatD x = true ∧ ds.all flatD = true then some (.bl (if neg then !inF x ds else inF x ds)) else none
  | _ => none
theorem o_in (neg : Bool) : O2 W (rIn K neg) (pure2 (in2 neg)) := o2_pure fun F H Q dx dy d x y s r1 r2 e q => by
  cases dy <;> simp only [in2] at e <;> try (cases e; done)
  · rename_i ds
    by_cases c : flatD dx = true ∧ ds.all flatD = true
    · rw [if_pos c] at e; cases e
      simp only [Rep] at r2
      obtain ⟨a, xs, ea, fa, ra⟩ := r2
      obtain ⟨i1, i2⟩ := inF_rep r1 c.1 ra c.2
      refine ⟨a, xs, ea, .inr (fa.sq s), flat_rep r1 c.1, i1, ?_⟩
      rw [i2]; exact q _ (rep_bl _)
    · rw [if_neg c] at e; cases e
  · rename_i ds
    by_cases c : flatD dx = true ∧ ds.all flatD = true
    · rw [if_pos c] at e; cases e
      simp only [Rep] at r2
      obtain ⟨a, xs, ea, fa, ra⟩ := r2
      obtain ⟨i1, i2⟩ := inF_rep r1 c.1 ra c.2
      refine ⟨a, xs, ea, .inl (SqL.of (s _ _ fa)), flat_rep r1 c.1, i1, ?_⟩
      rw [i2]; exact q _ (rep_bl _)
    · rw [if_neg c] at e; cases e
end
end DL

set_option Elab.async false
set_option linter.all false
set_option maxRecDepth 100000
set_option maxHeartbeats 4000000
set_option autoImplicit false
namespace DL
open PySem PySem.Spec L2
open PyProof.Rows (AllBare)

section
variable {W : WX} {K : PySem.W.Frag} {ta te ti tb : TE} {φ φa φb φi φe : Ph D} {tr : TA} {φl : Ph (List D)}
/-! ### list(range(n)), tuple(range(n)) -/
theorem reps_rg {F : Hp} (n : Int) : Reps F (rangeD 0 n.toNat) (rgV 0 n) := by
  refine Reps.of_get (by rw [rgV_length, rangeD_len]; simp) fun i d x h1 h2 => ?_
  unfold rangeD at h1
  unfold rgV at h2
  rw [List.getElem?_map] at h1 h2
  rw [Int.sub_zero] at h2
  cases e : (List.range n.toNat)[i]? with
  | none => rw [e] at h1; cases h1
  | some k => rw [e] at h1 h2; cases h1; cases h2; exact rep_int _
def mRg (φ : Ph D) : Ph (List D) := fun ρ S => (φ ρ S).bind fun d S1 => match d with
  | .int j => if 0 ≤ j ∧ j ≤ 1000 then .ok (rangeD 0 j.toNat) S1 else .bad
  | _ => .bad
theorem ot_listRg (ha : ET W ta φa) : OT W (tLstRg (tRg1 ta)) (mRg φa) := fun F0 H0 st hs F H S ρ σ Q b h =>
  ha _ _ _ _ _ _ _ _ _ _ b (GW.bind rm_o h fun x S1 v F1 H1 b1 e1 r1 h1 => by
    cases x <;> try exact h1.elim
    rename_i j
    simp only [RD, Rep] at r1
    simp only at h1
    by_cases c : 0 ≤ j ∧ j ≤ 1000
    · rw [if_pos c] at h1
      exact ⟨j, r1, RgOk.of_le (by omega) (by omega) (by omega) (by omega), fun q hq => h1 _ F1 _ (b1.lay0 hq) (Ext.lay0 b1.sub hq).1 ⟨q, _, rfl, hq, upd_same, b1.sub.none hq, reps_rg j⟩⟩
    · rw [if_neg c] at h1; exact h1.elim)
def mRgT (φ : Ph D) : Ph D := fun ρ S => (φ ρ S).bind fun d S1 => match d with
  | .int j => if 0 ≤ j ∧ j ≤ 1000 then .ok (.tup (rangeD 0 j.toNat)) S1 else .bad
  | _ => .bad
theorem et_tupRg (ha : ET W ta φa) : ET W (tTupRgF (tRg1 ta)) (mRgT φa) := fun F0 H0 st hs F H S ρ σ Q b h =>
  ha _ _ _ _ _ _ _ _ _ _ b (GW.bind rm_d h fun x S1 v F1 H1 b1 e1 r1 h1 => by
    cases x <;> try exact h1.elim
    rename_i j
    simp only [RD, Rep] at r1
    simp only at h1
    by_cases c : 0 ≤ j ∧ j ≤ 1000
    · rw [if_pos c] at h1
      exact ⟨j, r1, RgOk.of_le (by omega) (by omega) (by omega) (by omega), fun q o hd hq => h1 _ _ _ (b1.lay hq) (Ext.lay b1.sub hq).1 (rep_tup (reps_rg j) (b1.sub.none hq) hd)⟩
    · rw [if_neg c] at h1; exact h1.elim)

/-! ### raise X(..), X with its own __init__ of plain stores -/
section
variable {X : Cx} {e : Expr} {es : List Expr} {p pos : Pos}
theorem made_end {pins : List (Addr × Obj)} {σ : L2.St} {A1 A2 : Hp} {Q : XK} {g1 g2 h2 : Heap} {n1 n2 : Array GenState} {r1 r2 : Drawn} {k1 k2 : Nat} {o1 o2 : OsState} {a C d : Addr} {fs : List (Str × V)} (T : Raises X (.ref C))
    (I1 : Inv X pins σ A1 ⟨g1, n1, r1, k1, o1⟩) (ha : g1.objs.size ≤ a) (k : ∀ b o, g1.get? b = some o → g2.get? b = some o) (un : Un (frs X.stack) [] (upd A1 a (exo a C none)) A2 g2 h2) (hok : HOk X.prog X.w A2 h2)
    (ho : o2 = o1) (hb : AllBare n2) (ea : A2 a = some (exo a C (some d))) (ed : A2 d = some (exd d fs)) (hd1 : A1 d = none) (q : Q (.ref C) (some d) (upd (del A2 a) d (.xd fs))) : L2N.MkP X pins σ Q (.ref a) ⟨h2, n2, r2, k2, o2⟩ := by
  obtain ⟨t0, G, J, kG, ge, hoe, na⟩ := mk_end0 (d2 := r2) (t2 := k2) I1 ha k un hok ho hb ea ed hd1
  refine ⟨a, _, _, ⟨G, n2, r2, k2, o2⟩, _, .ref C, some d, rfl, J, kG, ge, hoe, ⟨rfl, rfl, fun vs hv => ?_⟩, rfl, rfl, na, rfl, hb, T, q⟩
  cases hv
  rfl
theorem pmkN {CX : CXT} {x : Str} {C fI : Addr} {k : Nat} {fd : FuncData} {ps : List Str} {sp : Sp} {ta : TA} (T : OexC X.K C) (iC : PySem.W.findIn X.K (.ref C) "__init__" = some (some (.ref fI))) (tI : PySem.W.typeIn X.K (.ref fI) = some (.type "function"))
    (F1 : FnOk X.prog X.w X.K X.mg X.base CX k fI fd ps sp) (hr : Room (k + 1) X.A) (hb : Binds X.K fd ps []) (hx : Passes CX X (fun _ _ _ => False)) (hg : Gl X x) (hm : X.mg x = some (.ref C)) (ha : PA X (e :: es) ta)
    (hdb : (x == ("__debug__" : Str)) = false := by decide) (he : starEach (e :: es) X.env = (false, eval e X.env) :: starEach es X.env := by rfl) (hpl : (backTo pos (starEach es X.env)).any (·.1) = false := by rfl) :
    L2N.PMk X (.Call (.Name x p) (e :: es) [] pos) (tMkO C sp [] ta) := by
  intro pins s σ H Q I h
  obtain ⟨nm, q, N, bs, bm, sn, sub, ab, col, dd, k0, k1, k2, k3, k5, hC, hbm⟩ := T.cls
  refine wpAny_Call_Name_kw (ld_glob I hg hm ?_ hdb)
  refine PySem.W.callWith_K (h₀ := X.base) I.ok.mod.kin T.kC (thn (ha.run pos pins s σ H _ I h) fun us s1 ⟨vs, H1, I1, r1, hz, q1⟩ => ⟨I1.kIn, ?_⟩) he hpl
  show wpAny _ _ (call (.ref C) us) _ _ _
  obtain ⟨hp, g, dr, tk, os⟩ := s1
  generalize hN : hp.objs.size + 1 = nw
  have hle : hp.objs.size ≤ nw := by omega
  have hq := q1 nw (I1.hok.fresh hle)
  have kk : ∀ b o, hp.get? b = some o → ((hp.push (PySem.W.kdv_tup us)).push (PySem.HandSPX.excO C hp.objs.size)).get? b = some o := fun b o z => Heap.get?_push_of_some _ (Heap.get?_push_of_some _ z)
  have hgt : ((hp.push (PySem.W.kdv_tup us)).push (PySem.HandSPX.excO C hp.objs.size)).get? nw = some (PySem.HandSPX.excO C hp.objs.size) := by subst hN; heap_get
  have I2 := I1.laid (t' := tk) (a := nw) (o := exo nw C none) (h' := (hp.push (PySem.W.kdv_tup us)).push (PySem.HandSPX.excO C hp.objs.size)) kk hle (exo_ok hgt)
  have r2 : Vals (V.ref nw :: vs) (Value.ref nw :: us) := .cons rfl r1
  rw [List.append_nil] at hq
  have hl : (Value.ref nw :: us).length = ps.length := (r2.length.symm.trans (F1.len _ _ _ _ hq))
  have hus : us.length ≤ sizeLine := by
    rw [← Paired.length r1, sizeLine_eq]
    omega
  have bnd := hb ⟨_, g, dr, tk, os⟩ (Value.ref nw :: us) I2.kIn (by rw [List.append_nil]; exact hl)
  rw [List.append_nil] at bnd
  have run := F1.run (X.A.under (.builtin "type.__call__" ⟨.ref C :: us, []⟩)) X.stack _ _ ⟨Value.ref nw :: us, []⟩ (Value.ref nw :: us) _ _ (fun _ _ _ => False) (hr.make C us []) (I2.env0.make C us []) bnd r2 hq
  subst hN
  refine wpAny_call (PySem.HandSPX.call_own F.excBase_ValueError (fun Y => PySem.HandSPX.refsVE_contains Y bm hbm) (I1.kIn _ _ hC) (PySem.W.looks_findIn I1.kIn iC) (fun self => PySem.W.bind_fn I1.kIn self tI) hus (codeAny_mono run fun r s' hq' => ?_))
  cases r with
  | error er => exact hx pins σ _ _ er s' I2 hq'
  | ok fl =>
    cases fl with
    | ret u =>
      obtain ⟨v, H2, os2, bare2, un2, hok2, rv, ev, d, fs, ea, ed, hd1, q2⟩ := hq'
      subst ev
      obtain ⟨h2, g2, d2, t2, os'⟩ := s'
      exact ⟨rv, made_end (raises_own T.exC T.tyC) I1 hle kk un2 hok2 os2 bare2 ea ed hd1 q2⟩
    | next => exact False.elim hq'
    | brk => exact False.elim hq'
    | cont => exact False.elim hq'
end
/-- an __init__ of one store, of two -/
def spX1 (K : PySem.W.Frag) (f : Str) : Sp := fun vs H Q _ => ∃ (a C : Addr) (y : V), vs = [.ref a, y] ∧ H a = some (exo a C none) ∧ OexC K C ∧ PySem.W.findIn K (.ref C) f = some none ∧
  ∀ d, H d = none → d ≠ a → Q .non (upd (upd H d (exd d [(f, y)])) a (exo a C (some d)))
def spX2 (K : PySem.W.Frag) (f g : Str) : Sp := fun vs H Q _ => ∃ (a C : Addr) (y z : V), vs = [.ref a, y, z] ∧ H a = some (exo a C none) ∧ OexC K C ∧ PySem.W.findIn K (.ref C) f = some none ∧ PySem.W.findIn K (.ref C) g = some none ∧
  ∀ d, H d = none → d ≠ a → Q .non (upd (upd (upd H d (exd d [(f, y)])) a (exo a C (some d))) d (exd d [(g, z), (f, y)]))
theorem pure_x1 {f : Str} {vs : List V} {H : Hp} {Q : VK} {E : XK} (h : spX1 K f vs H Q E) : tOst K f (tVar 0) (tVar 1) { nx := fun _ H' => Q .non H', rt := Q } (L2.start ["self", "x"] vs) H := by
  obtain ⟨a, C, y, rfl, e, T, n, q⟩ := h
  exact ⟨y, rfl, .ref a, rfl, a, C, rfl, T, n, .inl ⟨e, q⟩⟩
theorem pure_x2 {f g : Str} {N : List Str} (hN : N.length = 3) {vs : List V} {H : Hp} {Q : VK} {E : XK} (h : spX2 K f g vs H Q E) : tSeq (tOst K f (tVar 0) (tVar 1)) (tOst K g (tVar 0) (tVar 2)) { nx := fun _ H' => Q .non H', rt := Q } (L2.start N vs) H := by
  obtain ⟨a, C, y, z, rfl, e, T, n, m, q⟩ := h
  have es : L2.start N [V.ref a, y, z] = [some (V.ref a), some y, some z] := by
    unfold L2.start
    rw [hN]; rfl
  rw [es]
  refine ⟨y, rfl, .ref a, rfl, a, C, rfl, T, n, .inl ⟨e, fun d hd nd => ?_⟩⟩
  exact ⟨z, rfl, .ref a, rfl, a, C, rfl, T, m, .inr ⟨d, [(f, y)], upd_same, by rw [upd_ne nd, upd_same], by show 1 ≤ 900; decide, q d hd nd⟩⟩
theorem xd_end1 {H : Hp} {a d C : Addr} {y : V} {f : Str} (ha : H a = none) (nd : d ≠ a) : upd (del (upd (upd (upd H a (exo a C none)) d (exd d [(f, y)])) a (exo a C (some d))) a) d (.xd [(f, y)]) = upd H d (.xd [(f, y)]) := by
  funext b
  by_cases e : b = d
  · subst e; rw [upd_same, upd_same]
  · rw [upd_ne e, upd_ne e]
    by_cases e2 : b = a
    · subst e2; rw [del_same, ha]
    · rw [del_ne e2, upd_ne e2, upd_ne e, upd_ne e2]
theorem xd_end2 {H : Hp} {a d : Addr} {o : HO} {fs : List (Str × V)} {w u : HO} (ha : H a = none) (nd : d ≠ a) : upd (del (upd (upd (upd (upd H a o) d w) a u) d (exd d fs)) a) d (.xd fs) = upd H d (.xd fs) := by
  funext b
  by_cases e : b = d
  · subst e; rw [upd_same, upd_same]
  · rw [upd_ne e, upd_ne e]
    by_cases e2 : b = a
    · subst e2; rw [del_same, ha]
    · rw [del_ne e2, upd_ne e, upd_ne e2, upd_ne e, upd_ne e2]
/-- raise C(x, y) -/
def mRaise (C : Addr) (ns : List Str) (φl : Ph (List D)) : Ph Ctl := fun ρ S => (φl ρ S).bind fun ds S1 => if ds.length = ns.length then .exc ⟨C, ns.reverse, ds.reverse⟩ ρ S1 else .bad
theorem st_raise2 {C : Addr} {f g : Str} (T : OexC K C) (nf : PySem.W.findIn K (.ref C) f = some none) (ng : PySem.W.findIn K (.ref C) g = some none) (hl : AT W tr φl) :
    ST W (fun _ σ H => tMkO C (spX2 K f g) [] tr σ H fun cls d H' => W cls d σ H') (mRaise C [f, g] φl) := fun F0 H0 st hs F H S ρ σ Dn b h =>
  hl _ _ _ _ _ _ _ _ _ _ b (GW.stmt h fun ds S1 vs F1 H1 b1 e1 r1 h1 => by
    rcases ds with _ | ⟨d1, _ | ⟨d2, _ | ⟨d3, ds⟩⟩⟩
    · exact h1.elim
    · exact h1.elim
    · obtain ⟨y, z, rfl, ry, rz⟩ := reps2 r1
      refine ⟨by show 2 ≤ 1000; decide, fun a ha => ⟨a, C, y, z, rfl, upd_same, T, nf, ng, fun d hd nd => ⟨rfl, d, [(g, z), (f, y)], ?_, ?_, ?_, ?_⟩⟩⟩
      · rw [upd_ne (Ne.symm nd), upd_same]
      · rw [upd_same]
      · rw [upd_ne nd] at hd; exact hd
      · have hd' : H1 d = none := by rw [upd_ne nd] at hd; exact hd
        rw [xd_end2 ha nd]
        exact h1 _ _ σ F1 _ (b1.lay0 hd') ⟨rfl, .inr ⟨d, [z, y], rfl, upd_same, rfl, reps_cons.mpr ⟨z, [y], rfl, rz, Reps.one ry⟩⟩⟩
    · exact h1.elim)
theorem st_raise1 {C : Addr} {f : Str} (T : OexC K C) (nf : PySem.W.findIn K (.ref C) f = some none) (hl : AT W tr φl) :
    ST W (fun _ σ H => tMkO C (spX1 K f) [] tr σ H fun cls d H' => W cls d σ H') (mRaise C [f] φl) := fun F0 H0 st hs F H S ρ σ Dn b h =>
  hl _ _ _ _ _ _ _ _ _ _ b (GW.stmt h fun ds S1 vs F1 H1 b1 e1 r1 h1 => by
    rcases ds with _ | ⟨d1, _ | ⟨d2, ds⟩⟩
    · exact h1.elim
    · obtain ⟨y, rfl, ry⟩ := reps1 r1
      refine ⟨by show 1 ≤ 1000; decide, fun a ha => ⟨a, C, y, rfl, upd_same, T, nf, fun d hd nd => ⟨rfl, d, [(f, y)], ?_, ?_, ?_, ?_⟩⟩⟩
      · rw [upd_same]
      · rw [upd_ne nd, upd_same]
      · rw [upd_ne nd] at hd; exact hd
      · have hd' : H1 d = none := by rw [upd_ne nd] at hd; exact hd
        rw [xd_end1 ha nd]
        exact h1 _ _ σ F1 _ (b1.lay0 hd') ⟨rfl, .inr ⟨d, [y], rfl, upd_same, rfl, Reps.one ry⟩⟩
    · exact h1.elim)

/-! ### an object that is made: self.f = e; C(..) -/
theorem putF_zip {f : Str} {v : V} : ∀ {ns : List Str} {vs : List V}, ns.length = vs.length → f ∉ ns → putF f v (ns.zip vs) = (ns ++ [f]).zip (vs ++ [v])
  | [], [], _, _ => rfl
  | [], v :: vs, h, _ => by simp at h
  | n :: ns, [], h, _ => by simp at h
  | n :: ns, u :: vs, h, k => by
    have h1 : n ≠ f := fun z => k (by rw [z]; exact List.mem_cons_self)
    have ih := putF_zip (f := f) (v := v) (ns := ns) (vs := vs) (by simpa using h) (fun z => k (List.mem_cons_of_mem _ z))
    show (if n = f then _ else (n, u) :: putF f v (ns.zip vs)) = _
    rw [if_neg h1, ih]; rfl
def mSelf (C : Addr) (i : Nat) (f : Str) (φe : Ph D) : Ph Ctl := fun ρ S => (φe ρ S).bind fun d S1 => match ρ[i]?, S1.mode with
  | some .st, .ob o => if o.C = C ∧ f ∉ o.ns ∧ o.ns.length < 900 then .ok (.nx ρ) { S1 with mode := .ob { o with ns := o.ns ++ [f], ds := o.ds ++ [d] } } else .bad
  | _, _ => .bad
theorem StoAt.obj {F H : Hp} {st : Addr} {s : Sto} {o : Ob} (h : StoAt F H st s) (e : s.mode = .ob o) : F st = none ∧ ∃ dx vs, H st = some (.ins o.C dx (o.ns.zip vs)) ∧ o.ns.length = vs.length ∧ Reps F o.ds vs := by
  obtain ⟨f, u, hu, hi⟩ := h
  unfold StoIn at hi
  rw [e] at hi
  obtain ⟨dx, vs, rfl, h2, h3⟩ := hi
  exact ⟨f, dx, vs, hu, h2, h3⟩
theorem StoAt.ofObj {F H : Hp} {st dx : Addr} {s : Sto} {o : Ob} {vs : List V} (e : s.mode = .ob o) (f : F st = none) (h1 : H st = some (.ins o.C dx (o.ns.zip vs))) (h2 : o.ns.length = vs.length) (h3 : Reps F o.ds vs) : StoAt F H st s :=
  ⟨f, _, h1, by unfold StoIn; rw [e]; exact ⟨dx, vs, rfl, h2, h3⟩⟩
/-- the store is written -/
theorem Bd.stUpd {F0 H0 F H : Hp} {st : Addr} {hb : Bool} {S S' : Sto} {ρ : List L} {σ : L2.St} (b : Bd F0 H0 st hb F H S ρ σ) (hb1 : hb = true) {o : HO} (h : StoAt F (upd H st o) st S') : Bd F0 H0 st hb F (upd H st o) S' ρ σ := by
  have fs := h.1
  refine ⟨fun a u w => by rw [upd_ne (ne_of_none w fs)]; exact b.sub a u w, ⟨b.ext.ff, fun a u w n => by rw [upd_ne (n hb1)]; exact b.ext.keep a u w n, b.ext.new⟩, fun _ => h, b.st0, fun j l q => ?_, b.dis, b.len⟩
  have y := b.loc j l q
  cases l with
  | un => trivial
  | d x => exact y
  | own xs =>
    obtain ⟨p, vs, y1, y2, y3, y4, y5⟩ := y
    exact ⟨p, vs, y1, by rw [upd_ne (fun w => b.st0 hb1 (by rw [← w]; exact y4))]; exact y2, y3, y4, y5⟩
  | st => exact y
theorem st_self {C : Addr} {f : Str} (i : Nat) (hc : Cls K C) (hn : NoAttr K C f) (he : ET W te φe) : ST W (sFld K (tVar i) te f) (mSelf C i f φe) := fun F0 H0 st hs F H S ρ σ Dn b h =>
  he _ _ _ _ _ _ _ _ _ _ b (GW.stmt h fun d S1 v F1 H1 b1 e1 r1 h1 => by
    cases e : ρ[i]? with
    | none => rw [e] at h1; exact h1.elim
    | some l =>
      rw [e] at h1
      cases l <;> try exact h1.elim
      cases eo : S1.mode with
      | law => rw [eo] at h1; exact h1.elim
      | dc kvs => rw [eo] at h1; exact h1.elim
      | ob o =>
        rw [eo] at h1
        simp only at h1
        by_cases c : o.C = C ∧ f ∉ o.ns ∧ o.ns.length < 900
        · rw [if_pos c] at h1
          obtain ⟨c1, c2, c3⟩ := c
          obtain ⟨hbt, ev⟩ := b1.loc i _ e
          obtain ⟨fs, dx, vs, hv, hl, rs⟩ := (b1.sto hbt).obj eo
          have hz : (o.ns.zip vs).length < 1000 := by rw [List.length_zip]; omega
          refine ⟨.ref st, ev, st, C, dx, _, rfl, by rw [← c1]; exact hv, hc, hn, hz, h1 σ F1 _ (b1.stUpd hbt ?_)⟩
          rw [putF_zip hl c2]
          refine StoAt.ofObj (o := { o with ns := o.ns ++ [f], ds := o.ds ++ [d] }) (vs := vs ++ [v]) (dx := dx) rfl fs ?_ ?_ (rs.append (Reps.one r1))
          · rw [upd_same, c1]
          · rw [List.length_append, List.length_append, hl]; rfl
        · rw [if_neg c] at h1; exact h1.elim)
/-- C(..) -/
def stoC (C : Addr) : Sto := { sto0 with mode := .ob ⟨C, [], []⟩ }
def mMake (C : Addr) (m : Fn) (φl : Ph (List D)) : Ph D := fun ρ S => (φl ρ S).bind fun ds S1 => match m ds (stoC C) with
  | .ok (.d .non) S2 => (match S2.mode with
    | .ob o => .ok (.obj o.C o.ns o.ds) S1
    | _ => .bad)
  | .exc x _ _ => .exc x ρ S1
  | _ => .bad
theorem et_make {E : XK} {C : Addr} {m : Fn} {n : Nat} (hn : LN φl n) (hl : AT (fun cls d _ H => E cls d H) tr φl) : ET (fun cls d _ H => E cls d H) (tMake C (spD true n m) [] E tr) (mMake C m φl) := fun F0 H0 st hb F H S ρ σ Q b h =>
  hl _ _ _ _ _ _ _ _ _ _ b (by
    unfold mMake at h
    cases o : φl ρ S with
    | ok ds S1 =>
      rw [o] at h
      intro vs F1 H1 b1 e1 r1 x dx hx hdx ndx
      have f1x : F1 x = none := b1.sub.none hx
      have f1d : F1 dx = none := b1.sub.none hdx
      generalize eH : upd (upd H1 dx (.own x)) x (.ins C dx []) = G
      have gx : G x = some (.ins C dx []) := by rw [← eH, upd_same]
      have gk : ∀ a u, H1 a = some u → G a = some u := fun a u w => by rw [← eH, upd_ne (ne_of_none w hx), upd_ne (ne_of_none w hdx)]; exact w
      have sG : Sub F1 G := fun a u w => gk a u (b1.sub a u w)
      refine ⟨F1, x, stoC C, ds, vs, sG, by rw [List.append_nil]; rfl, fun _ => StoAt.ofObj (o := ⟨C, [], []⟩) (vs := []) (dx := dx) rfl f1x gx rfl (reps_nil.mpr rfl), hn ρ S ds S1 o, r1, ?_⟩
      simp only [Out.bind] at h
      have exC : ∀ {F2 H2 : Hp}, Ext x true F1 G F2 H2 → Ext st hb F1 H1 F2 H2 := fun e => ⟨e.ff, fun a u w _ => e.keep a u (gk a u w) fun _ => ne_of_none w hx, fun a w1 w2 => by
        cases q : H1 a with
        | none => exact absurd q w2
        | some u => exact e.new a w1 (by rw [gk a u q]; exact nofun)⟩
      have stC : ∀ {F2 H2 : Hp}, Ext x true F1 G F2 H2 → hb = true → StoAt F2 H2 st S1 := fun e w => by
        have nst : st ≠ x := fun z => b1.stH w (by rw [z]; exact hx)
        obtain ⟨f, u, hu, hi⟩ := b1.sto w
        exact ⟨e.new st f (by rw [gk st u hu]; exact nofun), u, e.keep st u (gk st u hu) fun _ => nst, hi.mono e.ff⟩
      cases om : m ds (stoC C) with
      | ok rr S2 =>
        rw [om] at h
        cases rr with
        | own xs => exact h.elim
        | d d =>
          cases d <;> try exact h.elim
          simp only at h
          cases eo : S2.mode with
          | law => rw [eo] at h; exact h.elim
          | dc kvs => rw [eo] at h; exact h.elim
          | ob o =>
            rw [eo] at h
            intro v F2 H2 e2 s2 t2 rv
            simp only [Rep] at rv
            refine ⟨rv, ?_⟩
            obtain ⟨fx, dx', us, hu, hlen, rs⟩ := (t2 rfl).obj eo
            have e3 : Ext st hb F1 H1 (upd F2 x (.ins o.C dx' (o.ns.zip us))) H2 := by
              have z := exC e2
              refine ⟨fun a u w => ?_, z.keep, fun a w1 w2 => ?_⟩
              · have w' := z.ff a u w
                rw [upd_ne (ne_of_none w' fx)]; exact w'
              · have nax : a ≠ x := fun w => w2 (by rw [w]; exact hx)
                rw [upd_ne nax]; exact z.new a w1 w2
            have s3 : Sub (upd F2 x (.ins o.C dx' (o.ns.zip us))) H2 := fun a u w => by
              by_cases z : a = x
              · subst z; rw [upd_same] at w; rw [hu]; exact w
              · rw [upd_ne z] at w; exact s2 a u w
            have ff : Sub F2 (upd F2 x (.ins o.C dx' (o.ns.zip us))) := fun a u w => by rw [upd_ne (ne_of_none w fx)]; exact w
            have b3 : Bd F0 H0 st hb (upd F2 x (.ins o.C dx' (o.ns.zip us))) H2 S1 ρ σ := b1.go e3 s3 fun w => by
              have nst : st ≠ x := fun z => b1.stH w (by rw [z]; exact hx)
              obtain ⟨f, u, hu', hi⟩ := stC e2 w
              exact ⟨by rw [upd_ne nst]; exact f, u, hu', hi.mono ff⟩
            refine h _ _ _ b3 (e1.trans e3 b1.stH) ?_
            simp only [RD, Rep]
            exact ⟨x, dx', us, rfl, upd_same, hlen, Reps.mono ff _ _ rs⟩
      | exc y ρ' S2 =>
        rw [om] at h
        intro cls d F2 H2 e2 s2 t2 xr
        exact h cls d F2 H2 (b1.go (exC e2) s2 (stC e2)) xr
      | bad => rw [om] at h; exact h.elim
    | exc x ρ' S1 => rw [o] at h; exact h
    | bad => rw [o] at h; exact h.elim)
end
end DL

set_option Elab.async false
set_option linter.all false
set_option maxRecDepth 100000
set_option maxHeartbeats 4000000
set_option autoImplicit false
namespace DL
open PySem PySem.Spec L2
open PyProof.Rows (envOfC)

/-- a def of the module that may be called by its name -/
structure Cal (P : Program) (w : World) (K : PySem.W.Frag) (mg : Str → Option Value) (base : Heap) (x : Str) (k : Nat) (ps : List Str) (sp : Sp) : Prop where
  ex : ∃ (f : Addr) (fd : FuncData), FnOk P w K mg base (L2N.CX P w) k f fd ps sp ∧ mg x = some (.ref f) ∧ PySem.W.keepIn K (.ref f) = true ∧ Binds K fd ps []
theorem Cal.mono {P : Program} {w : World} {K : PySem.W.Frag} {mg : Str → Option Value} {base : Heap} {x : Str} {k j : Nat} {ps : List Str} {sp : Sp} (c : Cal P w K mg base x k ps sp) (h : k ≤ j) : Cal P w K mg base x j ps sp := by
  obtain ⟨f, fd, a, b⟩ := c.ex
  exact ⟨f, fd, a.mono h, b⟩
/-- a def of the text as it stands behind the top -/
structure Df (K : PySem.W.Frag) (mg : Str → Option Value) (x : Str) (st : Stmt) (ps : List Str) (f : Addr) (fd : FuncData) : Prop where
  fn : FunD K x x (defArgs st) (defBody st) (defScope st) [] [] f fd
  mgf : mg x = some (.ref f)
  b : Binds K fd ps []
theorem cal_ok {P : Program} {w : World} {K : PySem.W.Frag} {mg : Str → Option Value} {base : Heap} {x : Str} {st : Stmt} {f : Addr} {fd : FuncData} {N ps : List Str} {k n nn : Nat} {hb : Bool} {φ : Ph Ctl} (D : Df K mg x st ps f fd) (S : FnScope N ps (defScope st))
    (hp : ps.length = (if hb = true then 1 else 0) + n) (hN : N.length = (if hb = true then 1 else 0) + n + nn)
    (body : ∀ (cdv : Value) (A : Around) (outer : List Env) (s : Shared) (H : Hp) (E : XK), Room k (A.deeper (envOfC x (defScope st) s.heap.objs.size f cdv)) →
      ∃ t, PSs (cxOf (L2N.CX P w) P w K mg base N x (defScope st) f cdv A outer s H E) (defBody st) t ∧ ST (fun cls d _ H => E cls d H) t φ) : Cal P w K mg base x (k + 1) ps (spD hb n (runD hb nn φ)) :=
  ⟨f, fd, D.fn.ok S (spD_len hp) (fun cdv A outer s H vs Q E hr h => by
    obtain ⟨t, h1, h2⟩ := body cdv A outer s H E hr
    exact ⟨t, h1, fn_ok hN h2 h⟩), D.mgf, D.fn.kp, D.b⟩
theorem Cal.none {P : Program} {w : World} {K : PySem.W.Frag} {mg : Str → Option Value} {base : Heap} {x : Str} {st : Stmt} {ps : List Str} {f : Addr} {fd : FuncData} {k n : Nat} {hb : Bool} (D : Df K mg x st ps f fd) (hp : ps.length = (if hb = true then 1 else 0) + n) : Cal P w K mg base x k ps (spD hb n fun _ _ => .bad) :=
  ⟨f, fd, ⟨spD_len hp, fun A outer s H args us vs Q E hr e0 hb' hv h => by
    obtain ⟨_, _, _, _, _, _, _, _, _, _, z⟩ := h
    exact z.elim⟩, D.mgf, D.fn.kp, D.b⟩
theorem passN0 {X : Cx} (σ : L2.St) : PassesAt (L2N.CX X.prog X.w) X σ (WE W0 σ) := fun _ _ _ e s' I c => by
  obtain ⟨_, _, _, _, _, _, _, _, _, _, _, _, z⟩ := c
  exact z.elim
theorem pe_cl {X : Cx} {W : WX} {x : Str} {k j : Nat} {ps : List Str} {sp : Sp} {e : Expr} {es : List Expr} {p pos : Pos} {t : TA} (c : Cal X.prog X.w X.K X.mg X.base x k ps sp) (hr : Room j X.A) (hk : k ≤ j) (hg : Gl X x) (hx : ∀ σ, PassesAt (L2N.CX X.prog X.w) X σ (WE W σ)) (ha : PA X (e :: es) t)
    (hdb : (x == ("__debug__" : Str)) = false := by decide) (he : starEach (e :: es) X.env = (false, eval e X.env) :: starEach es X.env := by rfl) (hpl : (backTo pos (starEach es X.env)).any (·.1) = false := by rfl) :
    PE X (.Call (.Name x p) (e :: es) [] pos) (tCallSD sp [] (WE W) t) := by
  obtain ⟨f, fd, F, m, kp, b⟩ := c.ex
  exact pe_callSD F (hr.mono hk) hg m kp b .nil hx ha hdb he hpl
theorem bt_len : bootBuiltins "len" = some (.builtin "len") := by decide +kernel
theorem bt_abs : bootBuiltins "abs" = some (.builtin "abs") := by decide +kernel
theorem bt_max : bootBuiltins "max" = some (.builtin "max") := by decide +kernel
theorem bt_min : bootBuiltins "min" = some (.builtin "min") := by decide +kernel
theorem bt_sum : bootBuiltins "sum" = some (.builtin "sum") := by decide +kernel
theorem bt_sorted : bootBuiltins "sorted" = some (.builtin "sorted") := by decide +kernel
theorem bt_isinstance : bootBuiltins "isinstance" = some (.builtin "isinstance") := by decide +kernel
theorem bt_int : bootBuiltins "int" = some (.type "int") := by decide +kernel
theorem bt_bool : bootBuiltins "bool" = some (.type "bool") := by decide +kernel
theorem bt_str : bootBuiltins "str" = some (.type "str") := by decide +kernel
theorem bt_tuple : bootBuiltins "tuple" = some (.type "tuple") := by decide +kernel
theorem bt_list : bootBuiltins "list" = some (.type "list") := by decide +kernel
/-- a built-in class as a value -/
theorem pe_ty {X : Cx} {x : Str} {n : String} {pos : Pos} (hg : Gl X x) (hm : X.mg x = none) (hv : bootBuiltins x = some (.type n)) (hn : x ≠ "__name__" := by decide) (hd : (x == ("__debug__" : Str)) = false := by decide) : PE X (.Name x pos) (tC (.ty n)) := pe_bltn (v := .ty n) hg hm hv rfl hn hd
end DL

set_option Elab.async false
set_option linter.all false
set_option maxRecDepth 100000
set_option maxHeartbeats 4000000
set_option autoImplicit false
/-! set(xs) of a list of ints, in the form that sorted asks -/
namespace L2
open PySem PySem.Spec PyProof.Rows
section
variable {P : Program} {w : World} {A : Around} {E : Value → Shared → Prop} {s : Shared}
abbrev setNew (w : World) : Obj := { cls := .type "set", dict := none, data := .set #[] 0 (.fresh 0 0 (!w.params.followText "set-order")) }
set_option maxRecDepth 100000 in
set_option maxHeartbeats 3200000 in
theorem set_of_listI {lA : Addr} {its : Array Value} (ns : List Int) {Q : Value → Shared → Prop} (hand : A.handled = none) (isL : s.heap.IsList lA its) (hAre : IntsAre its.toList ns) (few : ns.length + 1 < scanBound)
    (fin : ∀ (h' : Heap) (tk c : Nat), SetR w h' s.heap.objs.size (fun j => decide (j ∈ ns)) c → c ≤ ns.length → (∀ b o, s.heap.get? b = some o → h'.get? b = some o) → Q (.ref s.heap.objs.size) { s with heap := h', toks := tk }) :
    wpAny (model P w) A (call (.type "set") [.ref lA]) Q E s := by
  have siz : its.size = ns.length := by have q := IntsAre.length hAre; rwa [Array.length_toList] at q
  obtain ⟨mc, mt, mm⟩ := F.called_set.mro
  have f1 := F.called_set.made; have f2 := F.called_set.sub
  refine wpAny_call (codeAny_of_tree (show wpAny _ _ (callAny (.type "set") _) _ _ _ from ?_))
  refine wpAny_pure ⟨Code.quiet_builtin _ (by decide +kernel), codeAny_builtin F.entry_type_call ?_⟩; rw [Around.under_plain (weight_type_call_type "set" [.ref lA] []) rfl]
  have f3 := F.called_set.notType; have f4 := F.called_set.canCreate; have f5 := F.typeCall_set_1 (.ref lA)
  repeat (any_goals (first | assumption | wp_step))

  refine codeAny_mono (code_set_led1 (.ref lA) (E := E) (Q₁ := fun obj s1 => obj = .ref s.heap.objs.size ∧ s1 = { s with heap := s.heap.push (setNew w) }) ⟨rfl, rfl⟩) fun r1 s1 hr1 => ?_
  cases r1 with
  | error e => exact hr1
  | ok fl => cases fl with
    | ret obj =>
      obtain ⟨rfl, rfl⟩ := hr1
      have gS : (s.heap.push (setNew w)).get? s.heap.objs.size = some (setNew w) := Heap.get?_push_size _ rfl
      have tS : Shared.TypeIs { s with heap := s.heap.push (setNew w) } (.ref s.heap.objs.size) "set" := ⟨_, gS, rfl⟩
      have f6 := F.called_set.init.lookup; have f7 := F.called_set.init.bind (.ref s.heap.objs.size)
      repeat (any_goals (first | assumption | wp_step))

      refine codeAny_mono (codeAny_call_builtin (R := wants (fun r s2 => r = .none ∧ ∃ h' tk c, s2 = { s with heap := h', toks := tk } ∧ SetR w h' s.heap.objs.size (fun j => decide (j ∈ ns)) c ∧ c ≤ ns.length ∧ (∀ b o, s.heap.get? b = some o → h'.get? b = some o)) E)
        F.called_set.init.plain F.entry_set_init (check_set_init_1 tS ?_)) fun r2 s2 hr2 => ?_
      · obtain ⟨oL, gL, cL, nL, dL⟩ := isL
        obtain ⟨xc, xd, xdat, xsl⟩ := oL
        simp only at cL dL; subst cL; subst dL
        have gL' : (s.heap.push (setNew w)).get? lA = some { cls := .type "list", dict := xd, data := .seq its nL, slots := xsl } := Heap.get?_push_of_some _ gL
        have f8 := F.sub_list_set; have f9 := F.sub_list_frozenset; have f10 : (Value.type "list" == Value.type "dict") = false := by decide
        have isL1 : (s.heap.push (setNew w)).IsList lA its := ⟨_, gL', rfl, nL, rfl⟩
        unfold Builtin.«set.__init__» noKeywords Builtin.Frozenset.updateFrom; generalize hIt : pyIter = PIt; wp_walk
        subst hIt
        refine wpAny_pyIter_list isL1 (wpAny_bind (wpAny_runValue ?_))
        have ltL : lA < s.heap.objs.size := Heap.lt_size gL
        have hn3 : A.in1.in1.in1.handled = none := by simp [hand]
        have neI : lA ≠ (s.heap.push (setNew w)).objs.size := by rw [Heap.size_push]; exact Nat.ne_of_lt (Nat.lt_succ_of_lt ltL)
        have nfp : s.heap.objs.size ∉ [(s.heap.push (setNew w)).objs.size, lA] := by
          rw [Heap.size_push]
          simp only [List.mem_cons, List.mem_singleton, List.not_mem_nil, or_false, not_or]; exact ⟨Nat.ne_of_lt (Nat.lt_succ_self _), Nat.ne_of_gt ltL⟩
        have vals : ∀ (i : Nat) (v : Value), its[i]? = some v → ∃ k t, ns[i]? = some k ∧ v = .int k t := fun i v hv => by
          have li : i < ns.length := by rw [← siz]; exact (Array.getElem?_eq_some_iff.mp hv).1
          obtain ⟨t, e⟩ := IntsAre.int_at hAre i v (by rw [Array.getElem?_toList]; exact hv)
          exact ⟨ns[i], t, List.getElem?_eq_getElem li, by rw [e, List.getD_eq_getElem?_getD, List.getElem?_eq_getElem li] <;> rfl⟩
        refine set_update_ints ((Walks.list hn3 _ lA neI its).toS) s.heap.objs.size nfp ns siz few vals (its.size - 0) 0 _ (by omega) (Nat.zero_le _) ⟨⟨_, Heap.get?_push_size _ rfl, rfl, rfl⟩, (isL1.push _)⟩ ⟨0, Nat.le_refl 0, setR_new_at (Heap.get?_push_of_some _ gS)⟩ ?_
        intro s3 c3 mv le3 sr3
        obtain ⟨h3, g3, d3, tk3, os3⟩ := s3
        have eg : g3 = s.gens := mv.gens; have ed : d3 = s.drawn := mv.drawn; have eo : os3 = s.os := mv.os
        subst eg; subst ed; subst eo
        refine wpAny_pure (show wpAny _ _ (ret Value.none) _ _ _ from ?_)
        rw [siz] at le3
        refine wpAny_pure ⟨rfl, h3, tk3, c3, rfl, sr3, le3, fun b o e => ?_⟩
        have lt0 : b < s.heap.objs.size := Heap.lt_size e
        have ne2 : b ≠ (s.heap.push (setNew w)).objs.size := by rw [Heap.size_push]; exact Nat.ne_of_lt (Nat.lt_succ_of_lt lt0)
        refine mv.heap b o ?_ (Heap.get?_push_of_some _ (Heap.get?_push_of_some _ e))
        simp only [List.mem_cons, List.mem_singleton, List.not_mem_nil, or_false, not_or]; exact ⟨Nat.ne_of_lt lt0, ne2⟩
      · cases r2 with
        | error e => exact hr2
        | ok fl2 => cases fl2 with
          | ret r =>
            obtain ⟨rfl, h4, tk4, c4, rfl, sr4, le4, k4⟩ := hr2
            repeat (any_goals (first | assumption | wp_step))
            exact fin _ _ _ sr4 le4 k4
          | _ => exact hr2.elim
    | _ => exact hr1.elim
end
section
variable {X : Cx}
/-- set(xs), a list of ints -/
def rSetLi (K : PySem.W.Frag) (w : World) : List V → Hp → VK → Prop := fun xs H Q => ∃ (l : Addr) (ns : List Int), xs = [V.ref l] ∧ SqL K H l (ns.map V.int) ∧ ns.length ≤ 1000 ∧
  ∀ p c, H p = none → c ≤ ns.length → Q (.ref p) (upd H p (SetO w p (fun j => decide (j ∈ ns)) c))
theorem cr_setL (hc : X.calm = true) : CallR X (.type "set") (rSetLi X.K X.w) := by
  intro pins s σ H xs us Q I r h
  obtain ⟨l, ns, rfl, hl, hz, q⟩ := h
  rw [Vals.ref1 r]
  obtain ⟨its, rv, pl, _⟩ := I.list hl
  refine set_of_listI (P := X.prog) (w := X.w) ns (I.ok.hd hc) pl.isList (by simpa using Vals.ints rv) (by unfold scanBound; omega) fun h' tk c R hcn k => ?_
  exact ⟨.ref s.heap.objs.size, upd H s.heap.objs.size (SetO X.w s.heap.objs.size (fun j => decide (j ∈ ns)) c), I.laid (t' := tk) k (Nat.le_refl _) (setO_new R), rfl, q _ c (I.hok.fresh (Nat.le_refl _)) hcn⟩
end
end L2
namespace DL
open PySem PySem.Spec L2
theorem bt_set : bootBuiltins "set" = some (.type "set") := by decide +kernel

/-- ascending lists with the same members are equal -/
theorem asc_eq : ∀ {a b : List Int}, a.Pairwise (· < ·) → b.Pairwise (· < ·) → (∀ k, k ∈ a ↔ k ∈ b) → a = b
  | [], [], _, _, _ => rfl
  | [], y :: b, _, _, h => by have := (h y).mpr List.mem_cons_self; simp at this
  | x :: a, [], _, _, h => by have := (h x).mp List.mem_cons_self; simp at this
  | x :: a, y :: b, ha, hb, h => by
    rw [List.pairwise_cons] at ha hb
    have e : x = y := by
      have h1 := (h x).mp List.mem_cons_self
      have h2 := (h y).mpr List.mem_cons_self
      rcases List.mem_cons.mp h1 with e | m
      · exact e
      · rcases List.mem_cons.mp h2 with e | m2
        · exact e.symm
        · have l1 := hb.1 x m
          have l2 := ha.1 y m2
          omega
    subst e
    congr 1
    refine asc_eq ha.2 hb.2 fun k => ?_
    constructor
    · intro m
      rcases List.mem_cons.mp ((h k).mp (List.mem_cons_of_mem _ m)) with e | m2
      · subst e; have := ha.1 k m; omega
      · exact m2
    · intro m
      rcases List.mem_cons.mp ((h k).mpr (List.mem_cons_of_mem _ m)) with e | m2
      · subst e; have := hb.1 k m; omega
      · exact m2
/-- insertion into an ascending list -/
def insU (k : Int) : List Int → List Int
  | [] => [k]
  | x :: xs => if k < x then k :: x :: xs else if k = x then x :: xs else x :: insU k xs
def ascU (ns : List Int) : List Int := ns.foldr insU []
theorem mem_insU {k j : Int} : ∀ {xs : List Int}, j ∈ insU k xs ↔ j = k ∨ j ∈ xs
  | [] => by simp [insU]
  | x :: xs => by
    unfold insU
    split
    · simp
    · split
      · rename_i h; subst h; simp
      · simp only [List.mem_cons, mem_insU (xs := xs)]
        constructor
        · rintro (h | h | h)
          · exact .inr (.inl h)
          · exact .inl h
          · exact .inr (.inr h)
        · rintro (h | h | h)
          · exact .inr (.inl h)
          · exact .inl h
          · exact .inr (.inr h)
theorem asc_insU {k : Int} : ∀ {xs : List Int}, xs.Pairwise (· < ·) → (insU k xs).Pairwise (· < ·)
  | [], _ => by simp [insU]
  | x :: xs, h => by
    unfold insU
    rw [List.pairwise_cons] at h
    split
    · rename_i c
      refine List.pairwise_cons.mpr ⟨fun y hy => ?_, List.pairwise_cons.mpr h⟩
      rcases List.mem_cons.mp hy with e | m
      · omega
      · have := h.1 y m; omega
    · split
      · exact List.pairwise_cons.mpr h
      · rename_i c1 c2
        refine List.pairwise_cons.mpr ⟨fun y hy => ?_, asc_insU h.2⟩
        rcases mem_insU.mp hy with e | m
        · omega
        · exact h.1 y m
theorem mem_ascU {j : Int} : ∀ {ns : List Int}, j ∈ ascU ns ↔ j ∈ ns
  | [] => by simp [ascU]
  | n :: ns => by
    show j ∈ insU n (ascU ns) ↔ _
    rw [mem_insU, mem_ascU (ns := ns), List.mem_cons]
theorem asc_ascU : ∀ ns : List Int, (ascU ns).Pairwise (· < ·)
  | [] => List.Pairwise.nil
  | n :: ns => asc_insU (asc_ascU ns)
section
variable {W : WX} {K : PySem.W.Frag} {ta : TE} {φa : Ph D} {w : World}
/-- sorted(set(xs)) -/
def mSortedSet (φa : Ph D) : Ph (List D) := fun ρ S => (φa ρ S).bind fun d S1 => match d with
  | .lst ds => (match intsOf ds with
    | some ns => if ns.length < 64 then .ok ((ascU ns).map D.int) S1 else .bad
    | none => .bad)
  | _ => .bad
theorem ot_sortedSet (ha : ET W ta φa) : OT W (tCB (rSortedSet w) (tCons (tCB (rSetLi K w) (tCons ta tNil)) tNil)) (mSortedSet φa) := fun F0 H0 st hs F H S ρ σ Q b h =>
  ha _ _ _ _ _ _ _ _ _ _ b (GW.bind rm_o h fun d S1 v F1 H1 b1 e1 r1 h1 => by
    cases d <;> try exact h1.elim
    rename_i ds
    simp only at h1
    cases ei : intsOf ds with
    | none => rw [ei] at h1; exact h1.elim
    | some ns =>
      rw [ei] at h1
      simp only at h1
      by_cases c : ns.length < 64
      · rw [if_pos c] at h1
        simp only [RD, Rep] at r1
        obtain ⟨a, xs, e, f, r⟩ := r1
        rw [intsOf_eq ei] at r
        rw [Reps.ints.mp r] at f
        refine ⟨a, ns, by rw [e], SqL.of (b1.sub _ _ f), by omega, fun p n hp hn => ?_⟩
        refine ⟨p, _, n, rfl, upd_same, by omega, fun ms q hms hm hl hq => ?_⟩
        have hq1 : H1 q = none := by
          cases z : H1 q with
          | none => rfl
          | some u => rw [upd_ne (ne_of_none z hp), z] at hq; cases hq
        have npq : p ≠ q := fun z => by subst z; rw [upd_same] at hq; cases hq
        have b2 := b1.lay0 (o := SetO w p (fun j => decide (j ∈ ns)) n) hp
        have e2 := (Ext.lay0 (st := st) (hb := hs) (o := SetO w p (fun j => decide (j ∈ ns)) n) b1.sub hp).1
        have b3 := b2.lay0 (o := .lst (ms.map V.int)) hq
        have e3 := (Ext.lay0 (st := st) (hb := hs) (o := .lst (ms.map V.int)) b2.sub hq).1
        have em : ms = ascU ns := asc_eq hms (asc_ascU ns) fun k => by rw [hm k, mem_ascU]; simp
        refine h1 _ F1 _ b3 (e2.trans e3 b2.stH) ⟨q, ms.map V.int, rfl, hq1, upd_same, b1.sub.none hq1, ?_⟩
        rw [em]
        exact Reps.ints.mpr rfl
      · rw [if_neg c] at h1; exact h1.elim)
end
end DL

set_option Elab.async false
set_option linter.all false
set_option maxRecDepth 100000
set_option maxHeartbeats 4000000
set_option autoImplicit false
namespace DL
open PySem PySem.Spec L2
open PyProof.Rows (envOfC)

/-! ### a dict of numbers as the one object that a def may change -/
def keyD : D → Option Key
  | .int i => some (.inl i)
  | .str x => some (.inr x)
  | _ => none
theorem keyD_rep {F : Hp} {d : D} {v : V} {k : Key} (r : Rep F d v) (h : keyD d = some k) : v = kV k := by
  cases d <;> simp only [keyD] at h <;> cases h <;> simp only [Rep] at r <;> rw [r] <;> rfl
def dcOf (ρ : List L) (i : Nat) (S : Sto) : Option (List (Key × Int)) := match ρ[i]? with
  | some .st => (match S.mode with
    | .dc kvs => some kvs
    | _ => none)
  | _ => none
theorem dcOf_of {ρ : List L} {i : Nat} {S : Sto} {kvs : List (Key × Int)} (h : dcOf ρ i S = some kvs) : ρ[i]? = some .st ∧ S.mode = .dc kvs := by
  unfold dcOf at h
  split at h
  · rename_i e
    split at h
    · rename_i e2; cases h; exact ⟨e, e2⟩
    · cases h
  · cases h
def lookI (kvs : List (Key × Int)) (k : Key) : Option Int := (kvs.find? fun p => decide (p.1 = k)).map (·.2)
theorem lookI_V (kvs : List (Key × Int)) (k : Key) : valV (kvs.map fun p => (p.1, V.int p.2)) k = (lookI kvs k).map V.int := by
  induction kvs with
  | nil => rfl
  | cons p r ih =>
    unfold lookI at ih ⊢
    simp only [List.map_cons, List.find?_cons]
    by_cases e : p.1 = k
    · rw [valV_pos e]; simp [e]
    · rw [valV_neg e, ih]; simp [e]
theorem StoAt.dict {F H : Hp} {st : Addr} {s : Sto} {kvs : List (Key × Int)} (h : StoAt F H st s) (e : s.mode = .dc kvs) : F st = none ∧ H st = some (.dK (kvs.map fun p => (p.1, V.int p.2))) := by
  obtain ⟨f, u, hu, hi⟩ := h
  unfold StoIn at hi
  rw [e] at hi
  rw [hi] at hu
  exact ⟨f, hu⟩
theorem StoAt.ofDict {F H : Hp} {st : Addr} {s : Sto} {kvs : List (Key × Int)} (e : s.mode = .dc kvs) (f : F st = none) (h : H st = some (.dK (kvs.map fun p => (p.1, V.int p.2)))) : StoAt F H st s :=
  ⟨f, _, h, by unfold StoIn; rw [e]⟩
section
variable {W : WX} {K : PySem.W.Frag} {ta te tk : TE} {φa φk φe : Ph D}
/-- k not in d -/
def mDNotIn (i : Nat) (φk : Ph D) : Ph Bool := fun ρ S => (φk ρ S).bind fun k S1 => match dcOf ρ i S1, keyD k with
  | some kvs, some key => .ok (!(lookI kvs key).isSome) S1
  | _, _ => .bad
theorem bt_dnotin (i : Nat) (hk : ET W tk φk) : BT W (L2.tB (tDNotIn tk (tVar i))) (mDNotIn i φk) := fun F0 H0 st hs F H S ρ σ Q b h =>
  hk _ _ _ _ _ _ _ _ _ _ b (GW.bind rm_b h fun k S1 v F1 H1 b1 e1 r1 h1 => by
    cases ed : dcOf ρ i S1 with
    | none => rw [ed] at h1; exact h1.elim
    | some kvs =>
      rw [ed] at h1
      cases ek : keyD k with
      | none => rw [ek] at h1; exact h1.elim
      | some key =>
        rw [ek] at h1
        obtain ⟨c1, c2⟩ := dcOf_of ed
        obtain ⟨hb, ev⟩ := b1.loc i _ c1
        obtain ⟨fs, hd⟩ := (b1.sto hb).dict c2
        rw [keyD_rep r1 ek]
        refine ⟨.ref st, ev, st, _, rfl, DGet.k hd, _, rfl, ?_⟩
        rw [lookI_V]
        refine h1 _ F1 H1 b1 Ext.refl ?_
        show _ = _
        cases lookI kvs key <;> rfl)
/-- d[k] = e -/
def mDPut (i : Nat) (φk φe : Ph D) : Ph Ctl := fun ρ S => (φe ρ S).bind fun v S0 => match ρ[i]? with
  | some .st => (φk ρ S0).bind fun k S1 => (match dcOf ρ i S1, keyD k, v with
    | some kvs, some key, .int z => if (lookI kvs key).isSome = false ∧ kvs.length < 1000 then .ok (.nx ρ) { S1 with mode := .dc (kvs ++ [(key, z)]) } else .bad
    | _, _, _ => .bad)
  | _ => .bad
theorem putK_V {kvs : List (Key × Int)} {k : Key} {z : Int} (h : (lookI kvs k).isSome = false) : putK (kvs.map fun p => (p.1, V.int p.2)) k (.int z) = (kvs ++ [(k, z)]).map fun p => (p.1, V.int p.2) := by
  rw [putK_new]
  · rw [List.map_append]; rfl
  · rw [lookI_V]
    cases e : lookI kvs k with
    | none => rfl
    | some v => rw [e] at h; cases h
theorem st_dput (i : Nat) (hk : ET W tk φk) (he : ET W te φe) : ST W (sDPut (tVar i) tk te) (mDPut i φk φe) := fun F0 H0 st hs F H S ρ σ Dn b h =>
  he _ _ _ _ _ _ _ _ _ _ b (GW.stmt h fun x S0 u F0' H0' b0 e0 r0 h0 => by
    cases es : ρ[i]? with
    | none => rw [es] at h0; exact h0.elim
    | some l =>
      rw [es] at h0
      cases l <;> try exact h0.elim
      obtain ⟨hb, ev⟩ := b0.loc i _ es
      refine ⟨.ref st, ev, hk _ _ _ _ _ _ _ _ _ _ b0 (GW.stmt h0 fun k S1 v F1 H1 b1 e1 r1 h1 => ?_)⟩
      cases ed : dcOf ρ i S1 with
      | none => rw [ed] at h1; exact h1.elim
      | some kvs =>
        rw [ed] at h1
        cases ek : keyD k with
        | none => rw [ek] at h1; exact h1.elim
        | some key =>
          rw [ek] at h1
          cases x <;> try exact h1.elim
          rename_i z
          simp only at h1
          by_cases c : (lookI kvs key).isSome = false ∧ kvs.length < 1000
          · rw [if_pos c] at h1
            obtain ⟨c1, c2⟩ := dcOf_of ed
            obtain ⟨fs, hd⟩ := (b1.sto hb).dict c2
            simp only [RD, Rep] at r0
            rw [keyD_rep r1 ek, r0]
            refine ⟨st, _, rfl, DPut.k hd (by rw [List.length_map]; exact small1000 (by omega)), h1 σ F1 _ (b1.stUpd hb ?_)⟩
            rw [putK_V c.1]
            exact StoAt.ofDict rfl fs upd_same
          · rw [if_neg c] at h1; exact h1.elim)
/-- d[k] -/
def mDGet (i : Nat) (φk : Ph D) : Ph D := fun ρ S => match ρ[i]? with
  | some .st => (φk ρ S).bind fun k S1 => (match dcOf ρ i S1, keyD k with
    | some kvs, some key => (match lookI kvs key with
      | some z => .ok (.int z) S1
      | none => .bad)
    | _, _ => .bad)
  | _ => .bad
theorem et_dget (i : Nat) (hk : ET W tk φk) : ET W (tDGet (tVar i) tk) (mDGet i φk) := fun F0 H0 st hs F H S ρ σ Q b h => by
  unfold mDGet at h
  cases es : ρ[i]? with
  | none => rw [es] at h; exact h.elim
  | some l =>
    rw [es] at h
    cases l <;> try exact h.elim
    obtain ⟨hb, ev⟩ := b.loc i _ es
    refine ⟨.ref st, ev, hk _ _ _ _ _ _ _ _ _ _ b (GW.bind rm_d h fun k S1 v F1 H1 b1 e1 r1 h1 => ?_)⟩
    cases ed : dcOf ρ i S1 with
    | none => rw [ed] at h1; exact h1.elim
    | some kvs =>
      rw [ed] at h1
      cases ek : keyD k with
      | none => rw [ek] at h1; exact h1.elim
      | some key =>
        rw [ek] at h1
        simp only at h1
        cases el : lookI kvs key with
        | none => rw [el] at h1; exact h1.elim
        | some z =>
          rw [el] at h1
          obtain ⟨c1, c2⟩ := dcOf_of ed
          obtain ⟨fs, hd⟩ := (b1.sto hb).dict c2
          rw [keyD_rep r1 ek]
          have g := DGet.k (k := key) hd
          rw [lookI_V, el] at g
          exact ⟨st, .int z, rfl, g, h1 _ F1 H1 b1 Ext.refl (rep_int _)⟩
end
/-! ### a def that makes its one object first: x = {} -/
def stoD : Sto := { sto0 with mode := .dc [] }
/-- the outcome of what stands behind, as a def's: the names' count is n, the dict's name is the one behind the parameters -/
def runN (n : Nat) (φ : Ph Ctl) : Fn := fun ds _ => match φ (ds.map .d ++ [.st] ++ List.replicate n .un) stoD with
  | .ok (.rt d) _ => .ok (.d d) sto0
  | .ok (.ro xs) _ => .ok (.own xs) sto0
  | .ok (.nx _) _ => .ok (.d .non) sto0
  | .exc x _ _ => .exc x [] sto0
  | _ => .bad
theorem fn_dict {k n : Nat} {N : List Str} {t : TS} {φ : Ph Ctl} {vs : List V} {H : Hp} {Q : VK} {E : XK} (hN : N.length = k + 1 + n) (ht : ST (fun cls d _ H => E cls d H) t φ) (h : spD false k (runN n φ) vs H Q E) :
    tSeq (tAsg tDNewK (gName k)) t { nx := fun _ H' => Q .non H', rt := Q } (L2.start N vs) H := by
  obtain ⟨F, st0, S0, ds, vs', sub, ev, _, hl, r, h⟩ := h
  have ev' : vs = vs' := ev
  subst ev'
  intro d hd
  have fd := sub.none hd
  have es : (L2.start N vs).set k (some (.ref d)) = vs.map some ++ [some (.ref d)] ++ List.replicate n none := by
    unfold L2.start
    have e1 : N.length - vs.length = n + 1 := by rw [hN, r.length, hl]; omega
    rw [e1, List.replicate_succ, List.set_append, List.length_map, r.length, hl, if_neg (by omega), Nat.sub_self]
    simp
  show t _ ((L2.start N vs).set k (some (.ref d))) (upd H d (.dK []))
  rw [es]
  obtain ⟨e1, s1⟩ := Ext.lay0 (st := d) (hb := true) (o := .dK []) sub hd
  have kp : ∀ a u, H a = some u → upd H d (.dK []) a = some u := fun a u w => by rw [upd_ne (ne_of_none w hd)]; exact w
  have key : ∀ (i : Nat) (l : L), (ds.map L.d ++ [L.st] ++ List.replicate n L.un)[i]? = some l → LocAt F (upd H d (.dK [])) (upd H d (.dK [])) d true (vs.map some ++ [some (.ref d)] ++ List.replicate n none)[i]? l := fun i l hi => by
    rw [List.append_assoc] at hi ⊢
    rw [List.getElem?_append] at hi
    rw [List.length_map] at hi
    by_cases c : i < ds.length
    · rw [if_pos c, List.getElem?_map] at hi
      cases e : ds[i]? with
      | none => rw [e] at hi; cases hi
      | some x =>
        rw [e] at hi
        cases hi
        obtain ⟨y, ey, ry⟩ := r.get e
        exact ⟨y, by rw [List.getElem?_append, List.length_map, r.length, if_pos c, List.getElem?_map, ey]; rfl, ry⟩
    · rw [if_neg c] at hi
      rw [List.getElem?_append, List.length_map, r.length, if_neg c]
      cases z : i - ds.length with
      | zero => rw [z] at hi; cases hi; exact ⟨rfl, rfl⟩
      | succ j =>
        rw [z] at hi
        simp only [List.singleton_append, List.getElem?_cons_succ, List.getElem?_replicate] at hi
        split at hi
        · cases hi; trivial
        · cases hi
  have b : Bd F (upd H d (.dK [])) d true F (upd H d (.dK [])) stoD (ds.map L.d ++ [L.st] ++ List.replicate n L.un) (vs.map some ++ [some (.ref d)] ++ List.replicate n none) := by
    refine ⟨s1, Ext.refl, fun _ => StoAt.ofDict (kvs := []) rfl fd upd_same, fun _ => by rw [upd_same]; exact nofun, key, fun i j p xs ys _ h1 => ?_, ?_⟩
    · have m : L.own xs ∈ ds.map L.d ++ [L.st] ++ List.replicate n L.un := List.mem_of_getElem? h1
      simp only [List.mem_append, List.mem_map, List.mem_replicate, List.mem_singleton] at m
      rcases m with (⟨x, _, m⟩ | m) | ⟨_, m⟩ <;> cases m
    · simp only [List.length_append, List.length_map, List.length_replicate, List.length_singleton, r.length]
  refine ht _ _ _ _ _ _ _ _ _ _ b ?_
  have ex : ∀ {F' H' : Hp}, Ext d true F (upd H d (.dK [])) F' H' → Ext st0 false F H F' H' := fun e => ⟨e.ff, fun a u w _ => e.keep a u (kp a u w) fun _ => ne_of_none w hd, fun a w1 w2 => by
    cases q : H a with
    | none => exact absurd q w2
    | some u => exact e.new a w1 (by rw [kp a u q]; exact nofun)⟩
  unfold runN at h
  cases o : φ (ds.map L.d ++ [L.st] ++ List.replicate n L.un) stoD with
  | ok c S' =>
    rw [o] at h
    cases c with
    | nx ρ' => exact fun σ' F' H' b' => h .non F' H' (ex b'.ext) b'.sub nofun (by simp [Rep])
    | rt x => exact fun v F' H' b' r' => h v F' H' (ex b'.ext) b'.sub nofun r'
    | ro xs =>
      refine fun p us F' H' b' q1 q2 q3 r' => h p us F' H' (ex b'.ext) b'.sub nofun q1 q2 ?_ r'
      cases z : H p with
      | none => rfl
      | some u => rw [kp p u z] at q3; cases q3
    | bk ρ' => exact h.elim
    | ct ρ' => exact h.elim
  | exc x ρ' S' =>
    rw [o] at h
    exact fun cls dx σ' F' H' b' xr => h cls dx F' H' (ex b'.ext) b'.sub nofun xr
  | bad => rw [o] at h; exact h.elim
end DL

set_option Elab.async false
set_option linter.all false
set_option maxRecDepth 100000
set_option maxHeartbeats 4000000
set_option autoImplicit false
namespace DL
open PySem PySem.Spec L2
open PyProof.Rows (envOfC)

/-- a module's number -/
theorem pe_k {X : Cx} {x : Str} {i : Int} {pos : Pos} (hg : Gl X x) (hm : ∃ t, X.mg x = some (.int i t)) (hd : (x == ("__debug__" : Str)) = false := by decide) : PE X (.Name x pos) (tC (.int i)) := by
  obtain ⟨t, e⟩ := hm
  exact pe_glob hg e ⟨t, rfl⟩ hd
/-- a method (or __init__) of the text as it stands behind the top -/
structure Dm (K : PySem.W.Frag) (x qual : Str) (st : Stmt) (ps : List Str) (f : Addr) (fd : FuncData) : Prop where
  fn : FunD K x qual (defArgs st) (defBody st) (defScope st) [] [] f fd
  b : Binds K fd ps []
theorem dm_ok {P : Program} {w : World} {K : PySem.W.Frag} {mg : Str → Option Value} {base : Heap} {x qual : Str} {st : Stmt} {f : Addr} {fd : FuncData} {N ps : List Str} {k n nn : Nat} {hb : Bool} {φ : Ph Ctl} (D : Dm K x qual st ps f fd) (S : FnScope N ps (defScope st))
    (hp : ps.length = (if hb = true then 1 else 0) + n) (hN : N.length = (if hb = true then 1 else 0) + n + nn)
    (body : ∀ (cdv : Value) (A : Around) (outer : List Env) (s : Shared) (H : Hp) (E : XK), Room k (A.deeper (envOfC qual (defScope st) s.heap.objs.size f cdv)) →
      ∃ t, PSs (cxOf (L2N.CX P w) P w K mg base N qual (defScope st) f cdv A outer s H E) (defBody st) t ∧ ST (fun cls d _ H => E cls d H) t φ) : FnOk P w K mg base (L2N.CX P w) (k + 1) f fd ps (spD hb n (runD hb nn φ)) :=
  D.fn.ok S (spD_len hp) (fun cdv A outer s H vs Q E hr h => by
    obtain ⟨t, h1, h2⟩ := body cdv A outer s H E hr
    exact ⟨t, h1, fn_ok hN h2 h⟩)
/-- a def whose first row is x = {} -/
theorem cal_dict {P : Program} {w : World} {K : PySem.W.Frag} {mg : Str → Option Value} {base : Heap} {x : Str} {st : Stmt} {f : Addr} {fd : FuncData} {N ps : List Str} {k n nn : Nat} {φ : Ph Ctl} (D : Df K mg x st ps f fd) (S : FnScope N ps (defScope st))
    (hp : ps.length = n) (hN : N.length = n + 1 + nn)
    (body : ∀ (cdv : Value) (A : Around) (outer : List Env) (s : Shared) (H : Hp) (E : XK), Room k (A.deeper (envOfC x (defScope st) s.heap.objs.size f cdv)) →
      ∃ t, PSs (cxOf (L2N.CX P w) P w K mg base N x (defScope st) f cdv A outer s H E) (defBody st) (tSeq (tAsg tDNewK (gName n)) t) ∧ ST (fun cls d _ H => E cls d H) t φ) : Cal P w K mg base x (k + 1) ps (spD false n (runN nn φ)) :=
  ⟨f, fd, D.fn.ok S (spD_len (by rw [hp]; simp)) (fun cdv A outer s H vs Q E hr h => by
    obtain ⟨t, h1, h2⟩ := body cdv A outer s H E hr
    exact ⟨_, h1, fn_dict hN h2 h⟩), D.mgf, D.fn.kp, D.b⟩
/-- a class whose objects are made by its name -/
structure Mke (P : Program) (w : World) (K : PySem.W.Frag) (mg : Str → Option Value) (base : Heap) (x : Str) (C : Addr) (k n : Nat) (m : Fn) : Prop where
  ex : ∃ (f : Addr) (fd : FuncData) (ps : List Str), Mk K C f ∧ FnOk P w K mg base (L2N.CX P w) k f fd ps (spD true n m) ∧ mg x = some (.ref C) ∧ Binds K fd ps []
theorem passE {X : Cx} {E : XK} (tk : L2N.Takes X (fun cls d _ H => E cls d H)) : Passes (L2N.CX X.prog X.w) X E := L2N.passes_call tk fun _ _ _ _ h => h
theorem pe_mke {X : Cx} {E : XK} {x : Str} {C : Addr} {k j n : Nat} {m : Fn} {e : Expr} {es : List Expr} {p pos : Pos} {t : TA} (c : Mke X.prog X.w X.K X.mg X.base x C k n m) (hr : Room j X.A) (hk : k + 1 ≤ j) (hg : Gl X x) (tk : L2N.Takes X (fun cls d _ H => E cls d H)) (ha : PA X (e :: es) t)
    (hdb : (x == ("__debug__" : Str)) = false := by decide) (he : starEach (e :: es) X.env = (false, eval e X.env) :: starEach es X.env := by rfl) (hpl : (backTo pos (starEach es X.env)).any (·.1) = false := by rfl) :
    PE X (.Call (.Name x p) (e :: es) [] pos) (tMake C (spD true n m) [] E t) := by
  obtain ⟨f, fd, ps, M, F, g, b⟩ := c.ex
  exact pe_make M F (hr.mono hk) hg g b .nil (passE tk) ha hdb he hpl
/-- an own error class with an __init__ of two stores -/
structure X2 (P : Program) (w : World) (K : PySem.W.Frag) (mg : Str → Option Value) (base : Heap) (x : Str) (C : Addr) (f g : Str) : Prop where
  oc : OexC K C
  nf : PySem.W.findIn K (.ref C) f = some none
  ng : PySem.W.findIn K (.ref C) g = some none
  mgc : mg x = some (.ref C)
  ex : ∃ (fI : Addr) (fd : FuncData) (ps : List Str), PySem.W.findIn K (.ref C) "__init__" = some (some (.ref fI)) ∧ PySem.W.typeIn K (.ref fI) = some (.type "function") ∧ FnOk P w K mg base CX0 1 fI fd ps (spX2 K f g) ∧ Binds K fd ps []
structure X1 (P : Program) (w : World) (K : PySem.W.Frag) (mg : Str → Option Value) (base : Heap) (x : Str) (C : Addr) (f : Str) : Prop where
  oc : OexC K C
  nf : PySem.W.findIn K (.ref C) f = some none
  mgc : mg x = some (.ref C)
  ex : ∃ (fI : Addr) (fd : FuncData) (ps : List Str), PySem.W.findIn K (.ref C) "__init__" = some (some (.ref fI)) ∧ PySem.W.typeIn K (.ref fI) = some (.type "function") ∧ FnOk P w K mg base CX0 1 fI fd ps (spX1 K f) ∧ Binds K fd ps []
theorem raise_x2 {X : Cx} {W : WX} {x : Str} {C : Addr} {f g : Str} {j : Nat} {e : Expr} {es : List Expr} {p pos pos2 : Pos} {t : TA} (c : X2 X.prog X.w X.K X.mg X.base x C f g) (hr : Room j X.A) (hk : 2 ≤ j) (hc : X.calm = true) (tk : L2N.Takes X W) (hg : Gl X x) (ha : PA X (e :: es) t)
    (hdb : (x == ("__debug__" : Str)) = false := by decide) (he : starEach (e :: es) X.env = (false, eval e X.env) :: starEach es X.env := by rfl) (hpl : (backTo pos (starEach es X.env)).any (·.1) = false := by rfl) :
    PS X (.Raise (some (.Call (.Name x p) (e :: es) [] pos)) none pos2) (fun _ σ H => tMkO C (spX2 X.K f g) [] t σ H fun cls d H' => W cls d σ H') := by
  obtain ⟨fI, fd, ps, h1, h2, h3, h4⟩ := c.ex
  exact L2N.ps_raise hc tk (pmkN c.oc h1 h2 h3 (hr.mono hk) h4 (fun _ _ _ _ _ _ _ z => z.elim) hg c.mgc ha hdb he hpl)
theorem raise_x1 {X : Cx} {W : WX} {x : Str} {C : Addr} {f : Str} {j : Nat} {e : Expr} {es : List Expr} {p pos pos2 : Pos} {t : TA} (c : X1 X.prog X.w X.K X.mg X.base x C f) (hr : Room j X.A) (hk : 2 ≤ j) (hc : X.calm = true) (tk : L2N.Takes X W) (hg : Gl X x) (ha : PA X (e :: es) t)
    (hdb : (x == ("__debug__" : Str)) = false := by decide) (he : starEach (e :: es) X.env = (false, eval e X.env) :: starEach es X.env := by rfl) (hpl : (backTo pos (starEach es X.env)).any (·.1) = false := by rfl) :
    PS X (.Raise (some (.Call (.Name x p) (e :: es) [] pos)) none pos2) (fun _ σ H => tMkO C (spX1 X.K f) [] t σ H fun cls d H' => W cls d σ H') := by
  obtain ⟨fI, fd, ps, h1, h2, h3, h4⟩ := c.ex
  exact L2N.ps_raise hc tk (pmkN c.oc h1 h2 h3 (hr.mono hk) h4 (fun _ _ _ _ _ _ _ z => z.elim) hg c.mgc ha hdb he hpl)
/-- such an __init__, by its text -/
theorem init_x2 {P : Program} {w : World} {K : PySem.W.Frag} {mg : Str → Option Value} {base : Heap} {qual : Str} {st : Stmt} {f : Addr} {fd : FuncData} {a b s1 : Str} (D : Dm K "__init__" qual st [s1, a, b] f fd) (S : FnScope [s1, a, b] [s1, a, b] (defScope st))
    (body : ∀ (cdv : Value) (A : Around) (outer : List Env) (s : Shared) (H : Hp) (E : XK), PSs (cxOf CX0 P w K mg base [s1, a, b] qual (defScope st) f cdv A outer s H E) (defBody st) (tSeq (tOst K a (tVar 0) (tVar 1)) (tOst K b (tVar 0) (tVar 2)))) : FnOk P w K mg base CX0 1 f fd [s1, a, b] (spX2 K a b) :=
  D.fn.ok S (fun vs H Q E h => by obtain ⟨_, _, _, _, rfl, _⟩ := h; rfl) (fun cdv A outer s H vs Q E hr h => ⟨_, body cdv A outer s H E, pure_x2 rfl h⟩)
theorem init_x1 {P : Program} {w : World} {K : PySem.W.Frag} {mg : Str → Option Value} {base : Heap} {qual : Str} {st : Stmt} {f : Addr} {fd : FuncData} {a s1 : Str} (D : Dm K "__init__" qual st [s1, a] f fd) (S : FnScope [s1, a] [s1, a] (defScope st))
    (body : ∀ (cdv : Value) (A : Around) (outer : List Env) (s : Shared) (H : Hp) (E : XK), PSs (cxOf CX0 P w K mg base [s1, a] qual (defScope st) f cdv A outer s H E) (defBody st) (tOst K a (tVar 0) (tVar 1))) : FnOk P w K mg base CX0 1 f fd [s1, a] (spX1 K a) :=
  D.fn.ok S (fun vs H Q E h => by obtain ⟨_, _, _, rfl, _⟩ := h; rfl) (fun cdv A outer s H vs Q E hr h => ⟨_, body cdv A outer s H E, by
    obtain ⟨x, C, y, rfl, e, T, n, q⟩ := h
    exact ⟨y, rfl, .ref x, rfl, x, C, rfl, T, n, .inl ⟨e, q⟩⟩⟩)
end DL

set_option Elab.async false
set_option linter.all false
set_option maxRecDepth 100000
set_option maxHeartbeats 4000000
set_option autoImplicit false
namespace DL
open PySem PySem.Spec L2
open PyProof.Rows (envOfC)

/-! ### values all of whose objects are new -/
/-- G: objects that stand, that nothing else holds: they were not tracked in H, they aren't frozen -/
def New (G H F' H' : Hp) : Prop := ∀ a o, G a = some o → H a = none ∧ H' a = some o ∧ F' a = none
theorem new_nil {H F' H' : Hp} : New (fun _ => none) H F' H' := fun a o e => nomatch e
/-- no two of a new list's members are one object -/
def DR (vs : List V) : Prop := ∀ (i j : Nat) (a : Addr), vs[i]? = some (.ref a) → vs[j]? = some (.ref a) → i = j
def Dst (G : Hp) (v : V) : Prop := ∀ (p : Addr) (vs : List V), v = .ref p → G p = some (.lst vs) → DR vs
def RN : RR D V := fun _ H F' H' d v => ∃ G, New G H F' H' ∧ Rep G d v ∧ Dst G v
theorem rep_dom {G : Hp} {d : D} {a : Addr} (r : Rep G d (.ref a)) : G a ≠ none := by
  cases d <;> simp only [Rep] at r <;> try (cases r; done)
  all_goals (first
    | (obtain ⟨b, xs, e, ⟨o, _, f⟩, _⟩ := r; cases e; rw [f]; exact nofun)
    | (obtain ⟨b, xs, e, f, _⟩ := r; cases e; rw [f]; exact nofun)
    | (obtain ⟨b, dx, xs, e, f, _⟩ := r; cases e; rw [f]; exact nofun))
theorem reps_dom {G : Hp} {ds : List D} {vs : List V} (r : Reps G ds vs) {i : Nat} {a : Addr} (h : vs[i]? = some (.ref a)) : G a ≠ none := by
  obtain ⟨d, _, rd⟩ := r.get' h
  exact rep_dom rd
theorem DR.snoc {vs : List V} {v : V} (h : DR vs) (n : ∀ (i : Nat) (a : Addr), vs[i]? = some (V.ref a) → v ≠ V.ref a) : DR (vs ++ [v]) := by
  have at' : ∀ {i : Nat} {a : Addr}, (vs ++ [v])[i]? = some (V.ref a) → vs[i]? = some (V.ref a) ∨ (i = vs.length ∧ v = V.ref a) := fun {i a} e => by
    rw [List.getElem?_append] at e
    by_cases c : i < vs.length
    · rw [if_pos c] at e; exact .inl e
    · rw [if_neg c] at e
      by_cases z : i - vs.length = 0
      · rw [z] at e; cases e; exact .inr ⟨by omega, rfl⟩
      · rw [List.getElem?_cons, if_neg z] at e; cases e
  intro i j a h1 h2
  rcases at' h1 with h1 | ⟨e1, z1⟩ <;> rcases at' h2 with h2 | ⟨e2, z2⟩
  · exact h i j a h1 h2
  · exact absurd z2 (n i a h1)
  · exact absurd z1 (n j a h2)
  · rw [e1, e2]
theorem rm_n : RM RN := fun _ _ _ _ _ _ _ k h => by
  obtain ⟨G, n, r, z⟩ := h
  exact ⟨G, fun a o e => ⟨k a (n a o e).1, (n a o e).2⟩, r, z⟩
abbrev NT (W : WX) (t : TE) (φ : Ph D) : Prop := GT RN W t φ
def scD : D → Bool
  | .tup _ => false
  | .pr _ => false
  | .lst _ => false
  | .obj _ _ _ => false
  | _ => true
theorem sc_rep {F G : Hp} {d : D} {v : V} (h : scD d = true) (r : Rep F d v) : Rep G d v := by
  cases d <;> simp only [scD] at h <;> try (cases h; done)
  all_goals (simp only [Rep] at r ⊢; exact r)
def mSc (φ : Ph D) : Ph D := fun ρ S => (φ ρ S).bind fun d S1 => if scD d = true then .ok d S1 else .bad
theorem nt_sc {W : WX} {t : TE} {φ : Ph D} (h : ET W t φ) : NT W t (mSc φ) := fun F0 H0 st hb F H S ρ σ Q b q =>
  h _ _ _ _ _ _ _ _ _ _ b (GW.bind rm_n q fun d S1 v F1 H1 b1 e1 r1 q1 => by
    by_cases c : scD d = true
    · rw [if_pos c] at q1
      exact q1 v F1 H1 b1 Ext.refl ⟨fun _ => none, new_nil, sc_rep c r1, nofun⟩
    · rw [if_neg c] at q1; exact q1.elim)
def join (G G' : Hp) : Hp := fun a => match G a with
  | some o => some o
  | none => G' a
theorem join_l {G G' : Hp} {a : Addr} {o : HO} (h : G a = some o) : join G G' a = some o := by unfold join; rw [h]
theorem join_r {G G' : Hp} {a : Addr} (h : G a = none) : join G G' a = G' a := by unfold join; rw [h]
theorem sub_joinL (G G' : Hp) : Sub G (join G G') := fun a o h => join_l h
theorem sub_joinR {G G' : Hp} (d : ∀ a o, G' a = some o → G a = none) : Sub G' (join G G') := fun a o h => by rw [join_r (d a o h)]; exact h
theorem nt_lc {W : WX} {K : PySem.W.Frag} {wi : TI} {tt : TT} {te : TE} {φi : Ph (List D)} {φt : Ph Bool} {φe : Ph D} (g : Tgt) (vs : List Nat) (hgv : ∀ i ∈ g.names, i ∈ vs) (hi : IT W wi φi) (ht : BT W0 tt φt) (he : NT W0 te φe) :
    NT W (tLc wi (TgtT K g) tt te vs) (mFrz (mLc g vs φi φt φe)) := fun F0 H0 st hb F H S ρ σ Q b q =>
  hi _ _ _ _ _ _ _ _ _ _ b (by
    have q' : GW RN W F0 H0 st hb F H ρ σ ((φi ρ S).bind fun ds S1 => (if line ds.length = true then compD g φt φe ds (wipeL ρ vs) S1 else .bad).bind fun xs S2 => .ok (.lst xs) S2) Q := by
      have e : mFrz (mLc g vs φi φt φe) ρ S = (φi ρ S).bind fun ds S1 => (if line ds.length = true then compD g φt φe ds (wipeL ρ vs) S1 else .bad).bind fun xs S2 => .ok (.lst xs) S2 := by
        unfold mFrz mLc
        cases φi ρ S <;> rfl
      rw [← e]; exact q
    refine GW.bind rm_n q' fun ds S1 J F1 H1 b1 e1 r1 q1 D hD => ?_
    have w : Walk J ds.length (fun H => Sub F1 H) (YD F1 ds) := r1
    by_cases hz : line ds.length = true
    · rw [if_pos hz] at q1
      have hz' : ds.length ≤ 1000 := of_decide_eq_true hz
      have h0D : H0 D = none := b1.h0none hD
      have f1D : F1 D = none := b1.sub.none hD
      have nwD : ∀ (j : Nat) (ys : List DL.D), ρ[j]? = some (.own ys) → σ[j]? ≠ some (some (.ref D)) := fun j ys h => b1.noOwn hD j ys h
      refine lc_it w (fun i H2 => ∃ F2 S2 acc accD G, Bd F1 H0 st hb F2 H2 S2 ρ σ ∧ Ext st hb F1 H1 F2 H2 ∧ H2 D = some (.lst acc) ∧ F2 D = none ∧ Reps G accD acc ∧ New G H1 F2 H2 ∧ G D = none ∧ DR acc ∧ accD.length ≤ i ∧
          GW RN W F0 H0 st hb F1 H1 ρ σ ((compD g φt φe (ds.drop i) (wipeL ρ vs) S2).bind fun xs S3 => .ok (.lst (accD ++ xs)) S3) Q)
        ⟨F1, S1, [], [], fun _ => none, b1.up.updN h0D f1D nwD, Ext.refl.updN hD, upd_same, f1D, reps_nil.mpr rfl, new_nil, rfl, (fun i j a h => by simp at h), Nat.le_refl _, ?_⟩ ?_ ?_ ?_
      · rw [List.drop_zero]
        cases o : compD g φt φe ds (wipeL ρ vs) S1 with
        | ok xs S3 => rw [o] at q1; exact q1
        | exc x ρ' S3 => rw [o] at q1; exact q1
        | bad => rw [o] at q1; exact q1
      · rintro i H2 _ ⟨F2, S2, acc, accD, G, b2, e2, _⟩
        exact e2.ff.trans b2.sub
      · rintro i x H2 H3 hi ⟨F2, S2, acc, accD, G, b2, e2, hH, fD, ra, nG, gD, dr, hl, q2⟩ y
        obtain ⟨d, F3, ed, b3, e3, r3⟩ := y.go e2.ff b2
        have hD3 : H3 D = some (.lst acc) := e3.keep D _ hH fun h z => by subst z; exact b2.st0 h h0D
        have fD3 : F3 D = none := e3.new D fD (by rw [hH]; exact nofun)
        have stG : ∀ a o, G a = some o → hb = true → a ≠ st := fun a o e h z => by
          subst z; exact b1.stH h (nG a o e).1
        have nG3 : New G H1 F3 H3 := fun a o e => by
          obtain ⟨n1, n2, n3⟩ := nG a o e
          exact ⟨n1, e3.keep a o n2 fun h => stG a o e h, e3.new a n3 (by rw [n2]; exact nofun)⟩
        have edr : ds.drop i = d :: ds.drop (i + 1) := by
          rw [List.getElem?_eq_some_iff] at ed
          obtain ⟨h1, h2⟩ := ed
          rw [← h2]
          exact List.drop_eq_getElem_cons h1
        rw [edr] at q2
        simp only [compD] at q2
        cases p : g.put d (wipeL ρ vs) with
        | none => rw [p] at q2; exact q2.elim
        | some ρ3 =>
          rw [p] at q2
          simp only at q2
          refine tgt_ok2 (b3.wipes vs) r3 p fun σ' b4 hlen hnm => ⟨?_, ?_⟩
          · refine wipe_same (by rw [hlen, wipe_length]) fun j hj => ?_
            rw [hnm j fun z => hj (hgv j z), wipe_get, if_neg hj]
          · have b4' := b4.up
            refine ht _ _ _ _ _ _ _ _ _ _ b4' ?_
            have asc : ∀ {α β : Type} (o : Out α) (k : α → Sto → Out (List DL.D)) (l : List DL.D → Sto → Out DL.D), (o.bind k).bind l = o.bind fun a S => (k a S).bind l := fun o k l => by cases o <;> rfl
            rw [asc (β := Nat)] at q2
            refine GW.noX q2 fun c S5 c' F5 H5 b5 e5 rc q3 => ?_
            cases (show c = c' from rc)
            have ex5 : Ext st hb F1 H1 F5 H5 := (e2.trans e3 b2.stH).trans e5 b3.stH
            have hD5 : H5 D = some (.lst acc) := e5.keep D _ hD3 fun h z => by subst z; exact b2.st0 h h0D
            have fD5 : F5 D = none := e5.new D fD3 (by rw [hD3]; exact nofun)
            have bρ5 : Bd F1 H0 st hb F5 H5 S5 ρ σ := b3.go (S' := S5) e5 b5.sub b5.sto
            have nG5 : New G H1 F5 H5 := fun a o e => by
              obtain ⟨n1, n2, n3⟩ := nG3 a o e
              exact ⟨n1, e5.keep a o n2 fun h => stG a o e h, e5.new a n3 (by rw [n2]; exact nofun)⟩
            cases c
            · refine iteF ?_
              rw [if_neg Bool.false_ne_true] at q3
              exact ⟨F5, S5, acc, accD, G, bρ5, ex5, hD5, fD5, ra, nG5, gD, dr, by omega, q3⟩
            · refine iteT ?_
              rw [if_pos rfl, asc (β := Nat)] at q3
              refine he _ _ _ _ _ _ _ _ _ _ (b5.up) ?_
              refine GW.noX q3 fun z S6 u F6 H6 b6 e6 rz q4 => ?_
              obtain ⟨G', nG', rz', _⟩ := rz
              have hD6 : H6 D = some (.lst acc) := e6.keep D _ hD5 fun h z => by subst z; exact b2.st0 h h0D
              have fD6 : F6 D = none := e6.new D fD5 (by rw [hD5]; exact nofun)
              have nG6 : New G H1 F6 H6 := fun a o e => by
                obtain ⟨n1, n2, n3⟩ := nG5 a o e
                exact ⟨n1, e6.keep a o n2 fun h => stG a o e h, e6.new a n3 (by rw [n2]; exact nofun)⟩
              have dis : ∀ a o, G' a = some o → G a = none := fun a o e => by
                cases z : G a with
                | none => rfl
                | some w => exact absurd (nG' a o e).1 (by rw [(nG5 a w z).2.1]; exact nofun)
              have g'D : G' D = none := by
                cases z : G' D with
                | none => rfl
                | some w => exact absurd (nG' D w z).1 (by rw [hD5]; exact nofun)
              have n1' : ∀ a o, G' a = some o → H1 a = none := fun a o e => ex5.nones b5.stH a (nG' a o e).1
              refine ⟨acc, hD6, ?_, F6, S6, acc ++ [u], accD ++ [z], join G G', (bρ5.go (S' := S6) e6 b6.sub b6.sto).updN h0D fD6 nwD, ((ex5.trans e6 b5.stH)).updN hD, upd_same, fD6, ?_, ?_, ?_, dr.snoc (fun i a e1 e2 => ?_), ?_, ?_⟩
              · rw [ra.length]; exact small1000 (by omega)
              · exact (Reps.mono (sub_joinL G G') _ _ ra).append (Reps.one (Rep.mono (sub_joinR dis) _ _ rz'))
              · intro a o e
                have key : H1 a = none ∧ H6 a = some o ∧ F6 a = none := by
                  cases zg : G a with
                  | some w => rw [join_l zg] at e; cases e; exact nG6 a _ zg
                  | none => rw [join_r zg] at e; exact ⟨n1' a o e, (nG' a o e).2⟩
                have na : a ≠ D := fun w => by
                  subst w
                  rw [join_r gD, g'D] at e; cases e
                exact ⟨key.1, by rw [upd_ne na]; exact key.2.1, key.2.2⟩
              · rw [join_r gD]; exact g'D
              · subst e2
                have h1 := reps_dom ra e1
                cases z : G' a with
                | none => exact rep_dom rz' z
                | some o => exact h1 (dis a o z)
              · rw [List.length_append]; simp only [List.length_cons, List.length_nil]; omega
              · rw [asc (β := Nat)] at q4
                have e : ∀ (o : Out (List DL.D)), (o.bind fun a S => ((Out.ok (z :: a) S : Out (List DL.D)).bind fun xs S3 => (Out.ok (.lst (accD ++ xs)) S3 : Out DL.D))) = o.bind fun xs S3 => .ok (.lst (accD ++ [z] ++ xs)) S3 := fun o => by
                  cases o
                  · simp [Out.bind]
                  · rfl
                  · rfl
                rw [e] at q4
                exact q4
      · rintro H2 ⟨F2, S2, acc, accD, G, b2, e2, hH, fD, ra, nG, gD, dr, hl, q2⟩
        rw [List.drop_length] at q2
        simp only [compD, Out.bind, List.append_nil] at q2
        refine q2 (.ref D) F2 H2 (b1.down b2) e2 ⟨upd G D (.lst acc), fun a o e => ?_, rep_lst ra gD, fun p vs e g => by cases e; rw [upd_same] at g; cases g; exact dr⟩
        by_cases z : a = D
        · subst z; rw [upd_same] at e; cases e; exact ⟨hD, hH, fD⟩
        · rw [upd_ne z] at e; exact nG a o e
    · rw [if_neg hz] at q1; exact q1.elim)
end DL

set_option Elab.async false
set_option linter.all false
set_option maxRecDepth 100000
set_option maxHeartbeats 4000000
set_option autoImplicit false
namespace DL
open PySem PySem.Spec L2
open PyProof.Rows (envOfC)

def mTupN (φ : Ph D) : Ph D := m1 (fun d S => match d with
      | .lst xs => .ok (.tup xs) S
      | _ => .bad) φ
theorem nt_tuple {W : WX} {K : PySem.W.Frag} {t : TE} {φ : Ph D} (h : NT W t φ) : NT W (tCB (rTupF K) (tCons t tNil))
    (mTupN φ) := fun F0 H0 st hb F H S ρ σ Q b q =>
  h _ _ _ _ _ _ _ _ _ _ b (by
    unfold mTupN m1 at q
    cases o : φ ρ S with
    | ok d S1 =>
      rw [o] at q
      intro v F1 H1 b1 e1 r1
      simp only [Out.bind] at q
      cases d <;> try exact q.elim
      rename_i xs
      obtain ⟨G, nG, r, _⟩ := r1
      simp only [Rep] at r
      obtain ⟨a, ys, rfl, ga, rs⟩ := r
      refine ⟨a, ys, rfl, .inl ⟨SqL.of (nG a _ ga).2.1, fun l o hd hl => ?_⟩⟩
      have f1l : F1 l = none := b1.sub.none hl
      have gl : G l = none := by
        cases z : G l with
        | none => rfl
        | some w => rw [(nG l w z).2.1] at hl; cases hl
      refine q _ F1 _ (b1.lay0 hl) (e1.trans (Ext.lay0 b1.sub hl).1 b1.stH) ⟨upd G l (.frz o (.tup ys)), fun x u e => ?_, rep_tup rs gl hd, fun p vs e g => by cases e; rw [upd_same] at g; cases g⟩
      by_cases z : x = l
      · subst z; rw [upd_same] at e; cases e; exact ⟨e1.nones b1.stH _ hl, upd_same, f1l⟩
      · rw [upd_ne z] at e
        obtain ⟨n1, n2, n3⟩ := nG x u e
        exact ⟨n1, by rw [upd_ne z]; exact n2, n3⟩
    | exc x ρ' S1 => rw [o] at q; exact q
    | bad => rw [o] at q; exact q.elim)
/-! ### statements whose return gives what is new -/
def SN (W : WX) (F0 H0 : Hp) (st : Addr) (hb : Bool) (o : Out Ctl) (Dn : Ends) : Prop := match o with
  | .ok (.nx ρ') S' => ∀ (σ' : L2.St) (F' H' : Hp), Bd F0 H0 st hb F' H' S' ρ' σ' → Dn.nx σ' H'
  | .ok (.rt d) S' => ∀ (v : V) (G F' H' : Hp), Bd F0 H0 st hb F' H' S' [] [] → New G H0 F' H' → Rep G d v → Dst G v → Dn.rt v H'
  | .exc x ρ' S' => ∀ (cls : Value) (dx : Option Addr) (σ' : L2.St) (F' H' : Hp), Bd F0 H0 st hb F' H' S' ρ' σ' → XRep F' H' x cls dx → W cls dx σ' H'
  | _ => False
def TN (W : WX) (t : TS) (φ : Ph Ctl) : Prop :=
  ∀ (F0 H0 : Hp) (st : Addr) (hb : Bool) (F H : Hp) (S : Sto) (ρ : List L) (σ : L2.St) (Dn : Ends), Bd F0 H0 st hb F H S ρ σ → SN W F0 H0 st hb (φ ρ S) Dn → t Dn σ H
theorem GW.stn {α β : Type} {R : RR α β} {W : WX} {F0 H0 F H : Hp} {st : Addr} {hb : Bool} {ρ : List L} {σ : L2.St} {o : Out α} {k : α → Sto → Out Ctl} {Dn : Ends} {Q1 : β → Hp → Prop} (h : SN W F0 H0 st hb (o.bind k) Dn)
    (hk : ∀ a S1 b F1 H1, Bd F0 H0 st hb F1 H1 S1 ρ σ → Ext st hb F H F1 H1 → R st H F1 H1 a b → SN W F0 H0 st hb (k a S1) Dn → Q1 b H1) : GW R W F0 H0 st hb F H ρ σ o Q1 := by
  cases o with
  | ok a S1 => exact fun v F2 H2 b2 e2 r => hk a S1 v F2 H2 b2 e2 r h
  | exc x ρ' S1 => exact fun cls dx F' H' b' xr => h cls dx σ F' H' b' xr
  | bad => exact h
section
variable {W : WX} {K : PySem.W.Frag} {te : TE} {φ : Ph D} {t u : TS} {φt φu : Ph Ctl} {tc : TT} {φc : Ph Bool} {tr : TA} {φl : Ph (List D)}
theorem tn_ret (h : NT W te φ) : TN W (tRet te) (mRet φ) := fun F0 H0 st hb F H S ρ σ Dn b q =>
  h _ _ _ _ _ _ _ _ _ _ b (GW.stn q fun d S1 v F1 H1 b1 e1 r1 q1 => by
    obtain ⟨G, nG, r, z⟩ := r1
    exact q1 v G F1 H1 b1.bare (fun a o e => ⟨b.h0none (nG a o e).1, (nG a o e).2⟩) r z)
theorem tn_next : TN W tNext mNext := fun F0 H0 st hb F H S ρ σ Dn b h => h σ F H b
def mSeqN (φt φu : Ph Ctl) : Ph Ctl := fun ρ S => match φt ρ S with
  | .ok (.nx ρ') S' => φu ρ' S'
  | .exc x ρ' S' => .exc x ρ' S'
  | _ => .bad
theorem tn_seq (h1 : ST W t φt) (h2 : TN W u φu) : TN W (tSeq t u) (mSeqN φt φu) := fun F0 H0 st hb F H S ρ σ Dn b h =>
  h1 _ _ _ _ _ _ _ _ _ _ b (by
    unfold mSeqN at h
    cases o : φt ρ S with
    | ok c S1 =>
      rw [o] at h
      cases c with
      | nx ρ' => exact fun σ' F' H' b' => h2 _ _ _ _ _ _ _ _ _ _ b' h
      | rt d => exact h.elim
      | ro xs => exact h.elim
      | bk ρ' => exact h.elim
      | ct ρ' => exact h.elim
    | exc x ρ' S1 => rw [o] at h; exact h
    | bad => rw [o] at h; exact h.elim)
theorem tn_seqN (h1 : TN W t φt) (h2 : TN W u φu) : TN W (tSeq t u) (mSeq φt φu) := fun F0 H0 st hb F H S ρ σ Dn b h =>
  h1 _ _ _ _ _ _ _ _ _ _ b (by
    unfold mSeq Out.seq at h
    cases o : φt ρ S with
    | ok c S1 =>
      rw [o] at h
      cases c with
      | nx ρ' => exact fun σ' F' H' b' => h2 _ _ _ _ _ _ _ _ _ _ b' h
      | rt d => exact h
      | ro xs => exact h
      | bk ρ' => exact h
      | ct ρ' => exact h
    | exc x ρ' S1 => rw [o] at h; exact h
    | bad => rw [o] at h; exact h.elim)
theorem tn_if (hc : BT W tc φc) (h1 : TN W t φt) (h2 : TN W u φu) : TN W (tIfS tc t u) (mIfS φc φt φu) := fun F0 H0 st hb F H S ρ σ Dn b h =>
  hc _ _ _ _ _ _ _ _ _ _ b (GW.stn h fun c S1 v F1 H1 b1 e1 r1 h1' => by
    cases (show c = v from r1)
    cases c
    · exact iteF (h2 _ _ _ _ _ _ _ _ _ _ b1 h1')
    · exact iteT (h1 _ _ _ _ _ _ _ _ _ _ b1 h1'))
/-! ### a def's promise of what is new -/
def RWN (F H : Hp) (o : Out Res) (Q : VK) (E : XK) : Prop := match o with
  | .ok (.d d) _ => ∀ (v : V) (G F' H' : Hp), Ext 0 false F H F' H' → Sub F' H' → New G H F' H' → Rep G d v → Dst G v → Q v H'
  | .exc x _ _ => ∀ (cls : Value) (dx : Option Addr) (F' H' : Hp), Ext 0 false F H F' H' → Sub F' H' → XRep F' H' x cls dx → E cls dx H'
  | _ => False
def spN (n : Nat) (m : Fn) : Sp := fun vs H Q E => ∃ (F : Hp) (ds : List D), Sub F H ∧ ds.length = n ∧ Reps F ds vs ∧ RWN F H (m ds sto0) Q E
theorem spN_len {n k : Nat} {m : Fn} (hk : k = n) : ∀ vs H Q E, spN n m vs H Q E → vs.length = k := by
  rintro vs H Q E ⟨F, ds, _, hl, r, _⟩
  rw [r.length, hl, hk]
theorem fn_okN {k n : Nat} {N : List Str} {t : TS} {φ : Ph Ctl} {vs : List V} {H : Hp} {Q : VK} {E : XK} (hN : N.length = k + n) (ht : TN (fun cls d _ H => E cls d H) t φ) (h : spN k (runD false n φ) vs H Q E) :
    t { nx := fun _ H' => Q .non H', rt := Q } (L2.start N vs) H := by
  obtain ⟨F, ds, sub, hl, r, h⟩ := h
  have b : Bd F H 0 false F H sto0 (startL false n ds) (L2.start N vs) := by
    have es : L2.start N vs = vs.map some ++ List.replicate n none := by
      unfold L2.start
      have e : N.length - vs.length = n := by rw [hN, r.length, hl]; omega
      rw [e]
    rw [es]
    refine ⟨sub, Ext.refl, nofun, nofun, ?_, ?_, ?_⟩
    · intro i l hi
      have hi' : (ds.map L.d ++ List.replicate n L.un)[i]? = some l := hi
      rw [List.getElem?_append, List.length_map] at hi'
      by_cases c : i < ds.length
      · rw [if_pos c, List.getElem?_map] at hi'
        cases e : ds[i]? with
        | none => rw [e] at hi'; cases hi'
        | some d =>
          rw [e] at hi'
          cases hi'
          obtain ⟨x, ex, rx⟩ := r.get e
          exact ⟨x, by rw [List.getElem?_append, List.length_map, r.length, if_pos c, List.getElem?_map, ex]; rfl, rx⟩
      · rw [if_neg c, List.getElem?_replicate] at hi'
        split at hi'
        · cases hi'; trivial
        · cases hi'
    · intro i j p xs ys n' h1
      have m : L.own xs ∈ ds.map L.d ++ List.replicate n L.un := List.mem_of_getElem? (show (ds.map L.d ++ List.replicate n L.un)[i]? = _ from h1)
      simp only [List.mem_append, List.mem_map, List.mem_replicate] at m
      rcases m with ⟨d, _, m⟩ | ⟨_, m⟩ <;> cases m
    · show _ = (ds.map L.d ++ List.replicate n L.un).length
      simp only [List.length_append, List.length_map, List.length_replicate, r.length]
  refine ht _ _ _ _ _ _ _ _ _ _ b ?_
  unfold runD at h
  cases o : φ (startL false n ds) sto0 with
  | ok c S' =>
    rw [o] at h
    cases c with
    | nx ρ' => exact fun σ' F' H' b' => h .non (fun _ => none) F' H' b'.ext b'.sub new_nil (by simp [Rep]) nofun
    | rt d => exact fun v G F' H' b' nG r' z => h v G F' H' b'.ext b'.sub nG r' z
    | ro xs => exact h.elim
    | bk ρ' => exact h.elim
    | ct ρ' => exact h.elim
  | exc x ρ' S' =>
    rw [o] at h
    exact fun cls dx σ' F' H' b' xr => h cls dx F' H' b'.ext b'.sub xr
  | bad => rw [o] at h; exact h.elim
theorem cal_okN {P : Program} {w : World} {K : PySem.W.Frag} {mg : Str → Option Value} {base : Heap} {x : Str} {st : Stmt} {f : Addr} {fd : FuncData} {N ps : List Str} {k n nn : Nat} {φ : Ph Ctl} (D : Df K mg x st ps f fd) (S : FnScope N ps (defScope st))
    (hp : ps.length = n) (hN : N.length = n + nn)
    (body : ∀ (cdv : Value) (A : Around) (outer : List Env) (s : Shared) (H : Hp) (E : XK), Room k (A.deeper (envOfC x (defScope st) s.heap.objs.size f cdv)) →
      ∃ t, PSs (cxOf (L2N.CX P w) P w K mg base N x (defScope st) f cdv A outer s H E) (defBody st) t ∧ TN (fun cls d _ H => E cls d H) t φ) : Cal P w K mg base x (k + 1) ps (spN n (runD false nn φ)) :=
  ⟨f, fd, D.fn.ok S (spN_len hp) (fun cdv A outer s H vs Q E hr h => by
    obtain ⟨t, h1, h2⟩ := body cdv A outer s H E hr
    exact ⟨t, h1, fn_okN hN h2 h⟩), D.mgf, D.fn.kp, D.b⟩
theorem Cal.noneN {P : Program} {w : World} {K : PySem.W.Frag} {mg : Str → Option Value} {base : Heap} {x : Str} {st : Stmt} {ps : List Str} {f : Addr} {fd : FuncData} {k n : Nat} (D : Df K mg x st ps f fd) (hp : ps.length = n) : Cal P w K mg base x k ps (spN n fun _ _ => .bad) :=
  ⟨f, fd, ⟨spN_len hp, fun A outer s H args us vs Q E hr e0 hb' hv h => by
    obtain ⟨_, _, _, _, _, z⟩ := h
    exact z.elim⟩, D.mgf, D.fn.kp, D.b⟩
/-- what is new is frozen -/
theorem Bd.frzG {F0 H0 F H F' H' G : Hp} {st : Addr} {hb : Bool} {S S' : Sto} {ρ : List L} {σ : L2.St} (b : Bd F0 H0 st hb F H S ρ σ) (e : Ext st hb F H F' H') (b' : Bd F0 H0 st hb F' H' S' ρ σ) (nG : New G H F' H') :
    Bd F0 H0 st hb (DL.join F' G) H' S' ρ σ ∧ Ext st hb F H (DL.join F' G) H' := by
  have ff : Sub F' (DL.join F' G) := sub_joinL _ _
  have jn : ∀ a, F' a = none → H a ≠ none → DL.join F' G a = none := fun a h1 h2 => by
    rw [join_r h1]
    cases z : G a with
    | none => rfl
    | some w => exact absurd (nG a w z).1 h2
  refine ⟨⟨fun a o h => ?_, ⟨b'.ext.ff.trans ff, b'.ext.keep, fun a h1 h2 => ?_⟩, fun h => ?_, b'.st0, fun i l h => ?_, b'.dis, b'.len⟩, ⟨e.ff.trans ff, e.keep, fun a h1 h2 => jn a (e.new a h1 h2) h2⟩⟩
  · cases z : F' a with
    | some w => rw [join_l z] at h; cases h; exact b'.sub a _ z
    | none => rw [join_r z] at h; exact (nG a o h).2.1
  · have h3 := b'.ext.new a h1 h2
    refine jn a h3 fun z => h2 (b.h0none z)
  · obtain ⟨f, u, hu, hi⟩ := b'.sto h
    exact ⟨jn st f (b.stH h), u, hu, hi.mono ff⟩
  · have q := b'.loc i l h
    cases l with
    | un => trivial
    | d x => obtain ⟨v, e1, r⟩ := q; exact ⟨v, e1, Rep.mono ff x v r⟩
    | own xs =>
      obtain ⟨p, vs, e1, e2, e3, e4, r⟩ := q
      obtain ⟨p', vs', e1', e2', _⟩ := b.loc i _ h
      rw [e1] at e1'
      cases e1'
      exact ⟨p, vs, e1, e2, jn p e3 (by rw [e2']; exact nofun), e4, Reps.mono ff xs vs r⟩
    | st => exact q
/-- its call, as what is new -/
def mCallN (m : Fn) (φl : Ph (List D)) : Ph D := fun ρ S => (φl ρ S).bind fun ds S1 => match m ds sto0 with
  | .ok (.d d) _ => .ok d S1
  | .exc x _ _ => .exc x ρ S1
  | _ => .bad
/-- its call, as data -/
theorem et_callN {n k : Nat} {m : Fn} (hn : LN φl k) (hk : n = k) (hl : AT W tr φl) : ET W (tCallSD (spN n m) [] (WE W) tr) (mCallN m φl) := fun F0 H0 st hb F H S ρ σ Q b h =>
  hl _ _ _ _ _ _ _ _ _ _ b (by
    unfold mCallN at h
    cases o : φl ρ S with
    | ok ds S1 =>
      rw [o] at h
      simp only [Out.bind] at h
      refine fun vs F1 H1 b1 e1 r1 => ⟨F1, ds, b1.sub, by rw [hk]; exact hn ρ S ds S1 o, by rw [List.append_nil]; exact r1, ?_⟩
      cases om : m ds sto0 with
      | ok rr S2 =>
        rw [om] at h
        cases rr with
        | d d =>
          intro v G F2 H2 e2 s2 nG r2 _
          have b2 := b1.after0 (st' := 0) e2 s2
          obtain ⟨b3, e3⟩ := b1.frzG e2.of_no b2 nG
          exact h v _ H2 b3 (e1.trans e3 b1.stH) (Rep.mono (sub_joinR fun a o w => by
            cases z : F2 a with
            | none => rfl
            | some u => exact absurd (nG a o w).2.2 (by rw [z]; exact nofun)) _ _ r2)
        | own xs => exact h.elim
      | exc x ρ' S2 =>
        rw [om] at h
        exact fun cls dx F2 H2 e2 s2 xr => h cls dx F2 H2 (b1.after0 e2 s2) xr
      | bad => rw [om] at h; exact h.elim
    | exc x ρ' S1 => rw [o] at h; exact h
    | bad => rw [o] at h; exact h.elim)
theorem nt_callN {n k : Nat} {m : Fn} (hn : LN φl k) (hk : n = k) (hl : AT W tr φl) : NT W (tCallSD (spN n m) [] (WE W) tr) (mCallN m φl) := fun F0 H0 st hb F H S ρ σ Q b h =>
  hl _ _ _ _ _ _ _ _ _ _ b (by
    unfold mCallN at h
    cases o : φl ρ S with
    | ok ds S1 =>
      rw [o] at h
      simp only [Out.bind] at h
      refine fun vs F1 H1 b1 e1 r1 => ⟨F1, ds, b1.sub, by rw [hk]; exact hn ρ S ds S1 o, by rw [List.append_nil]; exact r1, ?_⟩
      cases om : m ds sto0 with
      | ok rr S2 =>
        rw [om] at h
        cases rr with
        | d d =>
          intro v G F2 H2 e2 s2 nG r2 z
          exact h v F2 H2 (b1.after0 (st' := 0) e2 s2) (e1.trans e2.of_no b1.stH) ⟨G, fun a o w => ⟨e1.nones b1.stH a (nG a o w).1, (nG a o w).2⟩, r2, z⟩
        | own xs => exact h.elim
      | exc x ρ' S2 =>
        rw [om] at h
        exact fun cls dx F2 H2 e2 s2 xr => h cls dx F2 H2 (b1.after0 e2 s2) xr
      | bad => rw [om] at h; exact h.elim
    | exc x ρ' S1 => rw [o] at h; exact h
    | bad => rw [o] at h; exact h.elim)
end
end DL

set_option Elab.async false
set_option linter.all false
set_option maxRecDepth 100000
set_option maxHeartbeats 4000000
set_option autoImplicit false
namespace DL
open PySem PySem.Spec L2
open PyProof.Rows (envOfC AllBare)

/-! ### defs called within an except suite -/
structure CalH (P : Program) (w : World) (K : PySem.W.Frag) (mg : Str → Option Value) (base : Heap) (x : Str) (k : Nat) (ps : List Str) (sp : Sp) : Prop where
  ex : ∃ (f : Addr) (fd : FuncData), L2H.FnH P w K mg base (L2N.CX P w) k f fd ps sp ∧ mg x = some (.ref f) ∧ PySem.W.keepIn K (.ref f) = true ∧ Binds K fd ps []
theorem cal_okH {P : Program} {w : World} {K : PySem.W.Frag} {mg : Str → Option Value} {base : Heap} {x : Str} {st : Stmt} {f : Addr} {fd : FuncData} {N ps : List Str} {k n nn : Nat} {hb : Bool} {φ : Ph Ctl} (D : Df K mg x st ps f fd) (S : FnScope N ps (defScope st))
    (hp : ps.length = (if hb = true then 1 else 0) + n) (hN : N.length = (if hb = true then 1 else 0) + n + nn)
    (body : ∀ (cdv : Value) (A : Around) (outer : List Env) (s : Shared) (H : Hp) (E : XK) (p : Addr × Obj), L2H.HotC (L2H.cxH (L2N.CX P w) P w K mg base N x (defScope st) f cdv A outer s H E p) → L2H.RoomH k (A.deeper (envOfC x (defScope st) s.heap.objs.size f cdv)) →
      ∃ t, PSs (L2H.cxH (L2N.CX P w) P w K mg base N x (defScope st) f cdv A outer s H E p) (defBody st) t ∧ ST (fun cls d _ H => E cls d H) t φ) : CalH P w K mg base x (k + 1) ps (spD hb n (runD hb nn φ)) := by
  obtain ⟨oc, od, dV, kV, doc, pm, an, cdv, ct, osl, rfl, lk, hcd, _, _⟩ := D.fn.ex
  exact ⟨f, _, L2H.fn_ofH lk hcd S (spD_len hp) (fun A outer s H vs Q E p hot hr h => by
    obtain ⟨t, h1, h2⟩ := body cdv A outer s H E p ⟨p, hot, List.mem_singleton.mpr rfl⟩ hr
    exact ⟨t, h1, fn_ok hN h2 h⟩), D.mgf, D.fn.kp, D.b⟩
theorem CalH.none {P : Program} {w : World} {K : PySem.W.Frag} {mg : Str → Option Value} {base : Heap} {x : Str} {st : Stmt} {ps : List Str} {f : Addr} {fd : FuncData} {k n : Nat} {hb : Bool} (D : Df K mg x st ps f fd) (hp : ps.length = (if hb = true then 1 else 0) + n) : CalH P w K mg base x k ps (spD hb n fun _ _ => .bad) :=
  ⟨f, fd, ⟨spD_len hp, fun A outer s H args us vs Q E p hr hot hpin e0 hb' hv h => by
    obtain ⟨_, _, _, _, _, _, _, _, _, _, z⟩ := h
    exact z.elim⟩, D.mgf, D.fn.kp, D.b⟩
theorem pe_clH {X : Cx} {W : WX} {x : Str} {k j : Nat} {ps : List Str} {sp : Sp} {e : Expr} {es : List Expr} {p pos : Pos} {t : TA} (c : CalH X.prog X.w X.K X.mg X.base x k ps sp) (hr : L2H.RoomH j X.A) (hk : k ≤ j) (hc : L2H.HotC X) (hg : Gl X x) (hx : ∀ σ, PassesAt (L2N.CX X.prog X.w) X σ (WE W σ)) (ha : PA X (e :: es) t)
    (hdb : (x == ("__debug__" : Str)) = false := by decide) (he : starEach (e :: es) X.env = (false, eval e X.env) :: starEach es X.env := by rfl) (hpl : (backTo pos (starEach es X.env)).any (·.1) = false := by rfl) :
    PE X (.Call (.Name x p) (e :: es) [] pos) (tCallSD sp [] (WE W) t) := by
  obtain ⟨f, fd, F, m, kp, b⟩ := c.ex
  have q : PE X (.Call (.Name x p) (e :: es) [] pos) (tCallS sp (WE W) t) := L2H.pe_callH F ⟨by have := hr.dp; omega, by have := hr.un; omega⟩ hc hg m kp b hx ha hdb he hpl
  have ee : tCallSD sp [] (WE W) t = tCallS sp (WE W) t := by
    unfold tCallSD tCallS
    funext σ H Q
    simp only [List.append_nil]
  rw [ee]
  exact q
theorem hot_in {X : Cx} {a : Addr} {oe : Obj} {cls : Value} {d : Option Addr} {pn : List (Addr × Obj)} (hz : L2N.Zn cls d oe) (hf : ∃ vs, oe.data = .fields vs) : L2H.HotC (X.suite a ((a, oe) :: pn)) := by
  obtain ⟨vs, e⟩ := hf
  exact ⟨(a, oe), ⟨rfl, vs, e, hz.2.2 vs e⟩, List.mem_cons_self⟩
theorem unitsH {k : Nat} {A : Around} (r : L2H.RoomH k A) : A.units + 64 < cLine := by have := r.un; omega
/-! ### isinstance of a caught error that has fields -/
def rIsX (K : PySem.W.Frag) (D a : Addr) (dx : Option Addr) : List V → Hp → VK → Prop := fun xs H Q => ∃ (c : V) (cv : Value) (b : Bool), xs = [.ref a, c] ∧ (∀ u, RelV c u → u = cv) ∧ PySem.W.kitOne K (.ref D) cv = some b ∧ (∀ dd, dx = some dd → ∃ fs, H dd = some (.xd fs)) ∧ Q (.bl b) H
theorem call_isX {X : Cx} {a D : Addr} {oe : Obj} {cls : Value} {dx : Option Addr} {pn : List (Addr × Obj)} (C : L2.ExcC X.K D) (hz : Zc cls dx oe) (hf : ∃ vs, oe.data = .fields vs) :
    CallR (X.suite a ((a, oe) :: pn)) (.builtin "isinstance") (fun xs H Q => cls = .ref D ∧ rIsX X.K D a dx xs H Q) := by
  intro pins s σ H xs us Q I r h
  obtain ⟨rfl, c, cv, b, rfl, hcv, e, hdx, q⟩ := h
  cases r with
  | cons rx rr =>
    cases rr with
    | cons rt rr =>
      cases rr
      cases rx
      have ec := hcv _ rt
      subst ec
      obtain ⟨hget, _⟩ := I.pin (a, oe) (List.mem_append.mpr (.inl List.mem_cons_self))
      obtain ⟨vs, hv⟩ := hf
      have nc : PySem.W.notCls oe = true := by unfold PySem.W.notCls; rw [hv] <;> rfl
      have hcl : (PySem.W.clsIn X.K D).isSome = true := by
        obtain ⟨cdD, hcD, _⟩ := PySem.W.any_some C.hd
        rw [hcD]; rfl
      cases dx with
      | none =>
        have J : PySem.W.InstAt s.heap a oe D none := ⟨hget, hz.1, nc, by rw [hz.2]; trivial⟩
        exact PySem.W.kia_one (PySem.W.kitx_exc hcl C.hg C.hk C.hs C.ha C.hn C.ht C.hm) I.kIn J e (fun z => nomatch z) fun tk => ⟨.bl b, H, I.kept (t' := tk) fun _ _ z => z, rfl, q⟩
      | some dd =>
        obtain ⟨fs, hdd⟩ := hdx dd rfl
        have hx : ObjOk X.prog X.w H s.heap dd (.xd fs) := I.hok dd _ hdd
        obtain ⟨mA, hns, _⟩ := hx
        obtain ⟨od, ho, _⟩ := lookIn_ns hns
        have J : PySem.W.InstAt s.heap a oe D (some od) := ⟨hget, hz.1, nc, by rw [hz.2]; exact ho⟩
        exact PySem.W.kia_one (PySem.W.kitx_exc hcl C.hg C.hk C.hs C.ha C.hn C.ht C.hm) I.kIn J e (fun z => nomatch z) fun tk => ⟨.bl b, H, I.kept (t' := tk) fun _ _ z => z, rfl, q⟩
end DL

set_option Elab.async false
set_option linter.all false
set_option maxRecDepth 100000
set_option maxHeartbeats 4000000
set_option autoImplicit false
namespace DL
open PySem PySem.Spec L2
open PyProof.Rows (envOfC)

/-! ### x[1:] of a list -/
def gSl1 (d : D) (S : Sto) : Out D := match d with
  | .lst xs => .ok (.lst (xs.drop 1)) S
  | _ => .bad
theorem cut_tail (xs : List V) : cutV xs (some 1) none = xs.drop 1 := by
  have h1 : HT.sIx xs.length 0 (some 1) = min 1 xs.length := HT.sIx_nat xs.length 0 1
  unfold cutV
  rw [h1, HT.sIx_none]
  rcases xs with _ | ⟨x, r⟩
  · rfl
  · have h2 : min 1 (x :: r).length = 1 := by simp [List.length_cons]
    rw [h2]
    show List.take _ r = r
    exact List.take_of_length_le (by simp [List.length_cons])
theorem et_sl1 {W : WX} {K : PySem.W.Frag} {te : TE} {φ : Ph D} (h : ET W te φ) : ET W (tSl (rSlL K) te (tPart (tC (.int 1))) tNoPart) (m1 gSl1 φ) := fun F0 H0 st hs F H S ρ σ Q b q =>
  h _ _ _ _ _ _ _ _ _ _ b (GW.bind rm_d q fun d S1 v F1 H1 b1 e1 r1 q1 => by
    cases d <;> try exact q1.elim
    rename_i ds
    simp only [RD, Rep] at r1
    obtain ⟨a, xs, rfl, f, r⟩ := r1
    refine ⟨1, rfl, a, xs, rfl, SqL.of (b1.sub _ _ f), fun p hp => ?_⟩
    rw [cut_tail]
    exact q1 _ _ _ (b1.lay hp) (Ext.lay b1.sub hp).1 (rep_lst (r.drop 1) (b1.sub.none hp)))
/-! ### a body in which nothing is told of, but data -/
structure Gd (F H : Hp) (ρ : List L) (σ : L2.St) : Prop where
  sub : Sub F H
  loc : ∀ (i : Nat) (l : L), ρ[i]? = some l → l = .un ∨ ∃ (d : D) (u : V), l = .d d ∧ σ[i]? = some (some u) ∧ Rep F d u
  len : σ.length = ρ.length
section
variable {F H F' H' G : Hp} {ρ : List L} {σ : L2.St} {W : WX} {te : TE} {tc : TT} {φ : Ph D} {φc : Ph Bool} {d : D} {v : V} {c : Bool} {S' : Sto}
theorem Gd.bd (g : Gd F H ρ σ) : Bd F H 0 false F H sto0 ρ σ := ⟨g.sub, Ext.refl, nofun, nofun, fun i l e => by
  rcases g.loc i l e with rfl | ⟨d, u, rfl, e1, r⟩
  · trivial
  · exact ⟨u, e1, r⟩, fun i j p xs ys _ e _ => (g.loc i _ e).elim (fun h => by cases h) (fun ⟨_, _, h, _⟩ => by cases h), g.len⟩
theorem Gd.go (g : Gd F H ρ σ) (ff : Sub F F') (s : Sub F' H') : Gd F' H' ρ σ := ⟨s, fun i l e => by
  rcases g.loc i l e with rfl | ⟨d, u, rfl, e1, r⟩
  · exact .inl rfl
  · exact .inr ⟨d, u, rfl, e1, Rep.mono ff _ _ r⟩, g.len⟩
theorem Gd.keep (g : Gd F H ρ σ) (k : ∀ a o, H a = some o → H' a = some o) : Gd F H' ρ σ := g.go (Sub.refl F) fun a o e => k a o (g.sub a o e)
theorem Gd.set (g : Gd F H ρ σ) (i : Nat) (r : Rep F d v) : Gd F H (ρ.set i (.d d)) (σ.set i (some v)) := ⟨g.sub, fun j l e => by
  rw [List.getElem?_set] at e ⊢
  by_cases z : i = j
  · subst z
    rw [if_pos rfl] at e ⊢
    by_cases hi : i < ρ.length
    · rw [if_pos hi] at e
      cases e
      exact .inr ⟨d, v, rfl, by rw [if_pos (by rw [g.len]; exact hi)], r⟩
    · rw [if_neg hi] at e; cases e
  · rw [if_neg z] at e ⊢
    exact g.loc j l e, by rw [List.length_set, List.length_set, g.len]⟩
theorem Gd.wipe (g : Gd F H ρ σ) (i : Nat) {x : Option V} : Gd F H (ρ.set i .un) (σ.set i x) := ⟨g.sub, fun j l e => by
  rw [List.getElem?_set] at e ⊢
  by_cases z : i = j
  · rw [if_pos z] at e
    split at e
    · cases e; exact .inl rfl
    · cases e
  · rw [if_neg z] at e ⊢
    exact g.loc j l e, by rw [List.length_set, List.length_set, g.len]⟩
/-- what stands apart of what is frozen -/
def Ap (G F H : Hp) : Prop := ∀ a o, G a = some o → H a = some o ∧ F a = none
theorem Gd.frz (g : Gd F H ρ σ) (ap : Ap G F H) (i : Nat) (e : σ[i]? = some (some v)) (r : Rep G d v) : Gd (join F G) H (ρ.set i (.d d)) σ := by
  have s : Sub (join F G) H := fun a o h => by
    cases z : F a with
    | some w => rw [join_l z] at h; cases h; exact g.sub a _ z
    | none => rw [join_r z] at h; exact (ap a o h).1
  have g1 := (g.go (sub_joinL F G) s).set i (d := d) (v := v) (Rep.mono (sub_joinR fun a o w => (ap a o w).2) _ _ r)
  rw [set_self e] at g1
  exact g1
theorem Ap.go (ap : Ap G F H) (e : Ext 0 false F H F' H') : Ap G F' H' := fun a o w => ⟨e.keep a o (ap a o w).1 nofun, e.new a (ap a o w).2 (by rw [(ap a o w).1]; exact nofun)⟩
theorem Ap.keep (ap : Ap G F H) (k : ∀ a o, H a = some o → H' a = some o) : Ap G F H' := fun a o w => ⟨k a o (ap a o w).1, (ap a o w).2⟩
theorem ev_D {Q : VK} (g : Gd F H ρ σ) (t : ET W te φ) (e : φ ρ sto0 = .ok d S') (q : ∀ (v : V) (F' H' : Hp), Ext 0 false F H F' H' → Gd F' H' ρ σ → Rep F' d v → Q v H') : te σ H Q :=
  t _ _ _ _ _ _ _ _ _ _ g.bd (by rw [e]; exact fun v F' H' b' e' r => q v F' H' e' (g.go e'.ff b'.sub) r)
theorem ev_N {Q : VK} (g : Gd F H ρ σ) (t : NT W te φ) (e : φ ρ sto0 = .ok d S') (q : ∀ (v : V) (F' H' G : Hp), Ext 0 false F H F' H' → Gd F' H' ρ σ → New G H F' H' → Rep G d v → Dst G v → Q v H') : te σ H Q :=
  t _ _ _ _ _ _ _ _ _ _ g.bd (by rw [e]; exact fun v F' H' b' e' ⟨G, n, r, z⟩ => q v F' H' G e' (g.go e'.ff b'.sub) n r z)
theorem ev_T {Q : Bool → Hp → Prop} (g : Gd F H ρ σ) (t : BT W tc φc) (e : φc ρ sto0 = .ok c S') (q : ∀ (H' : Hp), (∀ a o, H a = some o → H' a = some o) → Q c H') : tc σ H Q :=
  t _ _ _ _ _ _ _ _ _ _ g.bd (by rw [e]; exact fun b F' H' b' e' r => by cases (show c = b from r); exact q H' fun a o w => e'.keep a o w nofun)
end
end DL

set_option Elab.async false
set_option linter.all false
set_option maxRecDepth 100000
set_option maxHeartbeats 4000000
set_option autoImplicit false
namespace DL
open PySem PySem.Spec L2 PyProof.Rows
open PyProof.Rows (envOfC)

/-! ### methods and own operators -/
/-- o.m(..): the object ahead of the arguments -/
def tMArgs (C : Addr) (m : Str) (ta : TE) (t : TA) : TA := fun σ H Q => ta σ H fun x H1 => ∃ a dx fs, x = .ref a ∧ H1 a = some (.ins C dx fs) ∧ fs.lookup m = none ∧ t σ H1 fun vs H2 => Q (x :: vs) H2
structure CalM (P : Program) (w : World) (K : PySem.W.Frag) (mg : Str → Option Value) (base : Heap) (C : Addr) (m : Str) (k : Nat) (ps : List Str) (sp : Sp) : Prop where
  cl : Cls K C
  ex : ∃ (f : Addr) (fd : FuncData), Meth K C m f ∧ FnOk P w K mg base (L2N.CX P w) k f fd ps sp ∧ Binds K fd ps []
theorem pe_mt {X : Cx} {W : WX} {C : Addr} {m : Str} {k j : Nat} {ps : List Str} {sp : Sp} {o e : Expr} {es : List Expr} {apos pos : Pos} {ta : TE} {t : TA} {pl : Sem Bool} (c : CalM X.prog X.w X.K X.mg X.base C m k ps sp) (hr : Room j X.A) (hk : k ≤ j) (hx : ∀ σ, PassesAt (L2N.CX X.prog X.w) X σ (WE W σ)) (he : PE X o ta) (ha : PA X (e :: es) t)
    (hst : starEach (e :: es) X.env = (false, eval e X.env) :: starEach es X.env := by rfl) (hpl : (backTo pos (starEach es X.env)).any (·.1) = false := by rfl)
    (ht : eval (.Call (.Attribute o m apos) (e :: es) [] pos) X.env = (do
      let ov ← eval o X.env
      standAt apos.atName
      let (f, first) ← holding [ov] (getMethod ov m pl)
      callWith pos f first (backTo pos (starEach (e :: es) X.env)) (backToKw pos (keywordEach [] X.env))) := by rfl) :
    PE X (.Call (.Attribute o m apos) (e :: es) [] pos) (tCallSD sp [] (WE W) (tMArgs C m ta t)) := by
  obtain ⟨f, fd, hm, F, hb⟩ := c.ex
  refine ⟨fun pins s σ H Q I h => ?_⟩
  refine PySem.W.methodCall_KW (pl := pl) (thn (he.run pins s σ H _ I h) fun u s1 ⟨x, H1, I1, rx, a, dx, fs, ex, ea, l, q⟩ => ?_) ht
  subst ex
  obtain rfl : u = Value.ref a := rx
  refine getmeth_ok I1 ea c.cl hm l ?_
  refine PySem.W.callWith_K (first := [.ref a]) (h₀ := X.base) I.ok.mod.kin hm.kp (thn (ha.run pos pins s1 σ H1 _ I1 q) fun us s2 ⟨vs, H2, I2, r, q2⟩ => ⟨I2.kIn, ?_⟩) hst hpl
  exact run_fnSD (us := .ref a :: us) (vs := .ref a :: vs) (F.mono hk) hr hb .nil (hx σ) I2 (.cons rfl r) q2
theorem pe_mt0 {X : Cx} {W : WX} {C : Addr} {m : Str} {k j : Nat} {ps : List Str} {sp : Sp} {o : Expr} {apos pos : Pos} {ta : TE} {pl : Sem Bool} (c : CalM X.prog X.w X.K X.mg X.base C m k ps sp) (hr : Room j X.A) (hk : k ≤ j) (hx : ∀ σ, PassesAt (L2N.CX X.prog X.w) X σ (WE W σ)) (he : PE X o ta)
    (ht : eval (.Call (.Attribute o m apos) [] [] pos) X.env = (do
      let ov ← eval o X.env
      standAt apos.atName
      let (f, first) ← holding [ov] (getMethod ov m pl)
      callWith pos f first (backTo pos (starEach [] X.env)) (backToKw pos (keywordEach [] X.env))) := by rfl) :
    PE X (.Call (.Attribute o m apos) [] [] pos) (tCallSD sp [] (WE W) (tMArgs C m ta tNil)) := by
  obtain ⟨f, fd, hm, F, hb⟩ := c.ex
  refine ⟨fun pins s σ H Q I h => ?_⟩
  refine PySem.W.methodCall_KW (pl := pl) (thn (he.run pins s σ H _ I h) fun u s1 ⟨x, H1, I1, rx, a, dx, fs, ex, ea, l, q⟩ => ?_) ht
  subst ex
  obtain rfl : u = Value.ref a := rx
  refine getmeth_ok I1 ea c.cl hm l ?_
  exact PySem.W.callWith_K0 (first := [.ref a]) I1.kIn hm.kp (run_fnSD (us := [.ref a]) (vs := [.ref a]) (F.mono hk) hr hb .nil (hx σ) I1 (.cons rfl .nil) q)
/-- a op b, by the class's own method -/
def tOArgs (C : Addr) (ta tb : TE) : TA := fun σ H Q => ta σ H fun x H1 => tb σ H1 fun y H2 => ∃ a b dx dy fs gs, x = .ref a ∧ y = .ref b ∧ H2 a = some (.ins C dx fs) ∧ H2 b = some (.ins C dy gs) ∧ Q [x, y] H2
structure CalO (P : Program) (w : World) (K : PySem.W.Frag) (mg : Str → Option Value) (base : Heap) (C : Addr) (op : Operator) (k : Nat) (ps : List Str) (sp : Sp) : Prop where
  sf : PySem.W.selfFirst K C = true
  ex : ∃ (f : Addr) (fd : FuncData), PySem.W.findIn K (.ref C) (PySem.dunder op.info.2) = some (some (.ref f)) ∧ PySem.W.isFn K (.ref f) = true ∧ FnOk P w K mg base (L2N.CX P w) k f fd ps sp ∧ Binds K fd ps []
theorem pe_own {X : Cx} {W : WX} {C : Addr} {op : Operator} {k j : Nat} {ps : List Str} {sp : Sp} {a b : Expr} {pos : Pos} {ta tb : TE} (c : CalO X.prog X.w X.K X.mg X.base C op k ps sp) (hr : Room j X.A) (hk : k ≤ j) (hx : ∀ σ, PassesAt (L2N.CX X.prog X.w) X σ (WE W σ)) (ha : PE X a ta) (hb : PE X b tb) :
    PE X (.BinOp a op b pos) (tCallSD sp [] (WE W) (tOArgs C ta tb)) := by
  obtain ⟨f, fd, hs, hf, F, hbi⟩ := c.ex
  refine ⟨fun pins s σ H Q I h => ?_⟩
  refine wpAny_BinOp (binT ha hb I h fun v u s2 x y H2 I2 rx ry q => ?_)
  obtain ⟨a', b', dx, dy, fs, gs, rfl, rfl, h1, h2, q⟩ := q
  obtain rfl : v = Value.ref a' := rx
  obtain rfl : u = Value.ref b' := ry
  obtain ⟨mA, J, _⟩ := ins_get I2.hok h1
  obtain ⟨mB, J', _⟩ := ins_get I2.hok h2
  obtain ⟨od, J, _⟩ := J.look
  obtain ⟨od', J', _⟩ := J'.look
  obtain ⟨m, hF⟩ := I2.fr
  refine PySem.W.binop_K hF I2.ok.mod.kin J J'.type c.sf hs hf ?_
  refine wpAny_mono (run_fnSD (us := [.ref a', .ref b']) (vs := [.ref a', .ref b']) (F.mono hk) hr hbi .nil (hx σ) I2 (.cons rfl (.cons rfl .nil)) q) (fun v s' hv => ?_) fun _ _ z => z
  obtain ⟨z, H3, I3, rz, qz⟩ := id hv
  cases v <;> first | exact hv | (cases z <;> first | (cases rz; done) | (obtain ⟨_, rz⟩ := rz; cases rz; done) | (exact absurd rz (by simp [RelV])))

section
variable {W : WX} {ta tb tc te : TE} {tr : TA} {φa φb φc φe φ : Ph D} {φl : Ph (List D)} {K : PySem.W.Frag}
def objOk (C : Addr) (m : Str) : D → Bool
  | .obj C' ns _ => decide (C' = C) && decide (m ∉ ns)
  | _ => false
def mMArgs (C : Addr) (m : Str) (φa : Ph D) (φl : Ph (List D)) : Ph (List D) := fun ρ S => (φa ρ S).bind fun x S1 => if objOk C m x = true then (φl ρ S1).bind fun xs S2 => .ok (x :: xs) S2 else .bad
theorem lookup_zip_none {ns : List Str} {xs : List V} {m : Str} (h : m ∉ ns) : (ns.zip xs).lookup m = none := by
  induction ns generalizing xs with
  | nil => rfl
  | cons n ns ih =>
    cases xs with
    | nil => rfl
    | cons x xs =>
      rw [List.zip_cons_cons, List.lookup_cons]
      have : (m == n) = false := by
        apply Bool.eq_false_iff.mpr
        intro e
        exact h (by rw [eq_of_beq e]; exact List.mem_cons_self)
      rw [this]
      exact ih fun z => h (List.mem_cons_of_mem _ z)
theorem at_meth {C : Addr} {m : Str} (ha : ET W ta φa) (hl : AT W tr φl) : AT W (tMArgs C m ta tr) (mMArgs C m φa φl) := fun F0 H0 st hb F H S ρ σ Q b h =>
  ha _ _ _ _ _ _ _ _ _ _ b (GW.bind rm_a h fun x S1 v F1 H1 b1 e1 r1 h1 => by
    cases x <;> try (exact h1.elim)
    rename_i C' ns ds
    simp only [RD, Rep] at r1
    obtain ⟨a, dx, xs, rfl, f, l, r⟩ := r1
    by_cases c : objOk C m (.obj C' ns ds) = true
    · simp only [if_pos c] at h1
      simp only [objOk, Bool.and_eq_true, decide_eq_true_eq] at c
      obtain ⟨rfl, c2⟩ := c
      refine ⟨a, dx, _, rfl, b1.sub _ _ f, lookup_zip_none c2, ?_⟩
      exact hl _ _ _ _ _ _ _ _ _ _ b1 (GW.bind rm_a h1 fun ys S2 vs F2 H2 b2 e2 r2 h2 => h2 _ F2 H2 b2 Ext.refl (reps_cons.mpr ⟨_, _, rfl, Rep.mono e2.ff _ _ (by simp only [Rep]; exact ⟨a, dx, xs, rfl, f, l, r⟩), r2⟩))
    · simp only [if_neg c] at h1; exact h1.elim)
def isObj (C : Addr) : D → Bool
  | .obj C' _ _ => decide (C' = C)
  | _ => false
def mOArgs (C : Addr) (φa φb : Ph D) : Ph (List D) := fun ρ S => (φa ρ S).bind fun x S1 => (φb ρ S1).bind fun y S2 => if (isObj C x && isObj C y) = true then .ok [x, y] S2 else .bad
theorem isObj_rep {C : Addr} {F : Hp} {d : D} {v : V} (h : isObj C d = true) (r : Rep F d v) : ∃ a dx fs, v = .ref a ∧ F a = some (.ins C dx fs) := by
  cases d <;> simp [isObj] at h
  subst h
  simp only [Rep] at r
  obtain ⟨a, dx, xs, e, f, _⟩ := r
  exact ⟨a, dx, _, e, f⟩
theorem at_own {C : Addr} (ha : ET W ta φa) (hb : ET W tb φb) : AT W (tOArgs C ta tb) (mOArgs C φa φb) := fun F0 H0 st hs F H S ρ σ Q b h =>
  ha _ _ _ _ _ _ _ _ _ _ b (GW.bind rm_a h fun x S1 v F1 H1 b1 e1 r1 h1 =>
    hb _ _ _ _ _ _ _ _ _ _ b1 (GW.bind rm_a h1 fun y S2 u F2 H2 b2 e2 r2 h2 => by
      by_cases c : (isObj C x && isObj C y) = true
      · simp only [if_pos c] at h2
        simp only [Bool.and_eq_true] at c
        obtain ⟨a, dx, fs, ea, fa⟩ := isObj_rep c.1 (Rep.mono e2.ff _ _ r1)
        obtain ⟨a', dy, gs, eb, fb⟩ := isObj_rep c.2 r2
        exact ⟨a, a', dx, dy, fs, gs, ea, eb, b2.sub _ _ fa, b2.sub _ _ fb, h2 _ F2 H2 b2 Ext.refl (reps_cons.mpr ⟨_, _, rfl, Rep.mono e2.ff _ _ r1, Reps.one r2⟩)⟩
      · simp only [if_neg c] at h2; exact h2.elim))
theorem ln_meth {C : Addr} {m : Str} {n : Nat} (h : LN φl n) : LN (mMArgs C m φa φl) (n + 1) := fun ρ S ds S1 e => by
  unfold mMArgs at e
  cases o : φa ρ S with
  | ok x S2 =>
    rw [o] at e
    simp only [Out.bind] at e
    by_cases c : objOk C m x = true
    · rw [if_pos c] at e
      cases o2 : φl ρ S2 with
      | ok xs S3 => rw [o2] at e; cases e; rw [List.length_cons, h _ _ _ _ o2]
      | exc x ρ' S1 => rw [o2] at e; cases e
      | bad => rw [o2] at e; cases e
    · rw [if_neg c] at e; cases e
  | exc x ρ' S1 => rw [o] at e; cases e
  | bad => rw [o] at e; cases e
theorem ln_own {C : Addr} : LN (mOArgs C φa φb) 2 := fun ρ S ds S1 e => by
  unfold mOArgs at e
  cases o : φa ρ S with
  | ok x S2 =>
    rw [o] at e
    simp only [Out.bind] at e
    cases o2 : φb ρ S2 with
    | ok y S3 =>
      rw [o2] at e
      simp only at e
      by_cases c : (isObj C x && isObj C y) = true
      · rw [if_pos c] at e; cases e; rfl
      · rw [if_neg c] at e; cases e
    | exc x ρ' S1 => rw [o2] at e; cases e
    | bad => rw [o2] at e; cases e
  | exc x ρ' S1 => rw [o] at e; cases e
  | bad => rw [o] at e; cases e

/-! ### a list of one's own, read as data for a while -/
def unS : L → L
  | .d x => .d x
  | _ => .un
def borL (i : Nat) (xs : List D) (ρ : List L) : List L := (ρ.map unS).set i (.d (.lst xs))
theorem Bd.bor {F0 H0 F H : Hp} {st : Addr} {hb : Bool} {S : Sto} {ρ : List L} {σ : L2.St} {i : Nat} {xs : List D} (b : Bd F0 H0 st hb F H S ρ σ) (e : ρ[i]? = some (.own xs)) : ∃ F', Sub F F' ∧ Gd F' H (borL i xs ρ) σ := by
  obtain ⟨p, vs, e1, hp, fp, h0, r⟩ := b.loc i _ e
  have g0 : Gd F H (ρ.map unS) σ := ⟨b.sub, fun j l h => by
    rw [List.getElem?_map] at h
    cases q : ρ[j]? with
    | none => rw [q] at h; cases h
    | some l' =>
      rw [q] at h
      cases h
      have := b.loc j _ q
      cases l' with
      | d x => obtain ⟨u, e2, r2⟩ := this; exact .inr ⟨x, u, rfl, e2, r2⟩
      | un => exact .inl rfl
      | own ys => exact .inl rfl
      | st => exact .inl rfl, by rw [List.length_map]; exact b.len⟩
  have s : Sub F (upd F p (.lst vs)) := fun a u h => by rw [upd_ne (ne_of_none h fp)]; exact h
  have s2 : Sub (upd F p (.lst vs)) H := fun a u h => by
    by_cases z : a = p
    · subst z; rw [upd_same] at h; rw [hp]; exact h
    · rw [upd_ne z] at h; exact b.sub a u h
  have g1 := (g0.go s s2).set i (d := .lst xs) (v := .ref p) (rep_lst r fp)
  rw [set_self e1] at g1
  exact ⟨_, s, g1⟩
theorem Bd.back {F0 H0 F H F1 F' H' : Hp} {st : Addr} {hb : Bool} {S : Sto} {ρ : List L} {σ : L2.St} (b : Bd F0 H0 st hb F H S ρ σ) (e : Ext 0 false F1 H F' H') : Bd F0 H0 st hb F H' S ρ σ ∧ Ext st hb F H F H' := by
  have e' : Ext 0 false F H F H' := ⟨Sub.refl _, e.keep, fun a h _ => h⟩
  exact ⟨b.after0 e' fun a o h => e.keep a o (b.sub a o h) nofun, e'.of_no⟩
def mBor (i : Nat) (φ : Ph D) : Ph D := fun ρ S => match ownAt ρ i with
  | some xs => (match φ (borL i xs ρ) sto0 with
    | .ok d _ => if scD d = true then .ok d S else .bad
    | _ => .bad)
  | none => .bad
theorem et_bor (i : Nat) (h : ET W te φ) : ET W te (mBor i φ) := fun F0 H0 st hs F H S ρ σ Q b q => by
  unfold mBor at q
  cases e : ownAt ρ i with
  | none => rw [e] at q; exact q.elim
  | some xs =>
    rw [e] at q
    simp only at q
    obtain ⟨F', s, g⟩ := b.bor (ownAt_of e)
    cases o : φ (borL i xs ρ) sto0 with
    | exc x ρ' S1 => rw [o] at q; exact q.elim
    | bad => rw [o] at q; exact q.elim
    | ok d S1 =>
      rw [o] at q
      simp only at q
      by_cases c : scD d = true
      · rw [if_pos c] at q
        refine ev_D g h o fun v F2 H2 e2 _ r => ?_
        obtain ⟨b', e'⟩ := b.back e2
        exact q v F H2 b' e' (sc_rep c r)
      · rw [if_neg c] at q; exact q.elim
def mBorB (i : Nat) (φ : Ph Bool) : Ph Bool := fun ρ S => match ownAt ρ i with
  | some xs => (match φ (borL i xs ρ) sto0 with
    | .ok d _ => .ok d S
    | _ => .bad)
  | none => .bad
theorem bt_bor {tb : TT} {φ : Ph Bool} (i : Nat) (h : BT W tb φ) : BT W tb (mBorB i φ) := fun F0 H0 st hs F H S ρ σ Q b q => by
  unfold mBorB at q
  cases e : ownAt ρ i with
  | none => rw [e] at q; exact q.elim
  | some xs =>
    rw [e] at q
    simp only at q
    obtain ⟨F', s, g⟩ := b.bor (ownAt_of e)
    cases o : φ (borL i xs ρ) sto0 with
    | exc x ρ' S1 => rw [o] at q; exact q.elim
    | bad => rw [o] at q; exact q.elim
    | ok d S1 =>
      rw [o] at q
      refine h _ _ _ _ _ _ _ _ _ _ g.bd ?_
      rw [o]
      intro v F2 H2 b2 e2 r
      obtain ⟨b', e'⟩ := b.back e2
      exact q v F H2 b' e' r
/-! ### a < b < c -/
def mChain (g g' : D → D → Sto → Out D) (φa φb φc : Ph D) : Ph D := fun ρ S => (φa ρ S).bind fun x S1 => (φb ρ S1).bind fun y S2 => (g x y S2).bind fun z S3 => match z with
  | .bl true => (φc ρ S3).bind fun w S4 => g' y w S4
  | .bl false => .ok (.bl false) S3
  | _ => .bad
theorem et_chain {r r' : L2.R2} {g g' : D → D → Sto → Out D} (hr : O2 W r g) (hr' : O2 W r' g') (ha : ET W ta φa) (hb : ET W tb φb) (hc : ET W tc φc) : ET W (tChain r r' ta tb tc) (mChain g g' φa φb φc) := fun F0 H0 st hs F H S ρ σ Q b h =>
  ha _ _ _ _ _ _ _ _ _ _ b (GW.bind rm_d h fun x S1 v F1 H1 b1 e1 r1 h1 =>
    hb _ _ _ _ _ _ _ _ _ _ b1 (GW.bind rm_d h1 fun y S2 u F2 H2 b2 e2 r2 h2 => hr _ _ _ _ _ _ _ _ _ _ _ _ _ _ b2 (Rep.mono e2.ff _ _ r1) r2 (GW.bind rm_d h2 fun z S3 t F3 H3 b3 e3 r3 h3 => by
      cases z <;> try exact h3.elim
      rename_i k
      simp only [RD, Rep] at r3
      refine ⟨k, r3, ?_⟩
      cases k with
      | false =>
        simp only [Bool.false_eq_true, if_false]
        exact h3 _ F3 H3 b3 Ext.refl (rep_bl _)
      | true =>
        simp only [if_true]
        exact hc _ _ _ _ _ _ _ _ _ _ b3 (GW.bind rm_d h3 fun q S4 q' F4 H4 b4 e4 r4 h4 => hr' _ _ _ _ _ _ _ _ _ _ _ _ _ _ b4 (Rep.mono (e3.ff.trans e4.ff) _ _ r2) r4 h4))))
/-! ### x.extend(a list made for it) -/
def mExt (i : Nat) (φ : Ph (List D)) : Ph Ctl := fun ρ S => match ownAt ρ i with
  | none => .bad
  | some xs => (φ ρ S).bind fun ys S1 => if (line xs.length && line ys.length) = true then .ok (.nx (ρ.set i (.own (xs ++ ys)))) S1 else .bad
theorem st_ext (i : Nat) (he : OT W te φl) : ST W (tDrop (tBM K "list" rExtend (tVar i) (tCons te tNil))) (mExt i φl) := fun F0 H0 st hs F H S ρ σ Dn b h => by
  unfold mExt at h
  cases e : ownAt ρ i with
  | none => rw [e] at h; exact h.elim
  | some xs =>
    rw [e] at h
    obtain ⟨p, vs, e1, hp, fp, h0, r⟩ := b.loc i _ (ownAt_of e)
    refine ⟨.ref p, e1, .inl ⟨rfl, vs, SqL.of hp⟩, he _ _ _ _ _ _ _ _ _ _ b (GW.stmt h fun ys S1 v F1 H1 b1 e2 r1 h1 => ?_)⟩
    obtain ⟨q, us, rfl, hq, hq1, fq, r2⟩ := r1
    by_cases c : (line xs.length && line ys.length) = true
    · simp only [if_pos c] at h1
      simp only [Bool.and_eq_true] at c
      obtain ⟨p', vs', e1', hp', fp', h0', r'⟩ := b1.loc i _ (ownAt_of e)
      rw [e1] at e1'
      cases e1'
      refine ⟨p, q, vs', us, rfl, rfl, hp', hq1, ?_, ?_⟩
      · rw [r'.length, r2.length, sizeLine_eq]
        have a1 := of_decide_eq_true c.1
        have a2 := of_decide_eq_true c.2
        omega
      exact h1 _ F1 _ (b1.write (vs := vs') (ownAt_of e) e1 fp' h0' (r'.append r2))
    · simp only [if_neg c] at h1; exact h1.elim
/-! ### sorted of a list of numbers -/
def mSortI (φa : Ph D) : Ph (List D) := fun ρ S => (φa ρ S).bind fun d S1 => match d with
  | .lst ds => (match intsOf ds with
    | some ns => .ok ((sortI ns).map D.int) S1
    | none => .bad)
  | _ => .bad
theorem sortI_perm (ns : List Int) : (sortI ns).Perm ns := List.mergeSort_perm _ _
theorem sortI_asc (ns : List Int) : (sortI ns).Pairwise (· ≤ ·) := by
  have := List.pairwise_mergeSort (le := fun a b : Int => decide (a ≤ b)) (by intro a b c; simp; omega) (by intro a b; simp; omega) ns
  exact this.imp fun h => by simpa using h
theorem perm_asc : ∀ {xs ys : List Int}, xs.Perm ys → xs.Pairwise (· ≤ ·) → ys.Pairwise (· ≤ ·) → xs = ys := fun {xs ys} h h1 h2 => h.eq_of_pairwise (fun a b _ _ h3 h4 => by omega) h1 h2
end
end DL

set_option Elab.async false
set_option linter.all false
set_option maxRecDepth 100000
set_option maxHeartbeats 4000000
set_option autoImplicit false
namespace DL
open PySem PySem.Spec L2 PyProof.Rows
open PyProof.Rows (envOfC)
section
variable {W : WX} {ta tb tc te : TE} {tr : TA} {φa φb φc φe φ : Ph D} {φl : Ph (List D)} {K : PySem.W.Frag}
theorem ot_sortI (ha : ET W ta φa) : OT W (tCB (rSortedI K) (tCons ta tNil)) (mSortI φa) := fun F0 H0 st hs F H S ρ σ Q b h =>
  ha _ _ _ _ _ _ _ _ _ _ b (GW.bind rm_o h fun d S1 v F1 H1 b1 e1 r1 h1 => by
    cases d <;> try exact h1.elim
    rename_i ds
    simp only at h1
    cases ei : intsOf ds with
    | none => rw [ei] at h1; exact h1.elim
    | some ns =>
      rw [ei] at h1
      simp only at h1
      simp only [RD, Rep] at r1
      obtain ⟨a, xs, e, f, r⟩ := r1
      rw [intsOf_eq ei] at r
      rw [Reps.ints.mp r] at f
      refine ⟨a, ns, by rw [e], SqL.of (b1.sub _ _ f), fun ms q hm hl hq => ?_⟩
      have b3 := b1.lay0 (o := .lst (ms.map V.int)) hq
      have e3 := (Ext.lay0 (st := st) (hb := hs) (o := .lst (ms.map V.int)) b1.sub hq).1
      have em : ms = sortI ns := perm_asc (hm.trans (sortI_perm ns).symm) (hl.imp fun h => by first | exact h | simpa using h) (sortI_asc ns)
      refine h1 _ F1 _ b3 e3 ⟨q, ms.map V.int, rfl, hq, upd_same, b1.sub.none hq, ?_⟩
      rw [em]
      exact Reps.ints.mpr rfl)
end
/-! ### defs with defaults -/
structure CalD (P : Program) (w : World) (K : PySem.W.Frag) (mg : Str → Option Value) (base : Heap) (x : Str) (k : Nat) (ps : List Str) (sp : Sp) (dvs : List V) : Prop where
  ex : ∃ (f : Addr) (fd : FuncData) (ds : List Value), FnOk P w K mg base (L2N.CX P w) k f fd ps sp ∧ mg x = some (.ref f) ∧ PySem.W.keepIn K (.ref f) = true ∧ Vals dvs ds ∧ Binds K fd ps ds
theorem pe_clD {X : Cx} {W : WX} {x : Str} {k j : Nat} {ps : List Str} {sp : Sp} {dvs : List V} {e : Expr} {es : List Expr} {p pos : Pos} {t : TA} (c : CalD X.prog X.w X.K X.mg X.base x k ps sp dvs) (hr : Room j X.A) (hk : k ≤ j) (hg : Gl X x) (hx : ∀ σ, PassesAt (L2N.CX X.prog X.w) X σ (WE W σ)) (ha : PA X (e :: es) t)
    (hdb : (x == ("__debug__" : Str)) = false := by decide) (he : starEach (e :: es) X.env = (false, eval e X.env) :: starEach es X.env := by rfl) (hpl : (backTo pos (starEach es X.env)).any (·.1) = false := by rfl) :
    PE X (.Call (.Name x p) (e :: es) [] pos) (tCallSD sp dvs (WE W) t) := by
  obtain ⟨f, fd, ds, F, m, kp, hv, b⟩ := c.ex
  exact pe_callSD F (hr.mono hk) hg m kp b hv hx ha hdb he hpl
/-- a def with defaults, as it stands behind the top -/
structure Dd (K : PySem.W.Frag) (mg : Str → Option Value) (x : Str) (st : Stmt) (ps : List Str) (dvs : List V) (f : Addr) (fd : FuncData) : Prop where
  fn : FunD K x x (defArgs st) (defBody st) (defScope st) dvs [] f fd
  mgf : mg x = some (.ref f)
  b : Binds K fd ps []
  bd : ∃ ds, Vals dvs ds ∧ Binds K fd ps ds
theorem cal_okD {P : Program} {w : World} {K : PySem.W.Frag} {mg : Str → Option Value} {base : Heap} {x : Str} {st : Stmt} {f : Addr} {fd : FuncData} {N ps : List Str} {dvs : List V} {k n nn : Nat} {hb : Bool} {φ : Ph Ctl} (D : Dd K mg x st ps dvs f fd) (S : FnScope N ps (defScope st))
    (hp : ps.length = (if hb = true then 1 else 0) + n) (hN : N.length = (if hb = true then 1 else 0) + n + nn)
    (body : ∀ (cdv : Value) (A : Around) (outer : List Env) (s : Shared) (H : Hp) (E : XK), Room k (A.deeper (envOfC x (defScope st) s.heap.objs.size f cdv)) →
      ∃ t, PSs (cxOf (L2N.CX P w) P w K mg base N x (defScope st) f cdv A outer s H E) (defBody st) t ∧ ST (fun cls d _ H => E cls d H) t φ) :
    Cal P w K mg base x (k + 1) ps (spD hb n (runD hb nn φ)) ∧ CalD P w K mg base x (k + 1) ps (spD hb n (runD hb nn φ)) dvs := by
  have F : FnOk P w K mg base (L2N.CX P w) (k + 1) f fd ps (spD hb n (runD hb nn φ)) := D.fn.ok S (spD_len hp) (fun cdv A outer s H vs Q E hr h => by
    obtain ⟨t, h1, h2⟩ := body cdv A outer s H E hr
    exact ⟨t, h1, fn_ok hN h2 h⟩)
  obtain ⟨ds, hv, hb'⟩ := D.bd
  exact ⟨⟨f, fd, F, D.mgf, D.fn.kp, D.b⟩, ⟨f, fd, ds, F, D.mgf, D.fn.kp, hv, hb'⟩⟩
theorem reps_i (i : Int) (F : Hp) : Reps F [.int i] [.int i] := Reps.one (by simp [Rep])
/-! ### a law's own def -/
/-- the store that a law makes of its script: any seed -/
def spStore (K : PySem.W.Frag) : Sp := fun vs H Q _ => ∃ (a : Addr) (ns : List Int), vs = [.ref a] ∧ SqL K H a (ns.map V.int) ∧ ns.length ≤ 63 ∧ ∀ (p ca : Addr) (seed : Int) (H' : Hp), (∀ b o, H b = some o → H' b = some o) → H p = none → H ca = none → ca ≠ p →
  H' p = some (.lst [.ref ca, .int 0, .int 0, .int 0, .int seed, .int 0]) → H' ca = some (.lst (ns.map V.int)) → seed.natAbs < 2 ^ 70 → Q (.ref p) H'
def spLaw (K : PySem.W.Frag) : Sp := fun vs H Q _ => ∃ (a : Addr) (ns : List Int), vs = [.ref a] ∧ SqL K H a (ns.map V.int) ∧ ns.length ≤ 63 ∧ ∀ H', Q (.bl true) H'
theorem seq_asg {te : TE} {g : TG} {t : TS} {D : Ends} {σ : L2.St} {H : Hp} (h : te σ H fun x H1 => g x σ H1 fun σ' H' => t D σ' H') : tSeq (tAsg te g) t D σ H := h
theorem law_ok {P : Program} {w : World} {K : PySem.W.Frag} {mg : Str → Option Value} {base : Heap} {st : Stmt} {f : Addr} {fd : FuncData} {N : List Str} {k nn : Nat} {φ : Ph Ctl} (D : Df K mg "law" st ["script"] f fd) (S : FnScope N ["script"] (defScope st)) (hN : N.length = 2 + nn)
    (body : ∀ (cdv : Value) (A : Around) (outer : List Env) (s : Shared) (H : Hp) (E : XK), Room k (A.deeper (envOfC "law" (defScope st) s.heap.objs.size f cdv)) →
      ∃ t, PSs (cxOf (L2N.CX P w) P w K mg base N "law" (defScope st) f cdv A outer s H E) (defBody st) (tSeq (tAsg (tCallSD (spStore K) [] (WE fun cls d _ H => E cls d H) (tCons (tVar 0) tNil)) (gName 1)) t) ∧ ST (fun cls d _ H => E cls d H) t φ)
    (hm : ∀ (ns : List Int) (seed : Int), ns.length ≤ 63 → seed.natAbs < 2 ^ 70 → ∃ S', φ (L.un :: L.st :: List.replicate nn L.un) ⟨ns, 0, 0, 0, seed, 0, .law⟩ = .ok (.rt (.bl true)) S') :
    FnOk P w K mg base (L2N.CX P w) (k + 1) f fd ["script"] (spLaw K) :=
  D.fn.ok S (fun vs H Q E h => by obtain ⟨_, _, rfl, _⟩ := h; rfl) (fun cdv A outer s H vs Q E hr h => by
    obtain ⟨t, h1, h2⟩ := body cdv A outer s H E hr
    refine ⟨_, h1, ?_⟩
    obtain ⟨a, ns, rfl, hS, hl, q⟩ := h
    have es : L2.start N [V.ref a] = some (.ref a) :: none :: List.replicate nn none := by
      unfold L2.start
      rw [hN]
      show some (V.ref a) :: List.replicate (2 + nn - 1) none = _
      rw [show 2 + nn - 1 = nn + 1 by omega]
      rfl
    rw [es]
    refine seq_asg ⟨_, rfl, a, ns, rfl, hS, hl, fun p ca seed H' keep hp hca ne e1 e2 hs => ?_⟩
    show t _ (some (V.ref a) :: some (V.ref p) :: List.replicate nn none) H'
    obtain ⟨S', em⟩ := hm ns seed hl hs
    have nF : ∀ b o, upd (fun _ => (none : Option HO)) ca (.lst (ns.map V.int)) b = some o → b = ca ∧ o = .lst (ns.map V.int) := fun b o e => by
      by_cases z : b = ca
      · subst z; rw [upd_same] at e; cases e; exact ⟨rfl, rfl⟩
      · rw [upd_ne z] at e; cases e
    have fp : upd (fun _ => (none : Option HO)) ca (.lst (ns.map V.int)) p = none := by rw [upd_ne ne.symm]
    have b : Bd (upd (fun _ => none) ca (.lst (ns.map V.int))) H' p true (upd (fun _ => none) ca (.lst (ns.map V.int))) H' ⟨ns, 0, 0, 0, seed, 0, .law⟩ (L.un :: L.st :: List.replicate nn L.un) (some (V.ref a) :: some (V.ref p) :: List.replicate nn none) := by
      refine ⟨fun b o e => ?_, Ext.refl, fun _ => ⟨fp, _, e1, ca, rfl, upd_same⟩, fun _ => by rw [e1]; exact nofun, fun i l e => ?_, fun i j p xs ys _ e => ?_, by simp⟩
      · obtain ⟨rfl, rfl⟩ := nF b o e; exact e2
      · match i, e with
        | 0, e => cases e; trivial
        | 1, e => cases e; exact ⟨rfl, rfl⟩
        | i + 2, e =>
          rw [List.getElem?_cons_succ, List.getElem?_cons_succ, List.getElem?_replicate] at e
          split at e
          · cases e; trivial
          · cases e
      · have m := List.mem_of_getElem? e
        simp at m
    refine h2 _ _ _ _ _ _ _ _ _ _ b ?_
    rw [em]
    intro v F2 H2 b2 r
    simp only [Rep] at r
    subst r
    exact q H2)
end DL

set_option Elab.async false
set_option linter.all false
set_option maxRecDepth 100000
set_option maxHeartbeats 4000000
set_option autoImplicit false
namespace DL
open PySem PySem.Spec L2
open PyProof.Rows (envOfC)
/-! ### a law's store -/
section
variable {P : Program} {w : World} {K : PySem.W.Frag} {mg : Str → Option Value} {base : Heap}
def b_store : Ph Ctl := (mSeq (mSet 2 (m2 gMul (mC (.int 862933555777941)) (m2 gAdd (mCB (pureC lenC) (mCons (mVar 1) mNil)) (mC (.int 1)))))
  (mSeq (mFor (.one 3) (mSeqI (mVar 1)) (mSet 2 (m2 gMod (mCB (pureC intC) (mCons (m2 gAdd (m2 gMul (mVar 2) (mC (.int 1000003))) (mVar 3)) mNil)) (mC (.int 2305843009213693951)))))
  (mRetO (mLst (mCons (mVar 1) (mCons (mC (.int 0)) (mCons (mC (.int 0)) (mCons (mC (.int 0)) (mCons (mVar 2) (mCons (mC (.int 0)) mNil))))))))))
theorem sqL_keep {H H' : Hp} {a : Addr} {xs : List V} (h : SqL K H a xs) (k : ∀ b o, H b = some o → H' b = some o) : SqL K H' a xs := by
  rcases h with (h | ⟨o, h⟩) | h
  · exact .inl (.inl (k _ _ h))
  · exact .inl (.inr ⟨o, k _ _ h⟩)
  · exact .inr h
theorem lc_raw {σ : L2.St} {H : Hp} {a : Addr} {ns : List Int} {Q : VK} (h3 : 3 < σ.length) (e0 : σ[0]? = some (some (.ref a))) (hS : SqL K H a (ns.map V.int)) (hl : ns.length ≤ 63)
    (q : ∀ (D : Addr) (H' : Hp), H D = none → (∀ b o, H b = some o → H' b = some o) → H' D = some (.lst (ns.map V.int)) → Q (.ref D) H') :
    tLc (fun σ H R => iList K (tVar 0) σ H R ∨ iTup K (tVar 0) σ H R) (gName 3) tYes (tCB (fun xs H Q => (∃ i, xs = [.int i] ∧ Q (.int i) H) ∨ ∃ k, xs = [.bl k] ∧ Q (.int (if k then 1 else 0)) H) (tCons (tVar 3) tNil)) [3] σ H Q := by
  refine .inl ⟨.ref a, e0, a, rfl, ⟨_, hS⟩, fun D hD => ?_⟩
  have w : Walk (Itl K a) (ns.map V.int).length (fun H => SqL K H a (ns.map V.int)) (YAt (ns.map V.int)) := walk_list
  refine lc_it w (fun i H2 => (∀ b o, H b = some o → H2 b = some o) ∧ H2 D = some (.lst ((ns.take i).map V.int))) ⟨fun b o h => by rw [upd_ne (ne_of_none h hD)]; exact h, by rw [upd_same]; rfl⟩ (fun i H2 _ h => sqL_keep hS h.1) ?_ ?_
  · rintro i x H2 H3 hi ⟨k, hd⟩ ⟨rfl, y⟩
    rw [List.length_map] at hi
    rw [List.getElem?_map, List.getElem?_eq_getElem hi] at y
    cases y
    refine ⟨?_, ?_⟩
    · refine wipe_same (by rw [List.length_set, wipe_length]) fun j hj => ?_
      simp only [List.mem_singleton] at hj
      rw [List.getElem?_set, if_neg (fun z => hj z.symm), wipe_get, if_neg (by simpa using hj)]
    · simp only [tYes, if_true]
      refine ⟨.int ns[i], ?_, .inl ⟨_, rfl, _, hd, ?_, fun b o h => ?_, ?_⟩⟩
      · rw [List.getElem?_set, if_pos rfl, wipe_length, if_pos h3]
      · rw [List.length_map, List.length_take]; exact small1000 (by omega)
      · rw [upd_ne (ne_of_none h hD)]; exact k b o h
      · rw [upd_same, List.take_add_one, List.getElem?_eq_getElem hi, List.map_append]; rfl
  · rintro H2 ⟨k, hd⟩
    rw [List.length_map, List.take_length] at hd
    exact q D H2 hD k hd

/-! ### the end of a handler: m((e.f, ..), ..) -/
section
variable {W : WX} {tr : TA} {φl : Ph (List D)}
def tryOut (m : Fn) (φl : Ph (List D)) (ds : List D) (ρ : List L) (S : Sto) : Out Ctl := match φl ρ S with
  | .ok rest S2 => (match m (.tup ds :: rest) sto0 with
    | .ok (.d d) _ => .ok (.rt d) S2
    | _ => .bad)
  | _ => .bad
def mTryS (cX : Addr) (ns : List Str) (n i : Nat) (φb : Ph Ctl) (m : Fn) (φl : Ph (List D)) : Ph Ctl := fun ρ S => match φb ρ S with
  | .exc x ρ' S1 => if x.c = cX ∧ x.ns = ns ∧ ρ'.length = n then tryOut m φl x.ds.reverse (ρ'.set i .un) S1 else .bad
  | _ => .bad
theorem try_end {F0 H0 F' H' : Hp} {st : Addr} {hb : Bool} {S1 : Sto} {ρ' : List L} {σ' : L2.St} {i k : Nat} {a : Addr} {ds : List D} {xs : List V} {m : Fn} {Dn : Ends} {E : XK}
    (b' : Bd F0 H0 st hb F' H' S1 ρ' σ') (r : Reps F' ds xs) (hl : AT W0 tr φl) (hn : LN φl k) (h : SW W F0 H0 st hb (tryOut m φl ds (ρ'.set i .un) S1) Dn) (p : Addr) (ob : Obj) (hd : ob.dict = none) (hp : H' p = none) :
    tr (σ'.set i (some (.ref a))) (upd H' p (.frz ob (.tup xs))) fun vs H2 => spD false (k + 1) m ((V.ref p :: vs) ++ []) H2 Dn.rt E := by
  have b2 : Bd F0 H0 st hb (upd F' p (.frz ob (.tup xs))) (upd H' p (.frz ob (.tup xs))) S1 (ρ'.set i .un) (σ'.set i (some (.ref a))) := (b'.wipe).lay hp
  refine hl _ _ _ _ _ _ _ _ _ _ b2 ?_
  unfold tryOut at h
  cases o : φl (ρ'.set i .un) S1 with
  | exc x ρ2 S2 => rw [o] at h; exact h.elim
  | bad => rw [o] at h; exact h.elim
  | ok rest S2 =>
    rw [o] at h
    simp only at h
    intro vs F3 H3 b3 e3 r3
    refine ⟨F3, 0, sto0, .tup ds :: rest, V.ref p :: vs, b3.sub, by simp, nofun, by rw [List.length_cons, hn _ _ _ _ o], reps_cons.mpr ⟨_, _, rfl, Rep.mono e3.ff _ _ (rep_tup r (b'.sub.none hp) hd), r3⟩, ?_⟩
    cases om : m (.tup ds :: rest) sto0 with
    | exc x ρ2 S2 => rw [om] at h; exact h.elim
    | bad => rw [om] at h; exact h.elim
    | ok rr S3 =>
      rw [om] at h
      cases rr with
      | own _ => exact h.elim
      | d d => exact fun v F4 H4 e4 s4 _ r4 => h v F4 H4 (b3.after0 e4 s4).bare r4
end
end
end DL

set_option Elab.async false
set_option linter.all false
set_option maxRecDepth 100000
set_option maxHeartbeats 4000000
set_option autoImplicit false
/-! ### enumerate over a tuple -/
namespace DL
open PySem PySem.Spec L2 PyProof.Rows
abbrev tiO (t : Addr) : Obj := { cls := .type "tuple_iterator", data := .fields #[.ref t, .int 0 0] }
abbrev enO (it : Addr) : Obj := { cls := .type "enumerate", data := .fields #[.none, .bool false, .ref it, rawInt 0, .none, .none] }
set_option maxHeartbeats 1000000 in
theorem enum_newT (t : Addr) (items : Array Value) : Meets (Builtin.«enumerate.__new__» ⟨[.type "enumerate", .ref t], []⟩)
    (fun _ R s => s.heap.IsTuple t items ∧ R (.ok (.ret (.ref (s.heap.push (tiO t)).objs.size))) { s with heap := (s.heap.push (tiO t)).push (enO s.heap.objs.size) }) :=
  .of_wp fun prog w A R s ⟨ht, hr⟩ => by
    obtain ⟨h0, g0, d0, t0, o0⟩ := s
    have sub0 := sub_enumerate
    have it0 : ∀ {B : Around} {E Q : Value → Shared → Prop}, Q (.ref h0.objs.size) ⟨h0.push (tiO t), g0, d0, t0, o0⟩ → wpAny (model prog w) B (pyIter (.ref t)) Q E ⟨h0, g0, d0, t0, o0⟩ := fun q => wpAny_pyIter_tuple ht q
    wp_walk using it0
    refine wpAny_stack_any fun _ => (wpAny_pure ?_)
    split
    · rename_i c _ _ _ _ _
      by_cases hc : (c == Value.type "enumerate") = true
      all_goals (try rw [hc]); (try rw [Bool.eq_false_iff.mpr hc]); wp_walk using it0; exact ⟨_, rfl, hr⟩
    · wp_walk using it0; exact ⟨_, rfl, hr⟩
theorem call_enumT {prog : Program} {w : World} {A : Around} {E : Value → Shared → Prop} {s : Shared} {t : Addr} {items : Array Value} {Q : Value → Shared → Prop} (ht : s.heap.IsTuple t items)
    (h : ∀ h', IsEnum h' (s.heap.objs.size + 1) s.heap.objs.size 0 .none → h'.IsTupleIter s.heap.objs.size t 0 → (∀ b o, s.heap.get? b = some o → h'.get? b = some o) → Q (.ref (s.heap.objs.size + 1)) { s with heap := h' }) :
    wpAny (model prog w) A (call (.type "enumerate") [.ref t]) Q E s := by
  refine callType_new F.called_enumerate (by decide) (F.typeCall_enumerate_1 _) (F.newCall_enumerate_1 _) (fun obj => F.args_object_init_2 obj _) F.entry_enumerate_new (enum_newT t items) ⟨ht, ?_⟩
  have z : (s.heap.push (tiO t)).objs.size = s.heap.objs.size + 1 := Heap.size_push ..
  have e : ((s.heap.push (tiO t)).push (enO s.heap.objs.size)).get? (s.heap.objs.size + 1) = some (enO s.heap.objs.size) := z ▸ Heap.get?_push_size (o := enO s.heap.objs.size) _ rfl
  show _ ∧ _
  rw [z]
  have ti : ((s.heap.push (tiO t)).push (enO s.heap.objs.size)).IsTupleIter s.heap.objs.size t 0 := ⟨tiO t, Heap.get?_push_of_some _ (Heap.get?_push_size _ rfl), rfl, rfl⟩
  exact ⟨⟨_, e, rfl⟩, h _ e ti fun b o x => Heap.get?_push_of_some _ (Heap.get?_push_of_some _ x)⟩
/-- the tuple at a as it stands, each item in a new pair -/
def IteT (K : PySem.W.Frag) (a : Addr) : It where
  go := fun i H => ∃ (xs : List V) (x : V), SqT K H a xs ∧ xs[i]? = some x
  yld := fun i H v H' => ∃ T x, v = .ref T ∧ H T = none ∧ H' = upd H T (.tup [.int (i : Nat), x]) ∧ ∀ xs, SqT K H a xs → xs[i]? = some x
  stop := fun i H => ∃ xs : List V, SqT K H a xs ∧ xs.length ≤ i
theorem turn_enumT {P : Program} {w : World} {K : PySem.W.Frag} {es : List Expr} {kk : Nat} {tp : Pos} (a e it : Addr) (hae : a ≠ e) (hai : a ≠ it) (items : Array Value) :
    Turn P w K (.Tuple es kk tp) (IteT K a) [e, it] e (fun i h => (∃ old, IsEnum h e it ((i : Nat) : Int) old) ∧ h.IsTupleIter it a i ∧ e ≠ it) where
  mem := List.mem_cons_self
  obj := by
    rintro i h ⟨⟨old, he⟩, ⟨o, ho, _, hd⟩, _⟩ b hb
    rcases List.mem_cons.mp hb with rfl | hb
    · exact ⟨_, he, nofun⟩
    · rw [List.mem_singleton.mp hb]; exact ⟨o, ho, fun v q => by rw [hd] at q; cases q⟩
  keep := by
    rintro i h h' ⟨⟨old, he⟩, hi, hne⟩ k
    exact ⟨⟨old, k e (by simp) _ he⟩, hi.at fun o q => k it (by simp) o q, hne⟩
  item := by
    rintro X rfl rfl rfl hc i pins s σ H E I hf ⟨⟨old, he⟩, hit, hne⟩ ⟨xs, x, hq, hx⟩
    obtain ⟨its, rv, p, hz⟩ := I.tuple hq
    obtain ⟨u, hu, ru⟩ := rv.get hx
    have hel : e < s.heap.objs.size := Heap.lt_size he
    have hil : it < s.heap.objs.size := let ⟨_, q, _⟩ := hit; Heap.lt_size q
    have hlt : i < its.toArray.size := by simpa using (List.getElem?_eq_some_iff.mp hu).1
    refine wpAny_pyNext_enum_itemD (Draws.tuple (A := X.A.in1) (show X.A.in1.handled = none from I.ok.hd hc) it a hai its.toArray) he ⟨hit, p⟩ hlt hne (by simp [hne, hae.symm]) fun y h' tk hy ho hs' hT hsz hk => ?_
    have hyu : y = u := by
      have h1 : its[i]? = some y := by simpa using hy
      rw [hu] at h1
      exact (Option.some.inj h1).symm
    subst hyu
    refine ⟨_, rfl, wpAny_letOwnedTupleGo_enum (s := { s with heap := h', toks := tk + 1 }) ho fun h2 he2 sb => ?_⟩
    have ne : s.heap.objs.size ≠ e := Nat.ne_of_gt hel
    have hT2 : h2.get? s.heap.objs.size = some { cls := .type "tuple", data := .seq #[.int i tk, y] } := (sb.2 _ ne).trans hT
    have new : ObjOk X.prog X.w (upd H s.heap.objs.size (.tup [.int (i : Nat), x])) h2 s.heap.objs.size (.tup [.int (i : Nat), x]) := ⟨show 2 ≤ sizeLine by decide, [.int i tk, y], .cons ⟨_, rfl⟩ (.cons ru .nil), _, hT2, rfl, _, rfl⟩
    have I1 : Inv X pins σ (upd H s.heap.objs.size (.tup [.int (i : Nat), x])) { s with heap := h2, toks := tk + 1 } := by
      refine I.turnedNew (ch := [e, it]) (fun b ob hb q => ?_) hf (Nat.le_refl _) new
      have b1 : b ≠ e := fun z => hb (by simp [z])
      have b2 : b ≠ it := fun z => hb (by simp [z])
      exact (sb.2 b b1).trans (hk b ob b1 b2 q)
    refine ⟨.ref s.heap.objs.size, _, I1, rfl, ⟨_, x, rfl, I.hok.fresh (Nat.le_refl _), rfl, fun ys hy => by rw [I.tuple_inj hy hq]; exact hx⟩, ⟨⟨y, ?_⟩, hs'.1.at fun o q => (sb.2 it hne.symm).trans q, hne⟩, fun b hb => ?_⟩
    · rw [show ((i + 1 : Nat) : Int) = (i : Int) + 1 by omega]; exact he2
    · have hb' : b < s.heap.objs.size := by
        rcases List.mem_cons.mp hb with rfl | hb
        · exact hel
        · rw [List.mem_singleton.mp hb]; exact hil
      rw [upd_ne (Nat.ne_of_lt hb')]; exact (hf b hb).1
  done := by
    rintro X rfl rfl rfl hc i pins s σ H E I hf ⟨⟨old, he⟩, hit, hne⟩ ⟨xs, hq, hx⟩
    obtain ⟨its, rv, p, hz⟩ := I.tuple hq
    obtain ⟨f0, f1, f2, f3, f4, f5⟩ := hf it (by simp)
    have hl := rv.length
    obtain ⟨o, ho, r⟩ := id hit
    unfold pyNext
    have hT : s.TypeIs (.ref e) "enumerate" := ⟨_, he, rfl⟩
    refine wpAny_bind (wpAny_attempt (wpAny_callSpecial?_slot (name := Str.ofString "__next__") hT F.slot_enumerate_next (wpAny_call_entry F.slot_enumerate_next hT F.entry_enumerate_next ?_ (F.args_enumerate_next_1 _))))
    show wpAny _ _ (field (.ref e) 2 >>= _) _ _ _
    refine wpAny_bind (wpAny_field he rfl (x := .ref it) rfl (wpAny_bind (wpAny_nextOf_tuple_end (I.ok.hd hc) hit p (by simp; omega) fun h' x eb ⟨ox, hox, hcx⟩ => ?_)))
    refine wpAny_bind (wpAny_isInstance (T := "StopIteration") (b := true) ⟨ox, hox, hcx⟩ isSubtype_stop (wpAny_pure ?_))
    exact ⟨rfl, I.turned (t' := s.toks) (fun b o hb q => eb b o hb q) f0 f1 f3 f4 f5⟩
  self := fun A i s Q E ⟨⟨_, he⟩, _⟩ h => wpAny_pyIter_enum he h
def iEnumT (K : PySem.W.Frag) (ta : TA) : TI := fun σ H R => ta σ H fun vs H1 => ∃ a xs, vs = [.ref a] ∧ SqT K H1 a xs ∧ R (IteT K a) H1
theorem pi_enumT {X : Cx} {e : Expr} {ta : TA} {p pos tpos : Pos} {elts : List Expr} {kk : Nat} (hg : Gl X "enumerate") (hm : X.mg "enumerate" = none) (ha : PA X [e] ta) (hs : starEach [e] X.env = [(false, eval e X.env)] := by rfl) :
    PI X (.Tuple elts kk tpos) (.Call (.Name "enumerate" p) [e] [] pos) (iEnumT X.K ta) := ⟨fun pins s σ H R I h => by
  refine Call_ (ld_blt I hg hm boot_enumerate (PyProof.Rows.callWith_type1 (thn (ha.run pos pins s σ H _ I h) fun us s1 ⟨vs, H1, I1, r1, a, xs, ex, hq, q⟩ => ?_) hs rfl))
  subst ex
  cases r1 with
  | cons ra rb =>
    cases rb
    cases ra
    obtain ⟨its, rv, p', hz⟩ := I1.tuple hq
    have hal : a < s1.heap.objs.size := let ⟨_, q, _⟩ := p'; Heap.lt_size q
    refine call_enumT p' fun h' he hit hk => wpAny_pyIter_enum he ?_
    have I2 : Inv X pins σ H1 { s1 with heap := h' } := I1.kept (t' := s1.toks) hk
    refine ⟨s1.heap.objs.size + 1, [s1.heap.objs.size + 1, s1.heap.objs.size], _, _, H1, rfl, I2, turn_enumT a _ _ (Nat.ne_of_lt (Nat.lt_succ_of_lt hal)) (Nat.ne_of_lt hal) its.toArray, ⟨⟨.none, he⟩, hit, Nat.succ_ne_self _⟩, fun b hb => ?_, q⟩
    have hle : s1.heap.objs.size ≤ b := by
      rcases List.mem_cons.mp hb with rfl | hb
      · exact Nat.le_succ _
      · rw [List.mem_singleton.mp hb]; exact Nat.le_refl _
    exact I1.fpOk hle (I1.hok.fresh hle)⟩
section
variable {W : WX} {K : PySem.W.Frag} {tr : TA} {φl : Ph (List D)}
theorem walk_enumT {a : Addr} {xs : List V} : Walk (IteT K a) xs.length (fun H => SqT K H a xs) (YPair (fun i => some (.int (i : Nat))) (fun i => xs[i]?)) := by
  refine ⟨fun i _ hi q => ⟨xs, xs[i], q, by simp [hi]⟩, fun _ q => ⟨xs, q, Nat.le_refl _⟩, ?_⟩
  rintro i H v H' _ q ⟨T, x, h1, h2, h3, h4⟩
  exact ⟨T, .int (i : Nat), x, h1, h2, h3, rfl, h4 xs q⟩
def mEnumT (φl : Ph (List D)) : Ph (List D) := fun ρ S => (φl ρ S).bind fun ds S1 => match ds with
  | [.tup xs] => .ok (enumD xs) S1
  | _ => .bad
theorem walk_enumTD {F : Hp} {a : Addr} {xs : List V} {ds : List D} (f : TupAt F a xs) (r : Reps F ds xs) : RI (enumD ds) F (IteT K a) := by
  have w : Walk (IteT K a) xs.length (fun H => SqT K H a xs) (YPair (fun i => some (.int (i : Nat))) (fun i => xs[i]?)) := walk_enumT
  unfold RI
  rw [enumD_len]
  rw [r.length] at w
  refine w.mono (fun H s => f.sq s) fun i H x H' hi s y => ?_
  obtain ⟨T, x1, x2, e, n, eH, e1, e2⟩ := y
  cases e1
  obtain ⟨d, ed, rd⟩ := r.get' e2
  exact .inr ⟨T, _, [.int (i : Nat), d], e, n, eH, by rw [enumD_get, ed]; rfl, reps_cons.mpr ⟨_, _, rfl, rep_int _, Reps.one rd⟩⟩
theorem it_enumT (hl : AT W tr φl) : IT W (iEnumT K tr) (mEnumT φl) := fun F0 H0 st hs F H S ρ σ Q b h =>
  hl _ _ _ _ _ _ _ _ _ _ b (GW.bind rm_i h fun ds S1 vs F1 H1 b1 e1 r1 h1 => by
    rcases ds with _ | ⟨d, ds⟩
    · exact h1.elim
    · rcases ds with _ | ⟨d2, ds⟩
      · cases d <;> try exact h1.elim
        rename_i xs
        obtain ⟨v, rs, e, h2, h3⟩ := reps_cons.mp r1
        simp only [Rep] at h2
        obtain ⟨a, ys, e2, f, r⟩ := h2
        rw [e2, reps_nil.mp h3] at e
        exact ⟨a, ys, e, f.sq b1.sub, h1 _ F1 H1 b1 Ext.refl (walk_enumTD f r)⟩
      · cases d <;> exact h1.elim)
end
end DL

set_option Elab.async false
set_option linter.all false
set_option maxRecDepth 100000
set_option maxHeartbeats 4000000
set_option autoImplicit false
namespace DL
open PySem PySem.Spec L2 PyProof.Rows
open PyProof.Rows (envOfC)

section
variable {W : WX} {K : PySem.W.Frag} {ta tb te : TE} {φa φb φ : Ph D} {tl th : TO} {φl φh : Ph (Option Int)} {tr : TA}
/-! ### slices -/
def RP : RR (Option Int) (Option Int) := fun _ _ _ _ a b => a = b
abbrev OP (W : WX) (t : TO) (φ : Ph (Option Int)) : Prop := GT RP W t φ
def toPart (d : D) (S : Sto) : Out (Option Int) := match d with
  | .int i => .ok (some i) S
  | _ => .bad
def mNoP : Ph (Option Int) := fun _ S => .ok none S
def mPt (φ : Ph D) : Ph (Option Int) := fun ρ S => (φ ρ S).bind toPart
theorem rm_p : RM RP := fun _ _ _ _ _ _ _ _ h => h
theorem op_no : OP W tNoPart mNoP := fun F0 H0 st hs F H S ρ σ Q b h => h none F H b Ext.refl rfl
theorem op_pt (ha : ET W ta φa) : OP W (tPart ta) (mPt φa) := fun F0 H0 st hs F H S ρ σ Q b h =>
  ha _ _ _ _ _ _ _ _ _ _ b (GW.bind rm_p h fun x S1 v F1 H1 b1 e1 r1 h1 => by
    cases x <;> try exact h1.elim
    rename_i i
    simp only [RD, Rep] at r1
    exact ⟨i, r1, h1 _ F1 H1 b1 Ext.refl rfl⟩)
def cutD {α : Type} (xs : List α) (lo hi : Option Int) : List α := (xs.drop (HT.sIx xs.length 0 lo)).take (HT.sIx xs.length xs.length hi - HT.sIx xs.length 0 lo)
theorem Reps.cut {F : Hp} {ds : List D} {xs : List V} (r : Reps F ds xs) (lo hi : Option Int) : Reps F (cutD ds lo hi) (cutV xs lo hi) := by
  unfold cutD cutV
  rw [r.length]
  exact (r.drop _).take _
def mSlL (φa : Ph D) (φl φh : Ph (Option Int)) : Ph D := fun ρ S => (φa ρ S).bind fun d S1 => (φl ρ S1).bind fun l S2 => (φh ρ S2).bind fun h S3 => match d with
  | .lst xs => .ok (.lst (cutD xs l h)) S3
  | _ => .bad
def mSlT (φa : Ph D) (φl φh : Ph (Option Int)) : Ph D := fun ρ S => (φa ρ S).bind fun d S1 => (φl ρ S1).bind fun l S2 => (φh ρ S2).bind fun h S3 => match d with
  | .tup xs => .ok (.tup (cutD xs l h)) S3
  | _ => .bad
theorem et_slL (ha : ET W ta φa) (hl : OP W tl φl) (hh : OP W th φh) : ET W (tSl (rSlL K) ta tl th) (mSlL φa φl φh) := fun F0 H0 st hs F H S ρ σ Q b h =>
  ha _ _ _ _ _ _ _ _ _ _ b (GW.bind rm_d h fun x S1 v F1 H1 b1 e1 r1 h1 =>
    hl _ _ _ _ _ _ _ _ _ _ b1 (GW.bind rm_d h1 fun l S2 l' F2 H2 b2 e2 r2 h2 =>
      hh _ _ _ _ _ _ _ _ _ _ b2 (GW.bind rm_d h2 fun u S3 u' F3 H3 b3 e3 r3 h3 => by
        cases (show l = l' from r2)
        cases (show u = u' from r3)
        cases x <;> try exact h3.elim
        rename_i ds
        have r := Rep.mono (e2.ff.trans e3.ff) _ _ r1
        simp only [Rep] at r
        obtain ⟨a, xs, rfl, f, rr⟩ := r
        refine ⟨a, xs, rfl, SqL.of (b3.sub _ _ f), fun p hp => ?_⟩
        exact h3 _ _ _ (b3.lay hp) (Ext.lay b3.sub hp).1 (rep_lst (rr.cut l u) (b3.sub.none hp)))))
theorem cut_whole {ds : List D} {l u : Option Int} (h : HT.sIx ds.length 0 l = 0 ∧ HT.sIx ds.length ds.length u = ds.length) : cutD ds l u = ds := by
  unfold cutD
  rw [h.1, h.2]
  simp
theorem et_slT (ha : ET W ta φa) (hl : OP W tl φl) (hh : OP W th φh) : ET W (tSl (rSlF K) ta tl th) (mSlT φa φl φh) := fun F0 H0 st hs F H S ρ σ Q b h =>
  ha _ _ _ _ _ _ _ _ _ _ b (GW.bind rm_d h fun x S1 v F1 H1 b1 e1 r1 h1 =>
    hl _ _ _ _ _ _ _ _ _ _ b1 (GW.bind rm_d h1 fun l S2 l' F2 H2 b2 e2 r2 h2 =>
      hh _ _ _ _ _ _ _ _ _ _ b2 (GW.bind rm_d h2 fun u S3 u' F3 H3 b3 e3 r3 h3 => by
        cases (show l = l' from r2)
        cases (show u = u' from r3)
        cases x <;> try exact h3.elim
        rename_i ds
        have r0 := Rep.mono (e2.ff.trans e3.ff) _ _ r1
        have r := r0
        simp only [Rep] at r
        obtain ⟨a, xs, rfl, f, rr⟩ := r
        refine ⟨a, xs, rfl, f.sq b3.sub, fun w => ?_, fun _ p o hd hp => ?_⟩
        · rw [rr.length] at w
          have h4 : GW RD W F0 H0 st hs F3 H3 ρ σ (.ok (.tup (cutD ds l u)) S3) Q := h3
          rw [cut_whole w] at h4
          exact h4 _ F3 H3 b3 Ext.refl r0
        · exact h3 _ _ _ (b3.lay hp) (Ext.lay b3.sub hp).1 (rep_tup (rr.cut l u) (b3.sub.none hp) hd))))
/-! ### + of tuples, of lists -/
def gCatT (x y : D) (S : Sto) : Out D := match x, y with
  | .tup a, .tup c => if line (a.length + c.length) = true then .ok (.tup (a ++ c)) S else .bad
  | _, _ => .bad
theorem o_catT : O2 W (rCatF K) gCatT := fun F0 H0 st hb F H S ρ σ Q dx dy x y b r1 r2 h => by
  cases dx <;> try exact h.elim
  cases dy <;> try exact h.elim
  rename_i da dc
  simp only [gCatT] at h
  by_cases c : line (da.length + dc.length) = true
  · rw [if_pos c] at h
    have s1 := r1
    have s2 := r2
    simp only [Rep] at s1 s2
    obtain ⟨a, xs, rfl, fa, ra⟩ := s1
    obtain ⟨a2, ys, rfl, fc, rc⟩ := s2
    refine ⟨a, a2, xs, ys, rfl, rfl, fa.sq b.sub, fc.sq b.sub, by rw [ra.length, rc.length]; exact line_ok c, fun z => ?_, fun _ z => ?_, fun _ _ p o hd hp => ?_⟩
    · subst z
      have : da = [] := List.eq_nil_of_length_eq_zero ra.length.symm
      subst this
      exact h _ F H b Ext.refl r2
    · subst z
      have : dc = [] := List.eq_nil_of_length_eq_zero rc.length.symm
      subst this
      rw [List.append_nil] at h
      exact h _ F H b Ext.refl r1
    · exact h _ _ _ (b.lay hp) (Ext.lay b.sub hp).1 (rep_tup (ra.append rc) (b.sub.none hp) hd)
  · rw [if_neg c] at h; exact h.elim
def catL (x y : D) (S : Sto) : Out (List D) := match x, y with
  | .lst a, .lst c => if line (a.length + c.length) = true then .ok (a ++ c) S else .bad
  | _, _ => .bad
def mCatL (φa φb : Ph D) : Ph (List D) := fun ρ S => (φa ρ S).bind fun x S1 => (φb ρ S1).bind fun y S2 => catL x y S2
theorem ot_cat (ha : ET W ta φa) (hb : ET W tb φb) : OT W (tOp rCat ta tb) (mCatL φa φb) := fun F0 H0 st hs F H S ρ σ Q b h =>
  ha _ _ _ _ _ _ _ _ _ _ b (GW.bind rm_o h fun x S1 v F1 H1 b1 e1 r1 h1 =>
    hb _ _ _ _ _ _ _ _ _ _ b1 (GW.bind rm_o h1 fun y S2 u F2 H2 b2 e2 r2 h2 => by
      have s1 := Rep.mono e2.ff _ _ r1
      have s2 : Rep F2 y u := r2
      cases x <;> try exact h2.elim
      cases y <;> try exact h2.elim
      rename_i da dc
      simp only [catL] at h2
      by_cases c : line (da.length + dc.length) = true
      · rw [if_pos c] at h2
        simp only [Rep] at s1 s2
        obtain ⟨a, xs, rfl, fa, ra⟩ := s1
        obtain ⟨a2, ys, rfl, fc, rc⟩ := s2
        refine ⟨a, a2, xs, ys, rfl, rfl, b2.sub _ _ fa, b2.sub _ _ fc, by rw [ra.length, rc.length]; exact line_ok c, fun p hp => ?_⟩
        exact h2 _ _ _ (b2.lay0 hp) (Ext.lay0 b2.sub hp).1 ⟨p, _, rfl, hp, upd_same, b2.sub.none hp, ra.append rc⟩
      · rw [if_neg c] at h2; exact h2.elim))
/-! ### t.count(i) -/
def intsD : List D → Option (List Int)
  | [] => some []
  | .int i :: ds => (intsD ds).map (i :: ·)
  | _ :: _ => none
theorem intsD_eq : ∀ {ds : List D} {ns : List Int}, intsD ds = some ns → ds = ns.map D.int
  | [], ns, h => by simp only [intsD] at h; cases h; rfl
  | d :: ds, ns, h => by
    cases d <;> simp only [intsD] at h <;> try (cases h; done)
    rename_i i
    cases e : intsD ds with
    | none => rw [e] at h; cases h
    | some ms => rw [e] at h; cases h; rw [intsD_eq e]; rfl
theorem intsD_map (ns : List Int) : intsD (ns.map D.int) = some ns := by
  induction ns with
  | nil => rfl
  | cons n ns ih => simp [intsD, ih]
def cntD (x y : D) : Option D := match x, y with
  | .tup ds, .int k => (intsD ds).map fun ns => .int (ns.count k : Nat)
  | _, _ => none
def mCnt (φa φb : Ph D) : Ph D := fun ρ S => (φa ρ S).bind fun x S1 => match x with
  | .tup ds => (φb ρ S1).bind fun y S2 => pure2 cntD (.tup ds) y S2
  | _ => .bad
theorem pe_cnt {X : Cx} {o e : Expr} {apos cpos : Pos} {to : TE} {t : TA} (ho : PE X o to) (ha : PA X [e] t)
    (hbase : attributeBase o "count" X.env (eval o X.env) = eval o X.env := by rfl)
    (hfew : ((backTo cpos (starEach [e] X.env)).all (fun x => !x.1) && (backToKw cpos (keywordEach [] X.env)).all (fun x => x.1.isSome)
      && decide (([e] : List Expr).length + ([] : List Keyword).length + (if ([] : List Keyword).isEmpty then 0 else 1) < 30)) = true := by rfl)
    (hline : (apos.endLine == cpos.line) = true := by rfl) (hs : starEach [e] X.env = (false, eval e X.env) :: starEach [] X.env := by rfl) (hplain : (backTo cpos (starEach [] X.env)).any (·.1) = false := by rfl) :
    PE X (.Call (.Attribute o "count" apos) [e] [] cpos) (tCnt to t) := by
  refine ⟨fun pins s σ H Q I h => ?_⟩
  refine wpAny_Call_method_late hbase hfew hline rfl (thn (ho.run pins s σ H _ I h) fun v s1 ⟨x, H1, I1, r1, ⟨p, ob, ys, ex, hd, hp⟩, q1⟩ => ?_)
  subst ex
  obtain rfl : v = Value.ref p := r1
  obtain ⟨hg, _, _, _, o2, h1, hc, _⟩ := (show ObjOk X.prog X.w H1 s1.heap p (.frz ob (.tup ys)) from I1.hok p _ hp)
  rw [hg] at h1
  cases h1
  refine ⟨"tuple", "tuple.count", PySem.F.plainAttrs_tuple, PySem.F.slot_tuple_count, PySem.F.type_tuple_count, ⟨ob, hg, hc⟩, fun a z => by cases z; exact ⟨ob, hg, hd⟩, ?_⟩
  have hA := ha.run cpos pins s1 σ H1 _ I1 q1
  rw [hs] at hA ⊢
  refine Calls.callWith_builtin (by show (false || (backTo cpos (starEach [] X.env)).any (·.1)) = false; rw [hplain] <;> rfl) (Calls.evalArgs_plain ?_)
  exact thn hA fun us s2 ⟨vs, H2, I2, r2, q2⟩ => mt_tcount pins s2 σ H2 (.ref p) vs (.ref p) us Q I2 rfl r2 q2
theorem et_cnt (ha : ET W ta φa) (hb : ET W tb φb) : ET W (tCnt ta (tCons tb tNil)) (mCnt φa φb) := fun F0 H0 st hs F H S ρ σ Q b h =>
  ha _ _ _ _ _ _ _ _ _ _ b (GW.bind rm_d h fun x S1 v F1 H1 b1 e1 r1 h1 => by
    cases x <;> try exact h1.elim
    rename_i ds
    simp only [RD] at r1
    have r1' := r1
    simp only [Rep] at r1
    obtain ⟨a, xs, rfl, ⟨o, hd, f⟩, rr⟩ := r1
    refine ⟨⟨a, o, xs, rfl, hd, b1.sub _ _ f⟩, ?_⟩
    exact hb _ _ _ _ _ _ _ _ _ _ b1 (GW.bind rm_d h1 fun y S2 u F2 H2 b2 e2 r2 h2 => by
      unfold pure2 at h2
      cases e : cntD (.tup ds) y with
      | none => simp only [e] at h2; exact h2.elim
      | some d =>
        simp only [e] at h2
        cases y <;> try (simp [cntD] at e; done)
        rename_i k
        simp only [cntD] at e
        cases ei : intsD ds with
        | none => rw [ei] at e; cases e
        | some ns =>
          rw [ei] at e
          cases e
          rw [intsD_eq ei] at rr
          cases Reps.ints.mp rr
          simp only [RD, Rep] at r2
          exact ⟨a, o, ns, k, rfl, by rw [r2], hd, b2.sub _ _ (e2.ff _ _ f), h2 _ F2 H2 b2 Ext.refl (rep_int _)⟩))
/-! ### all([..]), x in rows, if rows -/
def blsD : List D → Option (List Bool)
  | [] => some []
  | .bl c :: ds => (blsD ds).map (c :: ·)
  | _ :: _ => none
theorem blsD_map (bs : List Bool) : blsD (bs.map D.bl) = some bs := by
  induction bs with
  | nil => rfl
  | cons n ns ih => simp [blsD, ih]
theorem blsD_rep {F : Hp} : ∀ {ds : List D} {bs : List Bool} {xs : List V}, blsD ds = some bs → Reps F ds xs → xs = bs.map V.bl
  | [], bs, xs, h, r => by simp only [blsD] at h; cases h; exact reps_nil.mp r
  | d :: ds, bs, xs, h, r => by
    cases d <;> simp only [blsD] at h <;> try (cases h; done)
    rename_i c
    cases e : blsD ds with
    | none => rw [e] at h; cases h
    | some ms =>
      rw [e] at h
      cases h
      obtain ⟨x, rs, ex, h1, h2⟩ := reps_cons.mp r
      simp only [Rep] at h1
      rw [ex, h1, blsD_rep e h2]; rfl
def allC : List D → Option D
  | [.lst ds] => (blsD ds).map fun bs => .bl (bs.all id)
  | _ => none
theorem c_all : OC W (rAll K) (pureC allC) := oc_pure fun F H Q ds d vs s r e q => by
  rcases ds with _ | ⟨d1, _ | ⟨d2, ds⟩⟩
  · cases e
  · obtain ⟨v, ev, rv⟩ := reps1 r
    cases d1 <;> simp only [allC] at e <;> try (cases e; done)
    rename_i ds
    cases ei : blsD ds with
    | none => rw [ei] at e; cases e
    | some bs =>
      rw [ei] at e
      cases e
      simp only [Rep] at rv
      obtain ⟨a, xs, e2, f, r2⟩ := rv
      cases blsD_rep ei r2
      exact ⟨a, bs, by rw [ev, e2], SqL.of (s _ _ f), q _ (rep_bl _)⟩
  · cases d1 <;> cases e
theorem bt_all : bootBuiltins "all" = some (.builtin "all") := by decide +kernel
theorem units65 {k : Nat} {A : Around} (r : Room k A) : A.units + 65 < cLine := by have := r.un; omega
def inDeep (x y : D) : Option D := match y with
  | .lst ds => if shp x = true ∧ shp (.lst ds) = true then some (.bl ((toPs ds).any fun z => PyData.eqv z (toP x))) else none
  | _ => none
theorem o_inD : O2 W (rInD K) (pure2 inDeep) := o2_pure fun F H Q dx dy d x y s r1 r2 e q => by
  cases dy <;> simp only [inDeep] at e <;> try (cases e; done)
  rename_i ds
  by_cases c : shp dx = true ∧ shp (.lst ds) = true
  · rw [if_pos c] at e; cases e
    obtain ⟨c1, c2⟩ := c
    simp only [shp, Bool.and_eq_true] at c1 c2
    have h2 := Rep.dp (K := K) s (.lst ds) y c2.1 r2
    rw [toP] at h2
    have c3 := c2.2
    rw [toP] at c3
    exact ⟨_, _, Rep.dp s dx x c1.1 r1, h2, c1.2, c3, q _ (rep_bl _)⟩
  · rw [if_neg c] at e; cases e
def truD (d : D) (S : Sto) : Out Bool := match d with
  | .lst xs => .ok (!xs.isEmpty) S
  | .tup xs => .ok (!xs.isEmpty) S
  | _ => .bad
def mTru (φ : Ph D) : Ph Bool := fun ρ S => (φ ρ S).bind truD
theorem bt_tru (ha : ET W ta φa) : BT W (fun σ H Q => ta σ H fun x H' => ∃ k, TruV K x H' k ∧ Q k H') (mTru φa) := fun F0 H0 st hs F H S ρ σ Q b h =>
  ha _ _ _ _ _ _ _ _ _ _ b (GW.bind rm_b h fun x S1 v F1 H1 b1 e1 r1 h1 => by
    cases x <;> try exact h1.elim
    · rename_i ds
      simp only [RD, Rep] at r1
      obtain ⟨a, xs, rfl, f, r⟩ := r1
      have e : xs.isEmpty = ds.isEmpty := by
        have := r.length
        cases xs <;> cases ds <;> simp_all
      exact ⟨!ds.isEmpty, .inr (.inl ⟨xs, f.sq b1.sub, by rw [e]⟩), h1 _ F1 H1 b1 Ext.refl rfl⟩
    · rename_i ds
      simp only [RD, Rep] at r1
      obtain ⟨a, xs, rfl, f, r⟩ := r1
      have e : xs.isEmpty = ds.isEmpty := by
        have := r.length
        cases xs <;> cases ds <;> simp_all
      exact ⟨!ds.isEmpty, .inl ⟨xs, SqL.of (b1.sub _ _ f), by rw [e]⟩, h1 _ F1 H1 b1 Ext.refl rfl⟩)
end
end DL

set_option Elab.async false
set_option linter.all false
set_option maxRecDepth 100000
set_option maxHeartbeats 4000000
set_option autoImplicit false
namespace DL
open PySem PySem.Spec L2 PyProof.Rows
open PyProof.Rows (envOfC)
open L2N
open PySem.PXN HandSPX
/-! ### several handlers, each `except X as n` -/
abbrev Suit := Addr → Value → Option Addr → TS
/-- what the handlers wish of an exception of the body, one behind the other; slot i is the name's -/
def wEach (K : PySem.W.Frag) (i : Nat) (out : WX) (D : Ends) : List (Value × Suit) → WX
  | [] => out
  | p :: rest => wAs K p.1 i p.2 (wEach K i out D rest) D
inductive Hands (X : Cx) (n : Str) : List ExceptHandler → List (Value × Suit) → Prop
  | nil : Hands X n [] []
  | cons {nm : Str} {cv : Value} {su : Suit} {s0 : Stmt} {sts : List Stmt} {p1 p2 : Pos} {more : List ExceptHandler} {ls : List (Value × Suit)} (known : Names X nm cv)
      (run : ∀ (ea : Addr) (eo : Obj) (kc : Value) (dd : Option Addr) (pz : List (Addr × Obj)), Zn kc dd eo → (∃ fs, eo.data = .fields fs) → PSs (X.suite ea ((ea, eo) :: pz)) (s0 :: sts) (su ea kc dd)) (rest : Hands X n more ls) :
      Hands X n (.ExceptHandler (some (.Name nm p1)) (some n) (s0 :: sts) p2 :: more) ((cv, su) :: ls)
section
variable {X : Cx} {n : Str} {i : Nat} {body : List Stmt} {hd0 : ExceptHandler} {hds : List ExceptHandler} {ls : List (Value × Suit)} {pos : Pos} {tb : WX → TS} {out : WX}
theorem ps_try_each (stk : X.stack = X.env :: X.outer) (frm : X.env.frame = some X.env.locals) (nod : X.N.Nodup) (at_i : X.N[i]? = some n) (lcl : X.env.kindOf n = some .local) (takes : L2N.Takes X out)
    (runB : ∀ (W : WX) (pz : List (Addr × Obj)) (xe : Value → Shared → Prop), L2N.Takes (X.tr pz xe) W → PassesOwn (model X.prog X.w) X.A X.env xe → PSs (X.tr pz xe) body (tb W))
    (hh : Hands X n (hd0 :: hds) ls) : PS X (.Try body (hd0 :: hds) [] [] pos) (fun D σ H => tb (wEach X.K i out D ls) D σ H) := by
  refine ⟨fun pz s σ H D inv wish => ?_⟩
  have okX := inv.ok
  have frs_ : X.A.frames = some (X.env :: X.outer) := by rw [okX.frames, stk]
  have loc_ : Loc X.env.scope n := .inl lcl
  refine wpAny_Try_except ?_
  refine wpAny_mono ((runB (wEach X.K i out D ls) (X.pn ++ pz) (fun ev sA => wpAny (model X.prog X.w) X.A (noteFrame ev X.env) (fun _ sB => wpAny (model X.prog X.w) X.A (setFlight ev none) (fun _ sC =>
    wpAny (model X.prog X.w) X.A (handleBy ev X.env (hd0 :: hds)) (SP X pz D) X.xe sC) X.xe sB) X.xe sA) (fun u sD thrown => ?_) PassesOwn.looking).run [] s σ H D (inv.toTry _) wish) (fun fl sE done => ?_) (fun ev sE he => he)
  · obtain ⟨ea, hB, sI, pz', σ2, H2, kc, dd, rfl, inT, fresh, grow, sky, none2, osame, bare, wE⟩ := thrown
    have inv2 : Inv X pz σ2 H2 sI := inT.ofTry okX
    have sky2 : Sky hB (X.env :: X.outer) ea (Zn kc dd) X.env.locals sD.heap := by rw [← stk]; exact sky
    show wpAny (model X.prog X.w) X.A (noteFrame (.ref ea) X.env) _ _ _
    refine L2N.Sky.land Zn.steady frs_ frm sky2 fun g3 fl3 grow3 => ?_
    have inv3 : Inv X pz σ2 H2 { sD with heap := g3 } := inv2.landed fresh fl3.1 (grow.trans grow3) osame bare
    obtain ⟨eo3, fs3, get3, zn3, data3⟩ := fl3.there
    have apart : ∀ {g : Heap} {ob : Obj} {fs : Array Value}, g.FunFrames hB (X.env :: X.outer) → g.get? ea = some ob → ob.data = .fields fs → ea ∉ frs (X.env :: X.outer) := fun {g ob fs} ff ge gd mem => by
      obtain ⟨_, ob', ge', no⟩ := ff.mem mem
      rw [ge] at ge'; cases ge'
      exact no _ gd
    have noFr := apart fl3.2.2.1 get3 data3
    have noLo : ea ≠ X.env.locals := fun z => noFr (List.mem_filterMap.mpr ⟨X.env, List.mem_cons_self, by rw [frm, z]⟩)
    have noFs : ea ∉ X.fs := fun mem => by
      obtain ⟨en, hen, z⟩ := List.mem_filterMap.mp mem
      exact noFr (List.mem_filterMap.mpr ⟨en, List.mem_cons_of_mem _ hen, z⟩)
    have su3 := inv3.suite get3 data3 none2 noLo noFs
    have each : ∀ {hs' : List ExceptHandler} {ls' : List (Value × Suit)}, Hands X n hs' ls' → wEach X.K i out D ls' kc dd σ2 H2 →
        wpAny (model X.prog X.w) X.A (handleBy (.ref ea) X.env hs') (SP X pz D) X.xe { sD with heap := g3 } := by
      intro hs' ls' ok'
      induction ok' with
      | nil =>
        intro wN
        refine wpAny_handleBy_nil ?_
        obtain ⟨_, _, _, eo, fs, T, oT, ts', ge, zn, gd, one, _⟩ := id fl3
        unfold PySem.passOn
        refine wpAny_bind (wpAny_field ge gd one ?_)
        rw [if_neg (show ¬ ((Value.ref T == Value.none) = true) from by simp)]
        have up : wpAny (model X.prog X.w) X.A (setFlight (.ref ea) X.env.frame) (fun _ s4 => wpAny (model X.prog X.w) X.A (throw (.ref ea) : Sem Flow) (SP X pz D) X.xe s4) X.xe { sD with heap := g3 } := by
          rw [frm]
          refine setFlight_upZ fl3 fun g4 hi4 grow4 => wpAny_throw (takes _ _ ?_)
          exact ⟨ea, hB, sI, pz, σ2, H2, kc, dd, rfl, inv2, fresh, (grow.trans grow3).trans grow4, .inr (.inr (by rw [stk]; exact hi4)), none2, osame, bare, wN⟩
        first
          | exact wpAny_bind (wpAny_pure (wpAny_bind up))
          | exact wpAny_bind up
      | @cons nm cv su s0 sts p1 p2 more ls2 known run rest ih =>
        intro wC
        obtain ⟨hit, eqHit, onHit, onMiss⟩ := wC
        refine wpAny_handleBy_cons (codeAny_handlers_test ?_) (by intro z; cases z)
        have ty : PySem.W.Looks (model X.prog X.w) g3 (typeOf (.ref ea)) kc := fun A Q E s kp z => wpAny_typeOf_ref (kp _ _ get3) (by rw [zn3.1]; exact z)
        have mtch := PySem.W.exm_one (M := model X.prog X.w) (inv3.kIn) ty eqHit
        have look : ∀ {Q : Value → Shared → Prop} {E : Value → Shared → Prop}, Q cv { sD with heap := g3 } → wpAny (model X.prog X.w) (X.A.mark (some (.ref ea))) (eval (.Name nm p1) X.env) Q E { sD with heap := g3 } := fun {Q E} z => by
          obtain ⟨gl, dbg, mg | ⟨mg, bt, nn⟩⟩ := known
          · exact ld_glob (X := X.suite ea ((ea, eo3) :: (X.pn ++ pz))) su3 gl mg z dbg
          · exact ld_blt (X := X.suite ea ((ea, eo3) :: (X.pn ++ pz))) su3 gl mg bt z nn dbg
        refine look (mtch.here ?_)
        cases hit with
        | true =>
          refine codeAny_handlers_suite_as ?_
          refine lands_againZ fl3 fun g4 fl4 grow4 => ?_
          have inv4 : Inv X pz σ2 H2 { sD with heap := g4 } := inv2.landed fresh fl4.1 ((grow.trans grow3).trans grow4) osame bare
          obtain ⟨eo4, fs4, get4, zn4, data4⟩ := fl4.there
          have su4 := inv4.suite get4 data4 none2 noLo noFs
          refine store_ok (X := X.suite ea ((ea, eo4) :: (X.pn ++ pz))) (v := .ref ea) su4 nod at_i loc_ rfl (fun s5 su5 => ?_) (.inr lcl)
          refine wpAny_mono ((run ea eo4 kc dd (X.pn ++ pz) zn4 ⟨_, data4⟩).run [] s5 _ H2 _ su5 (onHit rfl ea none2)) (fun fl s6 done6 => ?_) (fun _ _ z => False.elim z)
          have leave : ∀ {σ6 : L2.St} {H6 : Hp} {Q : Shared → Prop}, Inv (X.suite ea ((ea, eo4) :: (X.pn ++ pz))) [] σ6 H6 s6 → (∀ s7, Inv X pz (σ6.set i none) H6 s7 → Q s7) →
              wpAny (model X.prog X.w) X.A (do bindName X.env n .none; unbindBehindTheSuite X.env n p2) (fun _ s7 => Q s7) X.xe s6 := fun {σ6 H6 Q} su6 z => gone_ok (su6.unsuite okX) nod at_i lcl z
          cases fl with
          | next => obtain ⟨σ6, H6, su6, z6⟩ := done6; exact leave su6 fun s7 i7 => ⟨_, _, i7, z6⟩
          | brk => obtain ⟨σ6, H6, su6, z6⟩ := done6; exact leave su6 fun s7 i7 => ⟨_, _, i7, z6⟩
          | cont => obtain ⟨σ6, H6, su6, z6⟩ := done6; exact leave su6 fun s7 i7 => ⟨_, _, i7, z6⟩
          | ret u => obtain ⟨v6, σ6, H6, su6, r6, z6⟩ := done6; exact leave su6 fun s7 i7 => ⟨_, _, _, i7, r6, z6⟩
        | false =>
          show wpAny _ X.A (handleBy (.ref ea) X.env more) _ _ _
          exact ih (onMiss rfl)
    exact each hh wE
  · cases fl with
    | next => obtain ⟨σ2, H2, i2, z2⟩ := done; exact wpAny_execs_nil ⟨σ2, H2, i2.ofTry okX, z2⟩
    | brk => obtain ⟨σ2, H2, i2, z2⟩ := done; exact ⟨σ2, H2, i2.ofTry okX, z2⟩
    | cont => obtain ⟨σ2, H2, i2, z2⟩ := done; exact ⟨σ2, H2, i2.ofTry okX, z2⟩
    | ret u => obtain ⟨v2, σ2, H2, i2, r2, z2⟩ := done; exact ⟨v2, σ2, H2, i2.ofTry okX, r2, z2⟩
end
end DL

set_option Elab.async false
set_option linter.all false
set_option maxRecDepth 100000
set_option maxHeartbeats 4000000
set_option autoImplicit false
namespace DL
open PySem PySem.Spec L2 PyProof.Rows
open PyProof.Rows (envOfC)
/-! ### what several handlers tell -/
abbrev Tel := XD → List L → Sto → Out Ctl
def noE : Tel := fun _ _ _ => .bad
def tellE (c : Addr) (ns : List Str) (n : Nat) (f : List D → D) (rest : Tel) : Tel := fun x ρ' S1 => if x.c = c then (if x.ns = ns ∧ ρ'.length = n then .ok (.rt (f x.ds)) S1 else .bad) else rest x ρ' S1
def mTell (g : Tel) (φb : Ph Ctl) : Ph Ctl := fun ρ S => match φb ρ S with
  | .exc x ρ' S1 => g x ρ' S1
  | .ok d S1 => .ok d S1
  | .bad => .bad
theorem SW.ok_any {W W' : WX} {F0 H0 : Hp} {st : Addr} {hb : Bool} {c : Ctl} {S : Sto} {Dn : Ends} (h : SW W F0 H0 st hb (.ok c S) Dn) : SW W' F0 H0 st hb (.ok c S) Dn := by
  cases c <;> exact h
theorem tell_end {W : WX} {F0 H0 F' H' : Hp} {st : Addr} {hb : Bool} {S1 : Sto} {ρ' : List L} {σ' : L2.St} {ds : List D} {xs : List V} {Dn : Ends} (b' : Bd F0 H0 st hb F' H' S1 ρ' σ') (r : Reps F' ds xs) (h : SW W F0 H0 st hb (.ok (.rt (.tup ds)) S1) Dn)
    (p : Addr) (ob : Obj) (hd : ob.dict = none) (hp : H' p = none) : Dn.rt (.ref p) (upd H' p (.frz ob (.tup xs))) :=
  h (.ref p) _ _ (b'.lay hp).bare (rep_tup r (b'.sub.none hp) hd)
/-! ### raise X(), X an own class without an __init__ -/
structure X0 (K : PySem.W.Frag) (mg : Str → Option Value) (x : Str) (C : Addr) : Prop where
  q : PySem.W.excIn K C [.type "ValueError", .type "Exception", .type "BaseException", .type "object"] "ValueError.__new__" = true
  mgc : mg x = some (.ref C)
  kC : PySem.W.keepIn K (.ref C) = true
  ex : PySem.W.subIn K (.ref C) (.type "BaseException") = some true
  ty : PySem.W.typeIn K (.ref C) = some (.type "type")
theorem raise_x0 {X : Cx} {W : WX} {x : Str} {C : Addr} {p pos pos2 : Pos} (c : X0 X.K X.mg x C) (hc : X.calm = true) (tk : L2N.Takes X W) (hg : Gl X x) (hdb : (x == ("__debug__" : Str)) = false := by decide) :
    PS X (.Raise (some (.Call (.Name x p) [] [] pos)) none pos2) (fun _ σ H => W (.ref C) none σ H) := by
  refine L2N.ps_raise (t := fun σ H Q => Q (.ref C) none H) hc tk ?_
  intro pz s σ H Q inv wish
  refine wpAny_Call_Name_kw (ld_glob inv hg c.mgc ?_ hdb)
  refine PySem.W.callWith_K0 (first := []) inv.kIn c.kC ?_
  show wpAny _ _ (call (.ref C) []) _ _ _
  obtain ⟨bm, N, nm, qn, bs, hdct, sn, sub, ab, col, dd, k0, k1, k2, k3, k5, mN, hC, hN, hni, T⟩ := exc_obj inv.kIn c.q
  refine wpAny_call_exc_subT PySem.F.excBase_ValueError T hC hN hni (fun h' e hm => ?_) (Nat.zero_le _)
  exact L2N.mk_of inv hm (raises_own c.ex c.ty) wish (inv.hok.gone hm.new)
def mRaise0 (C : Addr) : Ph Ctl := fun ρ S => .exc ⟨C, [], []⟩ ρ S
theorem st_raise0 {W : WX} {C : Addr} : ST W (fun _ σ H => W (.ref C) none σ H) (mRaise0 C) := fun F0 H0 st hs F H S ρ σ Dn b h =>
  h (.ref C) none σ F H b ⟨rfl, .inl ⟨rfl, rfl⟩⟩
end DL

set_option Elab.async false
set_option linter.all false
set_option maxRecDepth 100000
set_option maxHeartbeats 4000000
set_option autoImplicit false
namespace DL
open PySem PySem.Spec L2 PyProof.Rows
open PyProof.Rows (envOfC)
section
variable {W : WX} {K : PySem.W.Frag} {ta tb te : TE} {φa φb φ : Ph D} {tr : TA} {φl : Ph (List D)}
/-! ### range(i, j) -/
def mRange2 (φl : Ph (List D)) : Ph (List D) := fun ρ S => (φl ρ S).bind fun ds S1 => match ds with
  | [.int i, .int j] => if okR i = true ∧ okR j = true then .ok (rangeD i (j - i).toNat) S1 else .bad
  | _ => .bad
theorem it_range2 (hl : AT W tr φl) : IT W (iRng2 tr) (mRange2 φl) := fun F0 H0 st hs F H S ρ σ Q b h =>
  hl _ _ _ _ _ _ _ _ _ _ b (GW.bind rm_i h fun ds S1 vs F1 H1 b1 e1 r1 h1 => by
    rcases ds with _ | ⟨d, _ | ⟨d2, _ | ⟨d3, ds⟩⟩⟩
    · exact h1.elim
    · cases d <;> exact h1.elim
    · cases d <;> try exact h1.elim
      cases d2 <;> try exact h1.elim
      rename_i i j
      simp only at h1
      by_cases c : okR i = true ∧ okR j = true
      · rw [if_pos c] at h1
        obtain ⟨v, u, rfl, h2, h3⟩ := reps2 r1
        simp only [Rep] at h2 h3
        subst h2 h3
        exact ⟨i, j, rfl, ⟨(okR_of c.1).1, (okR_of c.1).2, (okR_of c.2).1, (okR_of c.2).2⟩, h1 _ F1 H1 b1 Ext.refl (walk_rangeD i _)⟩
      · rw [if_neg c] at h1; exact h1.elim
    · cases d <;> try exact h1.elim
      cases d2 <;> exact h1.elim)
/-! ### enumerate(x), x a list or a tuple -/
theorem pi_enumS {X : Cx} {tg l : Expr} {tr : TA} {p pos : Pos} (h1 : PI X tg (.Call (.Name "enumerate" p) [l] [] pos) (iEnum X.K tr)) (h2 : PI X tg (.Call (.Name "enumerate" p) [l] [] pos) (iEnumT X.K tr)) :
    PI X tg (.Call (.Name "enumerate" p) [l] [] pos) (fun σ H R => iEnum X.K tr σ H R ∨ iEnumT X.K tr σ H R) :=
  ⟨fun pins s σ H R I h => h.elim (fun h => h1.run pins s σ H R I h) (fun h => h2.run pins s σ H R I h)⟩
def mEnumS (φl : Ph (List D)) : Ph (List D) := fun ρ S => (φl ρ S).bind fun ds S1 => match ds with
  | [.lst xs] => .ok (enumD xs) S1
  | [.tup xs] => .ok (enumD xs) S1
  | _ => .bad
theorem it_enumS (hl : AT W tr φl) : IT W (fun σ H R => iEnum K tr σ H R ∨ iEnumT K tr σ H R) (mEnumS φl) := fun F0 H0 st hs F H S ρ σ Q b h => by
  unfold mEnumS at h
  cases o : φl ρ S with
  | bad => rw [o] at h; exact h.elim
  | exc x ρ' S1 =>
    refine .inl (it_enum hl _ _ _ _ _ _ _ _ _ _ b ?_)
    unfold mEnum
    rw [o] at h ⊢
    exact h
  | ok ds S1 =>
    rw [o] at h
    simp only [Out.bind] at h
    rcases ds with _ | ⟨d, _ | ⟨d2, ds⟩⟩
    · exact h.elim
    · cases d <;> try exact h.elim
      · refine .inr (it_enumT hl _ _ _ _ _ _ _ _ _ _ b ?_)
        unfold mEnumT
        rw [o]
        exact h
      · refine .inl (it_enum hl _ _ _ _ _ _ _ _ _ _ b ?_)
        unfold mEnum
        rw [o]
        exact h
    · cases d <;> exact h.elim
/-! ### x[::-1] of a list that is data -/
def gRev (d : D) (S : Sto) : Out D := match d with
  | .lst xs => .ok (.lst xs.reverse) S
  | _ => .bad
theorem et_revD (h : ET W te φ) : ET W (tRevL K te) (m1 gRev φ) := fun F0 H0 st hs F H S ρ σ Q b q =>
  h _ _ _ _ _ _ _ _ _ _ b (GW.bind rm_d q fun d S1 v F1 H1 b1 e1 r1 q1 => by
    cases d <;> try exact q1.elim
    rename_i ds
    simp only [RD, Rep] at r1
    obtain ⟨a, xs, rfl, f, r⟩ := r1
    exact ⟨a, xs, rfl, SqL.of (b1.sub _ _ f), fun p hp => q1 _ _ _ (b1.lay hp) (Ext.lay b1.sub hp).1 (rep_lst r.rev (b1.sub.none hp))⟩)
end
/-! ### C(..) within a comprehension -/
theorem pe_mkeN {X : Cx} {x : Str} {C : Addr} {k j n : Nat} {m : Fn} {e : Expr} {es : List Expr} {p pos : Pos} {t : TA} (c : Mke X.prog X.w X.K X.mg X.base x C k n m) (hr : Room j X.A) (hk : k + 1 ≤ j) (hg : Gl X x) (ha : PA X (e :: es) t)
    (hdb : (x == ("__debug__" : Str)) = false := by decide) (he : starEach (e :: es) X.env = (false, eval e X.env) :: starEach es X.env := by rfl) (hpl : (backTo pos (starEach es X.env)).any (·.1) = false := by rfl) :
    PE X (.Call (.Name x p) (e :: es) [] pos) (tMake C (spD true n m) [] (fun _ _ _ => False) t) := by
  obtain ⟨f, fd, ps, M, F, g, b⟩ := c.ex
  exact pe_make M F (hr.mono hk) hg g b .nil (by
    intro pz σ H s ev s' inv c
    obtain ⟨_, _, _, _, _, _, _, _, _, _, _, _, z⟩ := c
    exact z.elim) ha hdb he hpl
end DL

set_option Elab.async false
set_option linter.all false
set_option maxRecDepth 100000
set_option maxHeartbeats 4000000
set_option autoImplicit false
namespace DL
open PySem PySem.Spec L2 PyProof.Rows
open PyProof.Rows (envOfC)
/-! ### a list of one's own lent in a test that draws from the store -/
theorem Bd.lend {F0 H0 F H : Hp} {st : Addr} {hb : Bool} {S : Sto} {ρ : List L} {σ : L2.St} (b : Bd F0 H0 st hb F H S ρ σ) {i : Nat} {xs : List D} (e : ρ[i]? = some (.own xs)) :
    ∃ p vs, σ[i]? = some (some (.ref p)) ∧ H p = some (.lst vs) ∧ F p = none ∧ Reps F xs vs ∧ Bd F0 H0 st hb (upd F p (.lst vs)) H S (DL.frzL i ρ) σ := by
  obtain ⟨p, vs, e1, hp, fp, h0, r⟩ := b.loc i _ e
  have hi : i < σ.length := by
    cases Nat.lt_or_ge i σ.length with
    | inl h => exact h
    | inr h => rw [List.getElem?_eq_none h] at e1; cases e1
  have es : σ.set i (some (.ref p)) = σ := set_self e1
  have b0 : Bd F0 H0 st hb F H S (ρ.set i .un) (σ.set i (some (.ref p))) := b.wipe
  have nw : ∀ (j : Nat) (ys : List D), (ρ.set i .un)[j]? = some (.own ys) → (σ.set i (some (V.ref p)))[j]? ≠ some (some (.ref p)) := fun j ys h1 h2 => by
    rw [List.getElem?_set] at h1
    by_cases z : i = j
    · rw [if_pos z] at h1; split at h1 <;> cases h1
    · rw [if_neg z] at h1
      rw [List.getElem?_set, if_neg z] at h2
      exact b.dis i j p xs ys z e h1 e1 h2
  have b2 := (b0.frz hp fp h0 nw).set (i := i) (rep_lst r fp)
  rw [List.set_set, List.set_set, es] at b2
  refine ⟨p, vs, e1, hp, fp, r, ?_⟩
  unfold DL.frzL
  rw [e]
  exact b2
theorem intsD_rep {F : Hp} : ∀ {xs : List D} {ns : List Int}, Reps F xs (ns.map V.int) → ∃ ms, intsD xs = some ms
  | [], _, _ => ⟨[], rfl⟩
  | d :: ds, ns, r => by
    obtain ⟨x, rs, ex, h1, h2⟩ := reps_cons.mp r
    cases ns with
    | nil => cases ex
    | cons n ns =>
      rw [List.map_cons] at ex
      injection ex with ex1 ex2
      subst ex1 ex2
      obtain ⟨ms, hm⟩ := intsD_rep h2
      cases d <;> simp only [Rep] at h1 <;> try (cases h1; done)
      · exact ⟨_, by simp only [intsD, hm]; rfl⟩
      all_goals first | (obtain ⟨_, _, h1, _⟩ := h1; cases h1; done) | (obtain ⟨_, _, _, h1, _⟩ := h1; cases h1; done)
def isLaw (m : Mode) : Bool := match m with
  | .law => true
  | _ => false
def mBorS (i : Nat) (φ : Ph Bool) : Ph Bool := fun ρ S => match ownAt ρ i with
  | some xs => if intsD xs = none then (match φ (frzL i ρ) S with
    | .ok d S1 => if isLaw S1.mode = true then .ok d S1 else .bad
    | _ => .bad) else .bad
  | none => .bad
theorem bt_borS {W : WX} {tb : TT} {φ : Ph Bool} (i : Nat) (h : BT W tb φ) : BT W tb (mBorS i φ) := fun F0 H0 st hs F H S ρ σ Q b q => by
  unfold mBorS at q
  cases e : ownAt ρ i with
  | none => rw [e] at q; exact q.elim
  | some xs =>
    rw [e] at q
    simp only at q
    by_cases ci : intsD xs = none
    · rw [if_pos ci] at q
      obtain ⟨p, vs, e1, hp, fp, r, bF⟩ := b.lend (ownAt_of e)
      cases o : φ (frzL i ρ) S with
      | exc x ρ' S1 => rw [o] at q; exact q.elim
      | bad => rw [o] at q; exact q.elim
      | ok d S1 =>
        rw [o] at q
        simp only at q
        by_cases cl : isLaw S1.mode = true
        · rw [if_pos cl] at q
          refine h _ _ _ _ _ _ _ _ _ _ bF ?_
          rw [o]
          intro v F2 H2 b2 e2 rv
          have s1 : Sub F (upd F p (.lst vs)) := fun a u z => by rw [upd_ne (ne_of_none z fp)]; exact z
          cases hs with
          | false =>
            have ex : Ext st false F H F H2 := ⟨Sub.refl _, e2.keep, fun a z _ => z⟩
            refine q v F H2 (b.go ex (fun a u z => e2.keep a u (b.sub a u z) nofun) nofun) ex rv
          | true =>
            obtain ⟨fst, ob, ho, hin⟩ := b2.sto rfl
            have fst0 : F st = none := (b.sto rfl).1
            cases em : S1.mode with
            | law =>
              unfold StoIn at hin
              rw [em] at hin
              obtain ⟨ca, h1, h2⟩ := hin
              have ncp : ca ≠ p := fun z => by
                subst z
                have : (upd F ca (.lst vs)) ca = some (.lst vs) := upd_same
                have h3 := e2.ff _ _ this
                rw [h3] at h2
                injection h2 with h2
                injection h2 with h2
                subst h2
                obtain ⟨ms, hm⟩ := intsD_rep r
                rw [ci] at hm
                cases hm
              have ncs : ca ≠ st := fun z => by subst z; rw [fst] at h2; cases h2
              have old : ∀ a u, F a = some u → F2 a = some u := fun a u z => e2.ff a u (s1 a u z)
              have ex : Ext st true F H (upd F ca (.lst (S1.cells.map V.int))) H2 := ⟨fun a u z => by
                  by_cases y : a = ca
                  · subst y; rw [upd_same, ← h2]; exact old _ _ z
                  · rw [upd_ne y]; exact z, e2.keep, fun a z n => by
                  by_cases y : a = ca
                  · subst y
                    have := e2.new a (by rw [upd_ne ncp]; exact z) n
                    rw [this] at h2; cases h2
                  · rw [upd_ne y]; exact z⟩
              have sb : Sub (upd F ca (.lst (S1.cells.map V.int))) H2 := fun a u z => by
                by_cases y : a = ca
                · subst y; rw [upd_same] at z; cases z; exact b2.sub _ _ h2
                · rw [upd_ne y] at z; exact b2.sub _ _ (old a u z)
              refine q v _ H2 (b.go ex sb fun _ => ⟨by rw [upd_ne (Ne.symm ncs)]; exact fst0, ob, ho, ?_⟩) ex rv
              unfold StoIn
              rw [em]
              exact ⟨ca, h1, upd_same⟩
            | ob o2 => rw [em] at cl; cases cl
            | dc k => rw [em] at cl; cases cl
        · rw [if_neg cl] at q; exact q.elim
    · rw [if_neg ci] at q; exact q.elim
theorem rep_str {F : Hp} (x : Str) : Rep F (.str x) (.str x) := by simp [Rep]
end DL

set_option Elab.async false
set_option linter.all false
set_option maxRecDepth 100000
set_option maxHeartbeats 8000000
set_option autoImplicit false
namespace K17
open PySem PySem.Spec L2 DL
def top (i : Nat) : Stmt := PySem.Challenge.pw_crossmeans_k17_rows_of_a_meeting.main.body.getD i (.Pass ⟨0, 0, 0, 0⟩)
structure Blt (mg : Str → Option Value) : Prop where
  n_abs : mg "abs" = none
  n_bool : mg "bool" = none
  n_enumerate : mg "enumerate" = none
  n_int : mg "int" = none
  n_isinstance : mg "isinstance" = none
  n_len : mg "len" = none
  n_list : mg "list" = none
  n_max : mg "max" = none
  n_min : mg "min" = none
  n_range : mg "range" = none
  n_set : mg "set" = none
  n_sorted : mg "sorted" = none
  n_str : mg "str" = none
  n_tuple : mg "tuple" = none
structure Txt_Parting (K : PySem.W.Frag) (C : Addr) : Prop where
  cl : Cls K C
  na_plots : NoAttr K C "plots"
  na_many : NoAttr K C "many"
  na_names : NoAttr K C "names"
  na_lots : NoAttr K C "lots"
  na_sizes : NoAttr K C "sizes"
section
variable {P : Program} {w : World} {K : PySem.W.Frag} {mg : Str → Option Value} {base : Heap}
/-! ### is_whole -/
abbrev s_is_whole : Stmt := top 13
abbrev N_is_whole : List Str := ["value"]
theorem sc_is_whole : FnScope N_is_whole ["value"] (defScope s_is_whole) := ⟨rfl, rfl, rfl, by decide +kernel, rfl, by decide +kernel, by decide +kernel⟩
def b_is_whole  : Ph Ctl := (mRet (mAndV (m1 (gIsi "int") (mVar 0)) (mNotV (m1 (gIsi "bool") (mVar 0)))))
def m_is_whole  : Fn := runD false 0 (b_is_whole )
theorem ok_is_whole {f : Addr} {fd : FuncData}  (B : Blt mg) (D : Df K mg "is_whole" s_is_whole ["value"] f fd)  : Cal P w K mg base "is_whole" 1 ["value"] (spD false 1 (m_is_whole )) :=
  cal_ok D sc_is_whole rfl rfl fun cdv A outer s H E hr => by
  have tk : L2N.Takes (cxOf (L2N.CX P w) P w K mg base N_is_whole "is_whole" (defScope s_is_whole) f cdv A outer s H E) (fun cls d _ H => E cls d H) := L2N.takes_of rfl rfl rfl rfl
  exact ⟨_, (pss_one (ps_ret (pe_and (pe_callB call_isi (by rfl) B.n_isinstance bt_isinstance (pa_cons (pv 0) (pa_cons (pe_ty (by rfl) B.n_int bt_int) pa_nil))) (pe_one (pe_not (pe_callB call_isi (by rfl) B.n_isinstance bt_isinstance (pa_cons (pv 0) (pa_cons (pe_ty (by rfl) B.n_bool bt_bool) pa_nil)))))))),
  (st_ret (et_and (et_isi "int" (et_var 0)) (et_not (et_isi "bool" (et_var 0)))))⟩
/-! ### is_place -/
abbrev s_is_place : Stmt := top 14
abbrev N_is_place : List Str := ["count", "value"]
theorem sc_is_place : FnScope N_is_place ["count", "value"] (defScope s_is_place) := ⟨rfl, rfl, rfl, by decide +kernel, rfl, by decide +kernel, by decide +kernel⟩
def b_is_place  : Ph Ctl := (mRet (mAndV (mCall0 m_is_whole [] (mCons (mVar 1) mNil)) (mChain gLe gLt (mC (.int 0)) (mVar 1) (mVar 0))))
def m_is_place  : Fn := runD false 0 (b_is_place )
theorem ok_is_place {f : Addr} {fd : FuncData}  (B : Blt mg) (D : Df K mg "is_place" s_is_place ["count", "value"] f fd) (C_is_whole : Cal P w K mg base "is_whole" 1 ["value"] (spD false 1 m_is_whole)) : Cal P w K mg base "is_place" 2 ["count", "value"] (spD false 2 (m_is_place )) :=
  cal_ok D sc_is_place rfl rfl fun cdv A outer s H E hr => by
  have tk : L2N.Takes (cxOf (L2N.CX P w) P w K mg base N_is_place "is_place" (defScope s_is_place) f cdv A outer s H E) (fun cls d _ H => E cls d H) := L2N.takes_of rfl rfl rfl rfl
  exact ⟨_, (pss_one (ps_ret (pe_and (pe_cl C_is_whole hr (by decide) (by rfl) (fun σ => L2N.passAt tk σ) (pa_cons (pv 1) pa_nil)) (pe_one (pe_chain op_le op_lt pe_int (pv 1) (pv 0)))))),
  (st_ret (et_and (et_call0 [] (fun _ => reps_nil.mpr rfl) (ln_cons ln_nil) rfl (at_cons (et_var 1) at_nil)) (et_chain o_le o_lt (et_int _) (et_var 1) (et_var 0))))⟩
/-! ### check_label -/
abbrev s_check_label : Stmt := top 15
abbrev N_check_label : List Str := ["value", "at"]
theorem sc_check_label : FnScope N_check_label ["value", "at"] (defScope s_check_label) := ⟨rfl, rfl, rfl, by decide +kernel, rfl, by decide +kernel, by decide +kernel⟩
def b_check_label  : Ph Ctl := (mIfS (mAnd (mNot (mB (mCall0 m_is_whole [] (mCons (mVar 0) mNil)))) (mNot (mB (m1 (gIsi "str") (mVar 0))))) mBad
   mNext)
def m_check_label  : Fn := runD false 0 (b_check_label )
theorem ok_check_label {f : Addr} {fd : FuncData}  (B : Blt mg) (D : Df K mg "check_label" s_check_label ["value", "at"] f fd) (C_is_whole : Cal P w K mg base "is_whole" 1 ["value"] (spD false 1 m_is_whole)) : Cal P w K mg base "check_label" 2 ["value", "at"] (spD false 2 (m_check_label )) :=
  cal_ok D sc_check_label rfl rfl fun cdv A outer s H E hr => by
  have tk : L2N.Takes (cxOf (L2N.CX P w) P w K mg base N_check_label "check_label" (defScope s_check_label) f cdv A outer s H E) (fun cls d _ H => E cls d H) := L2N.takes_of rfl rfl rfl rfl
  exact ⟨_, (pss_one (ps_if (PW.pt (pw_and (pt_not (pt_val (pe_cl C_is_whole hr (by decide) (by rfl) (fun σ => L2N.passAt tk σ) (pa_cons (pv 0) pa_nil)))) (pw_and1 (pt_not (pt_val (pe_callB call_isi (by rfl) B.n_isinstance bt_isinstance (pa_cons (pv 0) (pa_cons (pe_ty (by rfl) B.n_str bt_str) pa_nil)))))))) (pss_one ps_never)
   pss_nil)),
  (st_if (bt_and (bt_not (bt_val (et_call0 [] (fun _ => reps_nil.mpr rfl) (ln_cons ln_nil) rfl (at_cons (et_var 0) at_nil)))) (bt_not (bt_val (et_isi "str" (et_var 0))))) st_never
   st_next)⟩
/-! ### check_most -/
abbrev s_check_most : Stmt := top 16
abbrev N_check_most : List Str := ["amount", "what", "most"]
theorem sc_check_most : FnScope N_check_most ["amount", "what", "most"] (defScope s_check_most) := ⟨rfl, rfl, rfl, by decide +kernel, rfl, by decide +kernel, by decide +kernel⟩
def b_check_most  : Ph Ctl := (mIfS (mB (m2 gGt (mVar 0) (mVar 2))) mBad
   mNext)
def m_check_most  : Fn := runD false 0 (b_check_most )
theorem ok_check_most {f : Addr} {fd : FuncData}  (B : Blt mg) (D : Dd K mg "check_most" s_check_most ["amount", "what", "most"] [.int 16] f fd)  : Cal P w K mg base "check_most" 1 ["amount", "what", "most"] (spD false 3 (m_check_most )) ∧ CalD P w K mg base "check_most" 1 ["amount", "what", "most"] (spD false 3 (m_check_most )) [.int 16] :=
  cal_okD D sc_check_most rfl rfl fun cdv A outer s H E hr => by
  have tk : L2N.Takes (cxOf (L2N.CX P w) P w K mg base N_check_most "check_most" (defScope s_check_most) f cdv A outer s H E) (fun cls d _ H => E cls d H) := L2N.takes_of rfl rfl rfl rfl
  exact ⟨_, (pss_one (ps_if (pt_cmpR op_gt (pv 0) (pv 2) (nomark _)) (pss_one ps_never)
   pss_nil)),
  (st_if (bt_test (et_op o_gt (et_var 0) (et_var 2))) st_never
   st_next)⟩
/-! ### check_amount -/
abbrev s_check_amount : Stmt := top 17
abbrev N_check_amount : List Str := ["amount", "what", "most"]
theorem sc_check_amount : FnScope N_check_amount ["amount", "what", "most"] (defScope s_check_amount) := ⟨rfl, rfl, rfl, by decide +kernel, rfl, by decide +kernel, by decide +kernel⟩
def b_check_amount  : Ph Ctl := (mSeq (mIfS (mB (m2 gLt (mVar 0) (mC (.int 1)))) mBad
   mNext)
  (mDrop (mCall0 m_check_most [] (mCons (mVar 0) (mCons (mVar 1) (mCons (mVar 2) mNil))))))
def m_check_amount  : Fn := runD false 0 (b_check_amount )
theorem ok_check_amount {f : Addr} {fd : FuncData}  (B : Blt mg) (D : Dd K mg "check_amount" s_check_amount ["amount", "what", "most"] [.int 16] f fd) (C_check_most : Cal P w K mg base "check_most" 1 ["amount", "what", "most"] (spD false 3 m_check_most)) : Cal P w K mg base "check_amount" 2 ["amount", "what", "most"] (spD false 3 (m_check_amount )) ∧ CalD P w K mg base "check_amount" 2 ["amount", "what", "most"] (spD false 3 (m_check_amount )) [.int 16] :=
  cal_okD D sc_check_amount rfl rfl fun cdv A outer s H E hr => by
  have tk : L2N.Takes (cxOf (L2N.CX P w) P w K mg base N_check_amount "check_amount" (defScope s_check_amount) f cdv A outer s H E) (fun cls d _ H => E cls d H) := L2N.takes_of rfl rfl rfl rfl
  exact ⟨_, (pss_cons (ps_if (pt_cmpR op_lt (pv 0) pe_int (nomark _)) (pss_one ps_never)
   pss_nil)
  (pss_one (ps_expr (pe_cl C_check_most hr (by decide) (by rfl) (fun σ => L2N.passAt tk σ) (pa_cons (pv 0) (pa_cons (pv 1) (pa_cons (pv 2) pa_nil))))))),
  (st_seq (st_if (bt_test (et_op o_lt (et_var 0) (et_int _))) st_never
   st_next)
  (st_drop (et_call0 [] (fun _ => reps_nil.mpr rfl) (ln_cons (ln_cons (ln_cons ln_nil))) rfl (at_cons (et_var 0) (at_cons (et_var 1) (at_cons (et_var 2) at_nil))))))⟩
/-! ### check_plot -/
abbrev s_check_plot : Stmt := top 18
abbrev N_check_plot : List Str := ["plots", "value"]
theorem sc_check_plot : FnScope N_check_plot ["plots", "value"] (defScope s_check_plot) := ⟨rfl, rfl, rfl, by decide +kernel, rfl, by decide +kernel, by decide +kernel⟩
def b_check_plot  : Ph Ctl := (mIfS (mNot (mB (mCall0 m_is_place [] (mCons (mVar 0) (mCons (mVar 1) mNil))))) mBad
   mNext)
def m_check_plot  : Fn := runD false 0 (b_check_plot )
theorem ok_check_plot {f : Addr} {fd : FuncData}  (B : Blt mg) (D : Df K mg "check_plot" s_check_plot ["plots", "value"] f fd) (C_is_place : Cal P w K mg base "is_place" 2 ["count", "value"] (spD false 2 m_is_place)) : Cal P w K mg base "check_plot" 3 ["plots", "value"] (spD false 2 (m_check_plot )) :=
  cal_ok D sc_check_plot rfl rfl fun cdv A outer s H E hr => by
  have tk : L2N.Takes (cxOf (L2N.CX P w) P w K mg base N_check_plot "check_plot" (defScope s_check_plot) f cdv A outer s H E) (fun cls d _ H => E cls d H) := L2N.takes_of rfl rfl rfl rfl
  exact ⟨_, (pss_one (ps_if (pt_not (pt_val (pe_cl C_is_place hr (by decide) (by rfl) (fun σ => L2N.passAt tk σ) (pa_cons (pv 0) (pa_cons (pv 1) pa_nil))))) (pss_one ps_never)
   pss_nil)),
  (st_if (bt_not (bt_val (et_call0 [] (fun _ => reps_nil.mpr rfl) (ln_cons (ln_cons ln_nil)) rfl (at_cons (et_var 0) (at_cons (et_var 1) at_nil))))) st_never
   st_next)⟩
/-! ### check_counts -/
abbrev s_check_counts : Stmt := top 19
abbrev N_check_counts : List Str := ["plots", "counts", "count"]
theorem sc_check_counts : FnScope N_check_counts ["plots", "counts"] (defScope s_check_counts) := ⟨rfl, rfl, rfl, by decide +kernel, rfl, by decide +kernel, by decide +kernel⟩
def b_check_counts (cUnlikePlots : Addr) : Ph Ctl := (mFor (.one 2) (mSeqI (mVar 1)) (mIfS (mB (m2 gNe (mVar 2) (mVar 0))) (mRaise cUnlikePlots ["left_plots", "right_plots"] (mCons (mVar 0) (mCons (mVar 2) mNil)))
   mNext))
def m_check_counts (cUnlikePlots : Addr) : Fn := runD false 1 (b_check_counts cUnlikePlots)
theorem ok_check_counts {f : Addr} {fd : FuncData} {cUnlikePlots : Addr} (B : Blt mg) (D : Df K mg "check_counts" s_check_counts ["plots", "counts"] f fd) (X_UnlikePlots : X2 P w K mg base "UnlikePlots" cUnlikePlots "left_plots" "right_plots") : Cal P w K mg base "check_counts" 3 ["plots", "counts"] (spD false 2 (m_check_counts cUnlikePlots)) :=
  cal_ok D sc_check_counts rfl rfl fun cdv A outer s H E hr => by
  have tk : L2N.Takes (cxOf (L2N.CX P w) P w K mg base N_check_counts "check_counts" (defScope s_check_counts) f cdv A outer s H E) (fun cls d _ H => E cls d H) := L2N.takes_of rfl rfl rfl rfl
  exact ⟨_, (pss_one (ps_for (passes_of rfl) rfl (pi_seq (pv 1)) (pg_name (i := 2) sc_check_counts.nd rfl (by first | exact .inl rfl | exact .inr rfl)) (pss_one (ps_if (pt_cmpR (op_neD hr.units) (pv 2) (pv 0) (nomark _)) (pss_one (raise_x2 X_UnlikePlots hr (by decide) rfl tk (by rfl) (pa_cons (pv 0) (pa_cons (pv 2) pa_nil))))
   pss_nil)))),
  (st_for (K := K) (.one 2) (it_seq (et_var 1)) (st_if (bt_test (et_op o_ne (et_var 2) (et_var 0))) (st_raise2 X_UnlikePlots.oc X_UnlikePlots.nf X_UnlikePlots.ng (at_cons (et_var 0) (at_cons (et_var 2) at_nil)))
   st_next))⟩
/-! ### check_alike -/
abbrev s_check_alike : Stmt := top 20
abbrev N_check_alike : List Str := ["plots", "things", "thing"]
theorem sc_check_alike : FnScope N_check_alike ["plots", "things"] (defScope s_check_alike) := ⟨rfl, rfl, rfl, by decide +kernel, rfl, by decide +kernel, by decide +kernel⟩
def b_check_alike (cParting : Addr) (cUnlikePlots : Addr) : Ph Ctl := (mDrop (mCall0 (m_check_counts cUnlikePlots) [] (mCons (mVar 0) (mCons (mFrz (mLc (.one 2) [2] (mSeqI (mVar 1)) mYes (m1 (gFld cParting "plots") (mVar 2)))) mNil))))
def m_check_alike (cParting : Addr) (cUnlikePlots : Addr) : Fn := runD false 1 (b_check_alike cParting cUnlikePlots)
theorem ok_check_alike {f : Addr} {fd : FuncData} {cParting : Addr} {cUnlikePlots : Addr} (B : Blt mg) (D : Df K mg "check_alike" s_check_alike ["plots", "things"] f fd) (T_Parting : Txt_Parting K cParting) (C_check_counts : Cal P w K mg base "check_counts" 3 ["plots", "counts"] (spD false 2 (m_check_counts cUnlikePlots))) : Cal P w K mg base "check_alike" 4 ["plots", "things"] (spD false 2 (m_check_alike cParting cUnlikePlots)) :=
  cal_ok D sc_check_alike rfl rfl fun cdv A outer s H E hr => by
  have tk : L2N.Takes (cxOf (L2N.CX P w) P w K mg base N_check_alike "check_alike" (defScope s_check_alike) f cdv A outer s H E) (fun cls d _ H => E cls d H) := L2N.takes_of rfl rfl rfl rfl
  exact ⟨_, (pss_one (ps_expr (pe_cl C_check_counts hr (by decide) (by rfl) (fun σ => L2N.passAt tk σ) (pa_cons (pv 0) (pa_cons (pe_lc (own := [("thing", 2)]) (scope := { kind := PySem.ScopeKind.function, names := [(PySem.Str.ofString ".0", PySem.NameKind.local), (PySem.Str.ofString "thing", PySem.NameKind.local)], isGenerator := false, isCoroutine := false, more := [] : PySem.Scope }) rfl sc_check_alike.nd (pi_seq (pv 1)) (blkOk_by (N := N_check_alike) (sc := (defScope s_check_alike)) (by decide +kernel)) (fun _ _ _ _ _ => (pg_name (i := 2) sc_check_alike.nd rfl (by first | exact .inl rfl | exact .inr rfl))) (fun _ _ _ _ _ => pts_nil) (fun _ _ _ _ _ => (pe_fld (pv 2) rfl))) pa_nil))))),
  (st_drop (et_call0 [] (fun _ => reps_nil.mpr rfl) (ln_cons (ln_cons ln_nil)) rfl (at_cons (et_var 0) (at_cons (et_frz (ot_lc (K := K) (.one 2) [2] (by decide) (it_seq (et_var 1)) bt_yes (et_fld T_Parting.cl T_Parting.na_plots (et_var 2)))) at_nil))))⟩
/-! ### _first_places -/
abbrev s_first_places : Stmt := top 26
abbrev N_first_places : List Str := ["keys", "places", "at", "key"]
theorem sc_first_places : FnScope N_first_places ["keys"] (defScope s_first_places) := ⟨rfl, rfl, rfl, by decide +kernel, rfl, by decide +kernel, by decide +kernel⟩
def b_first_places  : Ph Ctl := (mSeq (mFor (.many [2, 3]) (mEnum (mCons (mVar 0) mNil)) (mIfS (mDNotIn 1 (mVar 3)) (mDPut 1 (mVar 3) (mVar 2))
   mNext))
  (mRetO (mLc (.one 3) [3] (mSeqI (mVar 0)) mYes (mDGet 1 (mVar 3)))))
def m_first_places  : Fn := runN 2 (b_first_places )
theorem ok_first_places {f : Addr} {fd : FuncData}  (B : Blt mg) (D : Df K mg "_first_places" s_first_places ["keys"] f fd)  : Cal P w K mg base "_first_places" 1 ["keys"] (spD false 1 (m_first_places )) :=
  cal_dict D sc_first_places rfl rfl fun cdv A outer s H E hr => by
  have tk : L2N.Takes (cxOf (L2N.CX P w) P w K mg base N_first_places "_first_places" (defScope s_first_places) f cdv A outer s H E) (fun cls d _ H => E cls d H) := L2N.takes_of rfl rfl rfl rfl
  exact ⟨_, (pss_cons (ps_set (i := 1) sc_first_places.nd rfl (by first | exact .inl rfl | exact .inr rfl) pe_dnewK) (pss_cons (ps_for (passes_of rfl) rfl (pi_enum (by rfl) B.n_enumerate (pa_cons (pv 0) pa_nil)) (pg_tup rfl (pgs_cons (pg_name (i := 2) sc_first_places.nd rfl (by first | exact .inl rfl | exact .inr rfl)) (pgs_cons (pg_name (i := 3) sc_first_places.nd rfl (by first | exact .inl rfl | exact .inr rfl)) pgs_nil))) (pss_one (ps_if (pt_cmp (pc_dnotin (hu_of hr) (pv 3) (pv 1))) (pss_one (ps_dput (hu_of hr) (pv 1) (pv 3) (pv 2) rfl))
   pss_nil)))
  (pss_one (ps_ret (pe_lc (own := [("key", 3)]) (scope := { kind := PySem.ScopeKind.function, names := [ (PySem.Str.ofString ".0", PySem.NameKind.local), (PySem.Str.ofString "key", PySem.NameKind.local), (PySem.Str.ofString "places", PySem.NameKind.free)], isGenerator := false, isCoroutine := false, more := [] : PySem.Scope }) rfl sc_first_places.nd (pi_seq (pv 0)) (blkOk_by (N := N_first_places) (sc := (defScope s_first_places)) (by decide +kernel)) (fun _ _ _ _ _ => (pg_name (i := 3) sc_first_places.nd rfl (by first | exact .inl rfl | exact .inr rfl))) (fun _ _ _ _ _ => pts_nil) (fun _ _ _ _ _ => (pe_dget (hu_of hr) (pv 1) (pv 3) (fun _ _ => rfl)))))))),
  (st_seq (st_for (K := K) (.many [2, 3]) (it_enum (at_cons (et_var 0) at_nil)) (st_if (bt_dnotin 1 (et_var 3)) (st_dput 1 (et_var 3) (et_var 2))
   st_next))
  (st_retO (ot_lc (K := K) (.one 3) [3] (by decide) (it_seq (et_var 0)) bt_yes (et_dget 1 (et_var 3)))))⟩
/-! ### _lots_by_name -/
abbrev s_lots_by_name : Stmt := top 27
abbrev N_lots_by_name : List Str := ["names", "name", "plot", "own"]
theorem sc_lots_by_name : FnScope N_lots_by_name ["names"] (defScope s_lots_by_name) := ⟨rfl, rfl, rfl, by decide +kernel, rfl, by decide +kernel, by decide +kernel⟩
def b_lots_by_name  : Ph Ctl := (mRetO (mLc (.one 1) [1] (mSeqI (mFrz (mSortedSet (mVar 0)))) mYes (mCB gTuple (mCons (mFrz (mLc (.many [2, 3]) [2, 3] (mEnum (mCons (mVar 0) mNil)) (mB (m2 gEq (mVar 3) (mVar 1))) (mVar 2))) mNil))))
def m_lots_by_name  : Fn := runD false 3 (b_lots_by_name )
theorem ok_lots_by_name {f : Addr} {fd : FuncData}  (B : Blt mg) (D : Df K mg "_lots_by_name" s_lots_by_name ["names"] f fd)  : Cal P w K mg base "_lots_by_name" 1 ["names"] (spD false 1 (m_lots_by_name )) :=
  cal_ok D sc_lots_by_name rfl rfl fun cdv A outer s H E hr => by
  have tk : L2N.Takes (cxOf (L2N.CX P w) P w K mg base N_lots_by_name "_lots_by_name" (defScope s_lots_by_name) f cdv A outer s H E) (fun cls d _ H => E cls d H) := L2N.takes_of rfl rfl rfl rfl
  exact ⟨_, (pss_one (ps_ret (pe_lc (own := [("name", 1)]) (scope := { kind := PySem.ScopeKind.function, names := [ (PySem.Str.ofString ".0", PySem.NameKind.local), (PySem.Str.ofString "name", PySem.NameKind.cell), (PySem.Str.ofString "tuple", PySem.NameKind.globalImplicit), (PySem.Str.ofString "enumerate", PySem.NameKind.globalImplicit), (PySem.Str.ofString "names", PySem.NameKind.free)], isGenerator := false, isCoroutine := false, more := [] : PySem.Scope }) rfl sc_lots_by_name.nd (pi_seq (pe_callB (cr_sortedSet rfl) (by rfl) B.n_sorted bt_sorted (pa_cons (pe_callTy (cr_setL rfl) (by rfl) B.n_set bt_set (pa_cons (pv 0) pa_nil)) pa_nil))) (blkOk_by (N := N_lots_by_name) (sc := (defScope s_lots_by_name)) (by decide +kernel)) (fun _ _ _ _ _ => (pg_name (i := 1) sc_lots_by_name.nd rfl (by first | exact .inl rfl | exact .inr rfl))) (fun _ _ _ _ _ => pts_nil) (fun _ _ _ _ _ => (pe_callTy call_tupF (by rfl) B.n_tuple bt_tuple (pa_cons (pe_lc (own := [("plot", 2), ("own", 3)]) (scope := { kind := PySem.ScopeKind.function, names := [ (PySem.Str.ofString ".0", PySem.NameKind.local), (PySem.Str.ofString "plot", PySem.NameKind.local), (PySem.Str.ofString "own", PySem.NameKind.local), (PySem.Str.ofString "name", PySem.NameKind.free)], isGenerator := false, isCoroutine := false, more := [] : PySem.Scope }) rfl sc_lots_by_name.nd (pi_enum (by rfl) B.n_enumerate (pa_cons (pv 0) pa_nil)) (blkOk_by (N := N_lots_by_name) (sc := (relS { kind := PySem.ScopeKind.function, names := [ (PySem.Str.ofString ".0", PySem.NameKind.local), (PySem.Str.ofString "name", PySem.NameKind.cell), (PySem.Str.ofString "tuple", PySem.NameKind.globalImplicit), (PySem.Str.ofString "enumerate", PySem.NameKind.globalImplicit), (PySem.Str.ofString "names", PySem.NameKind.free)], isGenerator := false, isCoroutine := false, more := [] : PySem.Scope } (defScope s_lots_by_name))) (by decide +kernel)) (fun _ _ _ _ _ => (pg_tup rfl (pgs_cons (pg_name (i := 2) sc_lots_by_name.nd rfl (by first | exact .inl rfl | exact .inr rfl)) (pgs_cons (pg_name (i := 3) sc_lots_by_name.nd rfl (by first | exact .inl rfl | exact .inr rfl)) pgs_nil)))) (fun _ _ _ _ _ => (pts_one (pt_cmpR (op_eqD hr.units) (pv 3) (pv 1) (nomark _)))) (fun _ _ _ _ _ => (pv 2))) pa_nil)))))),
  (st_retO (ot_lc (K := K) (.one 1) [1] (by decide) (it_seq (et_frz (ot_sortedSet (et_var 0)))) bt_yes (et_cb c_tuple (at_cons (et_frz (ot_lc (K := K) (.many [2, 3]) [2, 3] (by decide) (it_enum (at_cons (et_var 0) at_nil)) (bt_test (et_op o_eq (et_var 3) (et_var 1))) (et_var 2))) at_nil))))⟩
/-! ### joined_names -/
abbrev s_joined_names : Stmt := top 28
abbrev N_joined_names : List Str := ["first", "mates", "names", "plot", "mate", "low", "high", "name"]
theorem sc_joined_names : FnScope N_joined_names ["first", "mates"] (defScope s_joined_names) := ⟨rfl, rfl, rfl, by decide +kernel, rfl, by decide +kernel, by decide +kernel⟩
def b_joined_names  : Ph Ctl := (mSeq (mSet 2 (mFrz (mCBo gList (mCons (mVar 0) mNil))))
  (mSeq (mFor (.many [3, 4]) (mEnumT (mCons (mVar 1) mNil)) (mSeq (mSet 5 (mCB (pureC minC) (mCons (m2 gIx (mVar 2) (mVar 3)) (mCons (m2 gIx (mVar 2) (mVar 4)) mNil))))
  (mSeq (mSet 6 (mCB (pureC maxC) (mCons (m2 gIx (mVar 2) (mVar 3)) (mCons (m2 gIx (mVar 2) (mVar 4)) mNil))))
  (mIfS (mB (m2 gNe (mVar 5) (mVar 6))) (mSet 2 (mFrz (mLc (.one 7) [7] (mSeqI (mVar 2)) mYes (mIf (mB (m2 gEq (mVar 7) (mVar 6))) (mVar 5) (mVar 7)))))
   mNext))))
  (mRet (mVar 2))))
def m_joined_names  : Fn := runD false 6 (b_joined_names )
theorem ok_joined_names {f : Addr} {fd : FuncData}  (B : Blt mg) (D : Df K mg "joined_names" s_joined_names ["first", "mates"] f fd)  : Cal P w K mg base "joined_names" 1 ["first", "mates"] (spD false 2 (m_joined_names )) :=
  cal_ok D sc_joined_names rfl rfl fun cdv A outer s H E hr => by
  have tk : L2N.Takes (cxOf (L2N.CX P w) P w K mg base N_joined_names "joined_names" (defScope s_joined_names) f cdv A outer s H E) (fun cls d _ H => E cls d H) := L2N.takes_of rfl rfl rfl rfl
  exact ⟨_, (pss_cons (ps_set (i := 2) sc_joined_names.nd rfl (by first | exact .inl rfl | exact .inr rfl) (pe_callTy call_list_of (by rfl) B.n_list bt_list (pa_cons (pv 0) pa_nil)))
  (pss_cons (ps_for (passes_of rfl) rfl (pi_enumT (by rfl) B.n_enumerate (pa_cons (pv 1) pa_nil)) (pg_tup rfl (pgs_cons (pg_name (i := 3) sc_joined_names.nd rfl (by first | exact .inl rfl | exact .inr rfl)) (pgs_cons (pg_name (i := 4) sc_joined_names.nd rfl (by first | exact .inl rfl | exact .inr rfl)) pgs_nil))) (pss_cons (ps_set (i := 5) sc_joined_names.nd rfl (by first | exact .inl rfl | exact .inr rfl) (pe_callB (call_min2 rfl) (by rfl) B.n_min bt_min (pa_cons (pe_ix ix_seq (pv 2) (pv 3) (fun _ _ => rfl)) (pa_cons (pe_ix ix_seq (pv 2) (pv 4) (fun _ _ => rfl)) pa_nil))))
  (pss_cons (ps_set (i := 6) sc_joined_names.nd rfl (by first | exact .inl rfl | exact .inr rfl) (pe_callB (call_max2 rfl) (by rfl) B.n_max bt_max (pa_cons (pe_ix ix_seq (pv 2) (pv 3) (fun _ _ => rfl)) (pa_cons (pe_ix ix_seq (pv 2) (pv 4) (fun _ _ => rfl)) pa_nil))))
  (pss_one (ps_if (pt_cmpR (op_neD hr.units) (pv 5) (pv 6) (nomark _)) (pss_one (by first | exact (ps_setLc (i := 2) (own := [("name", 7)]) (scope := { kind := PySem.ScopeKind.function, names := [ (PySem.Str.ofString ".0", PySem.NameKind.local), (PySem.Str.ofString "name", PySem.NameKind.local), (PySem.Str.ofString "high", PySem.NameKind.free), (PySem.Str.ofString "low", PySem.NameKind.free)], isGenerator := false, isCoroutine := false, more := [] : PySem.Scope }) rfl sc_joined_names.nd rfl rfl (sw_true rfl rfl rfl (by decide +kernel)) (pi_seq (pv 2)) (blkOk_by (N := N_joined_names) (sc := (defScope s_joined_names)) (by decide +kernel)) (fun _ _ _ _ _ => (pg_name (i := 7) sc_joined_names.nd rfl (by first | exact .inl rfl | exact .inr rfl))) (fun _ _ _ _ _ => pts_nil) (fun _ _ _ _ _ => (pe_ifExp (pt_cmpR (op_eqD hr.units) (pv 7) (pv 6) (nomark _)) (pv 5) (pv 7)))) | exact (ps_set (i := 2) sc_joined_names.nd rfl (by first | exact .inl rfl | exact .inr rfl) (pe_lc (own := [("name", 7)]) (scope := { kind := PySem.ScopeKind.function, names := [ (PySem.Str.ofString ".0", PySem.NameKind.local), (PySem.Str.ofString "name", PySem.NameKind.local), (PySem.Str.ofString "high", PySem.NameKind.free), (PySem.Str.ofString "low", PySem.NameKind.free)], isGenerator := false, isCoroutine := false, more := [] : PySem.Scope }) rfl sc_joined_names.nd (pi_seq (pv 2)) (blkOk_by (N := N_joined_names) (sc := (defScope s_joined_names)) (by decide +kernel)) (fun _ _ _ _ _ => (pg_name (i := 7) sc_joined_names.nd rfl (by first | exact .inl rfl | exact .inr rfl))) (fun _ _ _ _ _ => pts_nil) (fun _ _ _ _ _ => (pe_ifExp (pt_cmpR (op_eqD hr.units) (pv 7) (pv 6) (nomark _)) (pv 5) (pv 7)))))))
   pss_nil)))))
  (pss_one (ps_ret (pv 2))))),
  (st_seq (st_set 2 (et_frz (ot_cb c_list (at_cons (et_var 0) at_nil))))
  (st_seq (st_for (K := K) (.many [3, 4]) (it_enumT (at_cons (et_var 1) at_nil)) (st_seq (st_set 5 (et_cb c_min (at_cons (et_op o_ix (et_var 2) (et_var 3)) (at_cons (et_op o_ix (et_var 2) (et_var 4)) at_nil))))
  (st_seq (st_set 6 (et_cb c_max (at_cons (et_op o_ix (et_var 2) (et_var 3)) (at_cons (et_op o_ix (et_var 2) (et_var 4)) at_nil))))
  (st_if (bt_test (et_op o_ne (et_var 5) (et_var 6))) (st_set 2 (et_frz (ot_lc (K := K) (.one 7) [7] (by decide) (it_seq (et_var 2)) bt_yes (et_if (bt_test (et_op o_eq (et_var 7) (et_var 6))) (et_var 5) (et_var 7)))))
   st_next))))
  (st_ret (et_var 2))))⟩
/-! ### Parting.__init__ -/
abbrev s_Parting_init : Stmt := inClass (top 25) 0
abbrev N_Parting_init : List Str := ["self", "labels", "at", "label", "names", "lots", "lot"]
theorem sc_Parting_init : FnScope N_Parting_init ["self", "labels"] (defScope s_Parting_init) := ⟨rfl, rfl, rfl, by decide +kernel, rfl, by decide +kernel, by decide +kernel⟩
def b_Parting_init (cParting : Addr) : Ph Ctl := (mSeq (mDrop (mCall0 m_check_amount [.int 16] (mCons (mCB (pureC lenC) (mCons (mVar 1) mNil)) (mCons (mC (.str "plots")) mNil))))
  (mSeq (mFor (.many [2, 3]) (mEnum (mCons (mVar 1) mNil)) (mDrop (mCall0 m_check_label [] (mCons (mVar 3) (mCons (mVar 2) mNil)))))
  (mSeq (mSet 4 (mCall0 m_first_places [] (mCons (mVar 1) mNil)))
  (mSeq (mSet 5 (mCall0 m_lots_by_name [] (mCons (mVar 4) mNil)))
  (mSeq (mSelf cParting 0 "plots" (mCB (pureC lenC) (mCons (mVar 4) mNil)))
  (mSeq (mSelf cParting 0 "many" (mCB (pureC lenC) (mCons (mVar 5) mNil)))
  (mSeq (mSelf cParting 0 "names" (mCB gTuple (mCons (mVar 4) mNil)))
  (mSeq (mSelf cParting 0 "lots" (mCB gTuple (mCons (mVar 5) mNil)))
  (mSelf cParting 0 "sizes" (mCB gTuple (mCons (mFrz (mLc (.one 6) [6] (mSeqI (mVar 5)) mYes (mCB (pureC lenC) (mCons (mVar 6) mNil)))) mNil)))))))))))
def m_Parting_init (cParting : Addr) : Fn := runD true 5 (b_Parting_init cParting)
theorem ok_Parting_init {f : Addr} {fd : FuncData} {cParting : Addr} (B : Blt mg) (D : Dm K "__init__" "Parting.__init__" s_Parting_init ["self", "labels"] f fd) (T_Parting : Txt_Parting K cParting) (C_check_amount : Cal P w K mg base "check_amount" 2 ["amount", "what", "most"] (spD false 3 m_check_amount)) (C_check_amount_d : CalD P w K mg base "check_amount" 2 ["amount", "what", "most"] (spD false 3 m_check_amount) [.int 16]) (C_check_label : Cal P w K mg base "check_label" 2 ["value", "at"] (spD false 2 m_check_label)) (C_first_places : Cal P w K mg base "_first_places" 1 ["keys"] (spD false 1 m_first_places)) (C_lots_by_name : Cal P w K mg base "_lots_by_name" 1 ["names"] (spD false 1 m_lots_by_name)) : FnOk P w K mg base (L2N.CX P w) 3 f fd ["self", "labels"] (spD true 1 (m_Parting_init cParting)) :=
  dm_ok D sc_Parting_init rfl rfl fun cdv A outer s H E hr => by
  have tk : L2N.Takes (cxOf (L2N.CX P w) P w K mg base N_Parting_init "Parting.__init__" (defScope s_Parting_init) f cdv A outer s H E) (fun cls d _ H => E cls d H) := L2N.takes_of rfl rfl rfl rfl
  exact ⟨_, (pss_cons (ps_expr (pe_clD C_check_amount_d hr (by decide) (by rfl) (fun σ => L2N.passAt tk σ) (pa_cons (pe_callB call_len (by rfl) B.n_len bt_len (pa_cons (pv 1) pa_nil)) (pa_cons pe_str pa_nil))))
  (pss_cons (ps_for (passes_of rfl) rfl (pi_enum (by rfl) B.n_enumerate (pa_cons (pv 1) pa_nil)) (pg_tup rfl (pgs_cons (pg_name (i := 2) sc_Parting_init.nd rfl (by first | exact .inl rfl | exact .inr rfl)) (pgs_cons (pg_name (i := 3) sc_Parting_init.nd rfl (by first | exact .inl rfl | exact .inr rfl)) pgs_nil))) (pss_one (ps_expr (pe_cl C_check_label hr (by decide) (by rfl) (fun σ => L2N.passAt tk σ) (pa_cons (pv 3) (pa_cons (pv 2) pa_nil))))))
  (pss_cons (ps_set (i := 4) sc_Parting_init.nd rfl (by first | exact .inl rfl | exact .inr rfl) (pe_cl C_first_places hr (by decide) (by rfl) (fun σ => L2N.passAt tk σ) (pa_cons (pv 1) pa_nil)))
  (pss_cons (ps_set (i := 5) sc_Parting_init.nd rfl (by first | exact .inl rfl | exact .inr rfl) (pe_cl C_lots_by_name hr (by decide) (by rfl) (fun σ => L2N.passAt tk σ) (pa_cons (pv 4) pa_nil)))
  (pss_cons (ps_fld (pv 0) (pe_callB call_len (by rfl) B.n_len bt_len (pa_cons (pv 4) pa_nil)) rfl)
  (pss_cons (ps_fld (pv 0) (pe_callB call_len (by rfl) B.n_len bt_len (pa_cons (pv 5) pa_nil)) rfl)
  (pss_cons (ps_fld (pv 0) (pe_callTy call_tupF (by rfl) B.n_tuple bt_tuple (pa_cons (pv 4) pa_nil)) rfl)
  (pss_cons (ps_fld (pv 0) (pe_callTy call_tupF (by rfl) B.n_tuple bt_tuple (pa_cons (pv 5) pa_nil)) rfl)
  (pss_one (ps_fld (pv 0) (pe_callTy call_tupF (by rfl) B.n_tuple bt_tuple (pa_cons (pe_lc (own := [("lot", 6)]) (scope := { kind := PySem.ScopeKind.function, names := [ (PySem.Str.ofString ".0", PySem.NameKind.local), (PySem.Str.ofString "lot", PySem.NameKind.local), (PySem.Str.ofString "len", PySem.NameKind.globalImplicit)], isGenerator := false, isCoroutine := false, more := [] : PySem.Scope }) rfl sc_Parting_init.nd (pi_seq (pv 5)) (blkOk_by (N := N_Parting_init) (sc := (defScope s_Parting_init)) (by decide +kernel)) (fun _ _ _ _ _ => (pg_name (i := 6) sc_Parting_init.nd rfl (by first | exact .inl rfl | exact .inr rfl))) (fun _ _ _ _ _ => pts_nil) (fun _ _ _ _ _ => (pe_callB call_len (by rfl) B.n_len bt_len (pa_cons (pv 6) pa_nil)))) pa_nil)) rfl)))))))))),
  (st_seq (st_drop (et_call0 [.int 16] (reps_i 16) (ln_cons (ln_cons ln_nil)) rfl (at_cons (et_cb c_len (at_cons (et_var 1) at_nil)) (at_cons (et_str _) at_nil))))
  (st_seq (st_for (K := K) (.many [2, 3]) (it_enum (at_cons (et_var 1) at_nil)) (st_drop (et_call0 [] (fun _ => reps_nil.mpr rfl) (ln_cons (ln_cons ln_nil)) rfl (at_cons (et_var 3) (at_cons (et_var 2) at_nil)))))
  (st_seq (st_set 4 (et_call0 [] (fun _ => reps_nil.mpr rfl) (ln_cons ln_nil) rfl (at_cons (et_var 1) at_nil)))
  (st_seq (st_set 5 (et_call0 [] (fun _ => reps_nil.mpr rfl) (ln_cons ln_nil) rfl (at_cons (et_var 4) at_nil)))
  (st_seq (st_self 0 T_Parting.cl T_Parting.na_plots (et_cb c_len (at_cons (et_var 4) at_nil)))
  (st_seq (st_self 0 T_Parting.cl T_Parting.na_many (et_cb c_len (at_cons (et_var 5) at_nil)))
  (st_seq (st_self 0 T_Parting.cl T_Parting.na_names (et_cb c_tuple (at_cons (et_var 4) at_nil)))
  (st_seq (st_self 0 T_Parting.cl T_Parting.na_lots (et_cb c_tuple (at_cons (et_var 5) at_nil)))
  (st_self 0 T_Parting.cl T_Parting.na_sizes (et_cb c_tuple (at_cons (et_frz (ot_lc (K := K) (.one 6) [6] (by decide) (it_seq (et_var 5)) bt_yes (et_cb c_len (at_cons (et_var 6) at_nil)))) at_nil)))))))))))⟩
/-! ### Parting.lot_of -/
abbrev s_Parting_lot_of : Stmt := inClass (top 25) 4
abbrev N_Parting_lot_of : List Str := ["self", "plot", "lot"]
theorem sc_Parting_lot_of : FnScope N_Parting_lot_of ["self", "plot"] (defScope s_Parting_lot_of) := ⟨rfl, rfl, rfl, by decide +kernel, rfl, by decide +kernel, by decide +kernel⟩
def b_Parting_lot_of (cParting : Addr) : Ph Ctl := (mSeq (mDrop (mCall0 m_check_plot [] (mCons (m1 (gFld cParting "plots") (mVar 0)) (mCons (mVar 1) mNil))))
  (mRet (m2 gIx (mFrz (mLc (.one 2) [2] (mSeqI (m1 (gFld cParting "lots") (mVar 0))) (mB (m2 (pure2 (in2 false)) (mVar 1) (mVar 2))) (mVar 2))) (mC (.int 0)))))
def m_Parting_lot_of (cParting : Addr) : Fn := runD false 1 (b_Parting_lot_of cParting)
theorem ok_Parting_lot_of {f : Addr} {fd : FuncData} {cParting : Addr} (B : Blt mg) (D : Dm K "lot_of" "Parting.lot_of" s_Parting_lot_of ["self", "plot"] f fd) (T_Parting : Txt_Parting K cParting) (C_check_plot : Cal P w K mg base "check_plot" 3 ["plots", "value"] (spD false 2 m_check_plot)) : FnOk P w K mg base (L2N.CX P w) 4 f fd ["self", "plot"] (spD false 2 (m_Parting_lot_of cParting)) :=
  dm_ok D sc_Parting_lot_of rfl rfl fun cdv A outer s H E hr => by
  have tk : L2N.Takes (cxOf (L2N.CX P w) P w K mg base N_Parting_lot_of "Parting.lot_of" (defScope s_Parting_lot_of) f cdv A outer s H E) (fun cls d _ H => E cls d H) := L2N.takes_of rfl rfl rfl rfl
  exact ⟨_, (pss_cons (ps_expr (pe_cl C_check_plot hr (by decide) (by rfl) (fun σ => L2N.passAt tk σ) (pa_cons (pe_fld (pv 0) rfl) (pa_cons (pv 1) pa_nil))))
  (pss_one (ps_ret (pe_ix ix_seq (by exact (pe_lc (own := [("lot", 2)]) (scope := { kind := PySem.ScopeKind.function, names := [ (PySem.Str.ofString ".0", PySem.NameKind.local), (PySem.Str.ofString "lot", PySem.NameKind.local), (PySem.Str.ofString "plot", PySem.NameKind.free)], isGenerator := false, isCoroutine := false, more := [] : PySem.Scope }) rfl sc_Parting_lot_of.nd (pi_seq (pe_fld (pv 0) rfl)) (blkOk_by (N := N_Parting_lot_of) (sc := (defScope s_Parting_lot_of)) (by decide +kernel)) (fun _ _ _ _ _ => (pg_name (i := 2) sc_Parting_lot_of.nd rfl (by first | exact .inl rfl | exact .inr rfl))) (fun _ _ _ _ _ => (pts_one (pt_cmpR op_in_seq (pv 1) (pv 2) (by rfl)))) (fun _ _ _ _ _ => (pv 2)))) pe_int (fun _ _ => rfl))))),
  (st_seq (st_drop (et_call0 [] (fun _ => reps_nil.mpr rfl) (ln_cons (ln_cons ln_nil)) rfl (at_cons (et_fld T_Parting.cl T_Parting.na_plots (et_var 0)) (at_cons (et_var 1) at_nil))))
  (st_ret (et_op o_ix (et_frz (ot_lc (K := K) (.one 2) [2] (by decide) (it_seq (et_fld T_Parting.cl T_Parting.na_lots (et_var 0))) (bt_test (et_op (o_in false) (et_var 1) (et_var 2))) (et_var 2))) (et_int _))))⟩
/-! ### Parting.__or__ -/
abbrev s_Parting_or : Stmt := inClass (top 25) 9
abbrev N_Parting_or : List Str := ["self", "other"]
theorem sc_Parting_or : FnScope N_Parting_or ["self", "other"] (defScope s_Parting_or) := ⟨rfl, rfl, rfl, by decide +kernel, rfl, by decide +kernel, by decide +kernel⟩
def b_Parting_or (cParting : Addr) (cUnlikePlots : Addr) : Ph Ctl := (mSeq (mDrop (mCall0 (m_check_alike cParting cUnlikePlots) [] (mCons (m1 (gFld cParting "plots") (mVar 0)) (mCons (mFrz (mLst (mCons (mVar 1) mNil))) mNil))))
  (mRet (mMake cParting (m_Parting_init cParting) (mCons (mCall0 m_joined_names [] (mCons (m1 (gFld cParting "names") (mVar 0)) (mCons (m1 (gFld cParting "names") (mVar 1)) mNil))) mNil))))
def m_Parting_or (cParting : Addr) (cUnlikePlots : Addr) : Fn := runD false 0 (b_Parting_or cParting cUnlikePlots)
theorem ok_Parting_or {f : Addr} {fd : FuncData} {cParting : Addr} {cUnlikePlots : Addr} (B : Blt mg) (D : Dm K "__or__" "Parting.__or__" s_Parting_or ["self", "other"] f fd) (T_Parting : Txt_Parting K cParting) (M_Parting : Mke P w K mg base "Parting" cParting 3 1 (m_Parting_init cParting)) (C_check_alike : Cal P w K mg base "check_alike" 4 ["plots", "things"] (spD false 2 (m_check_alike cParting cUnlikePlots))) (C_joined_names : Cal P w K mg base "joined_names" 1 ["first", "mates"] (spD false 2 m_joined_names)) : FnOk P w K mg base (L2N.CX P w) 5 f fd ["self", "other"] (spD false 2 (m_Parting_or cParting cUnlikePlots)) :=
  dm_ok D sc_Parting_or rfl rfl fun cdv A outer s H E hr => by
  have tk : L2N.Takes (cxOf (L2N.CX P w) P w K mg base N_Parting_or "Parting.__or__" (defScope s_Parting_or) f cdv A outer s H E) (fun cls d _ H => E cls d H) := L2N.takes_of rfl rfl rfl rfl
  exact ⟨_, (pss_cons (ps_expr (pe_cl C_check_alike hr (by decide) (by rfl) (fun σ => L2N.passAt tk σ) (pa_cons (pe_fld (pv 0) rfl) (pa_cons (pe_lst (pa_cons (pv 1) pa_nil)) pa_nil))))
  (pss_one (ps_ret (pe_mke M_Parting hr (by decide) (by rfl) tk (pa_cons (pe_cl C_joined_names hr (by decide) (by rfl) (fun σ => L2N.passAt tk σ) (pa_cons (pe_fld (pv 0) rfl) (pa_cons (pe_fld (pv 1) rfl) pa_nil))) pa_nil))))),
  (st_seq (st_drop (et_call0 [] (fun _ => reps_nil.mpr rfl) (ln_cons (ln_cons ln_nil)) rfl (at_cons (et_fld T_Parting.cl T_Parting.na_plots (et_var 0)) (at_cons (et_frz (ot_lst (at_cons (et_var 1) at_nil))) at_nil))))
  (st_ret (et_make (ln_cons ln_nil) (at_cons (et_call0 [] (fun _ => reps_nil.mpr rfl) (ln_cons (ln_cons ln_nil)) rfl (at_cons (et_fld T_Parting.cl T_Parting.na_names (et_var 0)) (at_cons (et_fld T_Parting.cl T_Parting.na_names (et_var 1)) at_nil))) at_nil))))⟩
/-! ### _row -/
abbrev s_row : Stmt := top 23
abbrev N_row : List Str := ["left", "right", "whole", "common", "plot"]
theorem sc_row : FnScope N_row ["left", "right", "whole"] (defScope s_row) := ⟨rfl, rfl, rfl, by decide +kernel, rfl, by decide +kernel, by decide +kernel⟩
def b_row  : Ph Ctl := (mSeq (mSet 3 (mFrz (mLc (.one 4) [4] (mSeqI (mVar 0)) (mB (m2 (pure2 (in2 false)) (mVar 4) (mVar 1))) (mVar 4))))
  (mRet (mTup (mCons (m2 gIx (mVar 0) (mC (.int 0))) (mCons (m2 gIx (mVar 1) (mC (.int 0))) (mCons (m2 gIx (mVar 2) (mC (.int 0))) (mCons (mCB (pureC lenC) (mCons (mVar 3) mNil)) (mCons (mCB (pureC lenC) (mCons (mVar 0) mNil)) (mCons (mCB (pureC lenC) (mCons (mVar 1) mNil)) (mCons (mCB (pureC lenC) (mCons (mVar 2) mNil)) mNil))))))))))
def m_row  : Fn := runD false 2 (b_row )
theorem ok_row {f : Addr} {fd : FuncData}  (B : Blt mg) (D : Df K mg "_row" s_row ["left", "right", "whole"] f fd)  : Cal P w K mg base "_row" 1 ["left", "right", "whole"] (spD false 3 (m_row )) :=
  cal_ok D sc_row rfl rfl fun cdv A outer s H E hr => by
  have tk : L2N.Takes (cxOf (L2N.CX P w) P w K mg base N_row "_row" (defScope s_row) f cdv A outer s H E) (fun cls d _ H => E cls d H) := L2N.takes_of rfl rfl rfl rfl
  exact ⟨_, (pss_cons (by first | exact (ps_setLc (i := 3) (own := [("plot", 4)]) (scope := { kind := PySem.ScopeKind.function, names := [ (PySem.Str.ofString ".0", PySem.NameKind.local), (PySem.Str.ofString "plot", PySem.NameKind.local), (PySem.Str.ofString "right", PySem.NameKind.free)], isGenerator := false, isCoroutine := false, more := [] : PySem.Scope }) rfl sc_row.nd rfl rfl (sw_true rfl rfl rfl (by decide +kernel)) (pi_seq (pv 0)) (blkOk_by (N := N_row) (sc := (defScope s_row)) (by decide +kernel)) (fun _ _ _ _ _ => (pg_name (i := 4) sc_row.nd rfl (by first | exact .inl rfl | exact .inr rfl))) (fun _ _ _ _ _ => (pts_one (pt_cmpR op_in_seq (pv 4) (pv 1) (by rfl)))) (fun _ _ _ _ _ => (pv 4))) | exact (ps_set (i := 3) sc_row.nd rfl (by first | exact .inl rfl | exact .inr rfl) (pe_lc (own := [("plot", 4)]) (scope := { kind := PySem.ScopeKind.function, names := [ (PySem.Str.ofString ".0", PySem.NameKind.local), (PySem.Str.ofString "plot", PySem.NameKind.local), (PySem.Str.ofString "right", PySem.NameKind.free)], isGenerator := false, isCoroutine := false, more := [] : PySem.Scope }) rfl sc_row.nd (pi_seq (pv 0)) (blkOk_by (N := N_row) (sc := (defScope s_row)) (by decide +kernel)) (fun _ _ _ _ _ => (pg_name (i := 4) sc_row.nd rfl (by first | exact .inl rfl | exact .inr rfl))) (fun _ _ _ _ _ => (pts_one (pt_cmpR op_in_seq (pv 4) (pv 1) (by rfl)))) (fun _ _ _ _ _ => (pv 4)))))
  (pss_one (ps_ret (pe_tupF (pa_cons (pe_ix ix_seq (pv 0) pe_int (fun _ _ => rfl)) (pa_cons (pe_ix ix_seq (pv 1) pe_int (fun _ _ => rfl)) (pa_cons (pe_ix ix_seq (pv 2) pe_int (fun _ _ => rfl)) (pa_cons (pe_callB call_len (by rfl) B.n_len bt_len (pa_cons (pv 3) pa_nil)) (pa_cons (pe_callB call_len (by rfl) B.n_len bt_len (pa_cons (pv 0) pa_nil)) (pa_cons (pe_callB call_len (by rfl) B.n_len bt_len (pa_cons (pv 1) pa_nil)) (pa_cons (pe_callB call_len (by rfl) B.n_len bt_len (pa_cons (pv 2) pa_nil)) pa_nil))))))))))),
  (st_seq (st_set 3 (et_frz (ot_lc (K := K) (.one 4) [4] (by decide) (it_seq (et_var 0)) (bt_test (et_op (o_in false) (et_var 4) (et_var 1))) (et_var 4))))
  (st_ret (et_tup (at_cons (et_op o_ix (et_var 0) (et_int _)) (at_cons (et_op o_ix (et_var 1) (et_int _)) (at_cons (et_op o_ix (et_var 2) (et_int _)) (at_cons (et_cb c_len (at_cons (et_var 3) at_nil)) (at_cons (et_cb c_len (at_cons (et_var 0) at_nil)) (at_cons (et_cb c_len (at_cons (et_var 1) at_nil)) (at_cons (et_cb c_len (at_cons (et_var 2) at_nil)) at_nil))))))))))⟩
/-! ### meeting -/
abbrev s_meeting : Stmt := top 22
abbrev N_meeting : List Str := ["first", "second", "joined", "rows", "left", "whole", "right"]
theorem sc_meeting : FnScope N_meeting ["first", "second"] (defScope s_meeting) := ⟨rfl, rfl, rfl, by decide +kernel, rfl, by decide +kernel, by decide +kernel⟩
def b_meeting (cParting : Addr) (cUnlikePlots : Addr) : Ph Ctl := (mSeq (mDrop (mCall0 (m_check_alike cParting cUnlikePlots) [] (mCons (m1 (gFld cParting "plots") (mVar 0)) (mCons (mFrz (mLst (mCons (mVar 1) mNil))) mNil))))
  (mSeq (mSet 2 (mCall0 (m_Parting_or cParting cUnlikePlots) [] (mOArgs cParting (mVar 0) (mVar 1))))
  (mSeq (mSetO 3 (mLst mNil))
  (mSeq (mFor (.one 4) (mSeqI (m1 (gFld cParting "lots") (mVar 0))) (mSeq (mSet 5 (mCall0 (m_Parting_lot_of cParting) [] (mMArgs cParting "lot_of" (mVar 2) (mCons (m2 gIx (mVar 4) (mC (.int 0))) mNil))))
  (mExt 3 (mLc (.one 6) [6] (mSeqI (m1 (gFld cParting "lots") (mVar 1))) (mB (m2 (pure2 (in2 false)) (m2 gIx (mVar 6) (mC (.int 0))) (mVar 5))) (mCall0 m_row [] (mCons (mVar 4) (mCons (mVar 6) (mCons (mVar 5) mNil))))))))
  (mRetV 3)))))
def m_meeting (cParting : Addr) (cUnlikePlots : Addr) : Fn := runD false 5 (b_meeting cParting cUnlikePlots)
theorem ok_meeting {f : Addr} {fd : FuncData} {cParting : Addr} {cUnlikePlots : Addr} (B : Blt mg) (D : Df K mg "meeting" s_meeting ["first", "second"] f fd) (T_Parting : Txt_Parting K cParting) (C_check_alike : Cal P w K mg base "check_alike" 4 ["plots", "things"] (spD false 2 (m_check_alike cParting cUnlikePlots))) (C_Parting_or : CalO P w K mg base cParting .BitOr 5 ["self", "other"] (spD false 2 (m_Parting_or cParting cUnlikePlots))) (C_Parting_lot_of : CalM P w K mg base cParting "lot_of" 4 ["self", "plot"] (spD false 2 (m_Parting_lot_of cParting))) (C_row : Cal P w K mg base "_row" 1 ["left", "right", "whole"] (spD false 3 m_row)) : Cal P w K mg base "meeting" 6 ["first", "second"] (spD false 2 (m_meeting cParting cUnlikePlots)) :=
  cal_ok D sc_meeting rfl rfl fun cdv A outer s H E hr => by
  have tk : L2N.Takes (cxOf (L2N.CX P w) P w K mg base N_meeting "meeting" (defScope s_meeting) f cdv A outer s H E) (fun cls d _ H => E cls d H) := L2N.takes_of rfl rfl rfl rfl
  exact ⟨_, (pss_cons (ps_expr (pe_cl C_check_alike hr (by decide) (by rfl) (fun σ => L2N.passAt tk σ) (pa_cons (pe_fld (pv 0) rfl) (pa_cons (pe_lst (pa_cons (pv 1) pa_nil)) pa_nil))))
  (pss_cons (ps_set (i := 2) sc_meeting.nd rfl (by first | exact .inl rfl | exact .inr rfl) (pe_own C_Parting_or hr (by decide) (fun σ => L2N.passAt tk σ) (pv 0) (pv 1)))
  (pss_cons (ps_set (i := 3) sc_meeting.nd rfl (by first | exact .inl rfl | exact .inr rfl) (pe_lst pa_nil))
  (pss_cons (ps_for (passes_of rfl) rfl (pi_seq (pe_fld (pv 0) rfl)) (pg_name (i := 4) sc_meeting.nd rfl (by first | exact .inl rfl | exact .inr rfl)) (pss_cons (ps_set (i := 5) sc_meeting.nd rfl (by first | exact .inl rfl | exact .inr rfl) (pe_mt C_Parting_lot_of hr (by decide) (fun σ => L2N.passAt tk σ) (pv 2) (pa_cons (pe_ix ix_seq (pv 4) pe_int (fun _ _ => rfl)) pa_nil)))
  (pss_one (ps_expr (pe_bm PySem.F.plainAttrs_list PySem.F.slot_list_extend PySem.F.type_list_extend mt_extend (pv 3) (pa_cons (by exact (pe_lc (own := [("right", 6)]) (scope := { kind := PySem.ScopeKind.function, names := [ (PySem.Str.ofString ".0", PySem.NameKind.local), (PySem.Str.ofString "right", PySem.NameKind.local), (PySem.Str.ofString "_row", PySem.NameKind.globalImplicit), (PySem.Str.ofString "left", PySem.NameKind.free), (PySem.Str.ofString "whole", PySem.NameKind.free)], isGenerator := false, isCoroutine := false, more := [] : PySem.Scope }) rfl sc_meeting.nd (pi_seq (pe_fld (pv 1) rfl)) (blkOk_by (N := N_meeting) (sc := (defScope s_meeting)) (by decide +kernel)) (fun _ _ _ _ _ => (pg_name (i := 6) sc_meeting.nd rfl (by first | exact .inl rfl | exact .inr rfl))) (fun _ _ _ _ _ => (pts_one (pt_cmpR op_in_seq (pe_ix ix_seq (pv 6) pe_int (fun _ _ => rfl)) (pv 5) (by rfl)))) (fun _ _ _ _ _ => (pe_cl C_row hr (by decide) (by rfl) (fun σ => passN0 σ) (pa_cons (pv 4) (pa_cons (pv 6) (pa_cons (pv 5) pa_nil))))))) pa_nil))))))
  (pss_one (ps_ret (pv 3))))))),
  (st_seq (st_drop (et_call0 [] (fun _ => reps_nil.mpr rfl) (ln_cons (ln_cons ln_nil)) rfl (at_cons (et_fld T_Parting.cl T_Parting.na_plots (et_var 0)) (at_cons (et_frz (ot_lst (at_cons (et_var 1) at_nil))) at_nil))))
  (st_seq (st_set 2 (et_call0 [] (fun _ => reps_nil.mpr rfl) ln_own rfl (at_own (et_var 0) (et_var 1))))
  (st_seq (st_setO 3 (ot_lst at_nil))
  (st_seq (st_for (K := K) (.one 4) (it_seq (et_fld T_Parting.cl T_Parting.na_lots (et_var 0))) (st_seq (st_set 5 (et_call0 [] (fun _ => reps_nil.mpr rfl) (ln_meth (ln_cons ln_nil)) rfl (at_meth (et_var 2) (at_cons (et_op o_ix (et_var 4) (et_int _)) at_nil))))
  (st_ext 3 (ot_lc (K := K) (.one 6) [6] (by decide) (it_seq (et_fld T_Parting.cl T_Parting.na_lots (et_var 1))) (bt_test (et_op (o_in false) (et_op o_ix (et_var 6) (et_int _)) (et_var 5))) (et_call0 [] (fun _ => reps_nil.mpr rfl) (ln_cons (ln_cons (ln_cons ln_nil))) rfl (at_cons (et_var 4) (at_cons (et_var 6) (at_cons (et_var 5) at_nil))))))))
  (st_retV 3)))))⟩
/-! ### _law_mixed -/
abbrev s_law_mixed : Stmt := top 31
abbrev N_law_mixed : List Str := ["number", "turn", "mix"]
theorem sc_law_mixed : FnScope N_law_mixed ["number", "turn"] (defScope s_law_mixed) := ⟨rfl, rfl, rfl, by decide +kernel, rfl, by decide +kernel, by decide +kernel⟩
def b_law_mixed  : Ph Ctl := (mSeq (mSet 2 (m2 gMod (mCB (pureC intC) (mCons (m2 gAdd (m2 gAdd (m2 gMul (mVar 0) (mC (.int 1181783497276652981))) (m2 gMul (mVar 1) (mC (.int 1865811235122147685)))) (mC (.int 2862933555777941757))) mNil)) (mC (.int 2305843009213693951))))
  (mSeq (mSet 2 (m2 gMod (mCB (pureC intC) (mCons (m2 gMul (mVar 2) (mVar 2)) mNil)) (mC (.int 1000000000000000003))))
  (mSeq (mSet 2 (m2 gMod (mCB (pureC intC) (mCons (m2 gAdd (m2 gAdd (m2 gMul (mVar 2) (mC (.int 3935559000370003845))) (mVar 1)) (mC (.int 7))) mNil)) (mC (.int 2305843009213693951))))
  (mRet (m2 gMod (mCB (pureC intC) (mCons (m2 gMul (mVar 2) (mVar 2)) mNil)) (mC (.int 1000000000000000003)))))))
def m_law_mixed  : Fn := runD false 1 (b_law_mixed )
theorem ok_law_mixed {f : Addr} {fd : FuncData}  (B : Blt mg) (D : Df K mg "_law_mixed" s_law_mixed ["number", "turn"] f fd)  : Cal P w K mg base "_law_mixed" 1 ["number", "turn"] (spD false 2 (m_law_mixed )) :=
  cal_ok D sc_law_mixed rfl rfl fun cdv A outer s H E hr => by
  have tk : L2N.Takes (cxOf (L2N.CX P w) P w K mg base N_law_mixed "_law_mixed" (defScope s_law_mixed) f cdv A outer s H E) (fun cls d _ H => E cls d H) := L2N.takes_of rfl rfl rfl rfl
  exact ⟨_, (pss_cons (ps_set (i := 2) sc_law_mixed.nd rfl (by first | exact .inl rfl | exact .inr rfl) (pe_op op_mod (pe_callTy call_int1 (by rfl) B.n_int bt_int (pa_cons (pe_op op_add (pe_op op_add (pe_op op_mulW (pv 0) pe_int) (pe_op op_mulW (pv 1) pe_int)) pe_int) pa_nil)) pe_int))
  (pss_cons (ps_set (i := 2) sc_law_mixed.nd rfl (by first | exact .inl rfl | exact .inr rfl) (pe_op op_mod (pe_callTy call_int1 (by rfl) B.n_int bt_int (pa_cons (pe_op op_mulW (pv 2) (pv 2)) pa_nil)) pe_int))
  (pss_cons (ps_set (i := 2) sc_law_mixed.nd rfl (by first | exact .inl rfl | exact .inr rfl) (pe_op op_mod (pe_callTy call_int1 (by rfl) B.n_int bt_int (pa_cons (pe_op op_add (pe_op op_add (pe_op op_mulW (pv 2) pe_int) (pv 1)) pe_int) pa_nil)) pe_int))
  (pss_one (ps_ret (pe_op op_mod (pe_callTy call_int1 (by rfl) B.n_int bt_int (pa_cons (pe_op op_mulW (pv 2) (pv 2)) pa_nil)) pe_int)))))),
  (st_seq (st_set 2 (et_op o_mod (et_cb c_int (at_cons (et_op o_add (et_op o_add (et_op o_mul (et_var 0) (et_int _)) (et_op o_mul (et_var 1) (et_int _))) (et_int _)) at_nil)) (et_int _)))
  (st_seq (st_set 2 (et_op o_mod (et_cb c_int (at_cons (et_op o_mul (et_var 2) (et_var 2)) at_nil)) (et_int _)))
  (st_seq (st_set 2 (et_op o_mod (et_cb c_int (at_cons (et_op o_add (et_op o_add (et_op o_mul (et_var 2) (et_int _)) (et_var 1)) (et_int _)) at_nil)) (et_int _)))
  (st_ret (et_op o_mod (et_cb c_int (at_cons (et_op o_mul (et_var 2) (et_var 2)) at_nil)) (et_int _))))))⟩
/-! ### _law_take -/
abbrev s_law_take : Stmt := top 32
abbrev N_law_take : List Str := ["store", "many", "cell", "digit", "number", "mix", "k"]
theorem sc_law_take : FnScope N_law_take ["store", "many"] (defScope s_law_take) := ⟨rfl, rfl, rfl, by decide +kernel, rfl, by decide +kernel, by decide +kernel⟩
def b_law_take  : Ph Ctl := (mSeq (mIfS (mB (m2 gLt (mVar 1) (mC (.int 2)))) (mRet (mC (.int 0)))
   mNext)
  (mSeq (mIfS (mAnd (mB (m2 gLt (mStIx 0 2) (mC (.int 2)))) (mAnd (mB (m2 gLt (mStIx 0 3) (mC (.int 1)))) (mB (m2 gLt (mStIx 0 1) (mCB (pureC lenC) (mCons (mStCells 0) mNil)))))) (mSeq (mSet 2 (mCB (pureC absC) (mCons (m2 gIx (mStCells 0) (mStIx 0 1)) mNil)))
  (mSeq (mStSet 0 1 (m2 gAdd (mStIx 0 1) (mC (.int 1))))
  (mIfS (mB (m2 gLt (mVar 2) (m2 gPow (mC (.int 10)) (mC (.int 18))))) (mStSet 0 3 (mC (.int 4)))
   (mStSet 0 2 (mVar 2)))))
   mNext)
  (mSeq (mIfS (mB (m2 gGt (mStIx 0 2) (mC (.int 1)))) (mSeq (mSet 3 (m2 gMod (mCB (pureC intC) (mCons (mStIx 0 2) mNil)) (mVar 1)))
  (mSeq (mStSet 0 2 (m2 gFdiv (mCB (pureC intC) (mCons (mStIx 0 2) mNil)) (mVar 1)))
  (mRet (mVar 3))))
   mNext)
  (mSeq (mSet 4 (mStIx 0 4))
  (mSeq (mIfS (mB (m2 gGt (mStIx 0 3) (mC (.int 0)))) (mSeq (mStSet 0 3 (m2 gMinus (mStIx 0 3) (mC (.int 1))))
  (mSet 4 (m2 gAdd (mVar 4) (m2 gMul (mC (.int 1000003)) (m2 gIx (mStCells 0) (m2 gMinus (mStIx 0 1) (mC (.int 1))))))))
   mNext)
  (mSeq (mStSet 0 5 (m2 gAdd (mStIx 0 5) (mC (.int 1))))
  (mSeq (mSet 5 (mC (.int 0)))
  (mSeq (mFor (.one 6) (mRange1 (mCons (m2 gAdd (mC (.int 1)) (m2 gMul (mC (.int 2)) (mCB (pureC intC) (mCons (m2 gGt (mVar 1) (m2 gPow (mC (.int 10)) (mC (.int 12)))) mNil)))) mNil)) (mSet 5 (m2 gAdd (m2 gMul (mVar 5) (m2 gPow (mC (.int 10)) (mC (.int 18)))) (mCall0 m_law_mixed [] (mCons (mVar 4) (mCons (m2 gAdd (m2 gMul (mC (.int 3)) (mStIx 0 5)) (mVar 6)) mNil))))))
  (mRet (m2 gMod (mCB (pureC intC) (mCons (mVar 5) mNil)) (mVar 1)))))))))))
def m_law_take  : Fn := runD true 5 (b_law_take )
theorem ok_law_take {f : Addr} {fd : FuncData}  (B : Blt mg) (D : Df K mg "_law_take" s_law_take ["store", "many"] f fd) (C_law_mixed : Cal P w K mg base "_law_mixed" 1 ["number", "turn"] (spD false 2 m_law_mixed)) : Cal P w K mg base "_law_take" 2 ["store", "many"] (spD true 1 (m_law_take )) :=
  cal_ok D sc_law_take rfl rfl fun cdv A outer s H E hr => by
  have tk : L2N.Takes (cxOf (L2N.CX P w) P w K mg base N_law_take "_law_take" (defScope s_law_take) f cdv A outer s H E) (fun cls d _ H => E cls d H) := L2N.takes_of rfl rfl rfl rfl
  exact ⟨_, (pss_cons (ps_if (pt_cmpR op_lt (pv 1) pe_int (nomark _)) (pss_one (ps_ret pe_int))
   pss_nil)
  (pss_cons (ps_if (PW.pt (pw_and (pt_cmpR op_lt (pe_ix ix_seq (pv 0) pe_int (fun _ _ => rfl)) pe_int (nomark _)) (pw_and (pt_cmpR op_lt (pe_ix ix_seq (pv 0) pe_int (fun _ _ => rfl)) pe_int (nomark _)) (pw_and1 (pt_cmpR op_lt (pe_ix ix_seq (pv 0) pe_int (fun _ _ => rfl)) (pe_callB call_len (by rfl) B.n_len bt_len (pa_cons (pe_ix ix_seq (pv 0) pe_int (fun _ _ => rfl)) pa_nil)) (nomark _)))))) (pss_cons (ps_set (i := 2) sc_law_take.nd rfl (by first | exact .inl rfl | exact .inr rfl) (pe_callB call_abs (by rfl) B.n_abs bt_abs (pa_cons (pe_ix ix_seq (pe_ix ix_seq (pv 0) pe_int (fun _ _ => rfl)) (pe_ix ix_seq (pv 0) pe_int (fun _ _ => rfl)) (fun _ _ => rfl)) pa_nil)))
  (pss_cons (ps_asg (pe_op op_add (pe_ix ix_seq (pv 0) pe_int (fun _ _ => rfl)) pe_int) (pg_sub (pv 0) pe_int set_list))
  (pss_one (ps_if (pt_cmpR op_lt (pv 2) (pe_op op_pow pe_int pe_int) (nomark _)) (pss_one (ps_asg pe_int (pg_sub (pv 0) pe_int set_list)))
   (pss_one (ps_asg (pv 2) (pg_sub (pv 0) pe_int set_list)))))))
   pss_nil)
  (pss_cons (ps_if (pt_cmpR op_gt (pe_ix ix_seq (pv 0) pe_int (fun _ _ => rfl)) pe_int (nomark _)) (pss_cons (ps_set (i := 3) sc_law_take.nd rfl (by first | exact .inl rfl | exact .inr rfl) (pe_op op_mod (pe_callTy call_int1 (by rfl) B.n_int bt_int (pa_cons (pe_ix ix_seq (pv 0) pe_int (fun _ _ => rfl)) pa_nil)) (pv 1)))
  (pss_cons (ps_asg (pe_op op_fdivW (pe_callTy call_int1 (by rfl) B.n_int bt_int (pa_cons (pe_ix ix_seq (pv 0) pe_int (fun _ _ => rfl)) pa_nil)) (pv 1)) (pg_sub (pv 0) pe_int set_list))
  (pss_one (ps_ret (pv 3)))))
   pss_nil)
  (pss_cons (ps_set (i := 4) sc_law_take.nd rfl (by first | exact .inl rfl | exact .inr rfl) (pe_ix ix_seq (pv 0) pe_int (fun _ _ => rfl)))
  (pss_cons (ps_if (pt_cmpR op_gt (pe_ix ix_seq (pv 0) pe_int (fun _ _ => rfl)) pe_int (nomark _)) (pss_cons (ps_asg (pe_op op_sub (pe_ix ix_seq (pv 0) pe_int (fun _ _ => rfl)) pe_int) (pg_sub (pv 0) pe_int set_list))
  (pss_one (ps_set (i := 4) sc_law_take.nd rfl (by first | exact .inl rfl | exact .inr rfl) (pe_op op_add (pv 4) (pe_op op_mulW pe_int (pe_ix ix_seq (pe_ix ix_seq (pv 0) pe_int (fun _ _ => rfl)) (pe_op op_sub (pe_ix ix_seq (pv 0) pe_int (fun _ _ => rfl)) pe_int) (fun _ _ => rfl)))))))
   pss_nil)
  (pss_cons (ps_asg (pe_op op_add (pe_ix ix_seq (pv 0) pe_int (fun _ _ => rfl)) pe_int) (pg_sub (pv 0) pe_int set_list))
  (pss_cons (ps_set (i := 5) sc_law_take.nd rfl (by first | exact .inl rfl | exact .inr rfl) pe_int)
  (pss_cons (ps_for (passes_of rfl) rfl (pi_range1 (by rfl) B.n_range (pa_cons (pe_op op_add pe_int (pe_op op_mulW pe_int (pe_callTy call_int1 (by rfl) B.n_int bt_int (pa_cons (pe_cmpR op_gt (pv 1) (pe_op op_pow pe_int pe_int) (nomark _)) pa_nil)))) pa_nil)) (pg_name (i := 6) sc_law_take.nd rfl (by first | exact .inl rfl | exact .inr rfl)) (pss_one (ps_set (i := 5) sc_law_take.nd rfl (by first | exact .inl rfl | exact .inr rfl) (pe_op op_add (pe_op op_mulW (pv 5) (pe_op op_pow pe_int pe_int)) (pe_cl C_law_mixed hr (by decide) (by rfl) (fun σ => L2N.passAt tk σ) (pa_cons (pv 4) (pa_cons (pe_op op_add (pe_op op_mulW pe_int (pe_ix ix_seq (pv 0) pe_int (fun _ _ => rfl))) (pv 6)) pa_nil)))))))
  (pss_one (ps_ret (pe_op op_mod (pe_callTy call_int1 (by rfl) B.n_int bt_int (pa_cons (pv 5) pa_nil)) (pv 1)))))))))))),
  (st_seq (st_if (bt_test (et_op o_lt (et_var 1) (et_int _))) (st_ret (et_int _))
   st_next)
  (st_seq (st_if (bt_and (bt_test (et_op o_lt (et_stIx 0 2) (et_int _))) (bt_and (bt_test (et_op o_lt (et_stIx 0 3) (et_int _))) (bt_test (et_op o_lt (et_stIx 0 1) (et_cb c_len (at_cons (et_stCells 0) at_nil)))))) (st_seq (st_set 2 (et_cb c_abs (at_cons (et_op o_ix (et_stCells 0) (et_stIx 0 1)) at_nil)))
  (st_seq (st_stSet 0 1 (et_op o_add (et_stIx 0 1) (et_int _)))
  (st_if (bt_test (et_op o_lt (et_var 2) (et_op o_pow (et_int _) (et_int _)))) (st_stSet 0 3 (et_int _))
   (st_stSet 0 2 (et_var 2)))))
   st_next)
  (st_seq (st_if (bt_test (et_op o_gt (et_stIx 0 2) (et_int _))) (st_seq (st_set 3 (et_op o_mod (et_cb c_int (at_cons (et_stIx 0 2) at_nil)) (et_var 1)))
  (st_seq (st_stSet 0 2 (et_op o_fdiv (et_cb c_int (at_cons (et_stIx 0 2) at_nil)) (et_var 1)))
  (st_ret (et_var 3))))
   st_next)
  (st_seq (st_set 4 (et_stIx 0 4))
  (st_seq (st_if (bt_test (et_op o_gt (et_stIx 0 3) (et_int _))) (st_seq (st_stSet 0 3 (et_op o_sub (et_stIx 0 3) (et_int _)))
  (st_set 4 (et_op o_add (et_var 4) (et_op o_mul (et_int _) (et_op o_ix (et_stCells 0) (et_op o_sub (et_stIx 0 1) (et_int _)))))))
   st_next)
  (st_seq (st_stSet 0 5 (et_op o_add (et_stIx 0 5) (et_int _)))
  (st_seq (st_set 5 (et_int _))
  (st_seq (st_for (K := K) (.one 6) (it_range1 (at_cons (et_op o_add (et_int _) (et_op o_mul (et_int _) (et_cb c_int (at_cons (et_op o_gt (et_var 1) (et_op o_pow (et_int _) (et_int _))) at_nil)))) at_nil)) (st_set 5 (et_op o_add (et_op o_mul (et_var 5) (et_op o_pow (et_int _) (et_int _))) (et_call0 [] (fun _ => reps_nil.mpr rfl) (ln_cons (ln_cons ln_nil)) rfl (at_cons (et_var 4) (at_cons (et_op o_add (et_op o_mul (et_int _) (et_stIx 0 5)) (et_var 6)) at_nil))))))
  (st_ret (et_op o_mod (et_cb c_int (at_cons (et_var 5) at_nil)) (et_var 1)))))))))))⟩
/-! ### _law_once -/
abbrev s_law_once : Stmt := top 33
abbrev N_law_once : List Str := ["store", "many"]
theorem sc_law_once : FnScope N_law_once ["store", "many"] (defScope s_law_once) := ⟨rfl, rfl, rfl, by decide +kernel, rfl, by decide +kernel, by decide +kernel⟩
def b_law_once  : Ph Ctl := (mRet (m2 gEq (mCall1 m_law_take 0 (mCons (mVar 1) mNil)) (mC (.int 0))))
def m_law_once  : Fn := runD true 0 (b_law_once )
theorem ok_law_once {f : Addr} {fd : FuncData}  (B : Blt mg) (D : Df K mg "_law_once" s_law_once ["store", "many"] f fd) (C_law_take : Cal P w K mg base "_law_take" 2 ["store", "many"] (spD true 1 m_law_take)) : Cal P w K mg base "_law_once" 3 ["store", "many"] (spD true 1 (m_law_once )) :=
  cal_ok D sc_law_once rfl rfl fun cdv A outer s H E hr => by
  have tk : L2N.Takes (cxOf (L2N.CX P w) P w K mg base N_law_once "_law_once" (defScope s_law_once) f cdv A outer s H E) (fun cls d _ H => E cls d H) := L2N.takes_of rfl rfl rfl rfl
  exact ⟨_, (pss_one (ps_ret (pe_cmpR (op_eqD hr.units) (pe_cl C_law_take hr (by decide) (by rfl) (fun σ => L2N.passAt tk σ) (pa_cons (pv 0) (pa_cons (pv 1) pa_nil))) pe_int (nomark _)))),
  (st_ret (et_op o_eq (et_call1 0 (ln_cons ln_nil) (at_cons (et_var 1) at_nil)) (et_int _)))⟩
/-! ### _law_shuffle -/
abbrev s_law_shuffle : Stmt := top 34
abbrev N_law_shuffle : List Str := ["store", "many", "row", "kind", "one", "two", "mixed", "k"]
theorem sc_law_shuffle : FnScope N_law_shuffle ["store", "many"] (defScope s_law_shuffle) := ⟨rfl, rfl, rfl, by decide +kernel, rfl, by decide +kernel, by decide +kernel⟩
def b_law_shuffle  : Ph Ctl := (mSeq (mSetO 2 (mRg (mVar 1)))
  (mSeq (mIfS (mAnd (mB (m2 gGt (mVar 1) (mC (.int 1)))) (mB (mCall1 m_law_once 0 (mCons (mC (.int 3)) mNil)))) (mSeq (mSet 3 (mCall1 m_law_take 0 (mCons (mC (.int 3)) mNil)))
  (mSeq (mIfS (mB (m2 gEq (mVar 3) (mC (.int 1)))) (mSetO 2 (mRevO 2))
   mNext)
  (mSeq (mIfS (mB (m2 gEq (mVar 3) (mC (.int 2)))) (mSeq (mSet 4 (mCall1 m_law_take 0 (mCons (mVar 1) mNil)))
  (mSeq (mSet 5 (mCall1 m_law_take 0 (mCons (mVar 1) mNil)))
  (mSwap 2 4 5)))
   mNext)
  (mRet (mTupO 2)))))
   mNext)
  (mSeq (mSetO 6 (mLst mNil))
  (mSeq (mFor (.one 7) (mRange1 (mCons (mVar 1) mNil)) (mAppPop 6 2 (mCall1 m_law_take 0 (mCons (mLenO 2) mNil))))
  (mRet (mTupO 6))))))
def m_law_shuffle  : Fn := runD true 6 (b_law_shuffle )
theorem ok_law_shuffle {f : Addr} {fd : FuncData}  (B : Blt mg) (D : Df K mg "_law_shuffle" s_law_shuffle ["store", "many"] f fd) (C_law_once : Cal P w K mg base "_law_once" 3 ["store", "many"] (spD true 1 m_law_once)) (C_law_take : Cal P w K mg base "_law_take" 2 ["store", "many"] (spD true 1 m_law_take)) : Cal P w K mg base "_law_shuffle" 4 ["store", "many"] (spD true 1 (m_law_shuffle )) :=
  cal_ok D sc_law_shuffle rfl rfl fun cdv A outer s H E hr => by
  have tk : L2N.Takes (cxOf (L2N.CX P w) P w K mg base N_law_shuffle "_law_shuffle" (defScope s_law_shuffle) f cdv A outer s H E) (fun cls d _ H => E cls d H) := L2N.takes_of rfl rfl rfl rfl
  exact ⟨_, (pss_cons (ps_set (i := 2) sc_law_shuffle.nd rfl (by first | exact .inl rfl | exact .inr rfl) (pe_listRg rfl (by rfl) B.n_list (prg_1 (by rfl) B.n_range (pv 1))))
  (pss_cons (ps_if (PW.pt (pw_and (pt_cmpR op_gt (pv 1) pe_int (nomark _)) (pw_and1 (pt_val (pe_cl C_law_once hr (by decide) (by rfl) (fun σ => L2N.passAt tk σ) (pa_cons (pv 0) (pa_cons pe_int pa_nil))))))) (pss_cons (ps_set (i := 3) sc_law_shuffle.nd rfl (by first | exact .inl rfl | exact .inr rfl) (pe_cl C_law_take hr (by decide) (by rfl) (fun σ => L2N.passAt tk σ) (pa_cons (pv 0) (pa_cons pe_int pa_nil))))
  (pss_cons (ps_if (pt_cmpR (op_eqD hr.units) (pv 3) pe_int (nomark _)) (pss_one (ps_set (i := 2) sc_law_shuffle.nd rfl (by first | exact .inl rfl | exact .inr rfl) (pe_revL (pv 2))))
   pss_nil)
  (pss_cons (ps_if (pt_cmpR (op_eqD hr.units) (pv 3) pe_int (nomark _)) (pss_cons (ps_set (i := 4) sc_law_shuffle.nd rfl (by first | exact .inl rfl | exact .inr rfl) (pe_cl C_law_take hr (by decide) (by rfl) (fun σ => L2N.passAt tk σ) (pa_cons (pv 0) (pa_cons (pv 1) pa_nil))))
  (pss_cons (ps_set (i := 5) sc_law_shuffle.nd rfl (by first | exact .inl rfl | exact .inr rfl) (pe_cl C_law_take hr (by decide) (by rfl) (fun σ => L2N.passAt tk σ) (pa_cons (pv 0) (pa_cons (pv 1) pa_nil))))
  (pss_one (ps_asg (pe_tup (pa_cons (pe_ix ix_seq (pv 2) (pv 5) (fun _ _ => rfl)) (pa_cons (pe_ix ix_seq (pv 2) (pv 4) (fun _ _ => rfl)) pa_nil))) (pg_tup rfl (pgs_cons (pg_sub (pv 2) (pv 4) set_list) (pgs_cons (pg_sub (pv 2) (pv 5) set_list) pgs_nil)))))))
   pss_nil)
  (pss_one (ps_ret (pe_callTy call_tupF (by rfl) B.n_tuple bt_tuple (pa_cons (pv 2) pa_nil)))))))
   pss_nil)
  (pss_cons (ps_set (i := 6) sc_law_shuffle.nd rfl (by first | exact .inl rfl | exact .inr rfl) (pe_lst pa_nil))
  (pss_cons (ps_for (passes_of rfl) rfl (pi_range1 (by rfl) B.n_range (pa_cons (pv 1) pa_nil)) (pg_name (i := 7) sc_law_shuffle.nd rfl (by first | exact .inl rfl | exact .inr rfl)) (pss_one (ps_expr (pe_bm PySem.F.plainAttrs_list PySem.F.slot_list_append PySem.F.type_list_append mt_append (pv 6) (pa_cons (pe_bm PySem.F.plainAttrs_list PySem.F.slot_list_pop PySem.F.type_list_pop mt_popAt (pv 2) (pa_cons (pe_cl C_law_take hr (by decide) (by rfl) (fun σ => L2N.passAt tk σ) (pa_cons (pv 0) (pa_cons (pe_callB call_len (by rfl) B.n_len bt_len (pa_cons (pv 2) pa_nil)) pa_nil))) pa_nil)) pa_nil)))))
  (pss_one (ps_ret (pe_callTy call_tupF (by rfl) B.n_tuple bt_tuple (pa_cons (pv 6) pa_nil)))))))),
  (st_seq (st_setO 2 (ot_listRg (et_var 1)))
  (st_seq (st_if (bt_and (bt_test (et_op o_gt (et_var 1) (et_int _))) (bt_val (et_call1 0 (ln_cons ln_nil) (at_cons (et_int _) at_nil)))) (st_seq (st_set 3 (et_call1 0 (ln_cons ln_nil) (at_cons (et_int _) at_nil)))
  (st_seq (st_if (bt_test (et_op o_eq (et_var 3) (et_int _))) (st_setO 2 (ot_revO 2))
   st_next)
  (st_seq (st_if (bt_test (et_op o_eq (et_var 3) (et_int _))) (st_seq (st_set 4 (et_call1 0 (ln_cons ln_nil) (at_cons (et_var 1) at_nil)))
  (st_seq (st_set 5 (et_call1 0 (ln_cons ln_nil) (at_cons (et_var 1) at_nil)))
  (st_swap 2 4 5)))
   st_next)
  (st_ret (et_tupO 2)))))
   st_next)
  (st_seq (st_setO 6 (ot_lst at_nil))
  (st_seq (st_for (K := K) (.one 7) (it_range1 (at_cons (et_var 1) at_nil)) (st_appPop 6 2 (et_call1 0 (ln_cons ln_nil) (at_cons (et_lenO 2) at_nil))))
  (st_ret (et_tupO 6))))))⟩
/-! ### _law_same -/
abbrev s_law_same : Stmt := top 35
abbrev N_law_same : List Str := ["left", "right", "k"]
theorem sc_law_same : FnScope N_law_same ["left", "right"] (defScope s_law_same) := ⟨rfl, rfl, rfl, by decide +kernel, rfl, by decide +kernel, by decide +kernel⟩
def b_law_same (r : Fn) : Ph Ctl := (mSeq (mIfS (mB (m2 gIsN (mVar 1) (mC .non))) (mRet (m2 gIsN (mVar 0) (mC .non)))
   mNext)
  (mSeq (mIfS (mB (m1 (gIsi "bool") (mVar 1))) (mRet (mAndV (m1 (gIsi "bool") (mVar 0)) (m2 gEq (mVar 0) (mVar 1))))
   mNext)
  (mSeq (mIfS (mB (m1 (gIsi "int") (mVar 1))) (mRet (mAndV (m1 (gIsi "int") (mVar 0)) (mAndV (mNotV (m1 (gIsi "bool") (mVar 0))) (m2 gEq (mVar 0) (mVar 1)))))
   mNext)
  (mSeq (mIfS (mB (m1 (gIsi "str") (mVar 1))) (mRet (mAndV (m1 (gIsi "str") (mVar 0)) (m2 gEq (mVar 0) (mVar 1))))
   mNext)
  (mSeq (mIfS (mB (m1 (gIsi "tuple") (mVar 1))) (mIfS (mOr (mNot (mB (m1 (gIsi "tuple") (mVar 0)))) (mB (m2 gNe (mCB (pureC lenC) (mCons (mVar 0) mNil)) (mCB (pureC lenC) (mCons (mVar 1) mNil))))) (mRet (mC (.bl false)))
   mNext)
   (mIfS (mOr (mNot (mB (m1 (gIsi "list") (mVar 1)))) (mOr (mNot (mB (m1 (gIsi "list") (mVar 0)))) (mB (m2 gNe (mCB (pureC lenC) (mCons (mVar 0) mNil)) (mCB (pureC lenC) (mCons (mVar 1) mNil)))))) (mRet (mC (.bl false)))
   mNext))
  (mSeq (mFor (.one 2) (mRange1 (mCons (mCB (pureC lenC) (mCons (mVar 1) mNil)) mNil)) (mIfS (mNot (mB (mCall0 r [] (mCons (m2 gIx (mVar 0) (mVar 2)) (mCons (m2 gIx (mVar 1) (mVar 2)) mNil))))) (mRet (mC (.bl false)))
   mNext))
  (mRet (mC (.bl true)))))))))
def m_law_same : Nat → Fn
  | 0 => fun _ _ => .bad
  | n + 1 => runD false 1 (b_law_same (m_law_same n))
theorem ok_law_same {f : Addr} {fd : FuncData} (B : Blt mg) (D : Df K mg "_law_same" s_law_same ["left", "right"] f fd)  : ∀ n : Nat, Cal P w K mg base "_law_same" (n + 1) ["left", "right"] (spD false 2 (m_law_same n))
  | 0 => Cal.none D (by decide)
  | n + 1 => by
    have R := ok_law_same B D  n
    refine cal_ok (k := n + 1) D sc_law_same rfl rfl fun cdv A outer s H E hr => ?_
    have tk : L2N.Takes (cxOf (L2N.CX P w) P w K mg base N_law_same "_law_same" (defScope s_law_same) f cdv A outer s H E) (fun cls d _ H => E cls d H) := L2N.takes_of rfl rfl rfl rfl
    exact ⟨_, (pss_cons (ps_if (pt_cmpR op_isN (pv 1) pe_non (nomark _)) (pss_one (ps_ret (pe_cmpR op_isN (pv 0) pe_non (nomark _))))
   pss_nil)
  (pss_cons (ps_if (pt_val (pe_callB call_isi (by rfl) B.n_isinstance bt_isinstance (pa_cons (pv 1) (pa_cons (pe_ty (by rfl) B.n_bool bt_bool) pa_nil)))) (pss_one (ps_ret (pe_and (pe_callB call_isi (by rfl) B.n_isinstance bt_isinstance (pa_cons (pv 0) (pa_cons (pe_ty (by rfl) B.n_bool bt_bool) pa_nil))) (pe_one (pe_cmpR (op_eqD hr.units) (pv 0) (pv 1) (nomark _))))))
   pss_nil)
  (pss_cons (ps_if (pt_val (pe_callB call_isi (by rfl) B.n_isinstance bt_isinstance (pa_cons (pv 1) (pa_cons (pe_ty (by rfl) B.n_int bt_int) pa_nil)))) (pss_one (ps_ret (pe_and (pe_callB call_isi (by rfl) B.n_isinstance bt_isinstance (pa_cons (pv 0) (pa_cons (pe_ty (by rfl) B.n_int bt_int) pa_nil))) (pe_and (pe_not (pe_callB call_isi (by rfl) B.n_isinstance bt_isinstance (pa_cons (pv 0) (pa_cons (pe_ty (by rfl) B.n_bool bt_bool) pa_nil)))) (pe_one (pe_cmpR (op_eqD hr.units) (pv 0) (pv 1) (nomark _)))))))
   pss_nil)
  (pss_cons (ps_if (pt_val (pe_callB call_isi (by rfl) B.n_isinstance bt_isinstance (pa_cons (pv 1) (pa_cons (pe_ty (by rfl) B.n_str bt_str) pa_nil)))) (pss_one (ps_ret (pe_and (pe_callB call_isi (by rfl) B.n_isinstance bt_isinstance (pa_cons (pv 0) (pa_cons (pe_ty (by rfl) B.n_str bt_str) pa_nil))) (pe_one (pe_cmpR (op_eqD hr.units) (pv 0) (pv 1) (nomark _))))))
   pss_nil)
  (pss_cons (ps_if (pt_val (pe_callB call_isi (by rfl) B.n_isinstance bt_isinstance (pa_cons (pv 1) (pa_cons (pe_ty (by rfl) B.n_tuple bt_tuple) pa_nil)))) (pss_one (ps_if (PW.pt (pw_or (pt_not (pt_val (pe_callB call_isi (by rfl) B.n_isinstance bt_isinstance (pa_cons (pv 0) (pa_cons (pe_ty (by rfl) B.n_tuple bt_tuple) pa_nil))))) (pw_or1 (pt_cmpR (op_neD hr.units) (pe_callB call_len (by rfl) B.n_len bt_len (pa_cons (pv 0) pa_nil)) (pe_callB call_len (by rfl) B.n_len bt_len (pa_cons (pv 1) pa_nil)) (nomark _))))) (pss_one (ps_ret pe_bl))
   pss_nil))
   (pss_one (ps_if (PW.pt (pw_or (pt_not (pt_val (pe_callB call_isi (by rfl) B.n_isinstance bt_isinstance (pa_cons (pv 1) (pa_cons (pe_ty (by rfl) B.n_list bt_list) pa_nil))))) (pw_or (pt_not (pt_val (pe_callB call_isi (by rfl) B.n_isinstance bt_isinstance (pa_cons (pv 0) (pa_cons (pe_ty (by rfl) B.n_list bt_list) pa_nil))))) (pw_or1 (pt_cmpR (op_neD hr.units) (pe_callB call_len (by rfl) B.n_len bt_len (pa_cons (pv 0) pa_nil)) (pe_callB call_len (by rfl) B.n_len bt_len (pa_cons (pv 1) pa_nil)) (nomark _)))))) (pss_one (ps_ret pe_bl))
   pss_nil)))
  (pss_cons (ps_for (passes_of rfl) rfl (pi_range1 (by rfl) B.n_range (pa_cons (pe_callB call_len (by rfl) B.n_len bt_len (pa_cons (pv 1) pa_nil)) pa_nil)) (pg_name (i := 2) sc_law_same.nd rfl (by first | exact .inl rfl | exact .inr rfl)) (pss_one (ps_if (pt_not (pt_val (pe_cl R hr (Nat.le_refl _) (by rfl) (fun σ => L2N.passAt tk σ) (pa_cons (pe_ix ix_seq (pv 0) (pv 2) (fun _ _ => rfl)) (pa_cons (pe_ix ix_seq (pv 1) (pv 2) (fun _ _ => rfl)) pa_nil))))) (pss_one (ps_ret pe_bl))
   pss_nil)))
  (pss_one (ps_ret pe_bl)))))))),
     (st_seq (st_if (bt_test (et_op o_isN (et_var 1) et_non)) (st_ret (et_op o_isN (et_var 0) et_non))
   st_next)
  (st_seq (st_if (bt_val (et_isi "bool" (et_var 1))) (st_ret (et_and (et_isi "bool" (et_var 0)) (et_op o_eq (et_var 0) (et_var 1))))
   st_next)
  (st_seq (st_if (bt_val (et_isi "int" (et_var 1))) (st_ret (et_and (et_isi "int" (et_var 0)) (et_and (et_not (et_isi "bool" (et_var 0))) (et_op o_eq (et_var 0) (et_var 1)))))
   st_next)
  (st_seq (st_if (bt_val (et_isi "str" (et_var 1))) (st_ret (et_and (et_isi "str" (et_var 0)) (et_op o_eq (et_var 0) (et_var 1))))
   st_next)
  (st_seq (st_if (bt_val (et_isi "tuple" (et_var 1))) (st_if (bt_or (bt_not (bt_val (et_isi "tuple" (et_var 0)))) (bt_test (et_op o_ne (et_cb c_len (at_cons (et_var 0) at_nil)) (et_cb c_len (at_cons (et_var 1) at_nil))))) (st_ret (et_bl _))
   st_next)
   (st_if (bt_or (bt_not (bt_val (et_isi "list" (et_var 1)))) (bt_or (bt_not (bt_val (et_isi "list" (et_var 0)))) (bt_test (et_op o_ne (et_cb c_len (at_cons (et_var 0) at_nil)) (et_cb c_len (at_cons (et_var 1) at_nil)))))) (st_ret (et_bl _))
   st_next))
  (st_seq (st_for (K := K) (.one 2) (it_range1 (at_cons (et_cb c_len (at_cons (et_var 1) at_nil)) at_nil)) (st_if (bt_not (bt_val (et_call0 [] (fun _ => reps_nil.mpr rfl) (ln_cons (ln_cons ln_nil)) rfl (at_cons (et_op o_ix (et_var 0) (et_var 2)) (at_cons (et_op o_ix (et_var 1) (et_var 2)) at_nil))))) (st_ret (et_bl _))
   st_next))
  (st_ret (et_bl _))))))))⟩
theorem okH_law_same {f : Addr} {fd : FuncData} (B : Blt mg) (D : Df K mg "_law_same" s_law_same ["left", "right"] f fd)  : ∀ n : Nat, CalH P w K mg base "_law_same" (n + 1) ["left", "right"] (spD false 2 (m_law_same n))
  | 0 => CalH.none D (by decide)
  | n + 1 => by
    have R := okH_law_same B D  n
    refine cal_okH (k := n + 1) D sc_law_same rfl rfl fun cdv A outer s H E p hc hr => ?_
    have tk : L2N.Takes (L2H.cxH (L2N.CX P w) P w K mg base N_law_same "_law_same" (defScope s_law_same) f cdv A outer s H E p) (fun cls d _ H => E cls d H) := L2N.takes_of rfl rfl rfl rfl
    exact ⟨_, (pss_cons (ps_if (pt_cmpR op_isN (pv 1) pe_non (nomark _)) (pss_one (ps_ret (pe_cmpR op_isN (pv 0) pe_non (nomark _))))
   pss_nil)
  (pss_cons (ps_if (pt_val (pe_callB call_isi (by rfl) B.n_isinstance bt_isinstance (pa_cons (pv 1) (pa_cons (pe_ty (by rfl) B.n_bool bt_bool) pa_nil)))) (pss_one (ps_ret (pe_and (pe_callB call_isi (by rfl) B.n_isinstance bt_isinstance (pa_cons (pv 0) (pa_cons (pe_ty (by rfl) B.n_bool bt_bool) pa_nil))) (pe_one (pe_cmpR (op_eqD (unitsH hr)) (pv 0) (pv 1) (nomark _))))))
   pss_nil)
  (pss_cons (ps_if (pt_val (pe_callB call_isi (by rfl) B.n_isinstance bt_isinstance (pa_cons (pv 1) (pa_cons (pe_ty (by rfl) B.n_int bt_int) pa_nil)))) (pss_one (ps_ret (pe_and (pe_callB call_isi (by rfl) B.n_isinstance bt_isinstance (pa_cons (pv 0) (pa_cons (pe_ty (by rfl) B.n_int bt_int) pa_nil))) (pe_and (pe_not (pe_callB call_isi (by rfl) B.n_isinstance bt_isinstance (pa_cons (pv 0) (pa_cons (pe_ty (by rfl) B.n_bool bt_bool) pa_nil)))) (pe_one (pe_cmpR (op_eqD (unitsH hr)) (pv 0) (pv 1) (nomark _)))))))
   pss_nil)
  (pss_cons (ps_if (pt_val (pe_callB call_isi (by rfl) B.n_isinstance bt_isinstance (pa_cons (pv 1) (pa_cons (pe_ty (by rfl) B.n_str bt_str) pa_nil)))) (pss_one (ps_ret (pe_and (pe_callB call_isi (by rfl) B.n_isinstance bt_isinstance (pa_cons (pv 0) (pa_cons (pe_ty (by rfl) B.n_str bt_str) pa_nil))) (pe_one (pe_cmpR (op_eqD (unitsH hr)) (pv 0) (pv 1) (nomark _))))))
   pss_nil)
  (pss_cons (ps_if (pt_val (pe_callB call_isi (by rfl) B.n_isinstance bt_isinstance (pa_cons (pv 1) (pa_cons (pe_ty (by rfl) B.n_tuple bt_tuple) pa_nil)))) (pss_one (ps_if (PW.pt (pw_or (pt_not (pt_val (pe_callB call_isi (by rfl) B.n_isinstance bt_isinstance (pa_cons (pv 0) (pa_cons (pe_ty (by rfl) B.n_tuple bt_tuple) pa_nil))))) (pw_or1 (pt_cmpR (op_neD (unitsH hr)) (pe_callB call_len (by rfl) B.n_len bt_len (pa_cons (pv 0) pa_nil)) (pe_callB call_len (by rfl) B.n_len bt_len (pa_cons (pv 1) pa_nil)) (nomark _))))) (pss_one (ps_ret pe_bl))
   pss_nil))
   (pss_one (ps_if (PW.pt (pw_or (pt_not (pt_val (pe_callB call_isi (by rfl) B.n_isinstance bt_isinstance (pa_cons (pv 1) (pa_cons (pe_ty (by rfl) B.n_list bt_list) pa_nil))))) (pw_or (pt_not (pt_val (pe_callB call_isi (by rfl) B.n_isinstance bt_isinstance (pa_cons (pv 0) (pa_cons (pe_ty (by rfl) B.n_list bt_list) pa_nil))))) (pw_or1 (pt_cmpR (op_neD (unitsH hr)) (pe_callB call_len (by rfl) B.n_len bt_len (pa_cons (pv 0) pa_nil)) (pe_callB call_len (by rfl) B.n_len bt_len (pa_cons (pv 1) pa_nil)) (nomark _)))))) (pss_one (ps_ret pe_bl))
   pss_nil)))
  (pss_cons (L2H.ps_forH (passes_of rfl) hc (L2H.pi_range1H (by rfl) B.n_range (pa_cons (pe_callB call_len (by rfl) B.n_len bt_len (pa_cons (pv 1) pa_nil)) pa_nil)) (pg_name (i := 2) sc_law_same.nd rfl (by first | exact .inl rfl | exact .inr rfl)) (pss_one (ps_if (pt_not (pt_val (pe_clH R hr (Nat.le_refl _) hc (by rfl) (fun σ => L2N.passAt tk σ) (pa_cons (pe_ix ix_seq (pv 0) (pv 2) (fun _ _ => rfl)) (pa_cons (pe_ix ix_seq (pv 1) (pv 2) (fun _ _ => rfl)) pa_nil))))) (pss_one (ps_ret pe_bl))
   pss_nil)))
  (pss_one (ps_ret pe_bl)))))))),
     (st_seq (st_if (bt_test (et_op o_isN (et_var 1) et_non)) (st_ret (et_op o_isN (et_var 0) et_non))
   st_next)
  (st_seq (st_if (bt_val (et_isi "bool" (et_var 1))) (st_ret (et_and (et_isi "bool" (et_var 0)) (et_op o_eq (et_var 0) (et_var 1))))
   st_next)
  (st_seq (st_if (bt_val (et_isi "int" (et_var 1))) (st_ret (et_and (et_isi "int" (et_var 0)) (et_and (et_not (et_isi "bool" (et_var 0))) (et_op o_eq (et_var 0) (et_var 1)))))
   st_next)
  (st_seq (st_if (bt_val (et_isi "str" (et_var 1))) (st_ret (et_and (et_isi "str" (et_var 0)) (et_op o_eq (et_var 0) (et_var 1))))
   st_next)
  (st_seq (st_if (bt_val (et_isi "tuple" (et_var 1))) (st_if (bt_or (bt_not (bt_val (et_isi "tuple" (et_var 0)))) (bt_test (et_op o_ne (et_cb c_len (at_cons (et_var 0) at_nil)) (et_cb c_len (at_cons (et_var 1) at_nil))))) (st_ret (et_bl _))
   st_next)
   (st_if (bt_or (bt_not (bt_val (et_isi "list" (et_var 1)))) (bt_or (bt_not (bt_val (et_isi "list" (et_var 0)))) (bt_test (et_op o_ne (et_cb c_len (at_cons (et_var 0) at_nil)) (et_cb c_len (at_cons (et_var 1) at_nil)))))) (st_ret (et_bl _))
   st_next))
  (st_seq (st_for (K := K) (.one 2) (it_range1 (at_cons (et_cb c_len (at_cons (et_var 1) at_nil)) at_nil)) (st_if (bt_not (bt_val (et_call0 [] (fun _ => reps_nil.mpr rfl) (ln_cons (ln_cons ln_nil)) rfl (at_cons (et_op o_ix (et_var 0) (et_var 2)) (at_cons (et_op o_ix (et_var 1) (et_var 2)) at_nil))))) (st_ret (et_bl _))
   st_next))
  (st_ret (et_bl _))))))))⟩
/-! ### _law_canon -/
abbrev s_law_canon : Stmt := top 36
abbrev N_law_canon : List Str := ["labels", "names", "k", "at", "j"]
theorem sc_law_canon : FnScope N_law_canon ["labels"] (defScope s_law_canon) := ⟨rfl, rfl, rfl, by decide +kernel, rfl, by decide +kernel, by decide +kernel⟩
def b_law_canon  : Ph Ctl := (mSeq (mSetO 1 (mLst mNil))
  (mSeq (mFor (.one 2) (mRange1 (mCons (mCB (pureC lenC) (mCons (mVar 0) mNil)) mNil)) (mSeq (mSet 3 (mVar 2))
  (mSeq (mFor (.one 4) (mRange1 (mCons (mVar 2) mNil)) (mIfS (mB (m2 gEq (m2 gIx (mVar 0) (mVar 4)) (m2 gIx (mVar 0) (mVar 2)))) (mSeq (mSet 3 (mVar 4))
  mBreak)
   mNext))
  (mApp 1 (mVar 3)))))
  (mRet (mTupO 1))))
def m_law_canon  : Fn := runD false 4 (b_law_canon )
theorem ok_law_canon {f : Addr} {fd : FuncData}  (B : Blt mg) (D : Df K mg "_law_canon" s_law_canon ["labels"] f fd)  : Cal P w K mg base "_law_canon" 1 ["labels"] (spD false 1 (m_law_canon )) :=
  cal_ok D sc_law_canon rfl rfl fun cdv A outer s H E hr => by
  have tk : L2N.Takes (cxOf (L2N.CX P w) P w K mg base N_law_canon "_law_canon" (defScope s_law_canon) f cdv A outer s H E) (fun cls d _ H => E cls d H) := L2N.takes_of rfl rfl rfl rfl
  exact ⟨_, (pss_cons (ps_set (i := 1) sc_law_canon.nd rfl (by first | exact .inl rfl | exact .inr rfl) (pe_lst pa_nil))
  (pss_cons (ps_for (passes_of rfl) rfl (pi_range1 (by rfl) B.n_range (pa_cons (pe_callB call_len (by rfl) B.n_len bt_len (pa_cons (pv 0) pa_nil)) pa_nil)) (pg_name (i := 2) sc_law_canon.nd rfl (by first | exact .inl rfl | exact .inr rfl)) (pss_cons (ps_set (i := 3) sc_law_canon.nd rfl (by first | exact .inl rfl | exact .inr rfl) (pv 2))
  (pss_cons (ps_for (passes_of rfl) rfl (pi_range1 (by rfl) B.n_range (pa_cons (pv 2) pa_nil)) (pg_name (i := 4) sc_law_canon.nd rfl (by first | exact .inl rfl | exact .inr rfl)) (pss_one (ps_if (pt_cmpR (op_eqD hr.units) (pe_ix ix_seq (pv 0) (pv 4) (fun _ _ => rfl)) (pe_ix ix_seq (pv 0) (pv 2) (fun _ _ => rfl)) (nomark _)) (pss_cons (ps_set (i := 3) sc_law_canon.nd rfl (by first | exact .inl rfl | exact .inr rfl) (pv 4))
  (pss_one ps_break))
   pss_nil)))
  (pss_one (ps_expr (pe_bm PySem.F.plainAttrs_list PySem.F.slot_list_append PySem.F.type_list_append mt_append (pv 1) (pa_cons (pv 3) pa_nil)))))))
  (pss_one (ps_ret (pe_callTy call_tupF (by rfl) B.n_tuple bt_tuple (pa_cons (pv 1) pa_nil)))))),
  (st_seq (st_setO 1 (ot_lst at_nil))
  (st_seq (st_for (K := K) (.one 2) (it_range1 (at_cons (et_cb c_len (at_cons (et_var 0) at_nil)) at_nil)) (st_seq (st_set 3 (et_var 2))
  (st_seq (st_for (K := K) (.one 4) (it_range1 (at_cons (et_var 2) at_nil)) (st_if (bt_test (et_op o_eq (et_op o_ix (et_var 0) (et_var 4)) (et_op o_ix (et_var 0) (et_var 2)))) (st_seq (st_set 3 (et_var 4))
  st_break)
   st_next))
  (st_app 1 (et_var 3)))))
  (st_ret (et_tupO 1))))⟩
/-! ### _law_parting -/
abbrev s_law_parting : Stmt := top 37
abbrev N_law_parting : List Str := ["store", "plots", "kind", "size", "k"]
theorem sc_law_parting : FnScope N_law_parting ["store", "plots"] (defScope s_law_parting) := ⟨rfl, rfl, rfl, by decide +kernel, rfl, by decide +kernel, by decide +kernel⟩
def b_law_parting  : Ph Ctl := (mSeq (mSet 2 (mCall1 m_law_take 0 (mCons (mC (.int 8)) mNil)))
  (mSeq (mSet 3 (m2 gAdd (mC (.int 1)) (mCall1 m_law_take 0 (mCons (mVar 1) mNil))))
  (mSeq (mIfS (mB (m2 gEq (mVar 2) (mC (.int 0)))) (mRet (mCall0 m_law_canon [] (mCons (mFrz (mLc (.one 4) [4] (mRange1 (mCons (mVar 1) mNil)) mYes (mC (.int 0)))) mNil)))
   mNext)
  (mSeq (mIfS (mB (m2 gEq (mVar 2) (mC (.int 1)))) (mRet (mRgT (mVar 1)))
   mNext)
  (mSeq (mIfS (mB (m2 gEq (mVar 2) (mC (.int 2)))) (mRet (mCall0 m_law_canon [] (mCons (mFrz (mLc (.one 4) [4] (mRange1 (mCons (mVar 1) mNil)) mYes (m2 gFdiv (mVar 4) (mVar 3)))) mNil)))
   mNext)
  (mSeq (mIfS (mB (m2 gEq (mVar 2) (mC (.int 3)))) (mRet (mCall0 m_law_canon [] (mCons (mFrz (mLc (.one 4) [4] (mRange1 (mCons (mVar 1) mNil)) mYes (m2 gMod (mCB (pureC intC) (mCons (mVar 4) mNil)) (mVar 3)))) mNil)))
   mNext)
  (mSeq (mIfS (mB (m2 gEq (mVar 2) (mC (.int 4)))) (mRet (mCall0 m_law_canon [] (mCons (mFrz (mLc (.one 4) [4] (mRange1 (mCons (mVar 1) mNil)) mYes (mCB (pureC intC) (mCons (m2 gEq (mVar 4) (m2 gMinus (mVar 3) (mC (.int 1)))) mNil)))) mNil)))
   mNext)
  (mSeq (mIfS (mB (m2 gEq (mVar 2) (mC (.int 5)))) (mSet 3 (mCB (pureC minC) (mCons (mVar 1) (mCons (mC (.int 2)) mNil))))
   mNext)
  (mRet (mCall0 m_law_canon [] (mCons (mFrz (mLc (.one 4) [4] (mRange1 (mCons (mVar 1) mNil)) mYes (mCall1 m_law_take 0 (mCons (mVar 3) mNil)))) mNil)))))))))))
def m_law_parting  : Fn := runD true 3 (b_law_parting )
theorem ok_law_parting {f : Addr} {fd : FuncData}  (B : Blt mg) (D : Df K mg "_law_parting" s_law_parting ["store", "plots"] f fd) (C_law_take : Cal P w K mg base "_law_take" 2 ["store", "many"] (spD true 1 m_law_take)) (C_law_canon : Cal P w K mg base "_law_canon" 1 ["labels"] (spD false 1 m_law_canon)) : Cal P w K mg base "_law_parting" 3 ["store", "plots"] (spD true 1 (m_law_parting )) :=
  cal_ok D sc_law_parting rfl rfl fun cdv A outer s H E hr => by
  have tk : L2N.Takes (cxOf (L2N.CX P w) P w K mg base N_law_parting "_law_parting" (defScope s_law_parting) f cdv A outer s H E) (fun cls d _ H => E cls d H) := L2N.takes_of rfl rfl rfl rfl
  exact ⟨_, (pss_cons (ps_set (i := 2) sc_law_parting.nd rfl (by first | exact .inl rfl | exact .inr rfl) (pe_cl C_law_take hr (by decide) (by rfl) (fun σ => L2N.passAt tk σ) (pa_cons (pv 0) (pa_cons pe_int pa_nil))))
  (pss_cons (ps_set (i := 3) sc_law_parting.nd rfl (by first | exact .inl rfl | exact .inr rfl) (pe_op op_add pe_int (pe_cl C_law_take hr (by decide) (by rfl) (fun σ => L2N.passAt tk σ) (pa_cons (pv 0) (pa_cons (pv 1) pa_nil)))))
  (pss_cons (ps_if (pt_cmpR (op_eqD hr.units) (pv 2) pe_int (nomark _)) (pss_one (ps_ret (pe_cl C_law_canon hr (by decide) (by rfl) (fun σ => L2N.passAt tk σ) (pa_cons (pe_lc (own := [("k", 4)]) (scope := { kind := PySem.ScopeKind.function, names := [(PySem.Str.ofString ".0", PySem.NameKind.local), (PySem.Str.ofString "k", PySem.NameKind.local)], isGenerator := false, isCoroutine := false, more := [] : PySem.Scope }) rfl sc_law_parting.nd (pi_range1 (by rfl) B.n_range (pa_cons (pv 1) pa_nil)) (blkOk_by (N := N_law_parting) (sc := (defScope s_law_parting)) (by decide +kernel)) (fun _ _ _ _ _ => (pg_name (i := 4) sc_law_parting.nd rfl (by first | exact .inl rfl | exact .inr rfl))) (fun _ _ _ _ _ => pts_nil) (fun _ _ _ _ _ => pe_int)) pa_nil))))
   pss_nil)
  (pss_cons (ps_if (pt_cmpR (op_eqD hr.units) (pv 2) pe_int (nomark _)) (pss_one (ps_ret (pe_tupRgF rfl (by rfl) B.n_tuple (prg_1 (by rfl) B.n_range (pv 1)))))
   pss_nil)
  (pss_cons (ps_if (pt_cmpR (op_eqD hr.units) (pv 2) pe_int (nomark _)) (pss_one (ps_ret (pe_cl C_law_canon hr (by decide) (by rfl) (fun σ => L2N.passAt tk σ) (pa_cons (pe_lc (own := [("k", 4)]) (scope := { kind := PySem.ScopeKind.function, names := [ (PySem.Str.ofString ".0", PySem.NameKind.local), (PySem.Str.ofString "k", PySem.NameKind.local), (PySem.Str.ofString "size", PySem.NameKind.free)], isGenerator := false, isCoroutine := false, more := [] : PySem.Scope }) rfl sc_law_parting.nd (pi_range1 (by rfl) B.n_range (pa_cons (pv 1) pa_nil)) (blkOk_by (N := N_law_parting) (sc := (defScope s_law_parting)) (by decide +kernel)) (fun _ _ _ _ _ => (pg_name (i := 4) sc_law_parting.nd rfl (by first | exact .inl rfl | exact .inr rfl))) (fun _ _ _ _ _ => pts_nil) (fun _ _ _ _ _ => (pe_op op_fdivW (pv 4) (pv 3)))) pa_nil))))
   pss_nil)
  (pss_cons (ps_if (pt_cmpR (op_eqD hr.units) (pv 2) pe_int (nomark _)) (pss_one (ps_ret (pe_cl C_law_canon hr (by decide) (by rfl) (fun σ => L2N.passAt tk σ) (pa_cons (pe_lc (own := [("k", 4)]) (scope := { kind := PySem.ScopeKind.function, names := [ (PySem.Str.ofString ".0", PySem.NameKind.local), (PySem.Str.ofString "k", PySem.NameKind.local), (PySem.Str.ofString "int", PySem.NameKind.globalImplicit), (PySem.Str.ofString "size", PySem.NameKind.free)], isGenerator := false, isCoroutine := false, more := [] : PySem.Scope }) rfl sc_law_parting.nd (pi_range1 (by rfl) B.n_range (pa_cons (pv 1) pa_nil)) (blkOk_by (N := N_law_parting) (sc := (defScope s_law_parting)) (by decide +kernel)) (fun _ _ _ _ _ => (pg_name (i := 4) sc_law_parting.nd rfl (by first | exact .inl rfl | exact .inr rfl))) (fun _ _ _ _ _ => pts_nil) (fun _ _ _ _ _ => (pe_op op_mod (pe_callTy call_int1 (by rfl) B.n_int bt_int (pa_cons (pv 4) pa_nil)) (pv 3)))) pa_nil))))
   pss_nil)
  (pss_cons (ps_if (pt_cmpR (op_eqD hr.units) (pv 2) pe_int (nomark _)) (pss_one (ps_ret (pe_cl C_law_canon hr (by decide) (by rfl) (fun σ => L2N.passAt tk σ) (pa_cons (pe_lc (own := [("k", 4)]) (scope := { kind := PySem.ScopeKind.function, names := [ (PySem.Str.ofString ".0", PySem.NameKind.local), (PySem.Str.ofString "k", PySem.NameKind.local), (PySem.Str.ofString "int", PySem.NameKind.globalImplicit), (PySem.Str.ofString "size", PySem.NameKind.free)], isGenerator := false, isCoroutine := false, more := [] : PySem.Scope }) rfl sc_law_parting.nd (pi_range1 (by rfl) B.n_range (pa_cons (pv 1) pa_nil)) (blkOk_by (N := N_law_parting) (sc := (defScope s_law_parting)) (by decide +kernel)) (fun _ _ _ _ _ => (pg_name (i := 4) sc_law_parting.nd rfl (by first | exact .inl rfl | exact .inr rfl))) (fun _ _ _ _ _ => pts_nil) (fun _ _ _ _ _ => (pe_callTy call_int1 (by rfl) B.n_int bt_int (pa_cons (pe_cmpR (op_eqD hr.units) (pv 4) (pe_op op_sub (pv 3) pe_int) (nomark _)) pa_nil)))) pa_nil))))
   pss_nil)
  (pss_cons (ps_if (pt_cmpR (op_eqD hr.units) (pv 2) pe_int (nomark _)) (pss_one (ps_set (i := 3) sc_law_parting.nd rfl (by first | exact .inl rfl | exact .inr rfl) (pe_callB (call_min2 rfl) (by rfl) B.n_min bt_min (pa_cons (pv 1) (pa_cons pe_int pa_nil)))))
   pss_nil)
  (pss_one (ps_ret (pe_cl C_law_canon hr (by decide) (by rfl) (fun σ => L2N.passAt tk σ) (pa_cons (pe_lc (own := [("k", 4)]) (scope := { kind := PySem.ScopeKind.function, names := [ (PySem.Str.ofString ".0", PySem.NameKind.local), (PySem.Str.ofString "k", PySem.NameKind.local), (PySem.Str.ofString "_law_take", PySem.NameKind.globalImplicit), (PySem.Str.ofString "size", PySem.NameKind.free), (PySem.Str.ofString "store", PySem.NameKind.free)], isGenerator := false, isCoroutine := false, more := [] : PySem.Scope }) rfl sc_law_parting.nd (pi_range1 (by rfl) B.n_range (pa_cons (pv 1) pa_nil)) (blkOk_by (N := N_law_parting) (sc := (defScope s_law_parting)) (by decide +kernel)) (fun _ _ _ _ _ => (pg_name (i := 4) sc_law_parting.nd rfl (by first | exact .inl rfl | exact .inr rfl))) (fun _ _ _ _ _ => pts_nil) (fun _ _ _ _ _ => (pe_cl C_law_take hr (by decide) (by rfl) (fun σ => passN0 σ) (pa_cons (pv 0) (pa_cons (pv 3) pa_nil))))) pa_nil)))))))))))),
  (st_seq (st_set 2 (et_call1 0 (ln_cons ln_nil) (at_cons (et_int _) at_nil)))
  (st_seq (st_set 3 (et_op o_add (et_int _) (et_call1 0 (ln_cons ln_nil) (at_cons (et_var 1) at_nil))))
  (st_seq (st_if (bt_test (et_op o_eq (et_var 2) (et_int _))) (st_ret (et_call0 [] (fun _ => reps_nil.mpr rfl) (ln_cons ln_nil) rfl (at_cons (et_frz (ot_lc (K := K) (.one 4) [4] (by decide) (it_range1 (at_cons (et_var 1) at_nil)) bt_yes (et_int _))) at_nil)))
   st_next)
  (st_seq (st_if (bt_test (et_op o_eq (et_var 2) (et_int _))) (st_ret (et_tupRg (et_var 1)))
   st_next)
  (st_seq (st_if (bt_test (et_op o_eq (et_var 2) (et_int _))) (st_ret (et_call0 [] (fun _ => reps_nil.mpr rfl) (ln_cons ln_nil) rfl (at_cons (et_frz (ot_lc (K := K) (.one 4) [4] (by decide) (it_range1 (at_cons (et_var 1) at_nil)) bt_yes (et_op o_fdiv (et_var 4) (et_var 3)))) at_nil)))
   st_next)
  (st_seq (st_if (bt_test (et_op o_eq (et_var 2) (et_int _))) (st_ret (et_call0 [] (fun _ => reps_nil.mpr rfl) (ln_cons ln_nil) rfl (at_cons (et_frz (ot_lc (K := K) (.one 4) [4] (by decide) (it_range1 (at_cons (et_var 1) at_nil)) bt_yes (et_op o_mod (et_cb c_int (at_cons (et_var 4) at_nil)) (et_var 3)))) at_nil)))
   st_next)
  (st_seq (st_if (bt_test (et_op o_eq (et_var 2) (et_int _))) (st_ret (et_call0 [] (fun _ => reps_nil.mpr rfl) (ln_cons ln_nil) rfl (at_cons (et_frz (ot_lc (K := K) (.one 4) [4] (by decide) (it_range1 (at_cons (et_var 1) at_nil)) bt_yes (et_cb c_int (at_cons (et_op o_eq (et_var 4) (et_op o_sub (et_var 3) (et_int _))) at_nil)))) at_nil)))
   st_next)
  (st_seq (st_if (bt_test (et_op o_eq (et_var 2) (et_int _))) (st_set 3 (et_cb c_min (at_cons (et_var 1) (at_cons (et_int _) at_nil))))
   st_next)
  (st_ret (et_call0 [] (fun _ => reps_nil.mpr rfl) (ln_cons ln_nil) rfl (at_cons (et_frz (ot_lc (K := K) (.one 4) [4] (by decide) (it_range1 (at_cons (et_var 1) at_nil)) bt_yes (et_call1 0 (ln_cons ln_nil) (at_cons (et_var 3) at_nil)))) at_nil)))))))))))⟩
/-! ### _law_nudged -/
abbrev s_law_nudged : Stmt := top 38
abbrev N_law_nudged : List Str := ["store", "names", "labels"]
theorem sc_law_nudged : FnScope N_law_nudged ["store", "names"] (defScope s_law_nudged) := ⟨rfl, rfl, rfl, by decide +kernel, rfl, by decide +kernel, by decide +kernel⟩
def b_law_nudged  : Ph Ctl := (mSeq (mSetO 2 (mCBo gList (mCons (mVar 1) mNil)))
  (mSeq (mSetI 2 (mCall1 m_law_take 0 (mCons (m2 gAdd (mLenO 2) (mC (.int 1))) mNil)) (mCall1 m_law_take 0 (mCons (mLenO 2) mNil)))
  (mGh 2 (mRet (mCall0 m_law_canon [] (mCons (mVar 2) mNil))))))
def m_law_nudged  : Fn := runD true 1 (b_law_nudged )
theorem ok_law_nudged {f : Addr} {fd : FuncData}  (B : Blt mg) (D : Df K mg "_law_nudged" s_law_nudged ["store", "names"] f fd) (C_law_take : Cal P w K mg base "_law_take" 2 ["store", "many"] (spD true 1 m_law_take)) (C_law_canon : Cal P w K mg base "_law_canon" 1 ["labels"] (spD false 1 m_law_canon)) : Cal P w K mg base "_law_nudged" 3 ["store", "names"] (spD true 1 (m_law_nudged )) :=
  cal_ok D sc_law_nudged rfl rfl fun cdv A outer s H E hr => by
  have tk : L2N.Takes (cxOf (L2N.CX P w) P w K mg base N_law_nudged "_law_nudged" (defScope s_law_nudged) f cdv A outer s H E) (fun cls d _ H => E cls d H) := L2N.takes_of rfl rfl rfl rfl
  exact ⟨_, (pss_cons (ps_set (i := 2) sc_law_nudged.nd rfl (by first | exact .inl rfl | exact .inr rfl) (pe_callTy call_list_of (by rfl) B.n_list bt_list (pa_cons (pv 1) pa_nil)))
  (pss_cons (ps_asg (pe_cl C_law_take hr (by decide) (by rfl) (fun σ => L2N.passAt tk σ) (pa_cons (pv 0) (pa_cons (pe_op op_add (pe_callB call_len (by rfl) B.n_len bt_len (pa_cons (pv 2) pa_nil)) pe_int) pa_nil))) (pg_sub (pv 2) (pe_cl C_law_take hr (by decide) (by rfl) (fun σ => L2N.passAt tk σ) (pa_cons (pv 0) (pa_cons (pe_callB call_len (by rfl) B.n_len bt_len (pa_cons (pv 2) pa_nil)) pa_nil))) set_list))
  (pss_one (ps_ret (pe_cl C_law_canon hr (by decide) (by rfl) (fun σ => L2N.passAt tk σ) (pa_cons (pv 2) pa_nil)))))),
  (st_seq (st_setO 2 (ot_cb c_list (at_cons (et_var 1) at_nil)))
  (st_seq (st_setI 2 (et_call1 0 (ln_cons ln_nil) (at_cons (et_op o_add (et_lenO 2) (et_int _)) at_nil)) (et_call1 0 (ln_cons ln_nil) (at_cons (et_lenO 2) at_nil)))
  (st_gh 2 (st_ret (et_call0 [] (fun _ => reps_nil.mpr rfl) (ln_cons ln_nil) rfl (at_cons (et_var 2) at_nil))))))⟩
/-! ### _law_otherplots -/
abbrev s_law_otherplots : Stmt := top 39
abbrev N_law_otherplots : List Str := ["store", "plots", "other"]
theorem sc_law_otherplots : FnScope N_law_otherplots ["store", "plots"] (defScope s_law_otherplots) := ⟨rfl, rfl, rfl, by decide +kernel, rfl, by decide +kernel, by decide +kernel⟩
def b_law_otherplots  : Ph Ctl := (mSeq (mSet 2 (m2 gAdd (mC (.int 1)) (mCall1 m_law_take 0 (mCons (mC (.int 15)) mNil))))
  (mSeq (mIfS (mB (mCall1 m_law_once 0 (mCons (mC (.int 2)) mNil))) (mSet 2 (mCB (pureC maxC) (mCons (mC (.int 1)) (mCons (m2 gMinus (mVar 1) (mC (.int 1))) mNil))))
   mNext)
  (mSeq (mIfS (mB (m2 gGe (mVar 2) (mVar 1))) (mSet 2 (m2 gAdd (mVar 2) (mC (.int 1))))
   mNext)
  (mRet (mVar 2)))))
def m_law_otherplots  : Fn := runD true 1 (b_law_otherplots )
theorem ok_law_otherplots {f : Addr} {fd : FuncData}  (B : Blt mg) (D : Df K mg "_law_otherplots" s_law_otherplots ["store", "plots"] f fd) (C_law_take : Cal P w K mg base "_law_take" 2 ["store", "many"] (spD true 1 m_law_take)) (C_law_once : Cal P w K mg base "_law_once" 3 ["store", "many"] (spD true 1 m_law_once)) : Cal P w K mg base "_law_otherplots" 4 ["store", "plots"] (spD true 1 (m_law_otherplots )) :=
  cal_ok D sc_law_otherplots rfl rfl fun cdv A outer s H E hr => by
  have tk : L2N.Takes (cxOf (L2N.CX P w) P w K mg base N_law_otherplots "_law_otherplots" (defScope s_law_otherplots) f cdv A outer s H E) (fun cls d _ H => E cls d H) := L2N.takes_of rfl rfl rfl rfl
  exact ⟨_, (pss_cons (ps_set (i := 2) sc_law_otherplots.nd rfl (by first | exact .inl rfl | exact .inr rfl) (pe_op op_add pe_int (pe_cl C_law_take hr (by decide) (by rfl) (fun σ => L2N.passAt tk σ) (pa_cons (pv 0) (pa_cons pe_int pa_nil)))))
  (pss_cons (ps_if (pt_val (pe_cl C_law_once hr (by decide) (by rfl) (fun σ => L2N.passAt tk σ) (pa_cons (pv 0) (pa_cons pe_int pa_nil)))) (pss_one (ps_set (i := 2) sc_law_otherplots.nd rfl (by first | exact .inl rfl | exact .inr rfl) (pe_callB (call_max2 rfl) (by rfl) B.n_max bt_max (pa_cons pe_int (pa_cons (pe_op op_sub (pv 1) pe_int) pa_nil)))))
   pss_nil)
  (pss_cons (ps_if (pt_cmpR op_ge (pv 2) (pv 1) (nomark _)) (pss_one (ps_set (i := 2) sc_law_otherplots.nd rfl (by first | exact .inl rfl | exact .inr rfl) (pe_op op_add (pv 2) pe_int)))
   pss_nil)
  (pss_one (ps_ret (pv 2)))))),
  (st_seq (st_set 2 (et_op o_add (et_int _) (et_call1 0 (ln_cons ln_nil) (at_cons (et_int _) at_nil))))
  (st_seq (st_if (bt_val (et_call1 0 (ln_cons ln_nil) (at_cons (et_int _) at_nil))) (st_set 2 (et_cb c_max (at_cons (et_int _) (at_cons (et_op o_sub (et_var 1) (et_int _)) at_nil))))
   st_next)
  (st_seq (st_if (bt_test (et_op o_ge (et_var 2) (et_var 1))) (st_set 2 (et_op o_add (et_var 2) (et_int _)))
   st_next)
  (st_ret (et_var 2)))))⟩
/-! ### _law_pair -/
abbrev s_law_pair : Stmt := top 40
abbrev N_law_pair : List Str := ["store", "most", "kind", "first", "one", "two", "three", "coarse", "order", "pair", "j", "rules", "labels", "plot", "point", "many", "k"]
theorem sc_law_pair : FnScope N_law_pair ["store", "most"] (defScope s_law_pair) := ⟨rfl, rfl, rfl, by decide +kernel, rfl, by decide +kernel, by decide +kernel⟩
def b_law_pair  : Ph Ctl := (mSeq (mSet 2 (mCall1 m_law_take 0 (mCons (mC (.int 8)) mNil)))
  (mSeq (mIfS (mB (m2 gLt (mVar 2) (mC (.int 2)))) (mSeq (mSet 3 (mCall1 m_law_parting 0 (mCons (m2 gAdd (mC (.int 1)) (mCall1 m_law_take 0 (mCons (mVar 1) mNil))) mNil)))
  (mRet (mTup (mCons (mVar 3) (mCons (mCall1 m_law_parting 0 (mCons (mCB (pureC lenC) (mCons (mVar 3) mNil)) mNil)) mNil)))))
   mNext)
  (mSeq (mSet 4 (m2 gAdd (mC (.int 1)) (mCall1 m_law_take 0 (mCons (mCB (pureC minC) (mCons (mVar 1) (mCons (mC (.int 4)) mNil))) mNil))))
  (mSeq (mSet 5 (m2 gAdd (mC (.int 1)) (mCall1 m_law_take 0 (mCons (mCB (pureC minC) (mCons (m2 gFdiv (mVar 1) (mVar 4)) (mCons (mC (.int 4)) mNil))) mNil))))
  (mSeq (mSet 6 (m2 gAdd (mC (.int 1)) (mCall1 m_law_take 0 (mCons (mCB (pureC minC) (mCons (m2 gFdiv (mVar 1) (m2 gMul (mVar 4) (mVar 5))) (mCons (mC (.int 3)) mNil))) mNil))))
  (mSeq (mSet 7 (mFrz (mLc (.one 15) [15] (mSeqI (mTup (mCons (mVar 4) (mCons (mVar 5) (mCons (mVar 6) mNil))))) mYes (mCall1 m_law_parting 0 (mCons (mVar 15) mNil)))))
  (mSeq (mSet 8 (mCall1 m_law_shuffle 0 (mCons (m2 gMul (m2 gMul (mVar 4) (mVar 5)) (mVar 6)) mNil)))
  (mSeq (mSetO 9 (mLst mNil))
  (mSeq (mFor (.one 10) (mRange1 (mCons (mC (.int 2)) mNil)) (mSeq (mSet 11 (mFrz (mLc (.one 16) [16] (mRange1 (mCons (mC (.int 3)) mNil)) mYes (mCall1 m_law_take 0 (mCons (mC (.int 3)) mNil)))))
  (mSeq (mSetO 12 (mCBo gList (mCons (mVar 8) mNil)))
  (mSeq (mFor (.one 13) (mRange1 (mCons (mCB (pureC lenC) (mCons (mVar 8) mNil)) mNil)) (mSeq (mSet 14 (mTup (mCons (m2 gFdiv (mVar 13) (m2 gMul (mVar 5) (mVar 6))) (mCons (m2 gMod (mCB (pureC intC) (mCons (m2 gFdiv (mVar 13) (mVar 6)) mNil)) (mVar 5)) (mCons (m2 gMod (mCB (pureC intC) (mCons (mVar 13) mNil)) (mVar 6)) mNil)))))
  (mSetI 12 (mCB gTuple (mCons (mFrz (mLc (.one 16) [16] (mRange1 (mCons (mC (.int 3)) mNil)) mYes (m2 gIx (mTup (mCons (mC (.int 0)) (mCons (m2 gIx (m2 gIx (mVar 7) (mVar 16)) (m2 gIx (mVar 14) (mVar 16))) (mCons (m2 gIx (mVar 14) (mVar 16)) mNil)))) (m2 gIx (mVar 11) (mVar 16))))) mNil)) (m2 gIx (mVar 8) (mVar 13)))))
  (mGh 12 (mApp 9 (mCall0 m_law_canon [] (mCons (mVar 12) mNil))))))))
  (mSeq (mIfS (mOr (mB (m2 gEq (mVar 2) (mC (.int 2)))) (mAnd (mB (m2 gGt (mVar 2) (mC (.int 4)))) (mB (m2 gEq (mIxO 9 (mC (.int 0))) (mIxO 9 (mC (.int 1))))))) (mRet (mTup (mCons (mIxO 9 (mC (.int 0))) (mCons (mCall1 m_law_nudged 0 (mCons (mIxO 9 (mC (.int 1))) mNil)) mNil))))
   mNext)
  (mSeq (mIfS (mB (m2 gEq (mVar 2) (mC (.int 3)))) (mRet (mTup (mCons (mIxO 9 (mC (.int 0))) (mCons (mCall0 m_law_canon [] (mCons (mFrz (mLc (.one 16) [16] (mRange1 (mCons (mCB (pureC lenC) (mCons (mVar 8) mNil)) mNil)) mYes (mTup (mCons (m2 gIx (mIxO 9 (mC (.int 0))) (mVar 16)) (mCons (m2 gIx (mIxO 9 (mC (.int 1))) (mVar 16)) mNil))))) mNil)) mNil))))
   mNext)
  (mRet (mTup (mCons (mIxO 9 (mC (.int 0))) (mCons (mIxO 9 (mC (.int 1))) mNil)))))))))))))))
def m_law_pair  : Fn := runD true 15 (b_law_pair )
theorem ok_law_pair {f : Addr} {fd : FuncData}  (B : Blt mg) (D : Df K mg "_law_pair" s_law_pair ["store", "most"] f fd) (C_law_take : Cal P w K mg base "_law_take" 2 ["store", "many"] (spD true 1 m_law_take)) (C_law_parting : Cal P w K mg base "_law_parting" 3 ["store", "plots"] (spD true 1 m_law_parting)) (C_law_shuffle : Cal P w K mg base "_law_shuffle" 4 ["store", "many"] (spD true 1 m_law_shuffle)) (C_law_canon : Cal P w K mg base "_law_canon" 1 ["labels"] (spD false 1 m_law_canon)) (C_law_nudged : Cal P w K mg base "_law_nudged" 3 ["store", "names"] (spD true 1 m_law_nudged)) : Cal P w K mg base "_law_pair" 5 ["store", "most"] (spD true 1 (m_law_pair )) :=
  cal_ok D sc_law_pair rfl rfl fun cdv A outer s H E hr => by
  have tk : L2N.Takes (cxOf (L2N.CX P w) P w K mg base N_law_pair "_law_pair" (defScope s_law_pair) f cdv A outer s H E) (fun cls d _ H => E cls d H) := L2N.takes_of rfl rfl rfl rfl
  exact ⟨_, (pss_cons (ps_set (i := 2) sc_law_pair.nd rfl (by first | exact .inl rfl | exact .inr rfl) (pe_cl C_law_take hr (by decide) (by rfl) (fun σ => L2N.passAt tk σ) (pa_cons (pv 0) (pa_cons pe_int pa_nil))))
  (pss_cons (ps_if (pt_cmpR op_lt (pv 2) pe_int (nomark _)) (pss_cons (ps_set (i := 3) sc_law_pair.nd rfl (by first | exact .inl rfl | exact .inr rfl) (pe_cl C_law_parting hr (by decide) (by rfl) (fun σ => L2N.passAt tk σ) (pa_cons (pv 0) (pa_cons (pe_op op_add pe_int (pe_cl C_law_take hr (by decide) (by rfl) (fun σ => L2N.passAt tk σ) (pa_cons (pv 0) (pa_cons (pv 1) pa_nil)))) pa_nil))))
  (pss_one (ps_ret (pe_tupF (pa_cons (pv 3) (pa_cons (pe_cl C_law_parting hr (by decide) (by rfl) (fun σ => L2N.passAt tk σ) (pa_cons (pv 0) (pa_cons (pe_callB call_len (by rfl) B.n_len bt_len (pa_cons (pv 3) pa_nil)) pa_nil))) pa_nil))))))
   pss_nil)
  (pss_cons (ps_set (i := 4) sc_law_pair.nd rfl (by first | exact .inl rfl | exact .inr rfl) (pe_op op_add pe_int (pe_cl C_law_take hr (by decide) (by rfl) (fun σ => L2N.passAt tk σ) (pa_cons (pv 0) (pa_cons (pe_callB (call_min2 rfl) (by rfl) B.n_min bt_min (pa_cons (pv 1) (pa_cons pe_int pa_nil))) pa_nil)))))
  (pss_cons (ps_set (i := 5) sc_law_pair.nd rfl (by first | exact .inl rfl | exact .inr rfl) (pe_op op_add pe_int (pe_cl C_law_take hr (by decide) (by rfl) (fun σ => L2N.passAt tk σ) (pa_cons (pv 0) (pa_cons (pe_callB (call_min2 rfl) (by rfl) B.n_min bt_min (pa_cons (pe_op op_fdivW (pv 1) (pv 4)) (pa_cons pe_int pa_nil))) pa_nil)))))
  (pss_cons (ps_set (i := 6) sc_law_pair.nd rfl (by first | exact .inl rfl | exact .inr rfl) (pe_op op_add pe_int (pe_cl C_law_take hr (by decide) (by rfl) (fun σ => L2N.passAt tk σ) (pa_cons (pv 0) (pa_cons (pe_callB (call_min2 rfl) (by rfl) B.n_min bt_min (pa_cons (pe_op op_fdivW (pv 1) (pe_op op_mulW (pv 4) (pv 5))) (pa_cons pe_int pa_nil))) pa_nil)))))
  (pss_cons (by first | exact (ps_setLc (i := 7) (own := [("many", 15)]) (scope := { kind := PySem.ScopeKind.function, names := [ (PySem.Str.ofString ".0", PySem.NameKind.local), (PySem.Str.ofString "many", PySem.NameKind.local), (PySem.Str.ofString "_law_parting", PySem.NameKind.globalImplicit), (PySem.Str.ofString "store", PySem.NameKind.free)], isGenerator := false, isCoroutine := false, more := [] : PySem.Scope }) rfl sc_law_pair.nd rfl rfl (sw_true rfl rfl rfl (by decide +kernel)) (pi_seq (pe_tupF (pa_cons (pv 4) (pa_cons (pv 5) (pa_cons (pv 6) pa_nil))))) (blkOk_by (N := N_law_pair) (sc := (defScope s_law_pair)) (by decide +kernel)) (fun _ _ _ _ _ => (pg_name (i := 15) sc_law_pair.nd rfl (by first | exact .inl rfl | exact .inr rfl))) (fun _ _ _ _ _ => pts_nil) (fun _ _ _ _ _ => (pe_cl C_law_parting hr (by decide) (by rfl) (fun σ => passN0 σ) (pa_cons (pv 0) (pa_cons (pv 15) pa_nil))))) | exact (ps_set (i := 7) sc_law_pair.nd rfl (by first | exact .inl rfl | exact .inr rfl) (pe_lc (own := [("many", 15)]) (scope := { kind := PySem.ScopeKind.function, names := [ (PySem.Str.ofString ".0", PySem.NameKind.local), (PySem.Str.ofString "many", PySem.NameKind.local), (PySem.Str.ofString "_law_parting", PySem.NameKind.globalImplicit), (PySem.Str.ofString "store", PySem.NameKind.free)], isGenerator := false, isCoroutine := false, more := [] : PySem.Scope }) rfl sc_law_pair.nd (pi_seq (pe_tupF (pa_cons (pv 4) (pa_cons (pv 5) (pa_cons (pv 6) pa_nil))))) (blkOk_by (N := N_law_pair) (sc := (defScope s_law_pair)) (by decide +kernel)) (fun _ _ _ _ _ => (pg_name (i := 15) sc_law_pair.nd rfl (by first | exact .inl rfl | exact .inr rfl))) (fun _ _ _ _ _ => pts_nil) (fun _ _ _ _ _ => (pe_cl C_law_parting hr (by decide) (by rfl) (fun σ => passN0 σ) (pa_cons (pv 0) (pa_cons (pv 15) pa_nil)))))))
  (pss_cons (ps_set (i := 8) sc_law_pair.nd rfl (by first | exact .inl rfl | exact .inr rfl) (pe_cl C_law_shuffle hr (by decide) (by rfl) (fun σ => L2N.passAt tk σ) (pa_cons (pv 0) (pa_cons (pe_op op_mulW (pe_op op_mulW (pv 4) (pv 5)) (pv 6)) pa_nil))))
  (pss_cons (ps_set (i := 9) sc_law_pair.nd rfl (by first | exact .inl rfl | exact .inr rfl) (pe_lst pa_nil))
  (pss_cons (ps_for (passes_of rfl) rfl (pi_range1 (by rfl) B.n_range (pa_cons pe_int pa_nil)) (pg_name (i := 10) sc_law_pair.nd rfl (by first | exact .inl rfl | exact .inr rfl)) (pss_cons (by first | exact (ps_setLc (i := 11) (own := [("k", 16)]) (scope := { kind := PySem.ScopeKind.function, names := [ (PySem.Str.ofString ".0", PySem.NameKind.local), (PySem.Str.ofString "k", PySem.NameKind.local), (PySem.Str.ofString "_law_take", PySem.NameKind.globalImplicit), (PySem.Str.ofString "store", PySem.NameKind.free)], isGenerator := false, isCoroutine := false, more := [] : PySem.Scope }) rfl sc_law_pair.nd rfl rfl (sw_true rfl rfl rfl (by decide +kernel)) (pi_range1 (by rfl) B.n_range (pa_cons pe_int pa_nil)) (blkOk_by (N := N_law_pair) (sc := (defScope s_law_pair)) (by decide +kernel)) (fun _ _ _ _ _ => (pg_name (i := 16) sc_law_pair.nd rfl (by first | exact .inl rfl | exact .inr rfl))) (fun _ _ _ _ _ => pts_nil) (fun _ _ _ _ _ => (pe_cl C_law_take hr (by decide) (by rfl) (fun σ => passN0 σ) (pa_cons (pv 0) (pa_cons pe_int pa_nil))))) | exact (ps_set (i := 11) sc_law_pair.nd rfl (by first | exact .inl rfl | exact .inr rfl) (pe_lc (own := [("k", 16)]) (scope := { kind := PySem.ScopeKind.function, names := [ (PySem.Str.ofString ".0", PySem.NameKind.local), (PySem.Str.ofString "k", PySem.NameKind.local), (PySem.Str.ofString "_law_take", PySem.NameKind.globalImplicit), (PySem.Str.ofString "store", PySem.NameKind.free)], isGenerator := false, isCoroutine := false, more := [] : PySem.Scope }) rfl sc_law_pair.nd (pi_range1 (by rfl) B.n_range (pa_cons pe_int pa_nil)) (blkOk_by (N := N_law_pair) (sc := (defScope s_law_pair)) (by decide +kernel)) (fun _ _ _ _ _ => (pg_name (i := 16) sc_law_pair.nd rfl (by first | exact .inl rfl | exact .inr rfl))) (fun _ _ _ _ _ => pts_nil) (fun _ _ _ _ _ => (pe_cl C_law_take hr (by decide) (by rfl) (fun σ => passN0 σ) (pa_cons (pv 0) (pa_cons pe_int pa_nil)))))))
  (pss_cons (ps_set (i := 12) sc_law_pair.nd rfl (by first | exact .inl rfl | exact .inr rfl) (pe_callTy call_list_of (by rfl) B.n_list bt_list (pa_cons (pv 8) pa_nil)))
  (pss_cons (ps_for (passes_of rfl) rfl (pi_range1 (by rfl) B.n_range (pa_cons (pe_callB call_len (by rfl) B.n_len bt_len (pa_cons (pv 8) pa_nil)) pa_nil)) (pg_name (i := 13) sc_law_pair.nd rfl (by first | exact .inl rfl | exact .inr rfl)) (pss_cons (ps_set (i := 14) sc_law_pair.nd rfl (by first | exact .inl rfl | exact .inr rfl) (pe_tupF (pa_cons (pe_op op_fdivW (pv 13) (pe_op op_mulW (pv 5) (pv 6))) (pa_cons (pe_op op_mod (pe_callTy call_int1 (by rfl) B.n_int bt_int (pa_cons (pe_op op_fdivW (pv 13) (pv 6)) pa_nil)) (pv 5)) (pa_cons (pe_op op_mod (pe_callTy call_int1 (by rfl) B.n_int bt_int (pa_cons (pv 13) pa_nil)) (pv 6)) pa_nil)))))
  (pss_one (ps_asg (pe_callTy call_tupF (by rfl) B.n_tuple bt_tuple (pa_cons (pe_lc (own := [("k", 16)]) (scope := { kind := PySem.ScopeKind.function, names := [ (PySem.Str.ofString ".0", PySem.NameKind.local), (PySem.Str.ofString "k", PySem.NameKind.local), (PySem.Str.ofString "coarse", PySem.NameKind.free), (PySem.Str.ofString "point", PySem.NameKind.free), (PySem.Str.ofString "rules", PySem.NameKind.free)], isGenerator := false, isCoroutine := false, more := [] : PySem.Scope }) rfl sc_law_pair.nd (pi_range1 (by rfl) B.n_range (pa_cons pe_int pa_nil)) (blkOk_by (N := N_law_pair) (sc := (defScope s_law_pair)) (by decide +kernel)) (fun _ _ _ _ _ => (pg_name (i := 16) sc_law_pair.nd rfl (by first | exact .inl rfl | exact .inr rfl))) (fun _ _ _ _ _ => pts_nil) (fun _ _ _ _ _ => (pe_ix ix_seq (pe_tupF (pa_cons pe_int (pa_cons (pe_ix ix_seq (pe_ix ix_seq (pv 7) (pv 16) (fun _ _ => rfl)) (pe_ix ix_seq (pv 14) (pv 16) (fun _ _ => rfl)) (fun _ _ => rfl)) (pa_cons (pe_ix ix_seq (pv 14) (pv 16) (fun _ _ => rfl)) pa_nil)))) (pe_ix ix_seq (pv 11) (pv 16) (fun _ _ => rfl)) (fun _ _ => rfl)))) pa_nil)) (pg_sub (pv 12) (pe_ix ix_seq (pv 8) (pv 13) (fun _ _ => rfl)) set_list)))))
  (pss_one (ps_expr (pe_bm PySem.F.plainAttrs_list PySem.F.slot_list_append PySem.F.type_list_append mt_append (pv 9) (pa_cons (pe_cl C_law_canon hr (by decide) (by rfl) (fun σ => L2N.passAt tk σ) (pa_cons (pv 12) pa_nil)) pa_nil))))))))
  (pss_cons (ps_if (PW.pt (pw_or (pt_cmpR (op_eqD hr.units) (pv 2) pe_int (nomark _)) (pw_or1 (PW.pt (pw_and (pt_cmpR op_gt (pv 2) pe_int (nomark _)) (pw_and1 (pt_cmpR (op_eqD hr.units) (pe_ix ix_seq (pv 9) pe_int (fun _ _ => rfl)) (pe_ix ix_seq (pv 9) pe_int (fun _ _ => rfl)) (nomark _)))))))) (pss_one (ps_ret (pe_tupF (pa_cons (pe_ix ix_seq (pv 9) pe_int (fun _ _ => rfl)) (pa_cons (pe_cl C_law_nudged hr (by decide) (by rfl) (fun σ => L2N.passAt tk σ) (pa_cons (pv 0) (pa_cons (pe_ix ix_seq (pv 9) pe_int (fun _ _ => rfl)) pa_nil))) pa_nil)))))
   pss_nil)
  (pss_cons (ps_if (pt_cmpR (op_eqD hr.units) (pv 2) pe_int (nomark _)) (pss_one (ps_ret (pe_tupF (pa_cons (pe_ix ix_seq (pv 9) pe_int (fun _ _ => rfl)) (pa_cons (pe_cl C_law_canon hr (by decide) (by rfl) (fun σ => L2N.passAt tk σ) (pa_cons (pe_lc (own := [("k", 16)]) (scope := { kind := PySem.ScopeKind.function, names := [ (PySem.Str.ofString ".0", PySem.NameKind.local), (PySem.Str.ofString "k", PySem.NameKind.local), (PySem.Str.ofString "pair", PySem.NameKind.free)], isGenerator := false, isCoroutine := false, more := [] : PySem.Scope }) rfl sc_law_pair.nd (pi_range1 (by rfl) B.n_range (pa_cons (pe_callB call_len (by rfl) B.n_len bt_len (pa_cons (pv 8) pa_nil)) pa_nil)) (blkOk_by (N := N_law_pair) (sc := (defScope s_law_pair)) (by decide +kernel)) (fun _ _ _ _ _ => (pg_name (i := 16) sc_law_pair.nd rfl (by first | exact .inl rfl | exact .inr rfl))) (fun _ _ _ _ _ => pts_nil) (fun _ _ _ _ _ => (pe_tupF (pa_cons (pe_ix ix_seq (pe_ix ix_seq (pv 9) pe_int (fun _ _ => rfl)) (pv 16) (fun _ _ => rfl)) (pa_cons (pe_ix ix_seq (pe_ix ix_seq (pv 9) pe_int (fun _ _ => rfl)) (pv 16) (fun _ _ => rfl)) pa_nil))))) pa_nil)) pa_nil)))))
   pss_nil)
  (pss_one (ps_ret (pe_tupF (pa_cons (pe_ix ix_seq (pv 9) pe_int (fun _ _ => rfl)) (pa_cons (pe_ix ix_seq (pv 9) pe_int (fun _ _ => rfl)) pa_nil)))))))))))))))),
  (st_seq (st_set 2 (et_call1 0 (ln_cons ln_nil) (at_cons (et_int _) at_nil)))
  (st_seq (st_if (bt_test (et_op o_lt (et_var 2) (et_int _))) (st_seq (st_set 3 (et_call1 0 (ln_cons ln_nil) (at_cons (et_op o_add (et_int _) (et_call1 0 (ln_cons ln_nil) (at_cons (et_var 1) at_nil))) at_nil)))
  (st_ret (et_tup (at_cons (et_var 3) (at_cons (et_call1 0 (ln_cons ln_nil) (at_cons (et_cb c_len (at_cons (et_var 3) at_nil)) at_nil)) at_nil)))))
   st_next)
  (st_seq (st_set 4 (et_op o_add (et_int _) (et_call1 0 (ln_cons ln_nil) (at_cons (et_cb c_min (at_cons (et_var 1) (at_cons (et_int _) at_nil))) at_nil))))
  (st_seq (st_set 5 (et_op o_add (et_int _) (et_call1 0 (ln_cons ln_nil) (at_cons (et_cb c_min (at_cons (et_op o_fdiv (et_var 1) (et_var 4)) (at_cons (et_int _) at_nil))) at_nil))))
  (st_seq (st_set 6 (et_op o_add (et_int _) (et_call1 0 (ln_cons ln_nil) (at_cons (et_cb c_min (at_cons (et_op o_fdiv (et_var 1) (et_op o_mul (et_var 4) (et_var 5))) (at_cons (et_int _) at_nil))) at_nil))))
  (st_seq (st_set 7 (et_frz (ot_lc (K := K) (.one 15) [15] (by decide) (it_seq (et_tup (at_cons (et_var 4) (at_cons (et_var 5) (at_cons (et_var 6) at_nil))))) bt_yes (et_call1 0 (ln_cons ln_nil) (at_cons (et_var 15) at_nil)))))
  (st_seq (st_set 8 (et_call1 0 (ln_cons ln_nil) (at_cons (et_op o_mul (et_op o_mul (et_var 4) (et_var 5)) (et_var 6)) at_nil)))
  (st_seq (st_setO 9 (ot_lst at_nil))
  (st_seq (st_for (K := K) (.one 10) (it_range1 (at_cons (et_int _) at_nil)) (st_seq (st_set 11 (et_frz (ot_lc (K := K) (.one 16) [16] (by decide) (it_range1 (at_cons (et_int _) at_nil)) bt_yes (et_call1 0 (ln_cons ln_nil) (at_cons (et_int _) at_nil)))))
  (st_seq (st_setO 12 (ot_cb c_list (at_cons (et_var 8) at_nil)))
  (st_seq (st_for (K := K) (.one 13) (it_range1 (at_cons (et_cb c_len (at_cons (et_var 8) at_nil)) at_nil)) (st_seq (st_set 14 (et_tup (at_cons (et_op o_fdiv (et_var 13) (et_op o_mul (et_var 5) (et_var 6))) (at_cons (et_op o_mod (et_cb c_int (at_cons (et_op o_fdiv (et_var 13) (et_var 6)) at_nil)) (et_var 5)) (at_cons (et_op o_mod (et_cb c_int (at_cons (et_var 13) at_nil)) (et_var 6)) at_nil)))))
  (st_setI 12 (et_cb c_tuple (at_cons (et_frz (ot_lc (K := K) (.one 16) [16] (by decide) (it_range1 (at_cons (et_int _) at_nil)) bt_yes (et_op o_ix (et_tup (at_cons (et_int _) (at_cons (et_op o_ix (et_op o_ix (et_var 7) (et_var 16)) (et_op o_ix (et_var 14) (et_var 16))) (at_cons (et_op o_ix (et_var 14) (et_var 16)) at_nil)))) (et_op o_ix (et_var 11) (et_var 16))))) at_nil)) (et_op o_ix (et_var 8) (et_var 13)))))
  (st_gh 12 (st_app 9 (et_call0 [] (fun _ => reps_nil.mpr rfl) (ln_cons ln_nil) rfl (at_cons (et_var 12) at_nil))))))))
  (st_seq (st_if (bt_or (bt_test (et_op o_eq (et_var 2) (et_int _))) (bt_and (bt_test (et_op o_gt (et_var 2) (et_int _))) (bt_test (et_op o_eq (et_ixO 9 (et_int _)) (et_ixO 9 (et_int _)))))) (st_ret (et_tup (at_cons (et_ixO 9 (et_int _)) (at_cons (et_call1 0 (ln_cons ln_nil) (at_cons (et_ixO 9 (et_int _)) at_nil)) at_nil))))
   st_next)
  (st_seq (st_if (bt_test (et_op o_eq (et_var 2) (et_int _))) (st_ret (et_tup (at_cons (et_ixO 9 (et_int _)) (at_cons (et_call0 [] (fun _ => reps_nil.mpr rfl) (ln_cons ln_nil) rfl (at_cons (et_frz (ot_lc (K := K) (.one 16) [16] (by decide) (it_range1 (at_cons (et_cb c_len (at_cons (et_var 8) at_nil)) at_nil)) bt_yes (et_tup (at_cons (et_op o_ix (et_ixO 9 (et_int _)) (et_var 16)) (at_cons (et_op o_ix (et_ixO 9 (et_int _)) (et_var 16)) at_nil))))) at_nil)) at_nil))))
   st_next)
  (st_ret (et_tup (at_cons (et_ixO 9 (et_int _)) (at_cons (et_ixO 9 (et_int _)) at_nil)))))))))))))))⟩
/-! ### _law_reached -/
abbrev s_law_reached : Stmt := top 41
abbrev N_law_reached : List Str := ["first", "second", "plot", "found", "k", "at", "other"]
theorem sc_law_reached : FnScope N_law_reached ["first", "second", "plot"] (defScope s_law_reached) := ⟨rfl, rfl, rfl, by decide +kernel, rfl, by decide +kernel, by decide +kernel⟩
def b_law_reached  : Ph Ctl := (mSeq (mSetO 3 (mLst (mCons (mVar 2) mNil)))
  (mSeq (mFor (.one 4) (mRange1 (mCons (mCB (pureC lenC) (mCons (mVar 0) mNil)) mNil)) (mIfS (mB (m2 gLt (mVar 4) (mLenO 3))) (mSeq (mSet 5 (mIxO 3 (mVar 4)))
  (mFor (.one 6) (mRange1 (mCons (mCB (pureC lenC) (mCons (mVar 0) mNil)) mNil)) (mIfS (mBorB 3 (mAnd (mB (m2 (pure2 (in2 true)) (mVar 6) (mVar 3))) (mOr (mB (m2 gEq (m2 gIx (mVar 0) (mVar 6)) (m2 gIx (mVar 0) (mVar 5)))) (mB (m2 gEq (m2 gIx (mVar 1) (mVar 6)) (m2 gIx (mVar 1) (mVar 5))))))) (mApp 3 (mVar 6))
   mNext)))
   mNext))
  (mGh 3 (mRetO (mSortI (mVar 3))))))
def m_law_reached  : Fn := runD false 4 (b_law_reached )
theorem ok_law_reached {f : Addr} {fd : FuncData}  (B : Blt mg) (D : Df K mg "_law_reached" s_law_reached ["first", "second", "plot"] f fd)  : Cal P w K mg base "_law_reached" 1 ["first", "second", "plot"] (spD false 3 (m_law_reached )) :=
  cal_ok D sc_law_reached rfl rfl fun cdv A outer s H E hr => by
  have tk : L2N.Takes (cxOf (L2N.CX P w) P w K mg base N_law_reached "_law_reached" (defScope s_law_reached) f cdv A outer s H E) (fun cls d _ H => E cls d H) := L2N.takes_of rfl rfl rfl rfl
  exact ⟨_, (pss_cons (ps_set (i := 3) sc_law_reached.nd rfl (by first | exact .inl rfl | exact .inr rfl) (pe_lst (pa_cons (pv 2) pa_nil)))
  (pss_cons (ps_for (passes_of rfl) rfl (pi_range1 (by rfl) B.n_range (pa_cons (pe_callB call_len (by rfl) B.n_len bt_len (pa_cons (pv 0) pa_nil)) pa_nil)) (pg_name (i := 4) sc_law_reached.nd rfl (by first | exact .inl rfl | exact .inr rfl)) (pss_one (ps_if (pt_cmpR op_lt (pv 4) (pe_callB call_len (by rfl) B.n_len bt_len (pa_cons (pv 3) pa_nil)) (nomark _)) (pss_cons (ps_set (i := 5) sc_law_reached.nd rfl (by first | exact .inl rfl | exact .inr rfl) (pe_ix ix_seq (pv 3) (pv 4) (fun _ _ => rfl)))
  (pss_one (ps_for (passes_of rfl) rfl (pi_range1 (by rfl) B.n_range (pa_cons (pe_callB call_len (by rfl) B.n_len bt_len (pa_cons (pv 0) pa_nil)) pa_nil)) (pg_name (i := 6) sc_law_reached.nd rfl (by first | exact .inl rfl | exact .inr rfl)) (pss_one (ps_if (PW.pt (pw_and (pt_cmpR op_notIn_seq (pv 6) (pv 3) (by rfl)) (pw_and1 (PW.pt (pw_or (pt_cmpR (op_eqD hr.units) (pe_ix ix_seq (pv 0) (pv 6) (fun _ _ => rfl)) (pe_ix ix_seq (pv 0) (pv 5) (fun _ _ => rfl)) (nomark _)) (pw_or1 (pt_cmpR (op_eqD hr.units) (pe_ix ix_seq (pv 1) (pv 6) (fun _ _ => rfl)) (pe_ix ix_seq (pv 1) (pv 5) (fun _ _ => rfl)) (nomark _)))))))) (pss_one (ps_expr (pe_bm PySem.F.plainAttrs_list PySem.F.slot_list_append PySem.F.type_list_append mt_append (pv 3) (pa_cons (pv 6) pa_nil))))
   pss_nil)))))
   pss_nil)))
  (pss_one (ps_ret (pe_callB cr_sortedI (by rfl) B.n_sorted bt_sorted (pa_cons (pv 3) pa_nil)))))),
  (st_seq (st_setO 3 (ot_lst (at_cons (et_var 2) at_nil)))
  (st_seq (st_for (K := K) (.one 4) (it_range1 (at_cons (et_cb c_len (at_cons (et_var 0) at_nil)) at_nil)) (st_if (bt_test (et_op o_lt (et_var 4) (et_lenO 3))) (st_seq (st_set 5 (et_ixO 3 (et_var 4)))
  (st_for (K := K) (.one 6) (it_range1 (at_cons (et_cb c_len (at_cons (et_var 0) at_nil)) at_nil)) (st_if (bt_bor 3 (bt_and (bt_test (et_op (o_in true) (et_var 6) (et_var 3))) (bt_or (bt_test (et_op o_eq (et_op o_ix (et_var 0) (et_var 6)) (et_op o_ix (et_var 0) (et_var 5)))) (bt_test (et_op o_eq (et_op o_ix (et_var 1) (et_var 6)) (et_op o_ix (et_var 1) (et_var 5))))))) (st_app 3 (et_var 6))
   st_next)))
   st_next))
  (st_gh 3 (st_retO (ot_sortI (et_var 3))))))⟩
/-! ### _law_rowsdue -/
abbrev s_law_rowsdue : Stmt := top 42
abbrev N_law_rowsdue : List Str := ["first", "second", "rows", "a", "lot", "size", "b", "common", "p"]
theorem sc_law_rowsdue : FnScope N_law_rowsdue ["first", "second"] (defScope s_law_rowsdue) := ⟨rfl, rfl, rfl, by decide +kernel, rfl, by decide +kernel, by decide +kernel⟩
def b_law_rowsdue  : Ph Ctl := (mSeq (mSetO 2 (mLst mNil))
  (mSeq (mFor (.one 3) (mRange1 (mCons (mCB (pureC lenC) (mCons (mVar 0) mNil)) mNil)) (mIfS (mB (m2 gEq (m2 gIx (mVar 0) (mVar 3)) (mVar 3))) (mSeq (mSet 4 (mFrz (mCall0O m_law_reached [] (mCons (mVar 0) (mCons (mVar 1) (mCons (mVar 3) mNil))))))
  (mSeq (mSet 5 (mCB (pureC lenC) (mCons (mFrz (mLc (.one 8) [8] (mSeqI (mVar 4)) (mB (m2 gEq (m2 gIx (mVar 0) (mVar 8)) (mVar 3))) (mVar 8))) mNil)))
  (mFor (.one 6) (mSeqI (mVar 4)) (mIfS (mB (m2 gEq (m2 gIx (mVar 1) (mVar 6)) (mVar 6))) (mSeq (mSet 7 (mCB (pureC lenC) (mCons (mFrz (mLc (.one 8) [8] (mSeqI (mVar 4)) (mAnd (mB (m2 gEq (m2 gIx (mVar 0) (mVar 8)) (mVar 3))) (mB (m2 gEq (m2 gIx (mVar 1) (mVar 8)) (mVar 6)))) (mVar 8))) mNil)))
  (mApp 2 (mTup (mCons (mVar 3) (mCons (mVar 6) (mCons (m2 gIx (mVar 4) (mC (.int 0))) (mCons (mVar 7) (mCons (mVar 5) (mCons (mCB (pureC lenC) (mCons (mFrz (mLc (.one 8) [8] (mSeqI (mVar 4)) (mB (m2 gEq (m2 gIx (mVar 1) (mVar 8)) (mVar 6))) (mVar 8))) mNil)) (mCons (mCB (pureC lenC) (mCons (mVar 4) mNil)) mNil))))))))))
   mNext))))
   mNext))
  (mRetV 2)))
def m_law_rowsdue  : Fn := runD false 7 (b_law_rowsdue )
theorem ok_law_rowsdue {f : Addr} {fd : FuncData}  (B : Blt mg) (D : Df K mg "_law_rowsdue" s_law_rowsdue ["first", "second"] f fd) (C_law_reached : Cal P w K mg base "_law_reached" 1 ["first", "second", "plot"] (spD false 3 m_law_reached)) : Cal P w K mg base "_law_rowsdue" 2 ["first", "second"] (spD false 2 (m_law_rowsdue )) :=
  cal_ok D sc_law_rowsdue rfl rfl fun cdv A outer s H E hr => by
  have tk : L2N.Takes (cxOf (L2N.CX P w) P w K mg base N_law_rowsdue "_law_rowsdue" (defScope s_law_rowsdue) f cdv A outer s H E) (fun cls d _ H => E cls d H) := L2N.takes_of rfl rfl rfl rfl
  exact ⟨_, (pss_cons (ps_set (i := 2) sc_law_rowsdue.nd rfl (by first | exact .inl rfl | exact .inr rfl) (pe_lst pa_nil))
  (pss_cons (ps_for (passes_of rfl) rfl (pi_range1 (by rfl) B.n_range (pa_cons (pe_callB call_len (by rfl) B.n_len bt_len (pa_cons (pv 0) pa_nil)) pa_nil)) (pg_name (i := 3) sc_law_rowsdue.nd rfl (by first | exact .inl rfl | exact .inr rfl)) (pss_one (ps_if (pt_cmpR (op_eqD hr.units) (pe_ix ix_seq (pv 0) (pv 3) (fun _ _ => rfl)) (pv 3) (nomark _)) (pss_cons (ps_set (i := 4) sc_law_rowsdue.nd rfl (by first | exact .inl rfl | exact .inr rfl) (pe_cl C_law_reached hr (by decide) (by rfl) (fun σ => L2N.passAt tk σ) (pa_cons (pv 0) (pa_cons (pv 1) (pa_cons (pv 3) pa_nil)))))
  (pss_cons (ps_set (i := 5) sc_law_rowsdue.nd rfl (by first | exact .inl rfl | exact .inr rfl) (pe_callB call_len (by rfl) B.n_len bt_len (pa_cons (pe_lc (own := [("p", 8)]) (scope := { kind := PySem.ScopeKind.function, names := [ (PySem.Str.ofString ".0", PySem.NameKind.local), (PySem.Str.ofString "p", PySem.NameKind.local), (PySem.Str.ofString "a", PySem.NameKind.free), (PySem.Str.ofString "first", PySem.NameKind.free)], isGenerator := false, isCoroutine := false, more := [] : PySem.Scope }) rfl sc_law_rowsdue.nd (pi_seq (pv 4)) (blkOk_by (N := N_law_rowsdue) (sc := (defScope s_law_rowsdue)) (by decide +kernel)) (fun _ _ _ _ _ => (pg_name (i := 8) sc_law_rowsdue.nd rfl (by first | exact .inl rfl | exact .inr rfl))) (fun _ _ _ _ _ => (pts_one (pt_cmpR (op_eqD hr.units) (pe_ix ix_seq (pv 0) (pv 8) (fun _ _ => rfl)) (pv 3) (nomark _)))) (fun _ _ _ _ _ => (pv 8))) pa_nil)))
  (pss_one (ps_for (passes_of rfl) rfl (pi_seq (pv 4)) (pg_name (i := 6) sc_law_rowsdue.nd rfl (by first | exact .inl rfl | exact .inr rfl)) (pss_one (ps_if (pt_cmpR (op_eqD hr.units) (pe_ix ix_seq (pv 1) (pv 6) (fun _ _ => rfl)) (pv 6) (nomark _)) (pss_cons (ps_set (i := 7) sc_law_rowsdue.nd rfl (by first | exact .inl rfl | exact .inr rfl) (pe_callB call_len (by rfl) B.n_len bt_len (pa_cons (pe_lc (own := [("p", 8)]) (scope := { kind := PySem.ScopeKind.function, names := [ (PySem.Str.ofString ".0", PySem.NameKind.local), (PySem.Str.ofString "p", PySem.NameKind.local), (PySem.Str.ofString "a", PySem.NameKind.free), (PySem.Str.ofString "b", PySem.NameKind.free), (PySem.Str.ofString "first", PySem.NameKind.free), (PySem.Str.ofString "second", PySem.NameKind.free)], isGenerator := false, isCoroutine := false, more := [] : PySem.Scope }) rfl sc_law_rowsdue.nd (pi_seq (pv 4)) (blkOk_by (N := N_law_rowsdue) (sc := (defScope s_law_rowsdue)) (by decide +kernel)) (fun _ _ _ _ _ => (pg_name (i := 8) sc_law_rowsdue.nd rfl (by first | exact .inl rfl | exact .inr rfl))) (fun _ _ _ _ _ => (pts_one (PW.pt (pw_and (pt_cmpR (op_eqD hr.units) (pe_ix ix_seq (pv 0) (pv 8) (fun _ _ => rfl)) (pv 3) (nomark _)) (pw_and1 (pt_cmpR (op_eqD hr.units) (pe_ix ix_seq (pv 1) (pv 8) (fun _ _ => rfl)) (pv 6) (nomark _))))))) (fun _ _ _ _ _ => (pv 8))) pa_nil)))
  (pss_one (ps_expr (pe_bm PySem.F.plainAttrs_list PySem.F.slot_list_append PySem.F.type_list_append mt_append (pv 2) (pa_cons (pe_tupF (pa_cons (pv 3) (pa_cons (pv 6) (pa_cons (pe_ix ix_seq (pv 4) pe_int (fun _ _ => rfl)) (pa_cons (pv 7) (pa_cons (pv 5) (pa_cons (pe_callB call_len (by rfl) B.n_len bt_len (pa_cons (pe_lc (own := [("p", 8)]) (scope := { kind := PySem.ScopeKind.function, names := [ (PySem.Str.ofString ".0", PySem.NameKind.local), (PySem.Str.ofString "p", PySem.NameKind.local), (PySem.Str.ofString "b", PySem.NameKind.free), (PySem.Str.ofString "second", PySem.NameKind.free)], isGenerator := false, isCoroutine := false, more := [] : PySem.Scope }) rfl sc_law_rowsdue.nd (pi_seq (pv 4)) (blkOk_by (N := N_law_rowsdue) (sc := (defScope s_law_rowsdue)) (by decide +kernel)) (fun _ _ _ _ _ => (pg_name (i := 8) sc_law_rowsdue.nd rfl (by first | exact .inl rfl | exact .inr rfl))) (fun _ _ _ _ _ => (pts_one (pt_cmpR (op_eqD hr.units) (pe_ix ix_seq (pv 1) (pv 8) (fun _ _ => rfl)) (pv 6) (nomark _)))) (fun _ _ _ _ _ => (pv 8))) pa_nil)) (pa_cons (pe_callB call_len (by rfl) B.n_len bt_len (pa_cons (pv 4) pa_nil)) pa_nil)))))))) pa_nil)))))
   pss_nil))))))
   pss_nil)))
  (pss_one (ps_ret (pv 2))))),
  (st_seq (st_setO 2 (ot_lst at_nil))
  (st_seq (st_for (K := K) (.one 3) (it_range1 (at_cons (et_cb c_len (at_cons (et_var 0) at_nil)) at_nil)) (st_if (bt_test (et_op o_eq (et_op o_ix (et_var 0) (et_var 3)) (et_var 3))) (st_seq (st_set 4 (et_frz (ot_call0 [] (fun _ => reps_nil.mpr rfl) (ln_cons (ln_cons (ln_cons ln_nil))) rfl (at_cons (et_var 0) (at_cons (et_var 1) (at_cons (et_var 3) at_nil))))))
  (st_seq (st_set 5 (et_cb c_len (at_cons (et_frz (ot_lc (K := K) (.one 8) [8] (by decide) (it_seq (et_var 4)) (bt_test (et_op o_eq (et_op o_ix (et_var 0) (et_var 8)) (et_var 3))) (et_var 8))) at_nil)))
  (st_for (K := K) (.one 6) (it_seq (et_var 4)) (st_if (bt_test (et_op o_eq (et_op o_ix (et_var 1) (et_var 6)) (et_var 6))) (st_seq (st_set 7 (et_cb c_len (at_cons (et_frz (ot_lc (K := K) (.one 8) [8] (by decide) (it_seq (et_var 4)) (bt_and (bt_test (et_op o_eq (et_op o_ix (et_var 0) (et_var 8)) (et_var 3))) (bt_test (et_op o_eq (et_op o_ix (et_var 1) (et_var 8)) (et_var 6)))) (et_var 8))) at_nil)))
  (st_app 2 (et_tup (at_cons (et_var 3) (at_cons (et_var 6) (at_cons (et_op o_ix (et_var 4) (et_int _)) (at_cons (et_var 7) (at_cons (et_var 5) (at_cons (et_cb c_len (at_cons (et_frz (ot_lc (K := K) (.one 8) [8] (by decide) (it_seq (et_var 4)) (bt_test (et_op o_eq (et_op o_ix (et_var 1) (et_var 8)) (et_var 6))) (et_var 8))) at_nil)) (at_cons (et_cb c_len (at_cons (et_var 4) at_nil)) at_nil))))))))))
   st_next))))
   st_next))
  (st_retV 2)))⟩
end
end K17

set_option Elab.async false
set_option linter.all false
set_option maxRecDepth 100000
set_option maxHeartbeats 8000000
set_option autoImplicit false
namespace K17
open PySem PySem.Spec L2 DL
open PyProof.Rows (envOfC)
abbrev s_law_refused : Stmt := top 43
abbrev N_law_refused : List Str := ["one", "two", "left", "right", "e"]
theorem sc_law_refused : FnScope N_law_refused ["one", "two", "left", "right"] (defScope s_law_refused) := ⟨rfl, rfl, rfl, by decide +kernel, rfl, by decide +kernel, by decide +kernel⟩
section
variable {P : Program} {w : World} {K : PySem.W.Frag} {mg : Str → Option Value} {base : Heap}
structure TxtU (K : PySem.W.Frag) (mg : Str → Option Value) (cU cAnswerError cBadPlot cCrossError cInputError cLimitError : Addr) : Prop where
  xf : XfC K cU
  ec : L2.ExcC K cU
  n_left_plots : PySem.W.findIn K (.ref cU) "left_plots" = some none
  n_right_plots : PySem.W.findIn K (.ref cU) "right_plots" = some none
  ex : PySem.W.exmOne K (.ref cU) (.ref cU) = some true
  gU : mg "UnlikePlots" = some (.ref cU)
  g_AnswerError : mg "AnswerError" = some (.ref cAnswerError)
  g_BadPlot : mg "BadPlot" = some (.ref cBadPlot)
  g_CrossError : mg "CrossError" = some (.ref cCrossError)
  g_InputError : mg "InputError" = some (.ref cInputError)
  g_LimitError : mg "LimitError" = some (.ref cLimitError)
  gVa : mg "ValueError" = none
  gis : mg "isinstance" = none
  k_AnswerError : PySem.W.kitOne K (.ref cU) (.ref cAnswerError) = some false
  k_BadPlot : PySem.W.kitOne K (.ref cU) (.ref cBadPlot) = some false
  k_CrossError : PySem.W.kitOne K (.ref cU) (.ref cCrossError) = some true
  k_InputError : PySem.W.kitOne K (.ref cU) (.ref cInputError) = some true
  k_LimitError : PySem.W.kitOne K (.ref cU) (.ref cLimitError) = some false
  k_ValueError : PySem.W.kitOne K (.ref cU) (.type "ValueError") = some true
def b_law_refused (cParting : Addr) (cUnlikePlots : Addr) : Ph Ctl := mTryS cUnlikePlots (["right_plots", "left_plots"] : List Str) 5 4 (mDrop (mFrz (mCall0O (m_meeting cParting cUnlikePlots) [] (mCons (mVar 0) (mCons (mVar 1) mNil))))) (m_law_same 6) (mCons (mTup (mCons (mVar 2) (mCons (mVar 3) mNil))) mNil)
def m_law_refused (cParting : Addr) (cUnlikePlots : Addr) : Fn := runD false 1 (b_law_refused cParting cUnlikePlots)
theorem isx {cU a : Addr} {dx : Option Addr} {c : V} {cv : Value} {b : Bool} {σ : L2.St} {H : Hp} {Q : Bool → Hp → Prop} (e : σ[4]? = some (some (.ref a))) (hc : ∀ u, RelV c u → u = cv) (k : PySem.W.kitOne K (.ref cU) cv = some b) (hd : ∀ dd, dx = some dd → ∃ fs, H dd = some (.xd fs)) (q : Q b H) :
    tB (tCB (fun xs H Q => Value.ref cU = .ref cU ∧ rIsX K cU a dx xs H Q) (tCons (tVar 4) (tCons (tC c) tNil))) σ H Q :=
  ⟨_, e, rfl, c, cv, b, rfl, hc, k, hd, b, rfl, q⟩
theorem bt_VE : bootBuiltins "ValueError" = some (.type "ValueError") := by decide +kernel
theorem ok_law_refused {f : Addr} {fd : FuncData} {cParting cUnlikePlots cAnswerError cBadPlot cCrossError cInputError cLimitError : Addr} (B : Blt mg) (D : Df K mg "_law_refused" s_law_refused ["one", "two", "left", "right"] f fd) (T : TxtU K mg cUnlikePlots cAnswerError cBadPlot cCrossError cInputError cLimitError)
    (C_meeting : Cal P w K mg base "meeting" 6 ["first", "second"] (spD false 2 (m_meeting cParting cUnlikePlots))) (C_same : CalH P w K mg base "_law_same" 7 ["left", "right"] (spD false 2 (m_law_same 6))) :
    Cal P w K mg base "_law_refused" 8 ["one", "two", "left", "right"] (spD false 4 (m_law_refused cParting cUnlikePlots)) :=
  cal_ok D sc_law_refused rfl rfl fun cdv A outer s H E hr => by
  have tk : L2N.Takes (cxOf (L2N.CX P w) P w K mg base N_law_refused "_law_refused" (defScope s_law_refused) f cdv A outer s H E) (fun cls d _ H => E cls d H) := L2N.takes_of rfl rfl rfl rfl
  refine ⟨_, pss_cons (L2N.ps_try_as (i := 4) (c := .ref cUnlikePlots) (Wout := fun cls d _ H => E cls d H) rfl rfl sc_law_refused.nd rfl rfl ⟨rfl, by decide, .inl T.gU⟩ tk
      (fun W pn xe tk' _ => pss_one (by exact (ps_expr (pe_cl C_meeting hr (by decide) (by rfl) (fun σ => L2N.passAt tk' σ) (pa_cons (pv 0) (pa_cons (pv 1) pa_nil))))))
      (fun a oe cls d pn hz hf => by exact (pss_cons (ps_if (PW.pt (pw_or (pt_val (pe_callB (call_isX T.ec hz.zc hf) (by rfl) T.gis bt_isinstance (pa_cons (pv 4) (pa_cons (pe_glob (v := .ref cLimitError) (by rfl) T.g_LimitError rfl) pa_nil)))) (pw_or (pt_val (pe_callB (call_isX T.ec hz.zc hf) (by rfl) T.gis bt_isinstance (pa_cons (pv 4) (pa_cons (pe_glob (v := .ref cAnswerError) (by rfl) T.g_AnswerError rfl) pa_nil)))) (pw_or1 (pt_val (pe_callB (call_isX T.ec hz.zc hf) (by rfl) T.gis bt_isinstance (pa_cons (pv 4) (pa_cons (pe_glob (v := .ref cBadPlot) (by rfl) T.g_BadPlot rfl) pa_nil)))))))) (pss_one (ps_ret pe_bl)) pss_nil)
        (pss_cons (ps_if (PW.pt (pw_or (pt_not (pt_val (pe_callB (call_isX T.ec hz.zc hf) (by rfl) T.gis bt_isinstance (pa_cons (pv 4) (pa_cons (pe_glob (v := .ref cInputError) (by rfl) T.g_InputError rfl) pa_nil))))) (pw_or (pt_not (pt_val (pe_callB (call_isX T.ec hz.zc hf) (by rfl) T.gis bt_isinstance (pa_cons (pv 4) (pa_cons (pe_glob (v := .ref cCrossError) (by rfl) T.g_CrossError rfl) pa_nil))))) (pw_or1 (pt_not (pt_val (pe_callB (call_isX T.ec hz.zc hf) (by rfl) T.gis bt_isinstance (pa_cons (pv 4) (pa_cons (pe_ty (by rfl) T.gVa bt_VE) pa_nil))))))))) (pss_one (ps_ret pe_bl)) pss_nil)
        (pss_one (ps_ret (pe_clH C_same (j := 7) (by exact ⟨hr.dp, hr.un⟩) (by decide) (hot_in hz hf) (by rfl) (fun σ => passN0 σ) (pa_cons (pe_tupF (pa_cons (pe_xf T.xf T.n_left_plots hz.zc hf (pv 4)) (pa_cons (pe_xf T.xf T.n_right_plots hz.zc hf (pv 4)) pa_nil))) (pa_cons (pe_tupF (pa_cons (pv 2) (pa_cons (pv 3) pa_nil))) pa_nil)))))))))
    (pss_one (ps_ret pe_bl)), ?_⟩
  intro F0 H0 st hb F H S ρ σ Dn b h
  refine (show ST _ _ ((mDrop (mFrz (mCall0O (m_meeting cParting cUnlikePlots) [] (mCons (mVar 0) (mCons (mVar 1) mNil)))))) from (st_drop (et_frz (ot_call0 [] (fun _ => reps_nil.mpr rfl) (ln_cons (ln_cons ln_nil)) rfl (at_cons (et_var 0) (at_cons (et_var 1) at_nil)))))) _ _ _ _ _ _ _ _ _ _ b ?_
  unfold b_law_refused mTryS at h
  cases o : ((mDrop (mFrz (mCall0O (m_meeting cParting cUnlikePlots) [] (mCons (mVar 0) (mCons (mVar 1) mNil)))))) ρ S with
  | ok d S1 => rw [o] at h; exact h.elim
  | bad => rw [o] at h; exact h.elim
  | exc x ρ' S1 =>
    rw [o] at h
    simp only at h
    by_cases c : x.c = cUnlikePlots ∧ x.ns = (["right_plots", "left_plots"] : List Str) ∧ ρ'.length = 5
    · rw [if_pos c] at h
      rintro cls dx σ' F' H' b' ⟨rfl, hx⟩
      obtain ⟨c1, c2, c3⟩ := c
      rcases hx with ⟨hx, _⟩ | ⟨dd, vs, rfl, hdd, hl, rr⟩
      · rw [c2] at hx; cases hx
      rw [c2] at hdd hl
      obtain ⟨xc, xns, xds⟩ := x
      simp only at c1 c2 hdd hl rr h
      subst c1 c2
      have hln : xds.length = 2 := by rw [← rr.length, ← hl]; rfl
      obtain ⟨d0, d1, rfl⟩ : ∃ d0 d1, xds = [d1, d0] := by
        match xds, hln with
        | [d1, d0], _ => exact ⟨d0, d1, rfl⟩
      obtain ⟨v1, r1, rfl, rr1, tt0⟩ := reps_cons.mp rr
      obtain ⟨v0, r0, rfl, rr0, tt1⟩ := reps_cons.mp tt0
      cases reps_nil.mp tt1
      refine ⟨true, T.ex, fun _ a na => ?_, fun z => Bool.noConfusion z⟩
      have l3 : 4 < σ'.length := by rw [b'.len, c3]; decide
      have s3 : (σ'.set 4 (some (.ref a)))[4]? = some (some (.ref a)) := by rw [List.getElem?_set, if_pos rfl, if_pos l3]
      have hD : ∀ dd', some dd = some dd' → ∃ fs, H' dd' = some (.xd fs) := fun dd' e => by cases e; exact ⟨_, hdd⟩
      have cr : ∀ (C : Addr) (u : Value), RelV (.ref C) u → u = .ref C := fun C u z => z
      refine isx s3 (cr cLimitError) T.k_LimitError hD (iteF (isx s3 (cr cAnswerError) T.k_AnswerError hD (iteF (isx s3 (cr cBadPlot) T.k_BadPlot hD (iteF ?_)))))
      refine isx s3 (cr cInputError) T.k_InputError hD (iteF (isx s3 (cr cCrossError) T.k_CrossError hD (iteF (isx s3 (fun u z => z) T.k_ValueError hD (iteF ?_)))))
      refine ⟨_, s3, rfl, rfl, dd, _, v0, rfl, hdd, rfl, _, s3, rfl, rfl, dd, _, v1, rfl, hdd, rfl, (show 2 ≤ sizeLine by decide), fun p ob hd hp => ?_⟩
      exact try_end b' (ds := [d0, d1]) (reps_cons.mpr ⟨_, _, rfl, rr0, reps_cons.mpr ⟨_, _, rfl, rr1, reps_nil.mpr rfl⟩⟩) (at_cons (et_tup (at_cons (et_var 2) (at_cons (et_var 3) at_nil))) at_nil) (ln_cons ln_nil) h p ob hd hp
    · rw [if_neg c] at h; exact h.elim
end
abbrev s_law_store : Stmt := top 30
abbrev N_law_store : List Str := ["script", "cells", "seed", "cell"]
theorem sc_law_store : FnScope N_law_store ["script"] (defScope s_law_store) := ⟨rfl, rfl, rfl, by decide +kernel, rfl, by decide +kernel, by decide +kernel⟩
section
variable {P : Program} {w : World} {K : PySem.W.Frag} {mg : Str → Option Value} {base : Heap}
theorem ok_law_store {f : Addr} {fd : FuncData} (B : Blt mg) (D : Df K mg "_law_store" s_law_store ["script"] f fd) (hb : ∀ ns : List Int, ns.length ≤ 63 → ∃ seed : Int, seed.natAbs < 2 ^ 70 ∧ ∃ S, b_store [.un, .d (.lst (ns.map DL.D.int)), .un, .un] sto0 = .ok (.ro [.lst (ns.map DL.D.int), .int 0, .int 0, .int 0, .int seed, .int 0]) S) : FnOk P w K mg base (L2N.CX P w) 1 f fd ["script"] (spStore K) :=
  D.fn.ok sc_law_store (fun vs H Q E h => by obtain ⟨_, _, rfl, _⟩ := h; rfl) (fun cdv A outer s H vs Q E hr h => by
  have tk : L2N.Takes (cxOf (L2N.CX P w) P w K mg base N_law_store "_law_store" (defScope s_law_store) f cdv A outer s H E) (fun cls d _ H => E cls d H) := L2N.takes_of rfl rfl rfl rfl
  refine ⟨_, (pss_cons (by first | exact (ps_setLc (i := 1) (own := [("cell", 3)]) (scope := { kind := PySem.ScopeKind.function, names := [ (PySem.Str.ofString ".0", PySem.NameKind.local), (PySem.Str.ofString "cell", PySem.NameKind.local), (PySem.Str.ofString "int", PySem.NameKind.globalImplicit)], isGenerator := false, isCoroutine := false, more := [] : PySem.Scope }) rfl sc_law_store.nd rfl rfl (sw_true rfl rfl rfl (by decide +kernel)) (pi_seq (pv 0)) (blkOk_by (N := N_law_store) (sc := (defScope s_law_store)) (by decide +kernel)) (fun _ _ _ _ _ => (pg_name (i := 3) sc_law_store.nd rfl (by first | exact .inl rfl | exact .inr rfl))) (fun _ _ _ _ _ => pts_nil) (fun _ _ _ _ _ => (pe_callTy call_int1 (by rfl) B.n_int bt_int (pa_cons (pv 3) pa_nil)))) | exact (ps_set (i := 1) sc_law_store.nd rfl (by first | exact .inl rfl | exact .inr rfl) (pe_lc (own := [("cell", 3)]) (scope := { kind := PySem.ScopeKind.function, names := [ (PySem.Str.ofString ".0", PySem.NameKind.local), (PySem.Str.ofString "cell", PySem.NameKind.local), (PySem.Str.ofString "int", PySem.NameKind.globalImplicit)], isGenerator := false, isCoroutine := false, more := [] : PySem.Scope }) rfl sc_law_store.nd (pi_seq (pv 0)) (blkOk_by (N := N_law_store) (sc := (defScope s_law_store)) (by decide +kernel)) (fun _ _ _ _ _ => (pg_name (i := 3) sc_law_store.nd rfl (by first | exact .inl rfl | exact .inr rfl))) (fun _ _ _ _ _ => pts_nil) (fun _ _ _ _ _ => (pe_callTy call_int1 (by rfl) B.n_int bt_int (pa_cons (pv 3) pa_nil))))))
  (pss_cons (ps_set (i := 2) sc_law_store.nd rfl (by first | exact .inl rfl | exact .inr rfl) (pe_op op_mulW pe_int (pe_op op_add (pe_callB call_len (by rfl) B.n_len bt_len (pa_cons (pv 1) pa_nil)) pe_int)))
  (pss_cons (ps_for (passes_of rfl) rfl (pi_seq (pv 1)) (pg_name (i := 3) sc_law_store.nd rfl (by first | exact .inl rfl | exact .inr rfl)) (pss_one (ps_set (i := 2) sc_law_store.nd rfl (by first | exact .inl rfl | exact .inr rfl) (pe_op op_mod (pe_callTy call_int1 (by rfl) B.n_int bt_int (pa_cons (pe_op op_add (pe_op op_mulW (pv 2) pe_int) (pv 3)) pa_nil)) pe_int))))
  (pss_one (ps_ret (pe_lst (pa_cons (pv 1) (pa_cons pe_int (pa_cons pe_int (pa_cons pe_int (pa_cons (pv 2) (pa_cons pe_int pa_nil)))))))))))), ?_⟩
  obtain ⟨a, ns, rfl, hS, hl, q⟩ := h
  refine seq_asg (lc_raw (σ := [some (.ref a), none, none, none]) (a := a) (ns := ns) (show 3 < 4 by decide) rfl hS hl fun D H' hD k hd => ?_)
  obtain ⟨seed, hs, S', es⟩ := hb ns hl
  have b : Bd (fun _ => none) H 0 false (upd (fun _ => none) D (.lst (ns.map V.int))) H' sto0 [.un, .d (.lst (ns.map DL.D.int)), .un, .un] [some (.ref a), some (.ref D), none, none] := by
    have nD : ∀ b o, upd (fun _ => (none : Option HO)) D (.lst (ns.map V.int)) b = some o → b = D ∧ o = .lst (ns.map V.int) := fun b o e => by
      by_cases z : b = D
      · subst z; rw [upd_same] at e; cases e; exact ⟨rfl, rfl⟩
      · rw [upd_ne z] at e; cases e
    refine ⟨fun b o e => ?_, ⟨nofun, fun b o e _ => k b o e, fun b _ e => ?_⟩, nofun, nofun, fun i l e => ?_, fun i j p xs ys _ e => ?_, rfl⟩
    · obtain ⟨rfl, rfl⟩ := nD b o e; exact hd
    · rw [upd_ne (fun z => e (by rw [z]; exact hD))]
    · match i, e with
      | 0, e => cases e; trivial
      | 1, e => cases e; exact ⟨_, rfl, by simp only [Rep]; exact ⟨D, _, rfl, upd_same, Reps.ints.mpr rfl⟩⟩
      | 2, e => cases e; trivial
      | 3, e => cases e; trivial
      | i + 4, e => cases e
    · match i, e with
      | 0, e => cases e
      | 1, e => cases e
      | 2, e => cases e
      | 3, e => cases e
      | i + 4, e => cases e
  refine (show ST (fun _ _ _ _ => False) _ _ from (st_seq (st_set 2 (et_op o_mul (et_int _) (et_op o_add (et_cb c_len (at_cons (et_var 1) at_nil)) (et_int _))))
  (st_seq (st_for (K := K) (.one 3) (it_seq (et_var 1)) (st_set 2 (et_op o_mod (et_cb c_int (at_cons (et_op o_add (et_op o_mul (et_var 2) (et_int _)) (et_var 3)) at_nil)) (et_int _))))
  (st_retO (ot_lst (at_cons (et_var 1) (at_cons (et_int _) (at_cons (et_int _) (at_cons (et_int _) (at_cons (et_var 2) (at_cons (et_int _) at_nil))))))))))) _ _ _ _ _ _ _ _ _ _ b ?_
  show SW _ _ _ _ _ (b_store _ _) _
  rw [es]
  rintro p vs F2 H2 b2 e1 e2 e3 r
  obtain ⟨v0, r0, rfl, h0, r⟩ := reps_cons.mp r
  obtain ⟨v1, r1, rfl, h1, r⟩ := reps_cons.mp r
  obtain ⟨v2, r2, rfl, h2, r⟩ := reps_cons.mp r
  obtain ⟨v3, r3, rfl, h3, r⟩ := reps_cons.mp r
  obtain ⟨v4, r4, rfl, h4, r⟩ := reps_cons.mp r
  obtain ⟨v5, r5, rfl, h5, r⟩ := reps_cons.mp r
  cases reps_nil.mp r
  simp only [Rep] at h0 h1 h2 h3 h4 h5
  obtain ⟨ca, xs, rfl, hca, rx⟩ := h0
  subst h1 h2 h3 h4 h5
  have hxs := Reps.ints.mp rx
  subst hxs
  have c0 : H ca = none := by
    cases z : H ca with
    | none => rfl
    | some o =>
      have := b2.ext.new ca rfl (by rw [z]; exact nofun)
      rw [hca] at this; cases this
  exact q p ca seed H2 (fun b o e => b2.ext.keep b o e nofun) e3 c0 (fun z => by subst z; rw [e2] at hca; cases hca) e1 (b2.sub _ _ hca) hs)
end
section
variable {P : Program} {w : World} {K : PySem.W.Frag} {mg : Str → Option Value} {base : Heap}
/-! ### law -/
abbrev s_law : Stmt := top 44
abbrev N_law : List Str := ["script", "store", "first", "second", "one", "two", "due", "result", "other", "apart"]
theorem sc_law : FnScope N_law ["script"] (defScope s_law) := ⟨rfl, rfl, rfl, by decide +kernel, rfl, by decide +kernel, by decide +kernel⟩
def b_law (cParting : Addr) (cUnlikePlots : Addr) : Ph Ctl := (mSeq (mSets [2, 3] (mCall1 m_law_pair 1 (mCons (mC (.int 16)) mNil)))
  (mSeq (mSet 4 (mMake cParting (m_Parting_init cParting) (mCons (mFrz (mCBo gList (mCons (mVar 2) mNil))) mNil)))
  (mSeq (mSet 5 (mMake cParting (m_Parting_init cParting) (mCons (mFrz (mCBo gList (mCons (mVar 3) mNil))) mNil)))
  (mSeq (mSet 6 (mFrz (mCall0O m_law_rowsdue [] (mCons (mVar 2) (mCons (mVar 3) mNil)))))
  (mSeq (mSetO 7 (mCall0O (m_meeting cParting cUnlikePlots) [] (mCons (mVar 4) (mCons (mVar 5) mNil))))
  (mSeq (mIfS (mBorB 7 (mOr (mNot (mB (mCall0 (m_law_same 6) [] (mCons (mVar 7) (mCons (mVar 6) mNil))))) (mNot (mB (mCall0 (m_law_same 6) [] (mCons (mFrz (mCall0O (m_meeting cParting cUnlikePlots) [] (mCons (mVar 5) (mCons (mVar 4) mNil)))) (mCons (mFrz (mCall0O m_law_rowsdue [] (mCons (mVar 3) (mCons (mVar 2) mNil)))) mNil))))))) (mRet (mC (.bl false)))
   mNext)
  (mSeq (mIfS (mNot (mB (mCall0 (m_law_same 6) [] (mCons (mFrz (mCall0O (m_meeting cParting cUnlikePlots) [] (mCons (mVar 4) (mCons (mVar 4) mNil)))) (mCons (mFrz (mCall0O m_law_rowsdue [] (mCons (mVar 2) (mCons (mVar 2) mNil)))) mNil))))) (mRet (mC (.bl false)))
   mNext)
  (mSeq (mIfS (mNot (mB (mCall0 (m_law_same 6) [] (mCons (mFrz (mCall0O (m_meeting cParting cUnlikePlots) [] (mCons (mVar 5) (mCons (mMake cParting (m_Parting_init cParting) (mCons (mFrz (mCBo gList (mCons (mVar 3) mNil))) mNil)) mNil)))) (mCons (mFrz (mCall0O m_law_rowsdue [] (mCons (mVar 3) (mCons (mVar 3) mNil)))) mNil))))) (mRet (mC (.bl false)))
   mNext)
  (mSeq (mSetI 7 (mTup (mCons (mC (.int 0)) (mCons (mC (.int 0)) (mCons (mC (.int 0)) (mCons (mC (.int 1)) (mCons (mC (.int 1)) (mCons (mC (.int 1)) (mCons (mC (.int 1)) mNil)))))))) (mC (.int 0)))
  (mSeq (mApp 7 (mTup (mCons (mC (.int 0)) (mCons (mC (.int 0)) mNil))))
  (mSeq (mIfS (mNot (mB (mCall0 (m_law_same 6) [] (mCons (mFrz (mCall0O (m_meeting cParting cUnlikePlots) [] (mCons (mVar 4) (mCons (mVar 5) mNil)))) (mCons (mVar 6) mNil))))) (mRet (mC (.bl false)))
   mNext)
  (mSeq (mSet 8 (mCall1 m_law_otherplots 1 (mCons (mCB (pureC lenC) (mCons (mVar 2) mNil)) mNil)))
  (mSeq (mSet 9 (mMake cParting (m_Parting_init cParting) (mCons (mFrz (mCBo gList (mCons (mCall1 m_law_parting 1 (mCons (mVar 8) mNil)) mNil))) mNil)))
  (mSeq (mIfS (mOr (mNot (mB (mCall0 (m_law_refused cParting cUnlikePlots) [] (mCons (mVar 4) (mCons (mVar 9) (mCons (mCB (pureC lenC) (mCons (mVar 2) mNil)) (mCons (mVar 8) mNil))))))) (mNot (mB (mCall0 (m_law_refused cParting cUnlikePlots) [] (mCons (mVar 9) (mCons (mVar 5) (mCons (mVar 8) (mCons (mCB (pureC lenC) (mCons (mVar 2) mNil)) mNil)))))))) (mRet (mC (.bl false)))
   mNext)
  (mRet (mAndV (mCall0 (m_law_same 6) [] (mCons (m1 (gFld cParting "names") (mVar 4)) (mCons (mVar 2) mNil))) (mAndV (mCall0 (m_law_same 6) [] (mCons (m1 (gFld cParting "names") (mVar 5)) (mCons (mVar 3) mNil))) (mCall0 (m_law_same 6) [] (mCons (mFrz (mCall0O (m_meeting cParting cUnlikePlots) [] (mCons (mVar 4) (mCons (mVar 5) mNil)))) (mCons (mVar 6) mNil))))))))))))))))))))
theorem ok_law {f : Addr} {fd : FuncData} {cParting : Addr} {cUnlikePlots : Addr} (B : Blt mg) (D : Df K mg "law" s_law ["script"] f fd) (M_Parting : Mke P w K mg base "Parting" cParting 3 1 (m_Parting_init cParting)) (T_Parting : Txt_Parting K cParting) (C_law_pair : Cal P w K mg base "_law_pair" 5 ["store", "most"] (spD true 1 m_law_pair)) (C_law_rowsdue : Cal P w K mg base "_law_rowsdue" 2 ["first", "second"] (spD false 2 m_law_rowsdue)) (C_meeting : Cal P w K mg base "meeting" 6 ["first", "second"] (spD false 2 (m_meeting cParting cUnlikePlots))) (C_law_same : Cal P w K mg base "_law_same" 7 ["left", "right"] (spD false 2 (m_law_same 6))) (C_law_otherplots : Cal P w K mg base "_law_otherplots" 4 ["store", "plots"] (spD true 1 m_law_otherplots)) (C_law_parting : Cal P w K mg base "_law_parting" 3 ["store", "plots"] (spD true 1 m_law_parting)) (C_law_refused : Cal P w K mg base "_law_refused" 8 ["one", "two", "left", "right"] (spD false 4 (m_law_refused cParting cUnlikePlots))) (C_law_store : Cal P w K mg base "_law_store" 1 ["script"] (spStore K)) (hm : ∀ (ns : List Int) (seed : Int), ns.length ≤ 63 → seed.natAbs < 2 ^ 70 → ∃ S', b_law cParting cUnlikePlots (L.un :: L.st :: List.replicate 8 L.un) ⟨ns, 0, 0, 0, seed, 0, .law⟩ = .ok (.rt (.bl true)) S') : FnOk P w K mg base (L2N.CX P w) 9 f fd ["script"] (spLaw K) :=
  law_ok D sc_law rfl (fun cdv A outer s H E hr => by
  have tk : L2N.Takes (cxOf (L2N.CX P w) P w K mg base N_law "law" (defScope s_law) f cdv A outer s H E) (fun cls d _ H => E cls d H) := L2N.takes_of rfl rfl rfl rfl
  exact ⟨_, pss_cons (ps_set (i := 1) sc_law.nd rfl (by first | exact .inl rfl | exact .inr rfl) (pe_cl C_law_store hr (by decide) (by rfl) (fun σ => L2N.passAt tk σ) (pa_cons (pv 0) pa_nil)))
  (pss_cons (ps_asg (pe_cl C_law_pair hr (by decide) (by rfl) (fun σ => L2N.passAt tk σ) (pa_cons (pv 1) (pa_cons pe_int pa_nil))) (pg_tup rfl (pgs_cons (pg_name (i := 2) sc_law.nd rfl (by first | exact .inl rfl | exact .inr rfl)) (pgs_cons (pg_name (i := 3) sc_law.nd rfl (by first | exact .inl rfl | exact .inr rfl)) pgs_nil))))
  (pss_cons (ps_set (i := 4) sc_law.nd rfl (by first | exact .inl rfl | exact .inr rfl) (pe_mke M_Parting hr (by decide) (by rfl) tk (pa_cons (pe_callTy call_list_of (by rfl) B.n_list bt_list (pa_cons (pv 2) pa_nil)) pa_nil)))
  (pss_cons (ps_set (i := 5) sc_law.nd rfl (by first | exact .inl rfl | exact .inr rfl) (pe_mke M_Parting hr (by decide) (by rfl) tk (pa_cons (pe_callTy call_list_of (by rfl) B.n_list bt_list (pa_cons (pv 3) pa_nil)) pa_nil)))
  (pss_cons (ps_set (i := 6) sc_law.nd rfl (by first | exact .inl rfl | exact .inr rfl) (pe_cl C_law_rowsdue hr (by decide) (by rfl) (fun σ => L2N.passAt tk σ) (pa_cons (pv 2) (pa_cons (pv 3) pa_nil))))
  (pss_cons (ps_set (i := 7) sc_law.nd rfl (by first | exact .inl rfl | exact .inr rfl) (pe_cl C_meeting hr (by decide) (by rfl) (fun σ => L2N.passAt tk σ) (pa_cons (pv 4) (pa_cons (pv 5) pa_nil))))
  (pss_cons (ps_if (PW.pt (pw_or (pt_not (pt_val (pe_cl C_law_same hr (by decide) (by rfl) (fun σ => L2N.passAt tk σ) (pa_cons (pv 7) (pa_cons (pv 6) pa_nil))))) (pw_or1 (pt_not (pt_val (pe_cl C_law_same hr (by decide) (by rfl) (fun σ => L2N.passAt tk σ) (pa_cons (pe_cl C_meeting hr (by decide) (by rfl) (fun σ => L2N.passAt tk σ) (pa_cons (pv 5) (pa_cons (pv 4) pa_nil))) (pa_cons (pe_cl C_law_rowsdue hr (by decide) (by rfl) (fun σ => L2N.passAt tk σ) (pa_cons (pv 3) (pa_cons (pv 2) pa_nil))) pa_nil)))))))) (pss_one (ps_ret pe_bl))
   pss_nil)
  (pss_cons (ps_if (pt_not (pt_val (pe_cl C_law_same hr (by decide) (by rfl) (fun σ => L2N.passAt tk σ) (pa_cons (pe_cl C_meeting hr (by decide) (by rfl) (fun σ => L2N.passAt tk σ) (pa_cons (pv 4) (pa_cons (pv 4) pa_nil))) (pa_cons (pe_cl C_law_rowsdue hr (by decide) (by rfl) (fun σ => L2N.passAt tk σ) (pa_cons (pv 2) (pa_cons (pv 2) pa_nil))) pa_nil))))) (pss_one (ps_ret pe_bl))
   pss_nil)
  (pss_cons (ps_if (pt_not (pt_val (pe_cl C_law_same hr (by decide) (by rfl) (fun σ => L2N.passAt tk σ) (pa_cons (pe_cl C_meeting hr (by decide) (by rfl) (fun σ => L2N.passAt tk σ) (pa_cons (pv 5) (pa_cons (pe_mke M_Parting hr (by decide) (by rfl) tk (pa_cons (pe_callTy call_list_of (by rfl) B.n_list bt_list (pa_cons (pv 3) pa_nil)) pa_nil)) pa_nil))) (pa_cons (pe_cl C_law_rowsdue hr (by decide) (by rfl) (fun σ => L2N.passAt tk σ) (pa_cons (pv 3) (pa_cons (pv 3) pa_nil))) pa_nil))))) (pss_one (ps_ret pe_bl))
   pss_nil)
  (pss_cons (ps_asg (pe_tupF (pa_cons pe_int (pa_cons pe_int (pa_cons pe_int (pa_cons pe_int (pa_cons pe_int (pa_cons pe_int (pa_cons pe_int pa_nil)))))))) (pg_sub (pv 7) pe_int set_list))
  (pss_cons (ps_expr (pe_bm PySem.F.plainAttrs_list PySem.F.slot_list_append PySem.F.type_list_append mt_append (pv 7) (pa_cons (pe_tupF (pa_cons pe_int (pa_cons pe_int pa_nil))) pa_nil)))
  (pss_cons (ps_if (pt_not (pt_val (pe_cl C_law_same hr (by decide) (by rfl) (fun σ => L2N.passAt tk σ) (pa_cons (pe_cl C_meeting hr (by decide) (by rfl) (fun σ => L2N.passAt tk σ) (pa_cons (pv 4) (pa_cons (pv 5) pa_nil))) (pa_cons (pv 6) pa_nil))))) (pss_one (ps_ret pe_bl))
   pss_nil)
  (pss_cons (ps_set (i := 8) sc_law.nd rfl (by first | exact .inl rfl | exact .inr rfl) (pe_cl C_law_otherplots hr (by decide) (by rfl) (fun σ => L2N.passAt tk σ) (pa_cons (pv 1) (pa_cons (pe_callB call_len (by rfl) B.n_len bt_len (pa_cons (pv 2) pa_nil)) pa_nil))))
  (pss_cons (ps_set (i := 9) sc_law.nd rfl (by first | exact .inl rfl | exact .inr rfl) (pe_mke M_Parting hr (by decide) (by rfl) tk (pa_cons (pe_callTy call_list_of (by rfl) B.n_list bt_list (pa_cons (pe_cl C_law_parting hr (by decide) (by rfl) (fun σ => L2N.passAt tk σ) (pa_cons (pv 1) (pa_cons (pv 8) pa_nil))) pa_nil)) pa_nil)))
  (pss_cons (ps_if (PW.pt (pw_or (pt_not (pt_val (pe_cl C_law_refused hr (by decide) (by rfl) (fun σ => L2N.passAt tk σ) (pa_cons (pv 4) (pa_cons (pv 9) (pa_cons (pe_callB call_len (by rfl) B.n_len bt_len (pa_cons (pv 2) pa_nil)) (pa_cons (pv 8) pa_nil))))))) (pw_or1 (pt_not (pt_val (pe_cl C_law_refused hr (by decide) (by rfl) (fun σ => L2N.passAt tk σ) (pa_cons (pv 9) (pa_cons (pv 5) (pa_cons (pv 8) (pa_cons (pe_callB call_len (by rfl) B.n_len bt_len (pa_cons (pv 2) pa_nil)) pa_nil)))))))))) (pss_one (ps_ret pe_bl))
   pss_nil)
  (pss_one (ps_ret (pe_and (pe_cl C_law_same hr (by decide) (by rfl) (fun σ => L2N.passAt tk σ) (pa_cons (pe_fld (pv 4) rfl) (pa_cons (pv 2) pa_nil))) (pe_and (pe_cl C_law_same hr (by decide) (by rfl) (fun σ => L2N.passAt tk σ) (pa_cons (pe_fld (pv 5) rfl) (pa_cons (pv 3) pa_nil))) (pe_one (pe_cl C_law_same hr (by decide) (by rfl) (fun σ => L2N.passAt tk σ) (pa_cons (pe_cl C_meeting hr (by decide) (by rfl) (fun σ => L2N.passAt tk σ) (pa_cons (pv 4) (pa_cons (pv 5) pa_nil))) (pa_cons (pv 6) pa_nil)))))))))))))))))))))),
  (st_seq (st_sets (K := K) [2, 3] rfl (et_call1 1 (ln_cons ln_nil) (at_cons (et_int _) at_nil)))
  (st_seq (st_set 4 (et_make (ln_cons ln_nil) (at_cons (et_frz (ot_cb c_list (at_cons (et_var 2) at_nil))) at_nil)))
  (st_seq (st_set 5 (et_make (ln_cons ln_nil) (at_cons (et_frz (ot_cb c_list (at_cons (et_var 3) at_nil))) at_nil)))
  (st_seq (st_set 6 (et_frz (ot_call0 [] (fun _ => reps_nil.mpr rfl) (ln_cons (ln_cons ln_nil)) rfl (at_cons (et_var 2) (at_cons (et_var 3) at_nil)))))
  (st_seq (st_setO 7 (ot_call0 [] (fun _ => reps_nil.mpr rfl) (ln_cons (ln_cons ln_nil)) rfl (at_cons (et_var 4) (at_cons (et_var 5) at_nil))))
  (st_seq (st_if (bt_bor 7 (bt_or (bt_not (bt_val (et_call0 [] (fun _ => reps_nil.mpr rfl) (ln_cons (ln_cons ln_nil)) rfl (at_cons (et_var 7) (at_cons (et_var 6) at_nil))))) (bt_not (bt_val (et_call0 [] (fun _ => reps_nil.mpr rfl) (ln_cons (ln_cons ln_nil)) rfl (at_cons (et_frz (ot_call0 [] (fun _ => reps_nil.mpr rfl) (ln_cons (ln_cons ln_nil)) rfl (at_cons (et_var 5) (at_cons (et_var 4) at_nil)))) (at_cons (et_frz (ot_call0 [] (fun _ => reps_nil.mpr rfl) (ln_cons (ln_cons ln_nil)) rfl (at_cons (et_var 3) (at_cons (et_var 2) at_nil)))) at_nil))))))) (st_ret (et_bl _))
   st_next)
  (st_seq (st_if (bt_not (bt_val (et_call0 [] (fun _ => reps_nil.mpr rfl) (ln_cons (ln_cons ln_nil)) rfl (at_cons (et_frz (ot_call0 [] (fun _ => reps_nil.mpr rfl) (ln_cons (ln_cons ln_nil)) rfl (at_cons (et_var 4) (at_cons (et_var 4) at_nil)))) (at_cons (et_frz (ot_call0 [] (fun _ => reps_nil.mpr rfl) (ln_cons (ln_cons ln_nil)) rfl (at_cons (et_var 2) (at_cons (et_var 2) at_nil)))) at_nil))))) (st_ret (et_bl _))
   st_next)
  (st_seq (st_if (bt_not (bt_val (et_call0 [] (fun _ => reps_nil.mpr rfl) (ln_cons (ln_cons ln_nil)) rfl (at_cons (et_frz (ot_call0 [] (fun _ => reps_nil.mpr rfl) (ln_cons (ln_cons ln_nil)) rfl (at_cons (et_var 5) (at_cons (et_make (ln_cons ln_nil) (at_cons (et_frz (ot_cb c_list (at_cons (et_var 3) at_nil))) at_nil)) at_nil)))) (at_cons (et_frz (ot_call0 [] (fun _ => reps_nil.mpr rfl) (ln_cons (ln_cons ln_nil)) rfl (at_cons (et_var 3) (at_cons (et_var 3) at_nil)))) at_nil))))) (st_ret (et_bl _))
   st_next)
  (st_seq (st_setI 7 (et_tup (at_cons (et_int _) (at_cons (et_int _) (at_cons (et_int _) (at_cons (et_int _) (at_cons (et_int _) (at_cons (et_int _) (at_cons (et_int _) at_nil)))))))) (et_int _))
  (st_seq (st_app 7 (et_tup (at_cons (et_int _) (at_cons (et_int _) at_nil))))
  (st_seq (st_if (bt_not (bt_val (et_call0 [] (fun _ => reps_nil.mpr rfl) (ln_cons (ln_cons ln_nil)) rfl (at_cons (et_frz (ot_call0 [] (fun _ => reps_nil.mpr rfl) (ln_cons (ln_cons ln_nil)) rfl (at_cons (et_var 4) (at_cons (et_var 5) at_nil)))) (at_cons (et_var 6) at_nil))))) (st_ret (et_bl _))
   st_next)
  (st_seq (st_set 8 (et_call1 1 (ln_cons ln_nil) (at_cons (et_cb c_len (at_cons (et_var 2) at_nil)) at_nil)))
  (st_seq (st_set 9 (et_make (ln_cons ln_nil) (at_cons (et_frz (ot_cb c_list (at_cons (et_call1 1 (ln_cons ln_nil) (at_cons (et_var 8) at_nil)) at_nil))) at_nil)))
  (st_seq (st_if (bt_or (bt_not (bt_val (et_call0 [] (fun _ => reps_nil.mpr rfl) (ln_cons (ln_cons (ln_cons (ln_cons ln_nil)))) rfl (at_cons (et_var 4) (at_cons (et_var 9) (at_cons (et_cb c_len (at_cons (et_var 2) at_nil)) (at_cons (et_var 8) at_nil))))))) (bt_not (bt_val (et_call0 [] (fun _ => reps_nil.mpr rfl) (ln_cons (ln_cons (ln_cons (ln_cons ln_nil)))) rfl (at_cons (et_var 9) (at_cons (et_var 5) (at_cons (et_var 8) (at_cons (et_cb c_len (at_cons (et_var 2) at_nil)) at_nil)))))))) (st_ret (et_bl _))
   st_next)
  (st_ret (et_and (et_call0 [] (fun _ => reps_nil.mpr rfl) (ln_cons (ln_cons ln_nil)) rfl (at_cons (et_fld T_Parting.cl T_Parting.na_names (et_var 4)) (at_cons (et_var 2) at_nil))) (et_and (et_call0 [] (fun _ => reps_nil.mpr rfl) (ln_cons (ln_cons ln_nil)) rfl (at_cons (et_fld T_Parting.cl T_Parting.na_names (et_var 5)) (at_cons (et_var 3) at_nil))) (et_call0 [] (fun _ => reps_nil.mpr rfl) (ln_cons (ln_cons ln_nil)) rfl (at_cons (et_frz (ot_call0 [] (fun _ => reps_nil.mpr rfl) (ln_cons (ln_cons ln_nil)) rfl (at_cons (et_var 4) (at_cons (et_var 5) at_nil)))) (at_cons (et_var 6) at_nil))))))))))))))))))))⟩) hm
end
end K17

set_option Elab.async false
set_option linter.all false
set_option maxRecDepth 100000
set_option maxHeartbeats 4000000
set_option autoImplicit false
namespace DL
open PySem PySem.Spec L2
def wp0 {α : Type} (o : Out α) (Q : α → Sto → Prop) : Prop := match o with
  | .ok a S => Q a S
  | _ => False
def sq (k : Ph Ctl) (Q : Ctl → Sto → Prop) : Ctl → Sto → Prop
  | .nx ρ, S => wp0 (k ρ S) Q
  | c, S => Q c S
def varQ (l : Option L) (S : Sto) (Q : D → Sto → Prop) : Prop := match l with
  | some (.d x) => Q x S
  | _ => False
def stQ (l : Option L) (P : Prop) : Prop := match l with
  | some .st => P
  | _ => False
def setQ (l : Option L) (m : Nat) (S : Sto) (d : D) (Q : Sto → Prop) : Prop := match l, d with
  | some .st, .int v => (match S.set m v with
    | some S2 => Q S2
    | none => False)
  | _, _ => False
def lawB (S : Sto) : Bool := match S.mode with
  | .law => true
  | _ => false
def rngQ (ds : List D) (S : Sto) (Q : List D → Sto → Prop) : Prop := match ds with
  | [.int j] => okR j = true ∧ Q (rangeD 0 j.toNat) S
  | _ => False
def stepQ (I : List L → Sto → Prop) (Q : Ctl → Sto → Prop) : Ctl → Sto → Prop
  | .nx ρ, S => I ρ S
  | .ct ρ, S => I ρ S
  | .bk ρ, S => Q (.nx ρ) S
  | c, S => Q c S
def callQ (Q : D → Sto → Prop) (S : Sto) : Res → Sto → Prop := fun r _ => Q r.toD S
def PB (k : Nat) : Nat := 2 ^ k
abbrev B4000 : Nat := PB 4000
namespace Z
/-! ### the mirrors, run -/
section
variable {α β : Type} {o : Out α} {Q : α → Sto → Prop} {a : α} {S : Sto} {ρ : List L} {i j : Int} {x y d : D} {c : Bool}
theorem wp0.mono {Q' : α → Sto → Prop} (h : wp0 o Q) (k : ∀ a S, Q a S → Q' a S) : wp0 o Q' := by
  cases o with
  | ok a S => exact k _ _ h
  | exc x ρ S => exact h
  | bad => exact h
theorem wp0.get (h : wp0 o Q) : ∃ a S, o = .ok a S ∧ Q a S := by
  cases o with
  | ok a S => exact ⟨a, S, rfl, h⟩
  | exc x ρ S => exact h.elim
  | bad => exact h.elim
theorem wp0.of {a : α} (e : o = .ok a S) (h : Q a S) : wp0 o Q := by rw [e]; exact h
theorem nrP {u v : Prop} (h : u = v) : u = v := h
theorem wp_ok : wp0 (.ok a S) Q = Q a S := nrP rfl
theorem wp_bad : wp0 (.bad : Out α) Q = False := nrP rfl
theorem wp_bind {k : α → Sto → Out β} {R : β → Sto → Prop} : wp0 (o.bind k) R = wp0 o fun a S => wp0 (k a S) R := by cases o <;> rfl
theorem wp_ite {p : Prop} [Decidable p] {o2 : Out α} : wp0 (if p then o else o2) Q = if p then wp0 o Q else wp0 o2 Q := by split <;> rfl
theorem sq_nx {k : Ph Ctl} {Q : Ctl → Sto → Prop} : sq k Q (.nx ρ) S = wp0 (k ρ S) Q := nrP rfl
theorem sq_rt {k : Ph Ctl} {Q : Ctl → Sto → Prop} : sq k Q (.rt d) S = Q (.rt d) S := nrP rfl
theorem sq_ro {k : Ph Ctl} {Q : Ctl → Sto → Prop} {xs : List D} : sq k Q (.ro xs) S = Q (.ro xs) S := nrP rfl
theorem sq_bk {k : Ph Ctl} {Q : Ctl → Sto → Prop} : sq k Q (.bk ρ) S = Q (.bk ρ) S := nrP rfl
theorem wp_seq {φ k : Ph Ctl} {Q : Ctl → Sto → Prop} : wp0 (mSeq φ k ρ S) Q = wp0 (φ ρ S) (sq k Q) := by
  unfold mSeq Out.seq
  cases o : φ ρ S with
  | ok c S1 => cases c <;> rfl
  | exc x ρ' S1 => rfl
  | bad => rfl
theorem wp_add {Q : D → Sto → Prop} : wp0 (gAdd (.int i) (.int j) S) Q = Q (.int (i + j)) S := nrP rfl
theorem wp_sub {Q : D → Sto → Prop} : wp0 (gMinus (.int i) (.int j) S) Q = Q (.int (i - j)) S := nrP rfl
theorem wp_lt {Q : D → Sto → Prop} : wp0 (gLt (.int i) (.int j) S) Q = Q (.bl (decide (i < j))) S := nrP rfl
theorem wp_le {Q : D → Sto → Prop} : wp0 (gLe (.int i) (.int j) S) Q = Q (.bl (decide (i ≤ j))) S := nrP rfl
theorem wp_gt {Q : D → Sto → Prop} : wp0 (gGt (.int i) (.int j) S) Q = Q (.bl (decide (j < i))) S := nrP rfl
theorem wp_ge {Q : D → Sto → Prop} : wp0 (gGe (.int i) (.int j) S) Q = Q (.bl (decide (j ≤ i))) S := nrP rfl
theorem wp_int2 {C : Int → Int → Bool} {f : Int → Int → D} {Q : D → Sto → Prop} : wp0 (pure2 (int2 C f) (.int i) (.int j) S) Q = (C i j = true ∧ Q (f i j) S) := by
  unfold pure2 int2
  by_cases c : C i j = true
  · simp only [if_pos c, c, true_and]; rfl
  · simp only [if_neg c]; exact (eq_false fun h => c h.1).symm
theorem wp_mul {Q : D → Sto → Prop} : wp0 (gMul (.int i) (.int j) S) Q = (CMulW i j ∧ Q (.int (i * j)) S) := by
  unfold gMul; rw [wp_int2, decide_eq_true_eq]
theorem wp_mod {Q : D → Sto → Prop} : wp0 (gMod (.int i) (.int j) S) Q = (0 < j ∧ Q (.int (i % j)) S) := by
  unfold gMod; rw [wp_int2, decide_eq_true_eq]
theorem wp_fdiv {Q : D → Sto → Prop} : wp0 (gFdiv (.int i) (.int j) S) Q = (CDivW i j ∧ Q (.int (i / j)) S) := by
  unfold gFdiv; rw [wp_int2, decide_eq_true_eq]
theorem wp_pow {Q : D → Sto → Prop} : wp0 (gPow (.int i) (.int j) S) Q = (CPow i j ∧ Q (.int (i ^ j.toNat)) S) := by
  unfold gPow; rw [wp_int2, decide_eq_true_eq]
theorem wp_ix {xs : List D} {Q : D → Sto → Prop} : wp0 (gIx (.lst xs) (.int i) S) Q = ∃ d, atI xs i = some d ∧ Q d S := by
  unfold gIx pure2 ix2
  cases e : atI xs i with
  | none => simp only [e]; exact (eq_false fun ⟨_, h, _⟩ => by cases h).symm
  | some d => simp only [e]; exact (propext ⟨fun h => ⟨d, rfl, h⟩, fun ⟨_, h, q⟩ => by cases h; exact q⟩)
theorem wp_ixT {xs : List D} {Q : D → Sto → Prop} : wp0 (gIx (.tup xs) (.int i) S) Q = ∃ d, atI xs i = some d ∧ Q d S := by
  unfold gIx pure2 ix2
  cases e : atI xs i with
  | none => simp only [e]; exact (eq_false fun ⟨_, h, _⟩ => by cases h).symm
  | some d => simp only [e]; exact (propext ⟨fun h => ⟨d, rfl, h⟩, fun ⟨_, h, q⟩ => by cases h; exact q⟩)
theorem wp_toB {Q : Bool → Sto → Prop} : wp0 (toB (.bl c) S) Q = Q c S := nrP rfl
theorem wp_noX {o : Out α} : wp0 (noX o) Q = wp0 o Q := by cases o <;> rfl
end

section
variable {α β : Type} {a : α} {S : Sto} {ρ : List L} {i j : Int} {x y d : D} {c : Bool} {φ φa φb : Ph D} {φl : Ph (List D)} {φc φA φB : Ph Bool} {φt φu : Ph Ctl} {n k : Nat}
theorem w_set {Q : Ctl → Sto → Prop} : wp0 (mSet n φ ρ S) Q = wp0 (φ ρ S) fun d S1 => Q (.nx (ρ.set n (.d d))) S1 := by unfold mSet; rw [wp_bind]; rfl
theorem w_setO {φ : Ph (List D)} {Q : Ctl → Sto → Prop} : wp0 (mSetO n φ ρ S) Q = wp0 (φ ρ S) fun d S1 => Q (.nx (ρ.set n (.own d))) S1 := by unfold mSetO; rw [wp_bind]; rfl
theorem w_m2 {g : D → D → Sto → Out D} {Q : D → Sto → Prop} : wp0 (m2 g φa φb ρ S) Q = wp0 (φa ρ S) fun x S1 => wp0 (φb ρ S1) fun y S2 => wp0 (g x y S2) Q := by unfold m2; simp only [wp_bind]
theorem w_m1 {g : D → Sto → Out D} {Q : D → Sto → Prop} : wp0 (m1 g φa ρ S) Q = wp0 (φa ρ S) fun x S1 => wp0 (g x S1) Q := by unfold m1; simp only [wp_bind]
theorem w_var {Q : D → Sto → Prop} : wp0 (mVar n ρ S) Q = varQ ρ[n]? S Q := by
  unfold mVar varQ
  rcases ρ[n]? with _ | l
  · rfl
  · cases l <;> rfl
theorem varQ_d {Q : D → Sto → Prop} : varQ (some (.d x)) S Q = Q x S := nrP rfl
theorem w_c {Q : D → Sto → Prop} : wp0 (mC d ρ S) Q = Q d S := nrP rfl
theorem w_nil {Q : List D → Sto → Prop} : wp0 (mNil ρ S) Q = Q [] S := nrP rfl
theorem w_cons {Q : List D → Sto → Prop} : wp0 (mCons φa φl ρ S) Q = wp0 (φa ρ S) fun x S1 => wp0 (φl ρ S1) fun xs S2 => Q (x :: xs) S2 := by unfold mCons; simp only [wp_bind, wp_ok]
theorem w_cb {g : List D → Sto → Out D} {Q : D → Sto → Prop} : wp0 (mCB g φl ρ S) Q = wp0 (φl ρ S) fun xs S1 => wp0 (g xs S1) Q := by unfold mCB; rw [wp_bind]
theorem w_cbo {g : List D → Sto → Out (List D)} {Q : List D → Sto → Prop} : wp0 (mCBo g φl ρ S) Q = wp0 (φl ρ S) fun xs S1 => wp0 (g xs S1) Q := by unfold mCBo; rw [wp_bind]
theorem w_int {Q : D → Sto → Prop} : wp0 (pureC intC [.int i] S) Q = Q (.int i) S := nrP rfl
theorem w_intB {Q : D → Sto → Prop} : wp0 (pureC intC [.bl c] S) Q = Q (.int (if c then 1 else 0)) S := nrP rfl
theorem w_abs {Q : D → Sto → Prop} : wp0 (pureC absC [.int i] S) Q = Q (.int (if i < 0 then -i else i)) S := nrP rfl
theorem w_max {Q : D → Sto → Prop} : wp0 (pureC maxC [.int i, .int j] S) Q = Q (.int (if j > i then j else i)) S := nrP rfl
theorem w_min {Q : D → Sto → Prop} : wp0 (pureC minC [.int i, .int j] S) Q = Q (.int (if j < i then j else i)) S := nrP rfl
theorem w_lenL {xs : List D} {Q : D → Sto → Prop} : wp0 (pureC lenC [.lst xs] S) Q = Q (.int xs.length) S := nrP rfl
theorem w_lenT {xs : List D} {Q : D → Sto → Prop} : wp0 (pureC lenC [.tup xs] S) Q = Q (.int xs.length) S := nrP rfl
theorem w_B {Q : Bool → Sto → Prop} : wp0 (mB φ ρ S) Q = wp0 (φ ρ S) fun d S1 => wp0 (toB d S1) Q := by unfold mB; rw [wp_bind]
theorem w_and {Q : Bool → Sto → Prop} : wp0 (mAnd φA φB ρ S) Q = wp0 (φA ρ S) fun c S1 => if c = true then wp0 (φB ρ S1) Q else Q false S1 := by unfold mAnd; simp only [wp_bind, wp_ite, wp_ok]
theorem w_or {Q : Bool → Sto → Prop} : wp0 (mOr φA φB ρ S) Q = wp0 (φA ρ S) fun c S1 => if c = true then Q true S1 else wp0 (φB ρ S1) Q := by unfold mOr; simp only [wp_bind, wp_ite, wp_ok]
theorem w_not {Q : Bool → Sto → Prop} : wp0 (mNot φA ρ S) Q = wp0 (φA ρ S) fun c S1 => Q (!c) S1 := by unfold mNot; simp only [wp_bind, wp_ok]
theorem w_ifs {Q : Ctl → Sto → Prop} : wp0 (mIfS φc φt φu ρ S) Q = wp0 (φc ρ S) fun c S1 => if c = true then wp0 (φt ρ S1) Q else wp0 (φu ρ S1) Q := by unfold mIfS; simp only [wp_bind, wp_ite]
theorem w_if {Q : D → Sto → Prop} : wp0 (mIf φc φa φb ρ S) Q = wp0 (φc ρ S) fun c S1 => if c = true then wp0 (φa ρ S1) Q else wp0 (φb ρ S1) Q := by unfold mIf; simp only [wp_bind, wp_ite]
theorem w_ret {Q : Ctl → Sto → Prop} : wp0 (mRet φ ρ S) Q = wp0 (φ ρ S) fun d S1 => Q (.rt d) S1 := by unfold mRet; simp only [wp_bind, wp_ok]
theorem w_retO {φ : Ph (List D)} {Q : Ctl → Sto → Prop} : wp0 (mRetO φ ρ S) Q = wp0 (φ ρ S) fun d S1 => Q (.ro d) S1 := by unfold mRetO; simp only [wp_bind, wp_ok]
theorem w_next {Q : Ctl → Sto → Prop} : wp0 (mNext ρ S) Q = Q (.nx ρ) S := nrP rfl
theorem w_tup {Q : D → Sto → Prop} : wp0 (mTup φl ρ S) Q = wp0 (φl ρ S) fun xs S1 => line xs.length = true ∧ Q (.tup xs) S1 := by
  unfold mTup; simp only [wp_bind, wp_ite, wp_ok, wp_bad]
  congr 1; funext xs S1; by_cases h : line xs.length = true <;> simp [h]
theorem w_lst {Q : List D → Sto → Prop} : wp0 (mLst φl ρ S) Q = wp0 (φl ρ S) fun xs S1 => line xs.length = true ∧ Q xs S1 := by
  unfold mLst; simp only [wp_bind, wp_ite, wp_ok, wp_bad]
  congr 1; funext xs S1; by_cases h : line xs.length = true <;> simp [h]
theorem w_frz {φ : Ph (List D)} {Q : D → Sto → Prop} : wp0 (mFrz φ ρ S) Q = wp0 (φ ρ S) fun xs S1 => Q (.lst xs) S1 := by unfold mFrz; simp only [wp_bind, wp_ok]
theorem w_andV {Q : D → Sto → Prop} : wp0 (mAndV φa φb ρ S) Q = wp0 (φa ρ S) fun x S1 => wp0 (toB x S1) fun c S2 => if c = true then wp0 (φb ρ S2) Q else Q (.bl false) S2 := by
  unfold mAndV; rw [wp_bind]; congr 1; funext x S1; cases x <;> first | rfl | (rw [wp_toB, wp_ite]; rfl)
theorem w_notV {Q : D → Sto → Prop} : wp0 (mNotV φa ρ S) Q = wp0 (φa ρ S) fun x S1 => wp0 (toB x S1) fun c S2 => Q (.bl (!c)) S2 := by
  unfold mNotV; rw [wp_bind]; congr 1; funext x S1; cases x <;> rfl
/-! the store -/
theorem stQ_st {P : Prop} : stQ (some .st) P = P := nrP rfl
variable {C : List Int} {s1 s2 s3 s4 s5 v : Int}
theorem w_st {m : Nat} {z : Int} (h : S.get m = some z) (hl : S.mode = .law) {Q : D → Sto → Prop} : wp0 (mStIx n m ρ S) Q = stQ ρ[n]? (Q (.int z) S) := by
  unfold mStIx isSt
  rw [h]
  rcases ρ[n]? with _ | l
  · rfl
  · cases l <;> first | rfl | (simp only [hl, if_true]; rfl)
theorem w_st1 {Q : D → Sto → Prop} : wp0 (mStIx n 1 ρ ⟨C, s1, s2, s3, s4, s5, .law⟩) Q = stQ ρ[n]? (Q (.int s1) ⟨C, s1, s2, s3, s4, s5, .law⟩) := w_st rfl rfl
theorem w_st2 {Q : D → Sto → Prop} : wp0 (mStIx n 2 ρ ⟨C, s1, s2, s3, s4, s5, .law⟩) Q = stQ ρ[n]? (Q (.int s2) ⟨C, s1, s2, s3, s4, s5, .law⟩) := w_st rfl rfl
theorem w_st3 {Q : D → Sto → Prop} : wp0 (mStIx n 3 ρ ⟨C, s1, s2, s3, s4, s5, .law⟩) Q = stQ ρ[n]? (Q (.int s3) ⟨C, s1, s2, s3, s4, s5, .law⟩) := w_st rfl rfl
theorem w_st4 {Q : D → Sto → Prop} : wp0 (mStIx n 4 ρ ⟨C, s1, s2, s3, s4, s5, .law⟩) Q = stQ ρ[n]? (Q (.int s4) ⟨C, s1, s2, s3, s4, s5, .law⟩) := w_st rfl rfl
theorem w_st5 {Q : D → Sto → Prop} : wp0 (mStIx n 5 ρ ⟨C, s1, s2, s3, s4, s5, .law⟩) Q = stQ ρ[n]? (Q (.int s5) ⟨C, s1, s2, s3, s4, s5, .law⟩) := w_st rfl rfl
theorem w_cells {Q : D → Sto → Prop} : wp0 (mStCells n ρ ⟨C, s1, s2, s3, s4, s5, .law⟩) Q = stQ ρ[n]? (Q (.lst (C.map .int)) ⟨C, s1, s2, s3, s4, s5, .law⟩) := by
  unfold mStCells isSt
  rcases ρ[n]? with _ | l
  · rfl
  · cases l <;> rfl
theorem lawB_law : lawB ⟨C, s1, s2, s3, s4, s5, .law⟩ = true := by unfold lawB; rfl
theorem w_stS {m : Nat} {Q : Ctl → Sto → Prop} : wp0 (mStSet n m φ ρ S) Q = wp0 (φ ρ S) fun d S1 => if lawB S1 = true then setQ ρ[n]? m S1 d (fun S2 => Q (.nx ρ) S2) else False := by
  unfold mStSet isSt setQ lawB
  rw [wp_bind]
  congr 1
  funext d S1
  cases hmd : S1.mode <;> rcases ρ[n]? with _ | l <;> first
    | (cases l <;> first | rfl | (cases d <;> first | rfl | (simp only [if_true]; cases S1.set m _ <;> rfl)))
    | rfl
theorem setQ1 {Q : Sto → Prop} : setQ (some .st) 1 ⟨C, s1, s2, s3, s4, s5, .law⟩ (.int v) Q = Q ⟨C, v, s2, s3, s4, s5, .law⟩ := nrP rfl
theorem setQ2 {Q : Sto → Prop} : setQ (some .st) 2 ⟨C, s1, s2, s3, s4, s5, .law⟩ (.int v) Q = Q ⟨C, s1, v, s3, s4, s5, .law⟩ := nrP rfl
theorem setQ3 {Q : Sto → Prop} : setQ (some .st) 3 ⟨C, s1, s2, s3, s4, s5, .law⟩ (.int v) Q = Q ⟨C, s1, s2, v, s4, s5, .law⟩ := nrP rfl
theorem setQ5 {Q : Sto → Prop} : setQ (some .st) 5 ⟨C, s1, s2, s3, s4, s5, .law⟩ (.int v) Q = Q ⟨C, s1, s2, s3, s4, v, .law⟩ := nrP rfl
end

section
variable {S : Sto} {ρ : List L} {φl : Ph (List D)} {φ : Ph Ctl} {g : Tgt}
theorem w_for {φi : Ph (List D)} {Q : Ctl → Sto → Prop} : wp0 (mFor g φi φ ρ S) Q = wp0 (φi ρ S) fun ds S1 => wp0 (forD g φ ds ρ S1) Q := by unfold mFor; rw [wp_bind]
theorem w_range1 {Q : List D → Sto → Prop} : wp0 (mRange1 φl ρ S) Q = wp0 (φl ρ S) fun ds S1 => rngQ ds S1 Q := by
  unfold mRange1
  rw [wp_bind]
  congr 1
  funext ds S1
  rcases ds with _ | ⟨d, _ | ⟨d2, ds⟩⟩
  · rfl
  · cases d <;> first | rfl | (rename_i j; by_cases h : okR j = true <;> simp [rngQ, h, wp0])
  · cases d <;> rfl
theorem rngQ_int {j : Int} {Q : List D → Sto → Prop} : rngQ [.int j] S Q = (okR j = true ∧ Q (rangeD 0 j.toNat) S) := nrP rfl
theorem w_seqI {φ : Ph D} {Q : List D → Sto → Prop} : wp0 (mSeqI φ ρ S) Q = wp0 (φ ρ S) fun d S1 => wp0 (seqOf d S1) Q := by unfold mSeqI; rw [wp_bind]
theorem w_seqL {xs : List D} {Q : List D → Sto → Prop} : wp0 (seqOf (.lst xs) S) Q = Q xs S := nrP rfl
theorem w_seqT {xs : List D} {Q : List D → Sto → Prop} : wp0 (seqOf (.tup xs) S) Q = Q xs S := nrP rfl
theorem stepQ_nx {I : List L → Sto → Prop} {Q : Ctl → Sto → Prop} : stepQ I Q (.nx ρ) S = I ρ S := nrP rfl
theorem stepQ_bk {I : List L → Sto → Prop} {Q : Ctl → Sto → Prop} : stepQ I Q (.bk ρ) S = Q (.nx ρ) S := nrP rfl
theorem stepQ_rt {I : List L → Sto → Prop} {Q : Ctl → Sto → Prop} {d : D} : stepQ I Q (.rt d) S = Q (.rt d) S := nrP rfl
theorem forD_inv {Q : Ctl → Sto → Prop} : ∀ (ds : List D) (I : Nat → List L → Sto → Prop) (ρ : List L) (S : Sto), I 0 ρ S →
    (∀ (k : Nat) (d : D) (ρ : List L) (S : Sto), ds[k]? = some d → I k ρ S → ∃ ρ1, g.put d ρ = some ρ1 ∧ wp0 (φ ρ1 S) (stepQ (I (k + 1)) Q)) →
    (∀ ρ S, I ds.length ρ S → Q (.nx ρ) S) → wp0 (forD g φ ds ρ S) Q
  | [], I, ρ, S, h0, _, hd => hd ρ S h0
  | d :: ds, I, ρ, S, h0, hs, hd => by
    obtain ⟨ρ1, e1, w⟩ := hs 0 d ρ S rfl h0
    simp only [forD, e1]
    have go : ∀ ρ2 S2, I 1 ρ2 S2 → wp0 (forD g φ ds ρ2 S2) Q := fun ρ2 S2 h => forD_inv ds (fun k => I (k + 1)) ρ2 S2 h (fun k d ρ S e i => hs (k + 1) d ρ S (by simpa using e) i) fun ρ S i => hd ρ S i
    cases o : φ ρ1 S with
    | ok c S2 =>
      rw [o] at w
      cases c with
      | nx ρ2 => exact go _ _ w
      | ct ρ2 => exact go _ _ w
      | bk ρ2 => exact w
      | rt d => exact w
      | ro xs => exact w
    | exc x ρ' S2 => rw [o] at w; exact w.elim
    | bad => rw [o] at w; exact w.elim
theorem seq_cut {φ k : Ph Ctl} {Q R : Ctl → Sto → Prop} (h : wp0 (φ ρ S) R) (hk : ∀ c S, R c S → sq k Q c S) : wp0 (mSeq φ k ρ S) Q := by
  rw [wp_seq]; exact wp0.mono h hk
theorem w_lc {vs : List Nat} {φi : Ph (List D)} {φt : Ph Bool} {φe : Ph D} {Q : List D → Sto → Prop} : wp0 (mLc g vs φi φt φe ρ S) Q = wp0 (φi ρ S) fun ds S1 => line ds.length = true ∧ wp0 (compD g φt φe ds (wipeL ρ vs) S1) Q := by
  unfold mLc
  rw [wp_bind]
  congr 1
  funext ds S1
  rw [wp_ite]
  by_cases h : line ds.length = true <;> simp [h, wp_bad]
/-- a comprehension without a test -/
theorem comp_inv {φe : Ph D} {Q : List D → Sto → Prop} : ∀ (ds : List D) (I : Nat → List D → Sto → Prop) (ρ : List L) (S : Sto), I 0 [] S →
    (∀ (k : Nat) (d : D) (xs : List D) (S : Sto), ds[k]? = some d → xs.length = k → I k xs S → ∃ ρ1, g.put d ρ = some ρ1 ∧ wp0 (φe ρ1 S) fun x S2 => I (k + 1) (xs ++ [x]) S2) →
    (∀ xs S, xs.length = ds.length → I ds.length xs S → Q xs S) → wp0 (compD g mYes φe ds ρ S) Q
  | [], I, ρ, S, h0, _, hd => hd [] S rfl h0
  | d :: ds, I, ρ, S, h0, hs, hd => by
    obtain ⟨ρ1, e1, w⟩ := hs 0 d [] S rfl rfl h0
    unfold compD
    rw [e1]
    simp only [mYes, wp_bind, wp_noX, wp_ok, if_true]
    refine wp0.mono w fun x S2 i1 => ?_
    have := comp_inv (Q := fun xs S => Q (x :: xs) S) ds (fun k ys S => I (k + 1) (x :: ys) S) ρ S2 i1 (fun k d xs S e l i => by
      obtain ⟨ρ1, e1, w⟩ := hs (k + 1) d (x :: xs) S (by simpa using e) (by simp [l]) i
      exact ⟨ρ1, e1, w⟩) fun xs S l i => hd (x :: xs) S (by simp [l]) i
    exact this
/-- a comprehension without a store's change -/
theorem comp_filter {φt : Ph Bool} {φe : Ph D} (p : D → Bool) (f : D → D) {Q : List D → Sto → Prop} : ∀ (ds : List D) (ρ : List L) (S : Sto), (∀ d ∈ ds, ∃ ρ1, g.put d ρ = some ρ1 ∧ φt ρ1 S = .ok (p d) S ∧ (p d = true → φe ρ1 S = .ok (f d) S)) → Q ((ds.filter p).map f) S → wp0 (compD g φt φe ds ρ S) Q
  | [], ρ, S, _, q => q
  | d :: ds, ρ, S, h, q => by
    obtain ⟨ρ1, e1, e2, e3⟩ := h d List.mem_cons_self
    unfold compD
    rw [e1]
    simp only [wp_bind, wp_noX, e2, wp_ok]
    by_cases c : p d = true
    · rw [c, if_pos rfl]
      simp only [wp_bind, wp_noX, e3 c, wp_ok]
      rw [List.filter_cons, if_pos c, List.map_cons] at q
      exact comp_filter p f (Q := fun xs S => Q (f d :: xs) S) ds ρ S (fun d' h' => h d' (List.mem_cons_of_mem _ h')) q
    · rw [if_neg c]
      rw [List.filter_cons, if_neg c] at q
      exact comp_filter p f ds ρ S (fun d' h' => h d' (List.mem_cons_of_mem _ h')) q
theorem w_call0 {m : Fn} {Q : D → Sto → Prop} : wp0 (mCall0 m [] φl ρ S) Q = wp0 (φl ρ S) fun ds S1 => wp0 (m ds sto0) fun r _ => Q r.toD S1 := by
  unfold mCall0
  rw [wp_bind]
  congr 1
  funext ds S1
  rw [List.append_nil]
  cases m ds sto0 <;> rfl
theorem w_call1 {m : Fn} {n : Nat} {Q : D → Sto → Prop} : wp0 (mCall1 m n φl ρ S) Q = stQ ρ[n]? (wp0 (φl ρ S) fun ds S1 => wp0 (m ds S1) fun r S2 => Q r.toD S2) := by
  unfold mCall1 stQ
  rcases ρ[n]? with _ | l
  · rfl
  · cases l <;> try rfl
    show wp0 (Out.bind _ _) Q = _
    rw [wp_bind]
    congr 1
    funext ds S1
    cases m ds S1 <;> rfl
end
/-- a great bound, not to be reckoned out -/
theorem PB.le {a b : Nat} (h : a ≤ b) : PB a ≤ PB b := Nat.pow_le_pow_right (by decide) h
theorem pb {n k : Nat} (h : n < 2 ^ k) : n < PB k := h
theorem PB.log {n k : Nat} (h : n < PB k) : n.log2 ≤ k := by
  by_cases z : n = 0
  · subst z; simp
  · exact Nat.le_of_lt ((Nat.log2_lt z).mpr h)
theorem mulW {i j : Int} (h1 : i.natAbs < B4000) (h2 : j.natAbs < B4000) : CMulW i j := by
  have a := PB.log h1
  have b := PB.log h2
  show _ < _
  omega
theorem wp_run {hb : Bool} {n : Nat} {φ : Ph Ctl} {ds : List D} {S : Sto} {Q : Res → Sto → Prop} (ρ : List L) (e : startL hb n ds = ρ) (h : wp0 (φ ρ S) fun c S' => match c with
    | .rt d => Q (.d d) S'
    | .ro xs => Q (.own xs) S'
    | .nx _ => Q (.d .non) S'
    | _ => False) : wp0 (runD hb n φ ds S) Q := by
  subst e
  unfold runD
  cases o : φ (startL hb n ds) S with
  | ok c S1 => rw [o] at h; cases c <;> first | exact h | exact h.elim
  | exc x ρ S1 => rw [o] at h; exact h.elim
  | bad => rw [o] at h; exact h.elim
theorem w_app {n : Nat} {φ : Ph D} {ρ : List L} {S : Sto} {Q : Ctl → Sto → Prop} {xs : List D} (h : ρ[n]? = some (.own xs)) : wp0 (mApp n φ ρ S) Q = wp0 (φ ρ S) fun d S1 => line xs.length = true ∧ Q (.nx (ρ.set n (.own (xs ++ [d])))) S1 := by
  unfold mApp
  have e : ownAt ρ n = some xs := by unfold ownAt; rw [h]
  rw [e]
  simp only [wp_bind, wp_ite, wp_ok, wp_bad]
  congr 1; funext d S1
  by_cases h : line xs.length = true <;> simp [h]
theorem w_tupO {n : Nat} {ρ : List L} {S : Sto} {Q : D → Sto → Prop} {xs : List D} (h : ρ[n]? = some (.own xs)) : wp0 (mTupO n ρ S) Q = Q (.tup xs) S := by
  unfold mTupO
  have e : ownAt ρ n = some xs := by unfold ownAt; rw [h]
  rw [e]; rfl
theorem w_mbrk {ρ : List L} {S : Sto} {Q : Ctl → Sto → Prop} : wp0 (mBreak ρ S) Q = Q (.bk ρ) S := nrP rfl
theorem w_lenO {n : Nat} {ρ : List L} {S : Sto} {Q : D → Sto → Prop} {xs : List D} (h : ρ[n]? = some (.own xs)) : wp0 (mLenO n ρ S) Q = Q (.int xs.length) S := by
  unfold mLenO
  have e : ownAt ρ n = some xs := by unfold ownAt; rw [h]
  rw [e]; rfl
theorem w_appPop {i k : Nat} {φ : Ph D} {ρ : List L} {S : Sto} {Q : Ctl → Sto → Prop} {xs ys : List D} (hi : ρ[i]? = some (.own xs)) (hk : ρ[k]? = some (.own ys)) (hn : i ≠ k)
    (h : wp0 (φ ρ S) fun a S1 => ∃ (j : Int) (n : Nat) (d : D), a = .int j ∧ seqIndex? j ys.length = some n ∧ ys[n]? = some d ∧ line xs.length = true ∧ okR j = true ∧ Q (.nx ((ρ.set k (.own (ys.eraseIdx n))).set i (.own (xs ++ [d])))) S1) : wp0 (mAppPop i k φ ρ S) Q := by
  unfold mAppPop
  have e1 : ownAt ρ i = some xs := by unfold ownAt; rw [hi]
  have e2 : ownAt ρ k = some ys := by unfold ownAt; rw [hk]
  rw [e1, e2]
  show wp0 (Out.bind _ _) Q
  rw [wp_bind]
  refine wp0.mono h ?_
  rintro _ S1 ⟨j, n, d, rfl, h1, h2, h3, h4, q⟩
  simp only [h1, h2]
  rw [if_pos ⟨h3, h4, hn⟩]
  exact q
theorem w_setI {i : Nat} {φe φi : Ph D} {ρ : List L} {S : Sto} {Q : Ctl → Sto → Prop} {xs : List D} (hi : ρ[i]? = some (.own xs))
    (h : wp0 (φe ρ S) fun d S1 => wp0 (φi ρ S1) fun a S2 => ∃ (j : Int) (n : Nat), a = .int j ∧ ixN xs.length j = some n ∧ Q (.nx (ρ.set i (.own (xs.set n d)))) S2) : wp0 (mSetI i φe φi ρ S) Q := by
  unfold mSetI
  have e1 : ownAt ρ i = some xs := by unfold ownAt; rw [hi]
  rw [wp_bind]
  refine wp0.mono h fun d S1 h1 => ?_
  rw [e1]
  show wp0 (Out.bind _ _) Q
  rw [wp_bind]
  refine wp0.mono h1 ?_
  rintro _ S2 ⟨j, n, rfl, h2, q⟩
  simp only [h2]
  exact q
theorem w_revO {n : Nat} {ρ : List L} {S : Sto} {Q : List D → Sto → Prop} {xs : List D} (h : ρ[n]? = some (.own xs)) : wp0 (mRevO n ρ S) Q = Q xs.reverse S := by
  unfold mRevO
  have e : ownAt ρ n = some xs := by unfold ownAt; rw [h]
  rw [e]; rfl
theorem w_rg {φ : Ph D} {ρ : List L} {S : Sto} {Q : List D → Sto → Prop} (h : wp0 (φ ρ S) fun d S1 => ∃ j : Int, d = .int j ∧ 0 ≤ j ∧ j ≤ 1000 ∧ Q (rangeD 0 j.toNat) S1) : wp0 (mRg φ ρ S) Q := by
  unfold mRg
  rw [wp_bind]
  refine wp0.mono h ?_
  rintro _ S1 ⟨j, rfl, h1, h2, q⟩
  show wp0 (if 0 ≤ j ∧ j ≤ 1000 then _ else _) Q
  rw [if_pos ⟨h1, h2⟩]
  exact q
theorem w_swap {x i j : Nat} {ρ : List L} {S : Sto} {Q : Ctl → Sto → Prop} {xs : List D} {a b : Int} {n k : Nat} {d e : D} (h1 : ρ[x]? = some (.own xs)) (h2 : ρ[i]? = some (.d (.int a))) (h3 : ρ[j]? = some (.d (.int b))) (h4 : ixN xs.length a = some n) (h5 : ixN xs.length b = some k) (h6 : xs[n]? = some d) (h7 : xs[k]? = some e)
    (q : Q (.nx (ρ.set x (.own ((xs.set n e).set k d)))) S) : wp0 (mSwap x i j ρ S) Q := by
  unfold mSwap
  have e1 : ownAt ρ x = some xs := by unfold ownAt; rw [h1]
  rw [e1, h2, h3]
  simp only [h4, h5, h6, h7]
  exact q
theorem w_gh {i : Nat} {φ : Ph Ctl} {ρ : List L} {S : Sto} {Q : Ctl → Sto → Prop} {xs : List D} (h : ρ[i]? = some (.own xs)) : wp0 (mGh i φ ρ S) Q = wp0 (φ (ρ.set i (.d (.lst xs))) S) Q := by
  unfold mGh frzL
  rw [h]
theorem w_listT {xs : List D} {S : Sto} {Q : List D → Sto → Prop} : wp0 (gList [.tup xs] S) Q = Q xs S := nrP rfl
theorem w_listL {xs : List D} {S : Sto} {Q : List D → Sto → Prop} : wp0 (gList [.lst xs] S) Q = Q xs S := nrP rfl
theorem w_tuple {xs : List D} {S : Sto} {Q : D → Sto → Prop} : wp0 (gTuple [.lst xs] S) Q = Q (.tup xs) S := nrP rfl
theorem w_tupleT {xs : List D} {S : Sto} {Q : D → Sto → Prop} : wp0 (gTuple [.tup xs] S) Q = Q (.tup xs) S := nrP rfl
theorem w_ixO {n : Nat} {φ : Ph D} {ρ : List L} {S : Sto} {Q : D → Sto → Prop} {xs : List D} (hn : ρ[n]? = some (.own xs)) (h : wp0 (φ ρ S) fun d S1 => ∃ j e, d = .int j ∧ atI xs j = some e ∧ Q e S1) : wp0 (mIxO n φ ρ S) Q := by
  unfold mIxO
  have e : ownAt ρ n = some xs := by unfold ownAt; rw [hn]
  rw [e]
  show wp0 (Out.bind _ _) Q
  rw [wp_bind]
  refine wp0.mono h ?_
  rintro _ S1 ⟨j, d, rfl, h2, q⟩
  simp only [h2]
  exact q
end Z
@[irreducible] def wp {α : Type} (o : Out α) (Q : α → Sto → Prop) : Prop := wp0 o Q
theorem wp_is : @wp = @wp0 := by
  funext α o Q
  unfold wp
  rfl
section

variable {α β : Type} {o : Out α} {Q : α → Sto → Prop} {a : α} {S : Sto} {ρ : List L} {i j : Int} {x y d : D} {c : Bool}

theorem wp.mono {Q' : α → Sto → Prop} (h : wp o Q) (k : ∀ a S, Q a S → Q' a S) : wp o Q' := by
  have hz := @Z.wp0.mono
  rw [← wp_is] at hz
  first | exact hz | exact hz ‹_› | (apply hz <;> assumption)

theorem wp.get (h : wp o Q) : ∃ a S, o = .ok a S ∧ Q a S := by
  have hz := @Z.wp0.get
  rw [← wp_is] at hz
  first | exact hz | exact hz ‹_› | (apply hz <;> assumption)

theorem wp.of {a : α} (e : o = .ok a S) (h : Q a S) : wp o Q := by
  have hz := @Z.wp0.of
  rw [← wp_is] at hz
  first | exact hz | exact hz ‹_› | (apply hz <;> assumption)

theorem nrP {u v : Prop} (h : u = v) : u = v := h

theorem wp_ok : wp (.ok a S) Q = Q a S := by
  have hz := @Z.wp_ok
  rw [← wp_is] at hz
  first | exact hz | exact hz ‹_› | (apply hz <;> assumption)

theorem wp_bad : wp (.bad : Out α) Q = False := by
  have hz := @Z.wp_bad
  rw [← wp_is] at hz
  first | exact hz | exact hz ‹_› | (apply hz <;> assumption)

theorem wp_bind {k : α → Sto → Out β} {R : β → Sto → Prop} : wp (o.bind k) R = wp o fun a S => wp (k a S) R := by
  have hz := @Z.wp_bind
  rw [← wp_is] at hz
  first | exact hz | exact hz ‹_› | (apply hz <;> assumption)

theorem wp_ite {p : Prop} [Decidable p] {o2 : Out α} : wp (if p then o else o2) Q = if p then wp o Q else wp o2 Q := by
  have hz := @Z.wp_ite
  rw [← wp_is] at hz
  first | exact hz | exact hz ‹_› | (apply hz <;> assumption)

theorem sq_nx {k : Ph Ctl} {Q : Ctl → Sto → Prop} : sq k Q (.nx ρ) S = wp (k ρ S) Q := by
  have hz := @Z.sq_nx
  rw [← wp_is] at hz
  first | exact hz | exact hz ‹_› | (apply hz <;> assumption)

theorem sq_rt {k : Ph Ctl} {Q : Ctl → Sto → Prop} : sq k Q (.rt d) S = Q (.rt d) S := nrP rfl

theorem sq_ro {k : Ph Ctl} {Q : Ctl → Sto → Prop} {xs : List D} : sq k Q (.ro xs) S = Q (.ro xs) S := nrP rfl

theorem sq_bk {k : Ph Ctl} {Q : Ctl → Sto → Prop} : sq k Q (.bk ρ) S = Q (.bk ρ) S := nrP rfl

theorem wp_seq {φ k : Ph Ctl} {Q : Ctl → Sto → Prop} : wp (mSeq φ k ρ S) Q = wp (φ ρ S) (sq k Q) := by
  have hz := @Z.wp_seq
  rw [← wp_is] at hz
  first | exact hz | exact hz ‹_› | (apply hz <;> assumption)

theorem wp_add {Q : D → Sto → Prop} : wp (gAdd (.int i) (.int j) S) Q = Q (.int (i + j)) S := by
  have hz := @Z.wp_add
  rw [← wp_is] at hz
  first | exact hz | exact hz ‹_› | (apply hz <;> assumption)

theorem wp_sub {Q : D → Sto → Prop} : wp (gMinus (.int i) (.int j) S) Q = Q (.int (i - j)) S := by
  have hz := @Z.wp_sub
  rw [← wp_is] at hz
  first | exact hz | exact hz ‹_› | (apply hz <;> assumption)

theorem wp_lt {Q : D → Sto → Prop} : wp (gLt (.int i) (.int j) S) Q = Q (.bl (decide (i < j))) S := by
  have hz := @Z.wp_lt
  rw [← wp_is] at hz
  first | exact hz | exact hz ‹_› | (apply hz <;> assumption)

theorem wp_le {Q : D → Sto → Prop} : wp (gLe (.int i) (.int j) S) Q = Q (.bl (decide (i ≤ j))) S := by
  have hz := @Z.wp_le
  rw [← wp_is] at hz
  first | exact hz | exact hz ‹_› | (apply hz <;> assumption)

theorem wp_gt {Q : D → Sto → Prop} : wp (gGt (.int i) (.int j) S) Q = Q (.bl (decide (j < i))) S := by
  have hz := @Z.wp_gt
  rw [← wp_is] at hz
  first | exact hz | exact hz ‹_› | (apply hz <;> assumption)

theorem wp_ge {Q : D → Sto → Prop} : wp (gGe (.int i) (.int j) S) Q = Q (.bl (decide (j ≤ i))) S := by
  have hz := @Z.wp_ge
  rw [← wp_is] at hz
  first | exact hz | exact hz ‹_› | (apply hz <;> assumption)

theorem wp_int2 {C : Int → Int → Bool} {f : Int → Int → D} {Q : D → Sto → Prop} : wp (pure2 (int2 C f) (.int i) (.int j) S) Q = (C i j = true ∧ Q (f i j) S) := by
  have hz := @Z.wp_int2
  rw [← wp_is] at hz
  first | exact hz | exact hz ‹_› | (apply hz <;> assumption)

theorem wp_mul {Q : D → Sto → Prop} : wp (gMul (.int i) (.int j) S) Q = (CMulW i j ∧ Q (.int (i * j)) S) := by
  have hz := @Z.wp_mul
  rw [← wp_is] at hz
  first | exact hz | exact hz ‹_› | (apply hz <;> assumption)

theorem wp_mod {Q : D → Sto → Prop} : wp (gMod (.int i) (.int j) S) Q = (0 < j ∧ Q (.int (i % j)) S) := by
  have hz := @Z.wp_mod
  rw [← wp_is] at hz
  first | exact hz | exact hz ‹_› | (apply hz <;> assumption)

theorem wp_fdiv {Q : D → Sto → Prop} : wp (gFdiv (.int i) (.int j) S) Q = (CDivW i j ∧ Q (.int (i / j)) S) := by
  have hz := @Z.wp_fdiv
  rw [← wp_is] at hz
  first | exact hz | exact hz ‹_› | (apply hz <;> assumption)

theorem wp_pow {Q : D → Sto → Prop} : wp (gPow (.int i) (.int j) S) Q = (CPow i j ∧ Q (.int (i ^ j.toNat)) S) := by
  have hz := @Z.wp_pow
  rw [← wp_is] at hz
  first | exact hz | exact hz ‹_› | (apply hz <;> assumption)

theorem wp_ix {xs : List D} {Q : D → Sto → Prop} : wp (gIx (.lst xs) (.int i) S) Q = ∃ d, atI xs i = some d ∧ Q d S := by
  have hz := @Z.wp_ix
  rw [← wp_is] at hz
  first | exact hz | exact hz ‹_› | (apply hz <;> assumption)

theorem wp_ixT {xs : List D} {Q : D → Sto → Prop} : wp (gIx (.tup xs) (.int i) S) Q = ∃ d, atI xs i = some d ∧ Q d S := by
  have hz := @Z.wp_ixT
  rw [← wp_is] at hz
  first | exact hz | exact hz ‹_› | (apply hz <;> assumption)

theorem wp_toB {Q : Bool → Sto → Prop} : wp (toB (.bl c) S) Q = Q c S := by
  have hz := @Z.wp_toB
  rw [← wp_is] at hz
  first | exact hz | exact hz ‹_› | (apply hz <;> assumption)

theorem wp_noX {o : Out α} : wp (noX o) Q = wp o Q := by
  have hz := @Z.wp_noX
  rw [← wp_is] at hz
  first | exact hz | exact hz ‹_› | (apply hz <;> assumption)

end

section

variable {α β : Type} {a : α} {S : Sto} {ρ : List L} {i j : Int} {x y d : D} {c : Bool} {φ φa φb : Ph D} {φl : Ph (List D)} {φc φA φB : Ph Bool} {φt φu : Ph Ctl} {n k : Nat}

theorem w_set {Q : Ctl → Sto → Prop} : wp (mSet n φ ρ S) Q = wp (φ ρ S) fun d S1 => Q (.nx (ρ.set n (.d d))) S1 := by
  have hz := @Z.w_set
  rw [← wp_is] at hz
  first | exact hz | exact hz ‹_› | (apply hz <;> assumption)

theorem w_setO {φ : Ph (List D)} {Q : Ctl → Sto → Prop} : wp (mSetO n φ ρ S) Q = wp (φ ρ S) fun d S1 => Q (.nx (ρ.set n (.own d))) S1 := by
  have hz := @Z.w_setO
  rw [← wp_is] at hz
  first | exact hz | exact hz ‹_› | (apply hz <;> assumption)

theorem w_m2 {g : D → D → Sto → Out D} {Q : D → Sto → Prop} : wp (m2 g φa φb ρ S) Q = wp (φa ρ S) fun x S1 => wp (φb ρ S1) fun y S2 => wp (g x y S2) Q := by
  have hz := @Z.w_m2
  rw [← wp_is] at hz
  first | exact hz | exact hz ‹_› | (apply hz <;> assumption)

theorem w_m1 {g : D → Sto → Out D} {Q : D → Sto → Prop} : wp (m1 g φa ρ S) Q = wp (φa ρ S) fun x S1 => wp (g x S1) Q := by
  have hz := @Z.w_m1
  rw [← wp_is] at hz
  first | exact hz | exact hz ‹_› | (apply hz <;> assumption)

theorem w_var {Q : D → Sto → Prop} : wp (mVar n ρ S) Q = varQ ρ[n]? S Q := by
  have hz := @Z.w_var
  rw [← wp_is] at hz
  first | exact hz | exact hz ‹_› | (apply hz <;> assumption)

theorem varQ_d {Q : D → Sto → Prop} : varQ (some (.d x)) S Q = Q x S := nrP rfl

theorem w_c {Q : D → Sto → Prop} : wp (mC d ρ S) Q = Q d S := by
  have hz := @Z.w_c
  rw [← wp_is] at hz
  first | exact hz | exact hz ‹_› | (apply hz <;> assumption)

theorem w_nil {Q : List D → Sto → Prop} : wp (mNil ρ S) Q = Q [] S := by
  have hz := @Z.w_nil
  rw [← wp_is] at hz
  first | exact hz | exact hz ‹_› | (apply hz <;> assumption)

theorem w_cons {Q : List D → Sto → Prop} : wp (mCons φa φl ρ S) Q = wp (φa ρ S) fun x S1 => wp (φl ρ S1) fun xs S2 => Q (x :: xs) S2 := by
  have hz := @Z.w_cons
  rw [← wp_is] at hz
  first | exact hz | exact hz ‹_› | (apply hz <;> assumption)

theorem w_cb {g : List D → Sto → Out D} {Q : D → Sto → Prop} : wp (mCB g φl ρ S) Q = wp (φl ρ S) fun xs S1 => wp (g xs S1) Q := by
  have hz := @Z.w_cb
  rw [← wp_is] at hz
  first | exact hz | exact hz ‹_› | (apply hz <;> assumption)

theorem w_cbo {g : List D → Sto → Out (List D)} {Q : List D → Sto → Prop} : wp (mCBo g φl ρ S) Q = wp (φl ρ S) fun xs S1 => wp (g xs S1) Q := by
  have hz := @Z.w_cbo
  rw [← wp_is] at hz
  first | exact hz | exact hz ‹_› | (apply hz <;> assumption)

theorem w_int {Q : D → Sto → Prop} : wp (pureC intC [.int i] S) Q = Q (.int i) S := by
  have hz := @Z.w_int
  rw [← wp_is] at hz
  first | exact hz | exact hz ‹_› | (apply hz <;> assumption)

theorem w_intB {Q : D → Sto → Prop} : wp (pureC intC [.bl c] S) Q = Q (.int (if c then 1 else 0)) S := by
  have hz := @Z.w_intB
  rw [← wp_is] at hz
  first | exact hz | exact hz ‹_› | (apply hz <;> assumption)

theorem w_abs {Q : D → Sto → Prop} : wp (pureC absC [.int i] S) Q = Q (.int (if i < 0 then -i else i)) S := by
  have hz := @Z.w_abs
  rw [← wp_is] at hz
  first | exact hz | exact hz ‹_› | (apply hz <;> assumption)

theorem w_max {Q : D → Sto → Prop} : wp (pureC maxC [.int i, .int j] S) Q = Q (.int (if j > i then j else i)) S := by
  have hz := @Z.w_max
  rw [← wp_is] at hz
  first | exact hz | exact hz ‹_› | (apply hz <;> assumption)

theorem w_min {Q : D → Sto → Prop} : wp (pureC minC [.int i, .int j] S) Q = Q (.int (if j < i then j else i)) S := by
  have hz := @Z.w_min
  rw [← wp_is] at hz
  first | exact hz | exact hz ‹_› | (apply hz <;> assumption)

theorem w_lenL {xs : List D} {Q : D → Sto → Prop} : wp (pureC lenC [.lst xs] S) Q = Q (.int xs.length) S := by
  have hz := @Z.w_lenL
  rw [← wp_is] at hz
  first | exact hz | exact hz ‹_› | (apply hz <;> assumption)

theorem w_lenT {xs : List D} {Q : D → Sto → Prop} : wp (pureC lenC [.tup xs] S) Q = Q (.int xs.length) S := by
  have hz := @Z.w_lenT
  rw [← wp_is] at hz
  first | exact hz | exact hz ‹_› | (apply hz <;> assumption)

theorem w_B {Q : Bool → Sto → Prop} : wp (mB φ ρ S) Q = wp (φ ρ S) fun d S1 => wp (toB d S1) Q := by
  have hz := @Z.w_B
  rw [← wp_is] at hz
  first | exact hz | exact hz ‹_› | (apply hz <;> assumption)

theorem w_and {Q : Bool → Sto → Prop} : wp (mAnd φA φB ρ S) Q = wp (φA ρ S) fun c S1 => if c = true then wp (φB ρ S1) Q else Q false S1 := by
  have hz := @Z.w_and
  rw [← wp_is] at hz
  first | exact hz | exact hz ‹_› | (apply hz <;> assumption)

theorem w_or {Q : Bool → Sto → Prop} : wp (mOr φA φB ρ S) Q = wp (φA ρ S) fun c S1 => if c = true then Q true S1 else wp (φB ρ S1) Q := by
  have hz := @Z.w_or
  rw [← wp_is] at hz
  first | exact hz | exact hz ‹_› | (apply hz <;> assumption)

theorem w_not {Q : Bool → Sto → Prop} : wp (mNot φA ρ S) Q = wp (φA ρ S) fun c S1 => Q (!c) S1 := by
  have hz := @Z.w_not
  rw [← wp_is] at hz
  first | exact hz | exact hz ‹_› | (apply hz <;> assumption)

theorem w_ifs {Q : Ctl → Sto → Prop} : wp (mIfS φc φt φu ρ S) Q = wp (φc ρ S) fun c S1 => if c = true then wp (φt ρ S1) Q else wp (φu ρ S1) Q := by
  have hz := @Z.w_ifs
  rw [← wp_is] at hz
  first | exact hz | exact hz ‹_› | (apply hz <;> assumption)

theorem w_if {Q : D → Sto → Prop} : wp (mIf φc φa φb ρ S) Q = wp (φc ρ S) fun c S1 => if c = true then wp (φa ρ S1) Q else wp (φb ρ S1) Q := by
  have hz := @Z.w_if
  rw [← wp_is] at hz
  first | exact hz | exact hz ‹_› | (apply hz <;> assumption)

theorem w_ret {Q : Ctl → Sto → Prop} : wp (mRet φ ρ S) Q = wp (φ ρ S) fun d S1 => Q (.rt d) S1 := by
  have hz := @Z.w_ret
  rw [← wp_is] at hz
  first | exact hz | exact hz ‹_› | (apply hz <;> assumption)

theorem w_retO {φ : Ph (List D)} {Q : Ctl → Sto → Prop} : wp (mRetO φ ρ S) Q = wp (φ ρ S) fun d S1 => Q (.ro d) S1 := by
  have hz := @Z.w_retO
  rw [← wp_is] at hz
  first | exact hz | exact hz ‹_› | (apply hz <;> assumption)

theorem w_next {Q : Ctl → Sto → Prop} : wp (mNext ρ S) Q = Q (.nx ρ) S := by
  have hz := @Z.w_next
  rw [← wp_is] at hz
  first | exact hz | exact hz ‹_› | (apply hz <;> assumption)

theorem w_tup {Q : D → Sto → Prop} : wp (mTup φl ρ S) Q = wp (φl ρ S) fun xs S1 => line xs.length = true ∧ Q (.tup xs) S1 := by
  have hz := @Z.w_tup
  rw [← wp_is] at hz
  first | exact hz | exact hz ‹_› | (apply hz <;> assumption)

theorem w_lst {Q : List D → Sto → Prop} : wp (mLst φl ρ S) Q = wp (φl ρ S) fun xs S1 => line xs.length = true ∧ Q xs S1 := by
  have hz := @Z.w_lst
  rw [← wp_is] at hz
  first | exact hz | exact hz ‹_› | (apply hz <;> assumption)

theorem w_frz {φ : Ph (List D)} {Q : D → Sto → Prop} : wp (mFrz φ ρ S) Q = wp (φ ρ S) fun xs S1 => Q (.lst xs) S1 := by
  have hz := @Z.w_frz
  rw [← wp_is] at hz
  first | exact hz | exact hz ‹_› | (apply hz <;> assumption)

theorem w_andV {Q : D → Sto → Prop} : wp (mAndV φa φb ρ S) Q = wp (φa ρ S) fun x S1 => wp (toB x S1) fun c S2 => if c = true then wp (φb ρ S2) Q else Q (.bl false) S2 := by
  have hz := @Z.w_andV
  rw [← wp_is] at hz
  first | exact hz | exact hz ‹_› | (apply hz <;> assumption)

theorem w_notV {Q : D → Sto → Prop} : wp (mNotV φa ρ S) Q = wp (φa ρ S) fun x S1 => wp (toB x S1) fun c S2 => Q (.bl (!c)) S2 := by
  have hz := @Z.w_notV
  rw [← wp_is] at hz
  first | exact hz | exact hz ‹_› | (apply hz <;> assumption)

theorem stQ_st {P : Prop} : stQ (some .st) P = P := nrP rfl

variable {C : List Int} {s1 s2 s3 s4 s5 v : Int}

theorem w_st {m : Nat} {z : Int} (h : S.get m = some z) (hl : S.mode = .law) {Q : D → Sto → Prop} : wp (mStIx n m ρ S) Q = stQ ρ[n]? (Q (.int z) S) := by
  have hz := @Z.w_st
  rw [← wp_is] at hz
  first | exact hz | exact hz ‹_› | (apply hz <;> assumption)

theorem w_st1 {Q : D → Sto → Prop} : wp (mStIx n 1 ρ ⟨C, s1, s2, s3, s4, s5, .law⟩) Q = stQ ρ[n]? (Q (.int s1) ⟨C, s1, s2, s3, s4, s5, .law⟩) := by
  have hz := @Z.w_st1
  rw [← wp_is] at hz
  first | exact hz | exact hz ‹_› | (apply hz <;> assumption)

theorem w_st2 {Q : D → Sto → Prop} : wp (mStIx n 2 ρ ⟨C, s1, s2, s3, s4, s5, .law⟩) Q = stQ ρ[n]? (Q (.int s2) ⟨C, s1, s2, s3, s4, s5, .law⟩) := by
  have hz := @Z.w_st2
  rw [← wp_is] at hz
  first | exact hz | exact hz ‹_› | (apply hz <;> assumption)

theorem w_st3 {Q : D → Sto → Prop} : wp (mStIx n 3 ρ ⟨C, s1, s2, s3, s4, s5, .law⟩) Q = stQ ρ[n]? (Q (.int s3) ⟨C, s1, s2, s3, s4, s5, .law⟩) := by
  have hz := @Z.w_st3
  rw [← wp_is] at hz
  first | exact hz | exact hz ‹_› | (apply hz <;> assumption)

theorem w_st4 {Q : D → Sto → Prop} : wp (mStIx n 4 ρ ⟨C, s1, s2, s3, s4, s5, .law⟩) Q = stQ ρ[n]? (Q (.int s4) ⟨C, s1, s2, s3, s4, s5, .law⟩) := by
  have hz := @Z.w_st4
  rw [← wp_is] at hz
  first | exact hz | exact hz ‹_› | (apply hz <;> assumption)

theorem w_st5 {Q : D → Sto → Prop} : wp (mStIx n 5 ρ ⟨C, s1, s2, s3, s4, s5, .law⟩) Q = stQ ρ[n]? (Q (.int s5) ⟨C, s1, s2, s3, s4, s5, .law⟩) := by
  have hz := @Z.w_st5
  rw [← wp_is] at hz
  first | exact hz | exact hz ‹_› | (apply hz <;> assumption)

theorem w_cells {Q : D → Sto → Prop} : wp (mStCells n ρ ⟨C, s1, s2, s3, s4, s5, .law⟩) Q = stQ ρ[n]? (Q (.lst (C.map .int)) ⟨C, s1, s2, s3, s4, s5, .law⟩) := by
  have hz := @Z.w_cells
  rw [← wp_is] at hz
  first | exact hz | exact hz ‹_› | (apply hz <;> assumption)

theorem lawB_law : lawB ⟨C, s1, s2, s3, s4, s5, .law⟩ = true := by unfold lawB; rfl

theorem w_stS {m : Nat} {Q : Ctl → Sto → Prop} : wp (mStSet n m φ ρ S) Q = wp (φ ρ S) fun d S1 => if lawB S1 = true then setQ ρ[n]? m S1 d (fun S2 => Q (.nx ρ) S2) else False := by
  have hz := @Z.w_stS
  rw [← wp_is] at hz
  first | exact hz | exact hz ‹_› | (apply hz <;> assumption)

theorem setQ1 {Q : Sto → Prop} : setQ (some .st) 1 ⟨C, s1, s2, s3, s4, s5, .law⟩ (.int v) Q = Q ⟨C, v, s2, s3, s4, s5, .law⟩ := nrP rfl

theorem setQ2 {Q : Sto → Prop} : setQ (some .st) 2 ⟨C, s1, s2, s3, s4, s5, .law⟩ (.int v) Q = Q ⟨C, s1, v, s3, s4, s5, .law⟩ := nrP rfl

theorem setQ3 {Q : Sto → Prop} : setQ (some .st) 3 ⟨C, s1, s2, s3, s4, s5, .law⟩ (.int v) Q = Q ⟨C, s1, s2, v, s4, s5, .law⟩ := nrP rfl

theorem setQ5 {Q : Sto → Prop} : setQ (some .st) 5 ⟨C, s1, s2, s3, s4, s5, .law⟩ (.int v) Q = Q ⟨C, s1, s2, s3, s4, v, .law⟩ := nrP rfl

end

section

variable {S : Sto} {ρ : List L} {φl : Ph (List D)} {φ : Ph Ctl} {g : Tgt}

theorem w_for {φi : Ph (List D)} {Q : Ctl → Sto → Prop} : wp (mFor g φi φ ρ S) Q = wp (φi ρ S) fun ds S1 => wp (forD g φ ds ρ S1) Q := by
  have hz := @Z.w_for
  rw [← wp_is] at hz
  first | exact hz | exact hz ‹_› | (apply hz <;> assumption)

theorem w_range1 {Q : List D → Sto → Prop} : wp (mRange1 φl ρ S) Q = wp (φl ρ S) fun ds S1 => rngQ ds S1 Q := by
  have hz := @Z.w_range1
  rw [← wp_is] at hz
  first | exact hz | exact hz ‹_› | (apply hz <;> assumption)

theorem rngQ_int {j : Int} {Q : List D → Sto → Prop} : rngQ [.int j] S Q = (okR j = true ∧ Q (rangeD 0 j.toNat) S) := nrP rfl

theorem w_seqI {φ : Ph D} {Q : List D → Sto → Prop} : wp (mSeqI φ ρ S) Q = wp (φ ρ S) fun d S1 => wp (seqOf d S1) Q := by
  have hz := @Z.w_seqI
  rw [← wp_is] at hz
  first | exact hz | exact hz ‹_› | (apply hz <;> assumption)

theorem w_seqL {xs : List D} {Q : List D → Sto → Prop} : wp (seqOf (.lst xs) S) Q = Q xs S := by
  have hz := @Z.w_seqL
  rw [← wp_is] at hz
  first | exact hz | exact hz ‹_› | (apply hz <;> assumption)

theorem w_seqT {xs : List D} {Q : List D → Sto → Prop} : wp (seqOf (.tup xs) S) Q = Q xs S := by
  have hz := @Z.w_seqT
  rw [← wp_is] at hz
  first | exact hz | exact hz ‹_› | (apply hz <;> assumption)

theorem stepQ_nx {I : List L → Sto → Prop} {Q : Ctl → Sto → Prop} : stepQ I Q (.nx ρ) S = I ρ S := nrP rfl

theorem stepQ_bk {I : List L → Sto → Prop} {Q : Ctl → Sto → Prop} : stepQ I Q (.bk ρ) S = Q (.nx ρ) S := nrP rfl

theorem stepQ_rt {I : List L → Sto → Prop} {Q : Ctl → Sto → Prop} {d : D} : stepQ I Q (.rt d) S = Q (.rt d) S := nrP rfl

theorem forD_inv {Q : Ctl → Sto → Prop} : ∀ (ds : List D) (I : Nat → List L → Sto → Prop) (ρ : List L) (S : Sto), I 0 ρ S →
    (∀ (k : Nat) (d : D) (ρ : List L) (S : Sto), ds[k]? = some d → I k ρ S → ∃ ρ1, g.put d ρ = some ρ1 ∧ wp (φ ρ1 S) (stepQ (I (k + 1)) Q)) →
    (∀ ρ S, I ds.length ρ S → Q (.nx ρ) S) → wp (forD g φ ds ρ S) Q := by
  have hz := @Z.forD_inv
  rw [← wp_is] at hz
  first | exact hz | exact hz ‹_› | (apply hz <;> assumption)

theorem seq_cut {φ k : Ph Ctl} {Q R : Ctl → Sto → Prop} (h : wp (φ ρ S) R) (hk : ∀ c S, R c S → sq k Q c S) : wp (mSeq φ k ρ S) Q := by
  have hz := @Z.seq_cut
  rw [← wp_is] at hz
  first | exact hz | exact hz ‹_› | (apply hz <;> assumption)

theorem w_lc {vs : List Nat} {φi : Ph (List D)} {φt : Ph Bool} {φe : Ph D} {Q : List D → Sto → Prop} : wp (mLc g vs φi φt φe ρ S) Q = wp (φi ρ S) fun ds S1 => line ds.length = true ∧ wp (compD g φt φe ds (wipeL ρ vs) S1) Q := by
  have hz := @Z.w_lc
  rw [← wp_is] at hz
  first | exact hz | exact hz ‹_› | (apply hz <;> assumption)

theorem comp_inv {φe : Ph D} {Q : List D → Sto → Prop} : ∀ (ds : List D) (I : Nat → List D → Sto → Prop) (ρ : List L) (S : Sto), I 0 [] S →
    (∀ (k : Nat) (d : D) (xs : List D) (S : Sto), ds[k]? = some d → xs.length = k → I k xs S → ∃ ρ1, g.put d ρ = some ρ1 ∧ wp (φe ρ1 S) fun x S2 => I (k + 1) (xs ++ [x]) S2) →
    (∀ xs S, xs.length = ds.length → I ds.length xs S → Q xs S) → wp (compD g mYes φe ds ρ S) Q := by
  have hz := @Z.comp_inv
  rw [← wp_is] at hz
  first | exact hz | exact hz ‹_› | (apply hz <;> assumption)

theorem comp_filter {φt : Ph Bool} {φe : Ph D} (p : D → Bool) (f : D → D) {Q : List D → Sto → Prop} : ∀ (ds : List D) (ρ : List L) (S : Sto), (∀ d ∈ ds, ∃ ρ1, g.put d ρ = some ρ1 ∧ φt ρ1 S = .ok (p d) S ∧ (p d = true → φe ρ1 S = .ok (f d) S)) → Q ((ds.filter p).map f) S → wp (compD g φt φe ds ρ S) Q := by
  have hz := @Z.comp_filter
  rw [← wp_is] at hz
  first | exact hz | exact hz ‹_› | (apply hz <;> assumption)

theorem w_call0 {m : Fn} {Q : D → Sto → Prop} : wp (mCall0 m [] φl ρ S) Q = wp (φl ρ S) fun ds S1 => wp (m ds sto0) fun r _ => Q r.toD S1 := by
  have hz := @Z.w_call0
  rw [← wp_is] at hz
  first | exact hz | exact hz ‹_› | (apply hz <;> assumption)

theorem w_call1 {m : Fn} {n : Nat} {Q : D → Sto → Prop} : wp (mCall1 m n φl ρ S) Q = stQ ρ[n]? (wp (φl ρ S) fun ds S1 => wp (m ds S1) fun r S2 => Q r.toD S2) := by
  have hz := @Z.w_call1
  rw [← wp_is] at hz
  first | exact hz | exact hz ‹_› | (apply hz <;> assumption)

end

theorem PB.le {a b : Nat} (h : a ≤ b) : PB a ≤ PB b := Nat.pow_le_pow_right (by decide) h

theorem pb {n k : Nat} (h : n < 2 ^ k) : n < PB k := h

theorem PB.log {n k : Nat} (h : n < PB k) : n.log2 ≤ k := by
  by_cases z : n = 0
  · subst z; simp
  · exact Nat.le_of_lt ((Nat.log2_lt z).mpr h)

theorem mulW {i j : Int} (h1 : i.natAbs < B4000) (h2 : j.natAbs < B4000) : CMulW i j := by
  have a := PB.log h1
  have b := PB.log h2
  show _ < _
  omega

theorem wp_run {hb : Bool} {n : Nat} {φ : Ph Ctl} {ds : List D} {S : Sto} {Q : Res → Sto → Prop} (ρ : List L) (e : startL hb n ds = ρ) (h : wp (φ ρ S) fun c S' => match c with
    | .rt d => Q (.d d) S'
    | .ro xs => Q (.own xs) S'
    | .nx _ => Q (.d .non) S'
    | _ => False) : wp (runD hb n φ ds S) Q := by
  have hz := @Z.wp_run
  rw [← wp_is] at hz
  first | exact hz | exact hz ‹_› | (apply hz <;> assumption)

theorem w_app {n : Nat} {φ : Ph D} {ρ : List L} {S : Sto} {Q : Ctl → Sto → Prop} {xs : List D} (h : ρ[n]? = some (.own xs)) : wp (mApp n φ ρ S) Q = wp (φ ρ S) fun d S1 => line xs.length = true ∧ Q (.nx (ρ.set n (.own (xs ++ [d])))) S1 := by
  have hz := @Z.w_app
  rw [← wp_is] at hz
  first | exact hz | exact hz ‹_› | (apply hz <;> assumption)

theorem w_tupO {n : Nat} {ρ : List L} {S : Sto} {Q : D → Sto → Prop} {xs : List D} (h : ρ[n]? = some (.own xs)) : wp (mTupO n ρ S) Q = Q (.tup xs) S := by
  have hz := @Z.w_tupO
  rw [← wp_is] at hz
  first | exact hz | exact hz ‹_› | (apply hz <;> assumption)

theorem w_mbrk {ρ : List L} {S : Sto} {Q : Ctl → Sto → Prop} : wp (mBreak ρ S) Q = Q (.bk ρ) S := by
  have hz := @Z.w_mbrk
  rw [← wp_is] at hz
  first | exact hz | exact hz ‹_› | (apply hz <;> assumption)

theorem w_lenO {n : Nat} {ρ : List L} {S : Sto} {Q : D → Sto → Prop} {xs : List D} (h : ρ[n]? = some (.own xs)) : wp (mLenO n ρ S) Q = Q (.int xs.length) S := by
  have hz := @Z.w_lenO
  rw [← wp_is] at hz
  first | exact hz | exact hz ‹_› | (apply hz <;> assumption)

theorem w_appPop {i k : Nat} {φ : Ph D} {ρ : List L} {S : Sto} {Q : Ctl → Sto → Prop} {xs ys : List D} (hi : ρ[i]? = some (.own xs)) (hk : ρ[k]? = some (.own ys)) (hn : i ≠ k)
    (h : wp (φ ρ S) fun a S1 => ∃ (j : Int) (n : Nat) (d : D), a = .int j ∧ seqIndex? j ys.length = some n ∧ ys[n]? = some d ∧ line xs.length = true ∧ okR j = true ∧ Q (.nx ((ρ.set k (.own (ys.eraseIdx n))).set i (.own (xs ++ [d])))) S1) : wp (mAppPop i k φ ρ S) Q := by
  have hz := @Z.w_appPop
  rw [← wp_is] at hz
  first | exact hz | exact hz ‹_› | (apply hz <;> assumption)

theorem w_setI {i : Nat} {φe φi : Ph D} {ρ : List L} {S : Sto} {Q : Ctl → Sto → Prop} {xs : List D} (hi : ρ[i]? = some (.own xs))
    (h : wp (φe ρ S) fun d S1 => wp (φi ρ S1) fun a S2 => ∃ (j : Int) (n : Nat), a = .int j ∧ ixN xs.length j = some n ∧ Q (.nx (ρ.set i (.own (xs.set n d)))) S2) : wp (mSetI i φe φi ρ S) Q := by
  have hz := @Z.w_setI
  rw [← wp_is] at hz
  first | exact hz | exact hz ‹_› | (apply hz <;> assumption)

theorem w_revO {n : Nat} {ρ : List L} {S : Sto} {Q : List D → Sto → Prop} {xs : List D} (h : ρ[n]? = some (.own xs)) : wp (mRevO n ρ S) Q = Q xs.reverse S := by
  have hz := @Z.w_revO
  rw [← wp_is] at hz
  first | exact hz | exact hz ‹_› | (apply hz <;> assumption)

theorem w_rg {φ : Ph D} {ρ : List L} {S : Sto} {Q : List D → Sto → Prop} (h : wp (φ ρ S) fun d S1 => ∃ j : Int, d = .int j ∧ 0 ≤ j ∧ j ≤ 1000 ∧ Q (rangeD 0 j.toNat) S1) : wp (mRg φ ρ S) Q := by
  have hz := @Z.w_rg
  rw [← wp_is] at hz
  first | exact hz | exact hz ‹_› | (apply hz <;> assumption)

theorem w_swap {x i j : Nat} {ρ : List L} {S : Sto} {Q : Ctl → Sto → Prop} {xs : List D} {a b : Int} {n k : Nat} {d e : D} (h1 : ρ[x]? = some (.own xs)) (h2 : ρ[i]? = some (.d (.int a))) (h3 : ρ[j]? = some (.d (.int b))) (h4 : ixN xs.length a = some n) (h5 : ixN xs.length b = some k) (h6 : xs[n]? = some d) (h7 : xs[k]? = some e)
    (q : Q (.nx (ρ.set x (.own ((xs.set n e).set k d)))) S) : wp (mSwap x i j ρ S) Q := by
  have hz := @Z.w_swap
  rw [← wp_is] at hz
  first | exact hz | exact hz ‹_› | (apply hz <;> assumption)

theorem w_gh {i : Nat} {φ : Ph Ctl} {ρ : List L} {S : Sto} {Q : Ctl → Sto → Prop} {xs : List D} (h : ρ[i]? = some (.own xs)) : wp (mGh i φ ρ S) Q = wp (φ (ρ.set i (.d (.lst xs))) S) Q := by
  have hz := @Z.w_gh
  rw [← wp_is] at hz
  first | exact hz | exact hz ‹_› | (apply hz <;> assumption)

theorem w_listT {xs : List D} {S : Sto} {Q : List D → Sto → Prop} : wp (gList [.tup xs] S) Q = Q xs S := by
  have hz := @Z.w_listT
  rw [← wp_is] at hz
  first | exact hz | exact hz ‹_› | (apply hz <;> assumption)

theorem w_listL {xs : List D} {S : Sto} {Q : List D → Sto → Prop} : wp (gList [.lst xs] S) Q = Q xs S := by
  have hz := @Z.w_listL
  rw [← wp_is] at hz
  first | exact hz | exact hz ‹_› | (apply hz <;> assumption)

theorem w_tuple {xs : List D} {S : Sto} {Q : D → Sto → Prop} : wp (gTuple [.lst xs] S) Q = Q (.tup xs) S := by
  have hz := @Z.w_tuple
  rw [← wp_is] at hz
  first | exact hz | exact hz ‹_› | (apply hz <;> assumption)

theorem w_tupleT {xs : List D} {S : Sto} {Q : D → Sto → Prop} : wp (gTuple [.tup xs] S) Q = Q (.tup xs) S := by
  have hz := @Z.w_tupleT
  rw [← wp_is] at hz
  first | exact hz | exact hz ‹_› | (apply hz <;> assumption)

theorem w_ixO {n : Nat} {φ : Ph D} {ρ : List L} {S : Sto} {Q : D → Sto → Prop} {xs : List D} (hn : ρ[n]? = some (.own xs)) (h : wp (φ ρ S) fun d S1 => ∃ j e, d = .int j ∧ atI xs j = some e ∧ Q e S1) : wp (mIxO n φ ρ S) Q := by
  have hz := @Z.w_ixO
  rw [← wp_is] at hz
  first | exact hz | exact hz ‹_› | (apply hz <;> assumption)

end DL

set_option Elab.async false
set_option linter.all false
set_option maxRecDepth 100000
set_option maxHeartbeats 4000000
set_option autoImplicit false
namespace DL
open PySem PySem.Spec L2
section
variable {ρ : List L} {S : Sto} {φ φa φb φc : Ph D} {φl : Ph (List D)} {φB : Ph Bool} {φt φu : Ph Ctl}
theorem w_call0d {m : Fn} {dds : List D} {Q : D → Sto → Prop} : wp (mCall0 m dds φl ρ S) Q = wp (φl ρ S) fun ds S1 => wp (m (ds ++ dds) sto0) fun r _ => Q r.toD S1 := by
  unfold mCall0
  rw [wp_bind]
  congr 1
  funext ds S1
  cases m (ds ++ dds) sto0 with
  | ok r S' => rw [wp_ok]; simp only [wp_ok]
  | exc x ρ' S' => simp only [wp_is, wp0]
  | bad => simp only [wp_is, wp0]
theorem w_call0O {m : Fn} {dds : List D} {Q : List D → Sto → Prop} (h : wp (φl ρ S) fun ds S1 => wp (m (ds ++ dds) sto0) fun r _ => ∃ xs, r = .own xs ∧ Q xs S1) : wp (mCall0O m dds φl ρ S) Q := by
  unfold mCall0O
  rw [wp_bind]
  refine wp.mono h fun ds S1 h1 => ?_
  obtain ⟨r, S2, e, xs, rfl, q⟩ := h1.get
  rw [e]
  exact wp_ok.mpr q
theorem w_meth {C : Addr} {m : Str} {Q : List D → Sto → Prop} : wp (mMArgs C m φa φl ρ S) Q = wp (φa ρ S) fun x S1 => objOk C m x = true ∧ wp (φl ρ S1) fun xs S2 => Q (x :: xs) S2 := by
  unfold mMArgs
  rw [wp_bind]
  congr 1
  funext x S1
  by_cases c : objOk C m x = true
  · rw [if_pos c, wp_bind]; simp only [wp_ok, c, true_and]
  · rw [if_neg c, wp_bad]; simp only [c, false_and]; simp
theorem w_own {C : Addr} {Q : List D → Sto → Prop} : wp (mOArgs C φa φb ρ S) Q = wp (φa ρ S) fun x S1 => wp (φb ρ S1) fun y S2 => (isObj C x && isObj C y) = true ∧ Q [x, y] S2 := by
  unfold mOArgs
  rw [wp_bind]
  congr 1
  funext x S1
  rw [wp_bind]
  congr 1
  funext y S2
  by_cases c : (isObj C x && isObj C y) = true
  · rw [if_pos c, wp_ok]; simp only [c, true_and]
  · rw [if_neg c, wp_bad]; simp only [c]; simp
theorem w_ext {n : Nat} {xs : List D} {Q : Ctl → Sto → Prop} (h : ρ[n]? = some (.own xs)) : wp (mExt n φl ρ S) Q = wp (φl ρ S) fun ys S1 => (line xs.length && line ys.length) = true ∧ Q (.nx (ρ.set n (.own (xs ++ ys)))) S1 := by
  unfold mExt ownAt
  rw [h]
  simp only
  rw [wp_bind]
  congr 1
  funext ys S1
  by_cases c : (line xs.length && line ys.length) = true
  · rw [if_pos c, wp_ok]; simp only [c, true_and]
  · rw [if_neg c, wp_bad]; simp only [c]; simp
theorem w_borB {n : Nat} {xs : List D} {Q : Bool → Sto → Prop} (h : ρ[n]? = some (.own xs)) (k : wp (φB (borL n xs ρ) sto0) fun c _ => Q c S) : wp (mBorB n φB ρ S) Q := by
  obtain ⟨c, S', e, q⟩ := k.get
  unfold mBorB ownAt
  rw [h]
  simp only
  rw [e]
  exact wp_ok.mpr q
theorem w_chain {g g' : D → D → Sto → Out D} {Q : D → Sto → Prop} (h : wp (φa ρ S) fun x S1 => wp (φb ρ S1) fun y S2 => wp (g x y S2) fun z S3 => ∃ b, z = .bl b ∧ (if b = true then wp (φc ρ S3) fun w S4 => wp (g' y w S4) Q else Q (.bl false) S3)) : wp (mChain g g' φa φb φc ρ S) Q := by
  unfold mChain
  rw [wp_bind]
  refine wp.mono h fun x S1 h1 => ?_
  rw [wp_bind]
  refine wp.mono h1 fun y S2 h2 => ?_
  rw [wp_bind]
  refine wp.mono h2 fun z S3 h3 => ?_
  obtain ⟨b, rfl, h4⟩ := h3
  cases b
  · simp only [Bool.false_eq_true, if_false] at h4
    exact wp_ok.mpr h4
  · simp only [if_true] at h4
    rw [wp_bind]
    exact h4
theorem w_drop {Q : Ctl → Sto → Prop} : wp (mDrop φ ρ S) Q = wp (φ ρ S) fun _ S1 => Q (.nx ρ) S1 := by
  unfold mDrop
  rw [wp_bind]
  simp only [wp_ok]
theorem intsOf_of : ∀ is : List Int, intsOf (is.map D.int) = some is
  | [] => rfl
  | i :: is => by
    rw [List.map_cons]
    unfold intsOf
    rw [intsOf_of is]; rfl
theorem w_sortI {is : List Int} {Q : List D → Sto → Prop} (h : φ ρ S = .ok (.lst (is.map D.int)) S) : wp (mSortI φ ρ S) Q = Q ((sortI is).map D.int) S := by
  unfold mSortI
  rw [h]
  simp only [Out.bind, intsOf_of]
  exact wp_ok
theorem w_retV {n : Nat} {xs : List D} {Q : Ctl → Sto → Prop} (h : ρ[n]? = some (.own xs)) : wp (mRetV n ρ S) Q = Q (.ro xs) S := by
  unfold mRetV
  rw [h]
  exact wp_ok
theorem w_bad {Q : Ctl → Sto → Prop} : wp (mBad ρ S) Q = False := by
  have : mBad ρ S = .bad := rfl
  rw [this, wp_bad]
theorem wp_eq' {α : Type} {o : Out α} {a : α} {S : Sto} (h : wp o fun x S' => x = a ∧ S' = S) : o = .ok a S := by
  obtain ⟨x, S', e, rfl, rfl⟩ := h.get
  exact e
theorem comp_map {gt : Tgt} {φe : Ph D} (f : D → D) {Q : List D → Sto → Prop} (ds : List D) (h : ∀ d ∈ ds, ∃ ρ1, gt.put d ρ = some ρ1 ∧ wp (φe ρ1 S) fun x S' => x = f d ∧ S' = S) (q : Q (ds.map f) S) : wp (compD gt mYes φe ds ρ S) Q := by
  refine comp_filter (fun _ => true) f ds ρ S (fun d hd => ?_) ?_
  · obtain ⟨ρ1, e, k⟩ := h d hd
    exact ⟨ρ1, e, rfl, fun _ => wp_eq' k⟩
  · rw [List.filter_eq_self.mpr fun _ _ => rfl]
    exact q
theorem comp_filt {gt : Tgt} {φt : Ph Bool} {φe : Ph D} (p : D → Bool) (f : D → D) {Q : List D → Sto → Prop} (ds : List D) (h : ∀ d ∈ ds, ∃ ρ1, gt.put d ρ = some ρ1 ∧ (wp (φt ρ1 S) fun c S' => c = p d ∧ S' = S) ∧ (p d = true → wp (φe ρ1 S) fun x S' => x = f d ∧ S' = S)) (q : Q ((ds.filter p).map f) S) : wp (compD gt φt φe ds ρ S) Q := by
  refine comp_filter p f ds ρ S (fun d hd => ?_) q
  obtain ⟨ρ1, e, k1, k2⟩ := h d hd
  exact ⟨ρ1, e, wp_eq' k1, fun c => wp_eq' (k2 c)⟩
theorem wp_is1 {α : Type} {o : Out α} {a : α} {S : Sto} {Q : α → Sto → Prop} (h : o = .ok a S) : wp o Q = Q a S := by rw [h, wp_ok]
/-! ### lists of the def's own, run -/
def ownQ (l : Option L) (Q : List D → Prop) : Prop := match l with
  | some (.own xs) => Q xs
  | _ => False
theorem ownQ_own {xs : List D} {Q : List D → Prop} : ownQ (some (.own xs)) Q = Q xs := nrP rfl
theorem ownAt_Q {α : Type} {n : Nat} {Q : α → Sto → Prop} {k : List D → Out α} : wp (match ownAt ρ n with | some xs => k xs | none => .bad) Q = ownQ ρ[n]? fun xs => wp (k xs) Q := by
  unfold ownAt
  cases e : ρ[n]? with
  | none => simp only [wp_bad]; rfl
  | some l => cases l <;> simp only [wp_bad] <;> rfl
theorem v_lenO {n : Nat} {Q : D → Sto → Prop} : wp (mLenO n ρ S) Q = ownQ ρ[n]? fun xs => Q (.int (xs.length : Nat)) S := by
  have e : mLenO n ρ S = (match ownAt ρ n with | some xs => Out.ok (D.int (xs.length : Nat)) S | none => .bad) := by
    unfold mLenO
    cases ownAt ρ n <;> rfl
  rw [e, ownAt_Q]
  simp only [wp_ok]
def ixQ (xs : List D) (d : D) (R : D → Prop) : Prop := match d with
  | .int j => ∃ e, atI xs j = some e ∧ R e
  | _ => False
theorem ixQ_int {xs : List D} {j : Int} {R : D → Prop} : ixQ xs (.int j) R = ∃ e, atI xs j = some e ∧ R e := nrP rfl
theorem v_ixO {n : Nat} {Q : D → Sto → Prop} : wp (mIxO n φ ρ S) Q = ownQ ρ[n]? fun xs => wp (φ ρ S) fun d S1 => ixQ xs d fun e => Q e S1 := by
  have e : mIxO n φ ρ S = (match ownAt ρ n with | some xs => ((φ ρ S).bind fun k S1 => match k with | .int j => (match atI xs j with | some d => Out.ok d S1 | none => .bad) | _ => .bad) | none => .bad) := by
    unfold mIxO
    cases ownAt ρ n <;> rfl
  rw [e, ownAt_Q]
  congr 1
  funext xs
  rw [wp_bind]
  congr 1
  funext d S1
  cases d <;> simp only [wp_bad] <;> try rfl
  rename_i j
  show wp (match atI xs j with | some d => Out.ok d S1 | none => .bad) Q = ∃ e, atI xs j = some e ∧ Q e S1
  cases q : atI xs j with
  | none => simp only [wp_bad]; simp
  | some d => simp only [wp_ok]; simp
theorem v_app {n : Nat} {Q : Ctl → Sto → Prop} : wp (mApp n φ ρ S) Q = ownQ ρ[n]? fun xs => wp (φ ρ S) fun d S1 => line xs.length = true ∧ Q (.nx (ρ.set n (.own (xs ++ [d])))) S1 := by
  have e : mApp n φ ρ S = (match ownAt ρ n with | some xs => ((φ ρ S).bind fun d S1 => if line xs.length = true then Out.ok (Ctl.nx (ρ.set n (.own (xs ++ [d])))) S1 else .bad) | none => .bad) := by
    unfold mApp
    cases ownAt ρ n <;> rfl
  rw [e, ownAt_Q]
  congr 1
  funext xs
  rw [wp_bind]
  congr 1
  funext d S1
  by_cases c : line xs.length = true
  · rw [if_pos c, wp_ok]; simp only [c, true_and]
  · rw [if_neg c, wp_bad]; simp only [c, false_and]; simp
theorem v_ext {n : Nat} {Q : Ctl → Sto → Prop} : wp (mExt n φl ρ S) Q = ownQ ρ[n]? fun xs => wp (φl ρ S) fun ys S1 => (line xs.length && line ys.length) = true ∧ Q (.nx (ρ.set n (.own (xs ++ ys)))) S1 := by
  cases e : ownAt ρ n with
  | none =>
    have h : mExt n φl ρ S = .bad := by unfold mExt; rw [e]
    rw [h, wp_bad]
    unfold ownAt at e
    cases q : ρ[n]? with
    | none => rfl
    | some l => rw [q] at e; cases l <;> first | rfl | cases e
  | some xs =>
    rw [ownAt_of e, ownQ_own, w_ext (ownAt_of e)]
theorem v_retV {n : Nat} {Q : Ctl → Sto → Prop} : wp (mRetV n ρ S) Q = ownQ ρ[n]? fun xs => Q (.ro xs) S := by
  cases e : ownAt ρ n with
  | some xs => rw [ownAt_of e, ownQ_own, w_retV (ownAt_of e)]
  | none =>
    unfold ownAt at e
    unfold mRetV
    cases q : ρ[n]? with
    | none => simp only [wp_bad]; rfl
    | some l => rw [q] at e; cases l <;> first | (simp only [wp_bad]; rfl) | cases e
theorem v_borB {n : Nat} {Q : Bool → Sto → Prop} : wp (mBorB n φB ρ S) Q = ownQ ρ[n]? fun xs => wp (φB (borL n xs ρ) sto0) fun c _ => Q c S := by
  have e : mBorB n φB ρ S = (match ownAt ρ n with | some xs => (match φB (borL n xs ρ) sto0 with | .ok d _ => Out.ok d S | _ => .bad) | none => .bad) := by
    unfold mBorB
    cases ownAt ρ n <;> rfl
  rw [e, ownAt_Q]
  congr 1
  funext xs
  cases q : φB (borL n xs ρ) sto0 with
  | ok c S' => rw [wp_ok]; simp only [wp_ok]
  | exc x r S' => simp only [wp_is, wp0]
  | bad => simp only [wp_is, wp0]
theorem v_gh {n : Nat} {Q : Ctl → Sto → Prop} : wp (mGh n φt ρ S) Q = wp (φt (frzL n ρ) S) Q := nrP rfl
theorem unS_d {d : D} : unS (.d d) = .d d := id rfl
theorem unS_un : unS .un = .un := id rfl
theorem unS_st : unS .st = .un := id rfl
theorem unS_own {xs : List D} : unS (.own xs) = .un := id rfl
theorem frzL_own {n : Nat} {xs : List D} (h : ρ[n]? = some (.own xs)) : frzL n ρ = ρ.set n (.d (.lst xs)) := by unfold frzL; rw [h]
def setIQ (xs : List D) (d : D) (R : Nat → Prop) : Prop := match d with
  | .int j => ∃ n, ixN xs.length j = some n ∧ R n
  | _ => False
theorem setIQ_int {xs : List D} {j : Int} {R : Nat → Prop} : setIQ xs (.int j) R = ∃ n, ixN xs.length j = some n ∧ R n := nrP rfl
theorem v_setI {n : Nat} {Q : Ctl → Sto → Prop} : wp (mSetI n φa φb ρ S) Q = wp (φa ρ S) fun d S1 => ownQ ρ[n]? fun xs => wp (φb ρ S1) fun k S2 => setIQ xs k fun j => Q (.nx (ρ.set n (.own (xs.set j d)))) S2 := by
  unfold mSetI
  rw [wp_bind]
  congr 1
  funext d S1
  have e : (match ownAt ρ n with | none => Out.bad | some xs => (φb ρ S1).bind fun k S2 => match k with | .int j => (match ixN xs.length j with | some m => Out.ok (Ctl.nx (ρ.set n (.own (xs.set m d)))) S2 | none => .bad) | _ => .bad) = (match ownAt ρ n with | some xs => ((φb ρ S1).bind fun k S2 => match k with | .int j => (match ixN xs.length j with | some m => Out.ok (Ctl.nx (ρ.set n (.own (xs.set m d)))) S2 | none => .bad) | _ => .bad) | none => .bad) := by cases ownAt ρ n <;> rfl
  refine Eq.trans (congrArg (fun o => wp o Q) e) ?_
  rw [ownAt_Q]
  congr 1
  funext xs
  rw [wp_bind]
  congr 1
  funext k S2
  cases k <;> simp only [wp_bad] <;> try rfl
  rename_i j
  show wp (match ixN xs.length j with | some m => Out.ok (Ctl.nx (ρ.set n (.own (xs.set m d)))) S2 | none => .bad) Q = ∃ m, ixN xs.length j = some m ∧ _
  cases q : ixN xs.length j with
  | none => simp only [wp_bad]; simp
  | some d => simp only [wp_ok]; simp
def resO (r : Res) (R : List D → Prop) : Prop := match r with
  | .own xs => R xs
  | .d _ => False
theorem resO_own {xs : List D} {R : List D → Prop} : resO (.own xs) R = R xs := nrP rfl
theorem v_call0O {m : Fn} {dds : List D} {Q : List D → Sto → Prop} : wp (mCall0O m dds φl ρ S) Q = wp (φl ρ S) fun ds S1 => wp (m (ds ++ dds) sto0) fun r _ => resO r fun xs => Q xs S1 := by
  unfold mCall0O
  rw [wp_bind]
  congr 1
  funext ds S1
  cases m (ds ++ dds) sto0 with
  | ok r S2 =>
    simp only [wp_ok]
    cases r with
    | d x => simp only [wp_bad]; rfl
    | own xs => simp only [wp_ok]; rfl
  | exc x r S' => simp only [wp_is, wp0]
  | bad => simp only [wp_is, wp0]
end
end DL

set_option Elab.async false
set_option linter.all false
set_option maxRecDepth 100000
set_option maxHeartbeats 4000000
set_option autoImplicit false
namespace DL
open PySem PySem.Spec L2
section
variable {ρ : List L} {S : Sto} {φ φa φb : Ph D} {φl φh : Ph (Option Int)}
def slQ (t : Bool) (x : D) (lo hi : Option Int) (R : D → Prop) : Prop := match t, x with
  | false, .lst xs => R (.lst (cutD xs lo hi))
  | true, .tup xs => R (.tup (cutD xs lo hi))
  | _, _ => False
theorem slQ_l {xs : List D} {lo hi : Option Int} {R : D → Prop} : slQ false (.lst xs) lo hi R = R (.lst (cutD xs lo hi)) := nrP rfl
theorem slQ_t {xs : List D} {lo hi : Option Int} {R : D → Prop} : slQ true (.tup xs) lo hi R = R (.tup (cutD xs lo hi)) := nrP rfl
theorem w_slL {Q : D → Sto → Prop} : wp (mSlL φ φl φh ρ S) Q = wp (φ ρ S) fun x S1 => wp (φl ρ S1) fun l S2 => wp (φh ρ S2) fun h S3 => slQ false x l h fun d => Q d S3 := by
  unfold mSlL
  rw [wp_bind]
  congr 1
  funext x S1
  rw [wp_bind]
  congr 1
  funext l S2
  rw [wp_bind]
  congr 1
  funext h S3
  cases x <;> simp only [wp_ok, wp_bad] <;> rfl
theorem w_slT {Q : D → Sto → Prop} : wp (mSlT φ φl φh ρ S) Q = wp (φ ρ S) fun x S1 => wp (φl ρ S1) fun l S2 => wp (φh ρ S2) fun h S3 => slQ true x l h fun d => Q d S3 := by
  unfold mSlT
  rw [wp_bind]
  congr 1
  funext x S1
  rw [wp_bind]
  congr 1
  funext l S2
  rw [wp_bind]
  congr 1
  funext h S3
  cases x <;> simp only [wp_ok, wp_bad] <;> rfl
theorem w_noP {Q : Option Int → Sto → Prop} : wp (mNoP ρ S) Q = Q none S := by
  have : mNoP ρ S = .ok none S := rfl
  rw [this, wp_ok]
def intQ (d : D) (R : Int → Prop) : Prop := match d with
  | .int i => R i
  | _ => False
theorem intQ_int {i : Int} {R : Int → Prop} : intQ (.int i) R = R i := nrP rfl
theorem w_pt {Q : Option Int → Sto → Prop} : wp (mPt φ ρ S) Q = wp (φ ρ S) fun d S1 => intQ d fun i => Q (some i) S1 := by
  unfold mPt
  rw [wp_bind]
  congr 1
  funext x S1
  unfold toPart
  cases x <;> simp only [wp_ok, wp_bad] <;> rfl
theorem w_catT {a c : List D} {Q : D → Sto → Prop} : wp (gCatT (.tup a) (.tup c) S) Q = (line (a.length + c.length) = true ∧ Q (.tup (a ++ c)) S) := by
  show wp (if line (a.length + c.length) = true then Out.ok (D.tup (a ++ c)) S else .bad) Q = _
  rw [wp_ite]
  simp only [wp_ok, wp_bad]
  by_cases h : line (a.length + c.length) = true <;> simp [h]
theorem wp_catL {a c : List D} {Q : List D → Sto → Prop} : wp (catL (.lst a) (.lst c) S) Q = (line (a.length + c.length) = true ∧ Q (a ++ c) S) := by
  show wp (if line (a.length + c.length) = true then Out.ok (a ++ c) S else .bad) Q = _
  rw [wp_ite]
  simp only [wp_ok, wp_bad]
  by_cases h : line (a.length + c.length) = true <;> simp [h]
theorem w_catL {Q : List D → Sto → Prop} : wp (mCatL φa φb ρ S) Q = wp (φa ρ S) fun x S1 => wp (φb ρ S1) fun y S2 => wp (catL x y S2) Q := by
  unfold mCatL
  rw [wp_bind]
  congr 1
  funext x S1
  rw [wp_bind]
def tupQ (d : D) (R : List D → Prop) : Prop := match d with
  | .tup ds => R ds
  | _ => False
theorem tupQ_t {ds : List D} {R : List D → Prop} : tupQ (.tup ds) R = R ds := nrP rfl
theorem w_cnt {Q : D → Sto → Prop} : wp (mCnt φa φb ρ S) Q = wp (φa ρ S) fun x S1 => tupQ x fun ds => wp (φb ρ S1) fun y S2 => wp (pure2 cntD (.tup ds) y S2) Q := by
  unfold mCnt
  rw [wp_bind]
  congr 1
  funext x S1
  cases x <;> simp only [wp_bad, wp_bind] <;> rfl
theorem wp_cnt {ns : List Int} {k : Int} {Q : D → Sto → Prop} : wp (pure2 cntD (.tup (ns.map D.int)) (.int k) S) Q = Q (.int (ns.count k : Nat)) S := by
  have : pure2 cntD (.tup (ns.map D.int)) (.int k) S = .ok (.int (ns.count k : Nat)) S := by
    unfold pure2 cntD
    simp only [intsD_map, Option.map_some]
  rw [this, wp_ok]
theorem w_all {bs : List Bool} {Q : D → Sto → Prop} : wp (pureC allC [.lst (bs.map D.bl)] S) Q = Q (.bl (bs.all id)) S := by
  have : pureC allC [.lst (bs.map D.bl)] S = .ok (.bl (bs.all id)) S := by
    unfold pureC allC
    simp only [blsD_map, Option.map_some]
  rw [this, wp_ok]
theorem w_tru {Q : Bool → Sto → Prop} : wp (mTru φ ρ S) Q = wp (φ ρ S) fun d S1 => wp (truD d S1) Q := by unfold mTru; rw [wp_bind]
theorem w_truL {xs : List D} {Q : Bool → Sto → Prop} : wp (truD (.lst xs) S) Q = Q (!xs.isEmpty) S := by
  have : truD (.lst xs) S = .ok (!xs.isEmpty) S := rfl
  rw [this, wp_ok]
theorem cut_take {α : Type} (xs : List α) (k : Nat) : cutD xs none (some (k : Int)) = xs.take k := by
  unfold cutD
  rw [HT.sIx_none]
  have : HT.sIx xs.length xs.length (some (k : Int)) = min k xs.length := HT.sIx_nat xs.length xs.length k
  rw [this]
  simp only [List.drop_zero, Nat.sub_zero]
  rcases Nat.le_total k xs.length with h | h
  · rw [Nat.min_eq_left h]
  · rw [Nat.min_eq_right h, List.take_length, List.take_of_length_le h]
theorem cut_drop {α : Type} (xs : List α) (k : Nat) : cutD xs (some (k : Int)) none = xs.drop k := by
  unfold cutD
  rw [HT.sIx_none]
  have : HT.sIx xs.length 0 (some (k : Int)) = min k xs.length := HT.sIx_nat xs.length 0 k
  rw [this]
  rcases Nat.le_total k xs.length with h | h
  · rw [Nat.min_eq_left h]
    exact List.take_of_length_le (by rw [List.length_drop]; exact Nat.le_refl _)
  · rw [Nat.min_eq_right h, List.drop_length, List.drop_eq_nil_of_le h]
    simp
theorem cut_len {α : Type} (xs : List α) (lo hi : Option Int) : (cutD xs lo hi).length ≤ xs.length := by
  unfold cutD
  rw [List.length_take, List.length_drop]
  omega
theorem cut_mem {α : Type} {xs : List α} {lo hi : Option Int} {x : α} (h : x ∈ cutD xs lo hi) : x ∈ xs := List.mem_of_mem_drop (List.mem_of_mem_take h)
end
end DL

set_option Elab.async false
set_option linter.all false
set_option maxRecDepth 100000
set_option maxHeartbeats 4000000
set_option autoImplicit false
namespace K17
open PySem PySem.Spec L2 DL
theorem modB (a : Int) (m : Int) (h : 0 < m) : (a % m).natAbs < m.natAbs := by
  have h1 := Int.emod_nonneg a (by omega : m ≠ 0)
  have h2 := Int.emod_lt_of_pos a h
  omega
theorem big {n : Nat} {k : Nat} (h : n < PB k) (hk : k ≤ 4000) : n < B4000 := Nat.lt_of_lt_of_le h (PB.le hk)
theorem mixed_ok (a t : Int) (S : Sto) (ha : a.natAbs < PB 1000) (ht : t.natAbs < PB 1000) : wp (m_law_mixed [.int a, .int t] S) fun r S' => S' = S ∧ ∃ z : Int, r = .d (.int z) ∧ 0 ≤ z ∧ z < 1000000000000000003 := by
  refine wp_run [.d (.int a), .d (.int t), .un] rfl ?_
  unfold b_law_mixed
  simp only [wp_seq, w_set, w_setO, w_m2, w_m1, w_var, varQ_d, w_c, w_nil, w_cons, w_cb, w_cbo, w_int, w_intB, w_abs, w_max, w_min, w_lenL, w_lenT, w_B, w_and, w_or, w_not, w_ifs, w_if, w_ret, w_retO, w_next, w_tup, w_lst, w_frz, w_andV, w_notV, stQ_st, w_st1, w_st2, w_st3, w_st4, w_st5, w_cells, w_stS, lawB_law, setQ1, setQ2, setQ3, setQ5, w_for, w_range1, rngQ_int, w_seqI, w_seqL, w_seqT, w_lc, w_call0, w_call1, stepQ_nx, stepQ_bk, stepQ_rt, wp_ok, wp_bad, sq_nx, sq_rt, sq_ro, wp_add, wp_sub, wp_lt, wp_le, wp_gt, wp_ge, wp_mul, wp_mod, wp_fdiv, wp_pow, wp_ix, wp_ixT, wp_toB, wp_noX, List.set_cons_zero, List.set_cons_succ, List.getElem?_cons_zero, List.getElem?_cons_succ, List.length_map, if_true, decide_eq_true_eq, Bool.false_eq_true, if_false]
  have b1 := modB (a * 1181783497276652981 + t * 1865811235122147685 + 2862933555777941757) 2305843009213693951 (by decide)
  generalize (a * 1181783497276652981 + t * 1865811235122147685 + 2862933555777941757) % 2305843009213693951 = m1 at *
  have b2 := modB (m1 * m1) 1000000000000000003 (by decide)
  generalize hm2 : (m1 * m1) % 1000000000000000003 = m2 at *
  have b3 := modB (m2 * 3935559000370003845 + t + 7) 2305843009213693951 (by decide)
  generalize hm3 : (m2 * 3935559000370003845 + t + 7) % 2305843009213693951 = m3 at *
  have sm : ∀ {m : Int}, m.natAbs < (2305843009213693951 : Int).natAbs → m.natAbs < B4000 := fun h => big (k := 61) (pb (Nat.lt_of_lt_of_le h (by decide))) (by decide)
  have sm2 : m2.natAbs < B4000 := big (k := 61) (pb (Nat.lt_of_lt_of_le b2 (by decide))) (by decide)
  refine ⟨mulW (big ha (by decide)) (big (k := 100) (pb (by decide)) (by decide)), mulW (big ht (by decide)) (big (k := 100) (pb (by decide)) (by decide)), by decide, mulW (sm b1) (sm b1), by decide, mulW sm2 (big (k := 100) (pb (by decide)) (by decide)), by decide, mulW (sm b3) (sm b3), by decide, trivial, _, rfl, Int.emod_nonneg _ (by decide), Int.emod_lt_of_pos _ (by decide)⟩
/-- a store of the law, n turns of it gone -/
def Inv (S : Sto) (n : Int) : Prop := S.mode = .law ∧ 0 ≤ S.i ∧ S.i ≤ S.cells.length ∧ S.seed.natAbs < 2 ^ 70 ∧ 0 ≤ S.cnt ∧ S.cnt ≤ n ∧ (0 < S.three → 1 ≤ S.i ∧ ∀ z, S.cells[(S.i - 1).toNat]? = some z → z.natAbs < 10 ^ 18)
theorem take_ok (S : Sto) (n many : Int) (hm : many.natAbs < 2 ^ 100) (hn : n < 2 ^ 60) (h : Inv S n) : wp (m_law_take [.int many] S) fun r S' => Inv S' (n + 1) ∧ ∃ z : Int, r = .d (.int z) ∧ 0 ≤ z ∧ (2 ≤ many → z < many) ∧ (many < 2 → z = 0) := by
  refine wp_run [.st, .d (.int many), .un, .un, .un, .un, .un] rfl ?_
  unfold b_law_take
  by_cases c0 : many < 2
  · refine seq_cut (R := fun c S' => c = .rt (.int 0) ∧ S = S') ?_ ?_
    · simp only [wp_seq, w_set, w_setO, w_m2, w_m1, w_var, varQ_d, w_c, w_nil, w_cons, w_cb, w_cbo, w_int, w_intB, w_abs, w_max, w_min, w_lenL, w_lenT, w_B, w_and, w_or, w_not, w_ifs, w_if, w_ret, w_retO, w_next, w_tup, w_lst, w_frz, w_andV, w_notV, stQ_st, w_st1, w_st2, w_st3, w_st4, w_st5, w_cells, w_stS, lawB_law, setQ1, setQ2, setQ3, setQ5, w_for, w_range1, rngQ_int, w_seqI, w_seqL, w_seqT, w_lc, w_call0, w_call1, stepQ_nx, stepQ_bk, stepQ_rt, wp_ok, wp_bad, sq_nx, sq_rt, sq_ro, wp_add, wp_sub, wp_lt, wp_le, wp_gt, wp_ge, wp_mul, wp_mod, wp_fdiv, wp_pow, wp_ix, wp_ixT, wp_toB, wp_noX, List.set_cons_zero, List.set_cons_succ, List.getElem?_cons_zero, List.getElem?_cons_succ, List.length_map, if_true, decide_eq_true_eq, Bool.false_eq_true, if_false]
      rw [if_pos (by simpa using c0)]
      exact ⟨trivial, trivial⟩
    · rintro _ _ ⟨rfl, rfl⟩
      refine ⟨?_, 0, rfl, by omega, fun h => by omega, fun _ => rfl⟩
      obtain ⟨a, b, c, d, e, f, g⟩ := h
      exact ⟨a, b, c, d, e, by omega, g⟩
  have hp : 0 < many := by omega
  refine seq_cut (R := fun c S' => c = .nx [.st, .d (.int many), .un, .un, .un, .un, .un] ∧ S = S') ?_ ?_
  · simp only [wp_seq, w_set, w_setO, w_m2, w_m1, w_var, varQ_d, w_c, w_nil, w_cons, w_cb, w_cbo, w_int, w_intB, w_abs, w_max, w_min, w_lenL, w_lenT, w_B, w_and, w_or, w_not, w_ifs, w_if, w_ret, w_retO, w_next, w_tup, w_lst, w_frz, w_andV, w_notV, stQ_st, w_st1, w_st2, w_st3, w_st4, w_st5, w_cells, w_stS, lawB_law, setQ1, setQ2, setQ3, setQ5, w_for, w_range1, rngQ_int, w_seqI, w_seqL, w_seqT, w_lc, w_call0, w_call1, stepQ_nx, stepQ_bk, stepQ_rt, wp_ok, wp_bad, sq_nx, sq_rt, sq_ro, wp_add, wp_sub, wp_lt, wp_le, wp_gt, wp_ge, wp_mul, wp_mod, wp_fdiv, wp_pow, wp_ix, wp_ixT, wp_toB, wp_noX, List.set_cons_zero, List.set_cons_succ, List.getElem?_cons_zero, List.getElem?_cons_succ, List.length_map, if_true, decide_eq_true_eq, Bool.false_eq_true, if_false]
    rw [if_neg (by simpa using c0)]
    exact ⟨trivial, trivial⟩
  rintro _ _ ⟨rfl, rfl⟩
  rw [sq_nx]
  -- a cell is taken
  refine seq_cut (R := fun c S' => (∃ x, c = .nx [.st, .d (.int many), x, .un, .un, .un, .un]) ∧ Inv S' n) ?_ ?_
  · obtain ⟨C, i, two, three, seed, cnt, md⟩ := S
    obtain ⟨h0, h1, h2, h3, h4, h5, h6⟩ := h
    dsimp only at h0 h1 h2 h3 h4 h5 h6
    subst h0
    simp only [wp_seq, w_set, w_setO, w_m2, w_m1, w_var, varQ_d, w_c, w_nil, w_cons, w_cb, w_cbo, w_int, w_intB, w_abs, w_max, w_min, w_lenL, w_lenT, w_B, w_and, w_or, w_not, w_ifs, w_if, w_ret, w_retO, w_next, w_tup, w_lst, w_frz, w_andV, w_notV, stQ_st, w_st1, w_st2, w_st3, w_st4, w_st5, w_cells, w_stS, lawB_law, setQ1, setQ2, setQ3, setQ5, w_for, w_range1, rngQ_int, w_seqI, w_seqL, w_seqT, w_lc, w_call0, w_call1, stepQ_nx, stepQ_bk, stepQ_rt, wp_ok, wp_bad, sq_nx, sq_rt, sq_ro, wp_add, wp_sub, wp_lt, wp_le, wp_gt, wp_ge, wp_mul, wp_mod, wp_fdiv, wp_pow, wp_ix, wp_ixT, wp_toB, wp_noX, List.set_cons_zero, List.set_cons_succ, List.getElem?_cons_zero, List.getElem?_cons_succ, List.length_map, if_true, decide_eq_true_eq, Bool.false_eq_true, if_false]
    by_cases c1 : two < 2
    · rw [if_pos (by simpa using c1)]
      by_cases c2 : three < 1
      · rw [if_pos (by simpa using c2)]
        by_cases c3 : i < (C.length : Int)
        · rw [if_pos (by simpa using c3)]
          have hi : i.toNat < C.length := by omega
          have at1 : atI (C.map DL.D.int) i = some (.int C[i.toNat]) := by
            unfold atI ixN
            rw [if_pos h1, if_pos (by rw [List.length_map]; exact c3)]
            show (C.map DL.D.int)[i.toNat]? = _
            rw [List.getElem?_map, List.getElem?_eq_getElem hi]; rfl
          refine ⟨_, at1, ?_⟩
          simp only [wp_seq, w_set, w_setO, w_m2, w_m1, w_var, varQ_d, w_c, w_nil, w_cons, w_cb, w_cbo, w_int, w_intB, w_abs, w_max, w_min, w_lenL, w_lenT, w_B, w_and, w_or, w_not, w_ifs, w_if, w_ret, w_retO, w_next, w_tup, w_lst, w_frz, w_andV, w_notV, stQ_st, w_st1, w_st2, w_st3, w_st4, w_st5, w_cells, w_stS, lawB_law, setQ1, setQ2, setQ3, setQ5, w_for, w_range1, rngQ_int, w_seqI, w_seqL, w_seqT, w_lc, w_call0, w_call1, stepQ_nx, stepQ_bk, stepQ_rt, wp_ok, wp_bad, sq_nx, sq_rt, sq_ro, wp_add, wp_sub, wp_lt, wp_le, wp_gt, wp_ge, wp_mul, wp_mod, wp_fdiv, wp_pow, wp_ix, wp_ixT, wp_toB, wp_noX, List.set_cons_zero, List.set_cons_succ, List.getElem?_cons_zero, List.getElem?_cons_succ, List.length_map, if_true, decide_eq_true_eq, Bool.false_eq_true, if_false]
          refine ⟨by decide, ?_⟩
          by_cases c4 : (if C[i.toNat] < 0 then -C[i.toNat] else C[i.toNat]) < 10 ^ Int.toNat 18
          · rw [if_pos (by simpa using c4)]
            refine ⟨⟨_, rfl⟩, rfl, by dsimp only; omega, by dsimp only; omega, h3, h4, h5, fun _ => ⟨by dsimp only; omega, fun z e => ?_⟩⟩
            dsimp only at e
            rw [show (i + 1 - 1).toNat = i.toNat by omega, List.getElem?_eq_getElem hi] at e
            cases e
            have c5 : (if C[i.toNat] < 0 then -C[i.toNat] else C[i.toNat]) < (10 : Int) ^ 18 := c4
            split at c5 <;> omega
          · rw [if_neg (by simpa using c4)]
            exact ⟨⟨_, rfl⟩, rfl, by dsimp only; omega, by dsimp only; omega, h3, h4, h5, fun h => absurd h (by dsimp only; omega)⟩
        · rw [if_neg (by simpa using c3)]
          exact ⟨⟨_, rfl⟩, rfl, h1, h2, h3, h4, h5, h6⟩
      · rw [if_neg (by simpa using c2)]
        exact ⟨⟨_, rfl⟩, rfl, h1, h2, h3, h4, h5, h6⟩
    · rw [if_neg (by simpa using c1)]
      exact ⟨⟨_, rfl⟩, rfl, h1, h2, h3, h4, h5, h6⟩
  rintro _ S1 ⟨⟨x, rfl⟩, h'⟩
  clear h
  rw [sq_nx]
  -- a great cell
  by_cases c1 : 1 < S1.two
  · refine seq_cut (R := fun c S' => Inv S' n ∧ ∃ z : Int, c = .rt (.int z) ∧ 0 ≤ z ∧ z < many) ?_ ?_
    · obtain ⟨C, i, two, three, seed, cnt, md⟩ := S1
      obtain ⟨h0, h1, h2, h3, h4, h5, h6⟩ := h'
      dsimp only at h0 h1 h2 h3 h4 h5 h6 c1
      subst h0
      simp only [wp_seq, w_set, w_setO, w_m2, w_m1, w_var, varQ_d, w_c, w_nil, w_cons, w_cb, w_cbo, w_int, w_intB, w_abs, w_max, w_min, w_lenL, w_lenT, w_B, w_and, w_or, w_not, w_ifs, w_if, w_ret, w_retO, w_next, w_tup, w_lst, w_frz, w_andV, w_notV, stQ_st, w_st1, w_st2, w_st3, w_st4, w_st5, w_cells, w_stS, lawB_law, setQ1, setQ2, setQ3, setQ5, w_for, w_range1, rngQ_int, w_seqI, w_seqL, w_seqT, w_lc, w_call0, w_call1, stepQ_nx, stepQ_bk, stepQ_rt, wp_ok, wp_bad, sq_nx, sq_rt, sq_ro, wp_add, wp_sub, wp_lt, wp_le, wp_gt, wp_ge, wp_mul, wp_mod, wp_fdiv, wp_pow, wp_ix, wp_ixT, wp_toB, wp_noX, List.set_cons_zero, List.set_cons_succ, List.getElem?_cons_zero, List.getElem?_cons_succ, List.length_map, if_true, decide_eq_true_eq, Bool.false_eq_true, if_false]
      rw [if_pos (by simpa using c1)]
      refine ⟨hp, ⟨hp, ?_⟩, ?_⟩
      · have := PB.log (pb hm)
        omega
      · exact ⟨⟨rfl, h1, h2, h3, h4, h5, h6⟩, _, rfl, Int.emod_nonneg _ (by omega), Int.emod_lt_of_pos _ hp⟩
    · rintro _ S2 ⟨h2, z, rfl, z1, z2⟩
      obtain ⟨a, b, c, d, e, f, g⟩ := h2
      exact ⟨⟨a, b, c, d, e, by omega, g⟩, z, rfl, z1, fun _ => z2, fun h => by omega⟩
  refine seq_cut (R := fun c S' => c = .nx [.st, .d (.int many), x, .un, .un, .un, .un] ∧ S1 = S') ?_ ?_
  · obtain ⟨C, i, two, three, seed, cnt, md⟩ := S1
    have h0 := h'.1
    dsimp only at h0
    subst h0
    simp only [wp_seq, w_set, w_setO, w_m2, w_m1, w_var, varQ_d, w_c, w_nil, w_cons, w_cb, w_cbo, w_int, w_intB, w_abs, w_max, w_min, w_lenL, w_lenT, w_B, w_and, w_or, w_not, w_ifs, w_if, w_ret, w_retO, w_next, w_tup, w_lst, w_frz, w_andV, w_notV, stQ_st, w_st1, w_st2, w_st3, w_st4, w_st5, w_cells, w_stS, lawB_law, setQ1, setQ2, setQ3, setQ5, w_for, w_range1, rngQ_int, w_seqI, w_seqL, w_seqT, w_lc, w_call0, w_call1, stepQ_nx, stepQ_bk, stepQ_rt, wp_ok, wp_bad, sq_nx, sq_rt, sq_ro, wp_add, wp_sub, wp_lt, wp_le, wp_gt, wp_ge, wp_mul, wp_mod, wp_fdiv, wp_pow, wp_ix, wp_ixT, wp_toB, wp_noX, List.set_cons_zero, List.set_cons_succ, List.getElem?_cons_zero, List.getElem?_cons_succ, List.length_map, if_true, decide_eq_true_eq, Bool.false_eq_true, if_false]
    rw [if_neg (by simpa using c1)]
    exact ⟨trivial, trivial⟩
  rintro _ _ ⟨rfl, rfl⟩
  rw [sq_nx]
  obtain ⟨C, i, two, three, seed, cnt, md⟩ := S1
  obtain ⟨h0, h1, h2, h3, h4, h5, h6⟩ := h'
  dsimp only at h0 h1 h2 h3 h4 h5 h6
  subst h0
  refine seq_cut (R := fun c S' => c = .nx [.st, .d (.int many), x, .un, .d (.int seed), .un, .un] ∧ (⟨C, i, two, three, seed, cnt, .law⟩ : Sto) = S') ?_ ?_
  · simp only [wp_seq, w_set, w_setO, w_m2, w_m1, w_var, varQ_d, w_c, w_nil, w_cons, w_cb, w_cbo, w_int, w_intB, w_abs, w_max, w_min, w_lenL, w_lenT, w_B, w_and, w_or, w_not, w_ifs, w_if, w_ret, w_retO, w_next, w_tup, w_lst, w_frz, w_andV, w_notV, stQ_st, w_st1, w_st2, w_st3, w_st4, w_st5, w_cells, w_stS, lawB_law, setQ1, setQ2, setQ3, setQ5, w_for, w_range1, rngQ_int, w_seqI, w_seqL, w_seqT, w_lc, w_call0, w_call1, stepQ_nx, stepQ_bk, stepQ_rt, wp_ok, wp_bad, sq_nx, sq_rt, sq_ro, wp_add, wp_sub, wp_lt, wp_le, wp_gt, wp_ge, wp_mul, wp_mod, wp_fdiv, wp_pow, wp_ix, wp_ixT, wp_toB, wp_noX, List.set_cons_zero, List.set_cons_succ, List.getElem?_cons_zero, List.getElem?_cons_succ, List.length_map, if_true, decide_eq_true_eq, Bool.false_eq_true, if_false]
    exact ⟨trivial, trivial⟩
  rintro _ _ ⟨rfl, rfl⟩
  rw [sq_nx]
  refine seq_cut (R := fun c S' => ∃ num t3 : Int, num.natAbs < 2 ^ 100 ∧ c = .nx [.st, .d (.int many), x, .un, .d (.int num), .un, .un] ∧ S' = ⟨C, i, two, t3, seed, cnt, .law⟩ ∧ (0 < t3 → 0 < three)) ?_ ?_
  · simp only [wp_seq, w_set, w_setO, w_m2, w_m1, w_var, varQ_d, w_c, w_nil, w_cons, w_cb, w_cbo, w_int, w_intB, w_abs, w_max, w_min, w_lenL, w_lenT, w_B, w_and, w_or, w_not, w_ifs, w_if, w_ret, w_retO, w_next, w_tup, w_lst, w_frz, w_andV, w_notV, stQ_st, w_st1, w_st2, w_st3, w_st4, w_st5, w_cells, w_stS, lawB_law, setQ1, setQ2, setQ3, setQ5, w_for, w_range1, rngQ_int, w_seqI, w_seqL, w_seqT, w_lc, w_call0, w_call1, stepQ_nx, stepQ_bk, stepQ_rt, wp_ok, wp_bad, sq_nx, sq_rt, sq_ro, wp_add, wp_sub, wp_lt, wp_le, wp_gt, wp_ge, wp_mul, wp_mod, wp_fdiv, wp_pow, wp_ix, wp_ixT, wp_toB, wp_noX, List.set_cons_zero, List.set_cons_succ, List.getElem?_cons_zero, List.getElem?_cons_succ, List.length_map, if_true, decide_eq_true_eq, Bool.false_eq_true, if_false]
    by_cases c2 : 0 < three
    · rw [if_pos (by simpa using c2)]
      obtain ⟨g1, g2⟩ := h6 c2
      have hi : (i - 1).toNat < C.length := by omega
      have at1 : atI (C.map DL.D.int) (i - 1) = some (.int C[(i - 1).toNat]) := by
        unfold atI ixN
        rw [if_pos (by omega), if_pos (by rw [List.length_map]; omega)]
        show (C.map DL.D.int)[(i - 1).toNat]? = _
        rw [List.getElem?_map, List.getElem?_eq_getElem hi]; rfl
      have g3 := g2 _ (List.getElem?_eq_getElem hi)
      refine ⟨_, at1, ?_⟩
      simp only [wp_seq, w_set, w_setO, w_m2, w_m1, w_var, varQ_d, w_c, w_nil, w_cons, w_cb, w_cbo, w_int, w_intB, w_abs, w_max, w_min, w_lenL, w_lenT, w_B, w_and, w_or, w_not, w_ifs, w_if, w_ret, w_retO, w_next, w_tup, w_lst, w_frz, w_andV, w_notV, stQ_st, w_st1, w_st2, w_st3, w_st4, w_st5, w_cells, w_stS, lawB_law, setQ1, setQ2, setQ3, setQ5, w_for, w_range1, rngQ_int, w_seqI, w_seqL, w_seqT, w_lc, w_call0, w_call1, stepQ_nx, stepQ_bk, stepQ_rt, wp_ok, wp_bad, sq_nx, sq_rt, sq_ro, wp_add, wp_sub, wp_lt, wp_le, wp_gt, wp_ge, wp_mul, wp_mod, wp_fdiv, wp_pow, wp_ix, wp_ixT, wp_toB, wp_noX, List.set_cons_zero, List.set_cons_succ, List.getElem?_cons_zero, List.getElem?_cons_succ, List.length_map, if_true, decide_eq_true_eq, Bool.false_eq_true, if_false]
      refine ⟨mulW (big (k := 30) (pb (by decide)) (by decide)) (big (k := 100) (pb (Nat.lt_trans g3 (by decide))) (by decide)), _, _, ?_, rfl, rfl, fun _ => c2⟩
      generalize C[(i - 1).toNat] = z at *
      omega
    · rw [if_neg (by simpa using c2)]
      exact ⟨seed, three, by omega, rfl, rfl, fun h => absurd h c2⟩
  rintro _ _ ⟨num, t3, n1, rfl, rfl, n3⟩
  rw [sq_nx]
  refine seq_cut (R := fun c S' => c = .nx [.st, .d (.int many), x, .un, .d (.int num), .un, .un] ∧ S' = ⟨C, i, two, t3, seed, cnt + 1, .law⟩) ?_ ?_
  · simp only [wp_seq, w_set, w_setO, w_m2, w_m1, w_var, varQ_d, w_c, w_nil, w_cons, w_cb, w_cbo, w_int, w_intB, w_abs, w_max, w_min, w_lenL, w_lenT, w_B, w_and, w_or, w_not, w_ifs, w_if, w_ret, w_retO, w_next, w_tup, w_lst, w_frz, w_andV, w_notV, stQ_st, w_st1, w_st2, w_st3, w_st4, w_st5, w_cells, w_stS, lawB_law, setQ1, setQ2, setQ3, setQ5, w_for, w_range1, rngQ_int, w_seqI, w_seqL, w_seqT, w_lc, w_call0, w_call1, stepQ_nx, stepQ_bk, stepQ_rt, wp_ok, wp_bad, sq_nx, sq_rt, sq_ro, wp_add, wp_sub, wp_lt, wp_le, wp_gt, wp_ge, wp_mul, wp_mod, wp_fdiv, wp_pow, wp_ix, wp_ixT, wp_toB, wp_noX, List.set_cons_zero, List.set_cons_succ, List.getElem?_cons_zero, List.getElem?_cons_succ, List.length_map, if_true, decide_eq_true_eq, Bool.false_eq_true, if_false]
    exact ⟨trivial, trivial⟩
  rintro _ _ ⟨rfl, rfl⟩
  rw [sq_nx]
  refine seq_cut (R := fun c S' => c = .nx [.st, .d (.int many), x, .un, .d (.int num), .d (.int 0), .un] ∧ S' = ⟨C, i, two, t3, seed, cnt + 1, .law⟩) ?_ ?_
  · simp only [wp_seq, w_set, w_setO, w_m2, w_m1, w_var, varQ_d, w_c, w_nil, w_cons, w_cb, w_cbo, w_int, w_intB, w_abs, w_max, w_min, w_lenL, w_lenT, w_B, w_and, w_or, w_not, w_ifs, w_if, w_ret, w_retO, w_next, w_tup, w_lst, w_frz, w_andV, w_notV, stQ_st, w_st1, w_st2, w_st3, w_st4, w_st5, w_cells, w_stS, lawB_law, setQ1, setQ2, setQ3, setQ5, w_for, w_range1, rngQ_int, w_seqI, w_seqL, w_seqT, w_lc, w_call0, w_call1, stepQ_nx, stepQ_bk, stepQ_rt, wp_ok, wp_bad, sq_nx, sq_rt, sq_ro, wp_add, wp_sub, wp_lt, wp_le, wp_gt, wp_ge, wp_mul, wp_mod, wp_fdiv, wp_pow, wp_ix, wp_ixT, wp_toB, wp_noX, List.set_cons_zero, List.set_cons_succ, List.getElem?_cons_zero, List.getElem?_cons_succ, List.length_map, if_true, decide_eq_true_eq, Bool.false_eq_true, if_false]
    exact ⟨trivial, trivial⟩
  rintro _ _ ⟨rfl, rfl⟩
  rw [sq_nx]
  refine seq_cut (R := fun c S' => (∃ (m : Int) (l : L), c = .nx [.st, .d (.int many), x, .un, .d (.int num), .d (.int m), l]) ∧ S' = ⟨C, i, two, t3, seed, cnt + 1, .law⟩) ?_ ?_
  · simp only [wp_seq, w_set, w_setO, w_m2, w_m1, w_var, varQ_d, w_c, w_nil, w_cons, w_cb, w_cbo, w_int, w_intB, w_abs, w_max, w_min, w_lenL, w_lenT, w_B, w_and, w_or, w_not, w_ifs, w_if, w_ret, w_retO, w_next, w_tup, w_lst, w_frz, w_andV, w_notV, stQ_st, w_st1, w_st2, w_st3, w_st4, w_st5, w_cells, w_stS, lawB_law, setQ1, setQ2, setQ3, setQ5, w_for, w_range1, rngQ_int, w_seqI, w_seqL, w_seqT, w_lc, w_call0, w_call1, stepQ_nx, stepQ_bk, stepQ_rt, wp_ok, wp_bad, sq_nx, sq_rt, sq_ro, wp_add, wp_sub, wp_lt, wp_le, wp_gt, wp_ge, wp_mul, wp_mod, wp_fdiv, wp_pow, wp_ix, wp_ixT, wp_toB, wp_noX, List.set_cons_zero, List.set_cons_succ, List.getElem?_cons_zero, List.getElem?_cons_succ, List.length_map, if_true, decide_eq_true_eq, Bool.false_eq_true, if_false]
    refine ⟨by decide, mulW (big (k := 2) (pb (by decide)) (by decide)) (big (k := 2) (pb (by split <;> decide)) (by decide)), ?_, ?_⟩
    · split <;> decide
    · refine forD_inv _ (fun k ρ S' => ∃ (m : Int) (l : L), (m.natAbs ≤ k * (2 ^ 80) ∨ True) ∧ m.natAbs < PB (100 * (k + 1)) ∧ ρ = [.st, .d (.int many), x, .un, .d (.int num), .d (.int m), l] ∧ S' = ⟨C, i, two, t3, seed, cnt + 1, .law⟩) _ _ ⟨0, .un, .inr trivial, pb (by decide), rfl, rfl⟩ ?_ ?_
      · rintro k d ρ S2 hk ⟨m, l, _, hm', rfl, rfl⟩
        have hk3 : k < 3 := by
          have := (List.getElem?_eq_some_iff.mp hk).1
          rw [rangeD_len] at this
          split at this <;> omega
        have hd : d = .int (0 + (k : Nat)) := by
          have hk' : k < _ := (List.getElem?_eq_some_iff.mp hk).1
          rw [rangeD_len] at hk'
          unfold rangeD at hk
          rw [List.getElem?_map, List.getElem?_range hk'] at hk
          cases hk; rfl
        subst hd
        refine ⟨_, rfl, ?_⟩
        simp only [wp_seq, w_set, w_setO, w_m2, w_m1, w_var, varQ_d, w_c, w_nil, w_cons, w_cb, w_cbo, w_int, w_intB, w_abs, w_max, w_min, w_lenL, w_lenT, w_B, w_and, w_or, w_not, w_ifs, w_if, w_ret, w_retO, w_next, w_tup, w_lst, w_frz, w_andV, w_notV, stQ_st, w_st1, w_st2, w_st3, w_st4, w_st5, w_cells, w_stS, lawB_law, setQ1, setQ2, setQ3, setQ5, w_for, w_range1, rngQ_int, w_seqI, w_seqL, w_seqT, w_lc, w_call0, w_call1, stepQ_nx, stepQ_bk, stepQ_rt, wp_ok, wp_bad, sq_nx, sq_rt, sq_ro, wp_add, wp_sub, wp_lt, wp_le, wp_gt, wp_ge, wp_mul, wp_mod, wp_fdiv, wp_pow, wp_ix, wp_ixT, wp_toB, wp_noX, List.set_cons_zero, List.set_cons_succ, List.getElem?_cons_zero, List.getElem?_cons_succ, List.length_map, if_true, decide_eq_true_eq, Bool.false_eq_true, if_false]
        have hPB : m.natAbs < B4000 := Nat.lt_of_lt_of_le hm' (PB.le (by omega))
        refine ⟨by decide, mulW hPB (big (k := 100) (pb (by decide)) (by decide)), mulW (big (k := 2) (pb (by decide)) (by decide)) (big (k := 100) (pb (by omega)) (by decide)), ?_⟩
        refine wp.mono (mixed_ok _ _ _ (Nat.lt_of_lt_of_le (pb n1) (PB.le (by decide))) (Nat.lt_of_lt_of_le (pb (k := 100) (by omega)) (PB.le (by decide)))) ?_
        rintro _ _ ⟨rfl, z, rfl, z1, z2⟩
        simp only [Res.toD]
        simp only [wp_seq, w_set, w_setO, w_m2, w_m1, w_var, varQ_d, w_c, w_nil, w_cons, w_cb, w_cbo, w_int, w_intB, w_abs, w_max, w_min, w_lenL, w_lenT, w_B, w_and, w_or, w_not, w_ifs, w_if, w_ret, w_retO, w_next, w_tup, w_lst, w_frz, w_andV, w_notV, stQ_st, w_st1, w_st2, w_st3, w_st4, w_st5, w_cells, w_stS, lawB_law, setQ1, setQ2, setQ3, setQ5, w_for, w_range1, rngQ_int, w_seqI, w_seqL, w_seqT, w_lc, w_call0, w_call1, stepQ_nx, stepQ_bk, stepQ_rt, wp_ok, wp_bad, sq_nx, sq_rt, sq_ro, wp_add, wp_sub, wp_lt, wp_le, wp_gt, wp_ge, wp_mul, wp_mod, wp_fdiv, wp_pow, wp_ix, wp_ixT, wp_toB, wp_noX, List.set_cons_zero, List.set_cons_succ, List.getElem?_cons_zero, List.getElem?_cons_succ, List.length_map, if_true, decide_eq_true_eq, Bool.false_eq_true, if_false]
        refine ⟨_, _, .inr trivial, ?_, rfl, trivial⟩
        have e : PB (100 * (k + 1 + 1)) = PB (100 * (k + 1)) * 2 ^ 100 := by
          unfold PB; rw [← Nat.pow_add, show 100 * (k + 1 + 1) = 100 * (k + 1) + 100 by omega]
        rw [e]
        have h10 : (m * 10 ^ Int.toNat 18).natAbs = m.natAbs * 10 ^ 18 := by rw [Int.natAbs_mul]; rfl
        have h11 : (m * 10 ^ Int.toNat 18 + z).natAbs ≤ m.natAbs * 10 ^ 18 + z.natAbs := by rw [← h10]; exact Int.natAbs_add_le _ _
        have h12 : z.natAbs < 10 ^ 18 * 2 := by omega
        have h13 : 1 ≤ PB (100 * (k + 1)) := Nat.one_le_two_pow
        have h14 : m.natAbs * 10 ^ 18 ≤ PB (100 * (k + 1)) * 10 ^ 18 := Nat.mul_le_mul_right _ (Nat.le_of_lt hm')
        omega
      · rintro ρ S2 ⟨m, l, _, _, rfl, rfl⟩
        exact ⟨⟨m, l, rfl⟩, rfl⟩
  rintro _ _ ⟨⟨m, l, rfl⟩, rfl⟩
  rw [sq_nx]
  simp only [wp_seq, w_set, w_setO, w_m2, w_m1, w_var, varQ_d, w_c, w_nil, w_cons, w_cb, w_cbo, w_int, w_intB, w_abs, w_max, w_min, w_lenL, w_lenT, w_B, w_and, w_or, w_not, w_ifs, w_if, w_ret, w_retO, w_next, w_tup, w_lst, w_frz, w_andV, w_notV, stQ_st, w_st1, w_st2, w_st3, w_st4, w_st5, w_cells, w_stS, lawB_law, setQ1, setQ2, setQ3, setQ5, w_for, w_range1, rngQ_int, w_seqI, w_seqL, w_seqT, w_lc, w_call0, w_call1, stepQ_nx, stepQ_bk, stepQ_rt, wp_ok, wp_bad, sq_nx, sq_rt, sq_ro, wp_add, wp_sub, wp_lt, wp_le, wp_gt, wp_ge, wp_mul, wp_mod, wp_fdiv, wp_pow, wp_ix, wp_ixT, wp_toB, wp_noX, List.set_cons_zero, List.set_cons_succ, List.getElem?_cons_zero, List.getElem?_cons_succ, List.length_map, if_true, decide_eq_true_eq, Bool.false_eq_true, if_false]
  refine ⟨hp, ⟨rfl, h1, h2, h3, by dsimp only; omega, by dsimp only; omega, fun h => h6 (n3 h)⟩, _, rfl, Int.emod_nonneg _ (by omega), fun _ => Int.emod_lt_of_pos _ hp, fun h => by omega⟩
end K17

set_option Elab.async false
set_option linter.all false
set_option maxRecDepth 100000
set_option maxHeartbeats 4000000
set_option autoImplicit false
namespace K17
open PySem PySem.Spec L2 DL
/-! ### the seed of the store -/
theorem seed_ok (ns : List Int) (hl : ns.length ≤ 63) : ∃ seed : Int, seed.natAbs < 2 ^ 70 ∧ ∃ S, b_store [.un, .d (.lst (ns.map DL.D.int)), .un, .un] sto0 = .ok (.ro [.lst (ns.map DL.D.int), .int 0, .int 0, .int 0, .int seed, .int 0]) S := by
  have h : wp (b_store [.un, .d (.lst (ns.map DL.D.int)), .un, .un] sto0) fun c S => ∃ seed : Int, seed.natAbs < 2 ^ 70 ∧ c = .ro [.lst (ns.map DL.D.int), .int 0, .int 0, .int 0, .int seed, .int 0] := by
    unfold b_store
    simp only [wp_seq, w_set, w_setO, w_m2, w_m1, w_var, varQ_d, w_c, w_nil, w_cons, w_cb, w_cbo, w_int, w_intB, w_abs, w_max, w_min, w_lenL, w_lenT, w_B, w_and, w_or, w_not, w_ifs, w_if, w_ret, w_retO, w_next, w_tup, w_lst, w_frz, w_andV, w_notV, stQ_st, w_st1, w_st2, w_st3, w_st4, w_st5, w_cells, w_stS, lawB_law, setQ1, setQ2, setQ3, setQ5, w_for, w_range1, rngQ_int, w_seqI, w_seqL, w_seqT, w_lc, w_call0, w_call1, stepQ_nx, stepQ_bk, stepQ_rt, wp_ok, wp_bad, sq_nx, sq_rt, sq_ro, wp_add, wp_sub, wp_lt, wp_le, wp_gt, wp_ge, wp_mul, wp_mod, wp_fdiv, wp_pow, wp_ix, wp_ixT, wp_toB, wp_noX, List.set_cons_zero, List.set_cons_succ, List.getElem?_cons_zero, List.getElem?_cons_succ, List.length_map, if_true, decide_eq_true_eq, Bool.false_eq_true, if_false]
    refine ⟨mulW (big (k := 100) (pb (by decide)) (by decide)) (big (k := 100) (pb (by omega)) (by decide)), ?_⟩
    refine forD_inv _ (fun k ρ S' => ∃ (m : Int) (l : L), m.natAbs < 2 ^ 70 ∧ ρ = [.un, .d (.lst (ns.map DL.D.int)), .d (.int m), l]) _ _ ⟨_, .un, ?_, rfl⟩ ?_ ?_
    · omega
    · rintro k d ρ S2 hk ⟨m, l, hm, rfl⟩
      rw [List.getElem?_map] at hk
      cases q : ns[k]? with
      | none => rw [q] at hk; cases hk
      | some z =>
        rw [q] at hk
        cases hk
        refine ⟨_, rfl, ?_⟩
        simp only [wp_seq, w_set, w_setO, w_m2, w_m1, w_var, varQ_d, w_c, w_nil, w_cons, w_cb, w_cbo, w_int, w_intB, w_abs, w_max, w_min, w_lenL, w_lenT, w_B, w_and, w_or, w_not, w_ifs, w_if, w_ret, w_retO, w_next, w_tup, w_lst, w_frz, w_andV, w_notV, stQ_st, w_st1, w_st2, w_st3, w_st4, w_st5, w_cells, w_stS, lawB_law, setQ1, setQ2, setQ3, setQ5, w_for, w_range1, rngQ_int, w_seqI, w_seqL, w_seqT, w_lc, w_call0, w_call1, stepQ_nx, stepQ_bk, stepQ_rt, wp_ok, wp_bad, sq_nx, sq_rt, sq_ro, wp_add, wp_sub, wp_lt, wp_le, wp_gt, wp_ge, wp_mul, wp_mod, wp_fdiv, wp_pow, wp_ix, wp_ixT, wp_toB, wp_noX, List.set_cons_zero, List.set_cons_succ, List.getElem?_cons_zero, List.getElem?_cons_succ, List.length_map, if_true, decide_eq_true_eq, Bool.false_eq_true, if_false]
        refine ⟨mulW (big (k := 100) (pb (by omega)) (by decide)) (big (k := 100) (pb (by decide)) (by decide)), by decide, _, _, ?_, rfl⟩
        have := modB (m * 1000003 + z) 2305843009213693951 (by decide)
        omega
    · rintro ρ S2 ⟨m, l, hm, rfl⟩
      rw [sq_nx]
      simp only [wp_seq, w_set, w_setO, w_m2, w_m1, w_var, varQ_d, w_c, w_nil, w_cons, w_cb, w_cbo, w_int, w_intB, w_abs, w_max, w_min, w_lenL, w_lenT, w_B, w_and, w_or, w_not, w_ifs, w_if, w_ret, w_retO, w_next, w_tup, w_lst, w_frz, w_andV, w_notV, stQ_st, w_st1, w_st2, w_st3, w_st4, w_st5, w_cells, w_stS, lawB_law, setQ1, setQ2, setQ3, setQ5, w_for, w_range1, rngQ_int, w_seqI, w_seqL, w_seqT, w_lc, w_call0, w_call1, stepQ_nx, stepQ_bk, stepQ_rt, wp_ok, wp_bad, sq_nx, sq_rt, sq_ro, wp_add, wp_sub, wp_lt, wp_le, wp_gt, wp_ge, wp_mul, wp_mod, wp_fdiv, wp_pow, wp_ix, wp_ixT, wp_toB, wp_noX, List.set_cons_zero, List.set_cons_succ, List.getElem?_cons_zero, List.getElem?_cons_succ, List.length_map, if_true, decide_eq_true_eq, Bool.false_eq_true, if_false]
      exact ⟨rfl, m, hm, rfl⟩
  obtain ⟨c, S, e, seed, hs, rfl⟩ := h.get
  exact ⟨seed, hs, S, e⟩
/-! ### labels -/
inductive Lb where
  | i (n : Int) | t (xs : List Int)
deriving DecidableEq
def labD : Lb → D
  | .i n => .int n
  | .t xs => .tup (xs.map .int)
theorem ints_lay : ∀ xs : List Int, PyData.canLayAll0 (toPs (xs.map D.int)) = true ∧ PyData.depthAll (toPs (xs.map D.int)) = 0 ∧ isPs (xs.map D.int) = true
  | [] => ⟨by simp [toPs, PyData.canLayAll0], by simp [toPs, PyData.depthAll], by simp [isPs]⟩
  | x :: xs => by
    obtain ⟨a, b, c⟩ := ints_lay xs
    refine ⟨?_, ?_, ?_⟩
    · rw [List.map_cons, toPs, toP, PyData.canLayAll0, a, PyData.canLay0]; rfl
    · rw [List.map_cons, toPs, toP, PyData.depthAll, b, PyData.depth]; rfl
    · simp only [List.map_cons, isPs, isP, c, Bool.and_self]
theorem ints_eqv : ∀ xs ys : List Int, PyData.eqvAll (toPs (xs.map D.int)) (toPs (ys.map D.int)) = decide (xs = ys)
  | [], [] => by simp [toPs, PyData.eqvAll]
  | [], y :: ys => by simp [toPs, toP, PyData.eqvAll]
  | x :: xs, [] => by simp [toPs, toP, PyData.eqvAll]
  | x :: xs, y :: ys => by
    rw [List.map_cons, List.map_cons, toPs, toPs, toP, toP, PyData.eqvAll, ints_eqv xs ys, PyData.eqv]
    by_cases h1 : x = y <;> by_cases h2 : xs = ys <;> simp [h1, h2]
theorem lab_shp (a : Lb) : shp (labD a) = true := by
  unfold shp SeqAt.shaped
  cases a with
  | i n => simp [labD, isP, toP, PyData.canLay0, PyData.depth]
  | t xs =>
    obtain ⟨a, b, c⟩ := ints_lay xs
    simp [labD, isP, toP, PyData.canLay0, PyData.depth, a, b, c]
theorem lab_eq (a b : Lb) : eqB (labD a) (labD b) = decide (a = b) := by
  unfold eqB
  cases a <;> cases b
  · rename_i m n
    by_cases h : m = n <;> simp [labD, toP, PyData.eqv, h]
  · simp [labD, toP, PyData.eqv]
  · simp [labD, toP, PyData.eqv]
  · rename_i xs ys
    simp only [labD, toP, PyData.eqv, ints_eqv]
    by_cases h : xs = ys <;> simp [h]
theorem wp_eqL {a b : Lb} {S : Sto} {Q : D → Sto → Prop} : wp (gEq (labD a) (labD b) S) Q = Q (.bl (decide (a = b))) S := by
  unfold gEq pure2 eq2
  rw [if_pos ⟨lab_shp a, lab_shp b⟩, lab_eq]
  exact wp_ok
theorem wp_eqI {i j : Int} {S : Sto} {Q : D → Sto → Prop} : wp (gEq (.int i) (.int j) S) Q = Q (.bl (decide (i = j))) S := by
  have := wp_eqL (a := .i i) (b := .i j) (S := S) (Q := Q)
  simpa [labD] using this
theorem wp_neI {i j : Int} {S : Sto} {Q : D → Sto → Prop} : wp (gNe (.int i) (.int j) S) Q = Q (.bl (decide (i ≠ j))) S := by
  unfold gNe pure2 ne2
  rw [if_pos ⟨lab_shp (.i i), lab_shp (.i j)⟩, show eqB (.int i) (.int j) = _ from lab_eq (.i i) (.i j)]
  show wp (.ok _ S) Q = _
  rw [wp_ok]
  by_cases h : i = j <;> simp [h]
/-! ### the first equal place -/
def fi (a : Lb) : List Lb → Nat
  | [] => 0
  | b :: r => if b = a then 0 else fi a r + 1
theorem fi_at : ∀ (L : List Lb) (k : Nat) (a : Lb), L[k]? = some a → fi a L ≤ k ∧ L[fi a L]? = some a
  | [], k, a, h => by simp at h
  | b :: r, k, a, h => by
    unfold fi
    by_cases c : b = a
    · rw [if_pos c]; exact ⟨Nat.zero_le _, by simp [c]⟩
    · rw [if_neg c]
      cases k with
      | zero => simp at h; exact absurd h c
      | succ k =>
        obtain ⟨h1, h2⟩ := fi_at r k a (by simpa using h)
        exact ⟨by omega, by simpa using h2⟩
theorem fi_eq : ∀ (L : List Lb) (j : Nat) (a : Lb), L[j]? = some a → (∀ i, i < j → L[i]? ≠ some a) → fi a L = j
  | [], j, a, h, _ => by simp at h
  | b :: r, j, a, h, n => by
    unfold fi
    cases j with
    | zero => simp at h; rw [if_pos h]
    | succ j =>
      have c : b ≠ a := fun e => n 0 (by omega) (by simp [e])
      rw [if_neg c, fi_eq r j a (by simpa using h) fun i hi e => n (i + 1) (by omega) (by simpa using e)]
def cn (L : List Lb) : List Nat := L.map fun a => fi a L
/-- names that are the first plots of their lots -/
def Cn (ns : List Nat) : Prop := ∀ (k v : Nat), ns[k]? = some v → v ≤ k ∧ ns[v]? = some v
theorem cn_Cn (L : List Lb) : Cn (cn L) := fun k v h => by
  unfold cn at h ⊢
  rw [List.getElem?_map] at h
  cases q : L[k]? with
  | none => rw [q] at h; cases h
  | some a =>
    rw [q] at h
    cases h
    obtain ⟨h1, h2⟩ := fi_at L k a q
    exact ⟨h1, by rw [List.getElem?_map, h2]; rfl⟩
def inD (n : Nat) : D := .int (n : Int)
def nmD (ns : List Nat) : D := .tup (ns.map inD)
theorem rangeD_at {n k : Nat} {d : D} (h : (rangeD 0 n)[k]? = some d) : k < n ∧ d = .int (k : Nat) := by
  have hk := (List.getElem?_eq_some_iff.mp h).1
  rw [rangeD_len] at hk
  refine ⟨hk, ?_⟩
  unfold rangeD at h
  rw [List.getElem?_map, List.getElem?_range hk] at h
  cases h
  show D.int (0 + (k : Nat)) = _
  rw [Int.zero_add]
theorem atL {xs : List D} {k : Nat} {d : D} (h : xs[k]? = some d) : atI xs (k : Nat) = some d := atI_nat h
theorem canon_ok (Ls : List Lb) (ds : List D) (hds : Ls.map labD = ds) (S : Sto) (hl : Ls.length ≤ 90) : wp (m_law_canon [.lst ds] S) fun r S' => S' = S ∧ r = .d (nmD (cn Ls)) := by
  have hlen : ds.length = Ls.length := by rw [← hds, List.length_map]
  have hat : ∀ (k : Nat) (a : Lb), Ls[k]? = some a → ds[k]? = some (labD a) := fun k a h => by rw [← hds, List.getElem?_map, h]; rfl
  clear hds
  have hIx : ∀ (i : Int) (S : Sto) (Q : D → Sto → Prop), wp (gIx (D.lst ds) (.int i) S) Q = ∃ d, atI ds i = some d ∧ Q d S := fun i S Q => wp_ix
  have hLn : ∀ (S : Sto) (Q : D → Sto → Prop), wp (pureC lenC [D.lst ds] S) Q = Q (.int Ls.length) S := fun S Q => by rw [w_lenL, hlen]
  generalize D.lst ds = LD at *
  refine wp_run [.d LD, .un, .un, .un, .un] rfl ?_
  unfold b_law_canon
  simp only [wp_seq, w_set, w_setO, w_m2, w_m1, w_var, varQ_d, w_c, w_nil, w_cons, w_cb, w_cbo, w_int, w_intB, w_abs, w_max, w_min, w_lenL, w_lenT, w_B, w_and, w_or, w_not, w_ifs, w_if, w_ret, w_retO, w_next, w_tup, w_lst, w_frz, w_andV, w_notV, stQ_st, w_st1, w_st2, w_st3, w_st4, w_st5, w_cells, w_stS, lawB_law, setQ1, setQ2, setQ3, setQ5, w_for, w_range1, rngQ_int, w_seqI, w_seqL, w_seqT, w_lc, w_call0, w_call1, stepQ_nx, stepQ_bk, stepQ_rt, wp_ok, wp_bad, sq_nx, sq_rt, sq_ro, wp_add, wp_sub, wp_lt, wp_le, wp_gt, wp_ge, wp_mul, wp_mod, wp_fdiv, wp_pow, wp_ix, wp_ixT, wp_toB, wp_noX, List.set_cons_zero, List.set_cons_succ, List.getElem?_cons_zero, List.getElem?_cons_succ, List.length_map, if_true, decide_eq_true_eq, Bool.false_eq_true, if_false]
  rw [hLn]
  simp only [wp_seq, w_set, w_setO, w_m2, w_m1, w_var, varQ_d, w_c, w_nil, w_cons, w_cb, w_cbo, w_int, w_intB, w_abs, w_max, w_min, w_lenL, w_lenT, w_B, w_and, w_or, w_not, w_ifs, w_if, w_ret, w_retO, w_next, w_tup, w_lst, w_frz, w_andV, w_notV, stQ_st, w_st1, w_st2, w_st3, w_st4, w_st5, w_cells, w_stS, lawB_law, setQ1, setQ2, setQ3, setQ5, w_for, w_range1, rngQ_int, w_seqI, w_seqL, w_seqT, w_lc, w_call0, w_call1, stepQ_nx, stepQ_bk, stepQ_rt, wp_ok, wp_bad, sq_nx, sq_rt, sq_ro, wp_add, wp_sub, wp_lt, wp_le, wp_gt, wp_ge, wp_mul, wp_mod, wp_fdiv, wp_pow, wp_ix, wp_ixT, wp_toB, wp_noX, List.set_cons_zero, List.set_cons_succ, List.getElem?_cons_zero, List.getElem?_cons_succ, List.length_map, if_true, decide_eq_true_eq, Bool.false_eq_true, if_false]
  refine ⟨rfl, by unfold okR; simp; omega, ?_⟩
  have hcl : (cn Ls).length = Ls.length := by unfold cn; rw [List.length_map]
  generalize hcn : cn Ls = C at *
  refine forD_inv _ (fun k ρ S' => S' = S ∧ ∃ l2 l3 l4, ρ = [.d LD, .own ((C.take k).map inD), l2, l3, l4]) _ _ ⟨rfl, .un, .un, .un, rfl⟩ ?_ ?_
  · rintro k d ρ S2 hk ⟨rfl, l2, l3, l4, rfl⟩
    obtain ⟨hk, rfl⟩ := rangeD_at hk
    have hk : k < Ls.length := by omega
    refine ⟨_, rfl, ?_⟩
    have hLk : Ls[k]? = some Ls[k] := List.getElem?_eq_getElem hk
    have hDk := hat _ _ hLk
    simp only [wp_seq, w_set, w_setO, w_m2, w_m1, w_var, varQ_d, w_c, w_nil, w_cons, w_cb, w_cbo, w_int, w_intB, w_abs, w_max, w_min, w_lenL, w_lenT, w_B, w_and, w_or, w_not, w_ifs, w_if, w_ret, w_retO, w_next, w_tup, w_lst, w_frz, w_andV, w_notV, stQ_st, w_st1, w_st2, w_st3, w_st4, w_st5, w_cells, w_stS, lawB_law, setQ1, setQ2, setQ3, setQ5, w_for, w_range1, rngQ_int, w_seqI, w_seqL, w_seqT, w_lc, w_call0, w_call1, stepQ_nx, stepQ_bk, stepQ_rt, wp_ok, wp_bad, sq_nx, sq_rt, sq_ro, wp_add, wp_sub, wp_lt, wp_le, wp_gt, wp_ge, wp_mul, wp_mod, wp_fdiv, wp_pow, wp_ix, wp_ixT, wp_toB, wp_noX, List.set_cons_zero, List.set_cons_succ, List.getElem?_cons_zero, List.getElem?_cons_succ, List.length_map, if_true, decide_eq_true_eq, Bool.false_eq_true, if_false]
    refine ⟨by unfold okR; simp; omega, ?_⟩
    have fin : ∀ l4, wp (mApp 1 (mVar 3) [.d LD, .own ((C.take k).map inD), .d (.int (k : Nat)), .d (.int (fi Ls[k] Ls : Nat)), l4] S2) (stepQ (fun ρ S' => S' = S2 ∧ ∃ l2 l3 l4, ρ = [.d LD, .own ((C.take (k + 1)).map inD), l2, l3, l4]) (sq (mRet (mTupO 1)) fun c S' => match c with
          | .rt d => S' = S2 ∧ Res.d d = Res.d (nmD C)
          | .ro xs => S' = S2 ∧ Res.own xs = Res.d (nmD C)
          | .nx ρ => S' = S2 ∧ Res.d D.non = Res.d (nmD C)
          | _ => False)) := fun l4 => by
      rw [w_app (xs := (C.take k).map inD) (by rfl)]
      simp only [wp_seq, w_set, w_setO, w_m2, w_m1, w_var, varQ_d, w_c, w_nil, w_cons, w_cb, w_cbo, w_int, w_intB, w_abs, w_max, w_min, w_lenL, w_lenT, w_B, w_and, w_or, w_not, w_ifs, w_if, w_ret, w_retO, w_next, w_tup, w_lst, w_frz, w_andV, w_notV, stQ_st, w_st1, w_st2, w_st3, w_st4, w_st5, w_cells, w_stS, lawB_law, setQ1, setQ2, setQ3, setQ5, w_for, w_range1, rngQ_int, w_seqI, w_seqL, w_seqT, w_lc, w_call0, w_call1, stepQ_nx, stepQ_bk, stepQ_rt, wp_ok, wp_bad, sq_nx, sq_rt, sq_ro, wp_add, wp_sub, wp_lt, wp_le, wp_gt, wp_ge, wp_mul, wp_mod, wp_fdiv, wp_pow, wp_ix, wp_ixT, wp_toB, wp_noX, List.set_cons_zero, List.set_cons_succ, List.getElem?_cons_zero, List.getElem?_cons_succ, List.length_map, if_true, decide_eq_true_eq, Bool.false_eq_true, if_false]
      have hc : C[k]? = some (fi Ls[k] Ls) := by rw [← hcn]; unfold cn; rw [List.getElem?_map, hLk]; rfl
      have hx : (C.take (k + 1)).map inD = (C.take k).map inD ++ [.int (fi Ls[k] Ls : Nat)] := by
        rw [List.take_add_one, hc]; simp [inD]
      rw [hx]
      exact ⟨by simp [line]; omega, trivial, _, _, _, rfl⟩
    refine forD_inv _ (fun j ρ S' => S' = S2 ∧ (∀ i, i < j → Ls[i]? ≠ some Ls[k]) ∧ ∃ l4, ρ = [.d LD, .own ((C.take k).map inD), .d (.int (k : Nat)), .d (.int (k : Nat)), l4]) _ _ ⟨rfl, fun i h => by omega, l4, rfl⟩ ?_ ?_
    · rintro j d ρ S3 hj ⟨rfl, no, l4, rfl⟩
      obtain ⟨hj, rfl⟩ := rangeD_at hj
      have hj : j < k := by omega
      refine ⟨_, rfl, ?_⟩
      have hLj : Ls[j]? = some Ls[j] := List.getElem?_eq_getElem (by omega)
      simp only [wp_seq, w_set, w_setO, w_m2, w_m1, w_var, varQ_d, w_c, w_nil, w_cons, w_cb, w_cbo, w_int, w_intB, w_abs, w_max, w_min, w_lenL, w_lenT, w_B, w_and, w_or, w_not, w_ifs, w_if, w_ret, w_retO, w_next, w_tup, w_lst, w_frz, w_andV, w_notV, stQ_st, w_st1, w_st2, w_st3, w_st4, w_st5, w_cells, w_stS, lawB_law, setQ1, setQ2, setQ3, setQ5, w_for, w_range1, rngQ_int, w_seqI, w_seqL, w_seqT, w_lc, w_call0, w_call1, stepQ_nx, stepQ_bk, stepQ_rt, wp_ok, wp_bad, sq_nx, sq_rt, sq_ro, wp_add, wp_sub, wp_lt, wp_le, wp_gt, wp_ge, wp_mul, wp_mod, wp_fdiv, wp_pow, wp_ix, wp_ixT, wp_toB, wp_noX, List.set_cons_zero, List.set_cons_succ, List.getElem?_cons_zero, List.getElem?_cons_succ, List.length_map, if_true, decide_eq_true_eq, Bool.false_eq_true, if_false]
      rw [hIx]
      refine ⟨labD Ls[j], atL (hat _ _ hLj), ?_⟩
      rw [hIx]
      refine ⟨labD Ls[k], atL hDk, ?_⟩
      rw [wp_eqL]
      simp only [wp_seq, w_set, w_setO, w_m2, w_m1, w_var, varQ_d, w_c, w_nil, w_cons, w_cb, w_cbo, w_int, w_intB, w_abs, w_max, w_min, w_lenL, w_lenT, w_B, w_and, w_or, w_not, w_ifs, w_if, w_ret, w_retO, w_next, w_tup, w_lst, w_frz, w_andV, w_notV, stQ_st, w_st1, w_st2, w_st3, w_st4, w_st5, w_cells, w_stS, lawB_law, setQ1, setQ2, setQ3, setQ5, w_for, w_range1, rngQ_int, w_seqI, w_seqL, w_seqT, w_lc, w_call0, w_call1, stepQ_nx, stepQ_bk, stepQ_rt, wp_ok, wp_bad, sq_nx, sq_rt, sq_ro, wp_add, wp_sub, wp_lt, wp_le, wp_gt, wp_ge, wp_mul, wp_mod, wp_fdiv, wp_pow, wp_ix, wp_ixT, wp_toB, wp_noX, List.set_cons_zero, List.set_cons_succ, List.getElem?_cons_zero, List.getElem?_cons_succ, List.length_map, if_true, decide_eq_true_eq, Bool.false_eq_true, if_false]
      by_cases c : Ls[j] = Ls[k]
      · rw [if_pos c]
        unfold mBreak
        rw [wp_ok, stepQ_bk, sq_nx]
        have := fin (.d (.int (j : Nat)))
        rw [fi_eq Ls j Ls[k] (by rw [hLj, c]) no] at this
        exact this
      · rw [if_neg c]
        refine ⟨trivial, fun i hi => ?_, _, rfl⟩
        by_cases z : i = j
        · subst z; rw [hLj]; exact fun e => c (Option.some.inj e)
        · exact no i (by omega)
    · rintro ρ S3 ⟨rfl, no, l4, rfl⟩
      rw [rangeD_len] at no
      rw [sq_nx]
      have := fin l4
      rw [fi_eq Ls k _ hLk (by simpa using no)] at this
      exact this
  · rintro ρ S2 ⟨rfl, l2, l3, l4, rfl⟩
    rw [sq_nx]
    have e : C.take (rangeD 0 ((Ls.length : Int)).toNat).length = C := by
      rw [rangeD_len]
      exact List.take_of_length_le (by omega)
    rw [e, w_ret, w_tupO rfl]
    exact ⟨rfl, rfl⟩
end K17

set_option Elab.async false
set_option linter.all false
set_option maxRecDepth 100000
set_option maxHeartbeats 4000000
set_option autoImplicit false
namespace K17
open PySem PySem.Spec L2 DL
theorem Inv.mono {S : Sto} {n m : Int} (h : Inv S n) (k : n ≤ m) : Inv S m := by
  obtain ⟨a, b, c, d, e, f, g⟩ := h
  exact ⟨a, b, c, d, e, by omega, g⟩
theorem w_takeC {i : Nat} {ρ : List L} {S : Sto} {m : Int} {n : Int} {Q : D → Sto → Prop} {φ : Ph D} (hst : ρ[i]? = some .st) (hφ : φ ρ S = .ok (.int m) S) (hm : m.natAbs < 2 ^ 100) (hn : n < 2 ^ 60) (h : Inv S n)
    (q : ∀ (z : Int) (S' : Sto), Inv S' (n + 1) → 0 ≤ z → (2 ≤ m → z < m) → (m < 2 → z = 0) → Q (.int z) S') : wp (mCall1 m_law_take i (mCons φ mNil) ρ S) Q := by
  rw [w_call1, hst]
  show wp _ _
  rw [w_cons]
  refine wp.of hφ ?_
  rw [w_nil]
  refine wp.mono (take_ok S n m hm hn h) ?_
  rintro _ S' ⟨i1, z, rfl, z1, z2, z3⟩
  exact q z S' i1 z1 z2 z3
/-- names of so many plots -/
structure Nm (ns : List Nat) (p : Nat) : Prop where
  cn : Cn ns
  len : ns.length = p
theorem cn_len (L : List Lb) : (cn L).length = L.length := by unfold cn; rw [List.length_map]
theorem comp_lab {P : Int} {ρ : List L} {S : Sto} {n : Int} {φe : Ph D} {i v : Nat} (hρ : ρ[v]? = some (.d (.int P))) (hw : ρ.set i .un = ρ) (hp0 : 0 ≤ P) (hp : P ≤ 100) (h : Inv S n)
    (he : ∀ (z : Int) (S : Sto) (m : Int), 0 ≤ z → z < P → Inv S m → m ≤ n + 100 → wp (φe (ρ.set i (.d (.int z))) S) fun x S' => (∃ a : Lb, x = labD a) ∧ Inv S' (m + 1)) :
    wp (mLc (.one i) [i] (mRange1 (mCons (mVar v) mNil)) mYes φe ρ S) fun xs S' => ∃ Ls : List Lb, xs = Ls.map labD ∧ Ls.length = P.toNat ∧ Inv S' (n + P) := by
  rw [w_lc, w_range1, w_cons, w_var, hρ, varQ_d, w_nil, rngQ_int]
  refine ⟨by unfold okR; simp; omega, by rw [rangeD_len]; simp only [line, decide_eq_true_eq]; omega, ?_⟩
  show wp (compD _ _ _ _ (ρ.set i .un) _) _
  rw [hw]
  refine comp_inv _ (fun k xs S' => ∃ Ls : List Lb, xs = Ls.map labD ∧ Ls.length = k ∧ Inv S' (n + k)) _ _ ⟨[], rfl, rfl, by simpa using h⟩ ?_ ?_
  · rintro k d xs S2 hk hl ⟨Ls, rfl, hL, hi⟩
    obtain ⟨hk, rfl⟩ := rangeD_at hk
    refine ⟨_, rfl, ?_⟩
    refine wp.mono (he (k : Nat) S2 _ (by omega) (by omega) hi (by omega)) ?_
    rintro _ S3 ⟨⟨a, rfl⟩, i3⟩
    refine ⟨Ls ++ [a], by simp, by simp [hL], ?_⟩
    exact i3.mono (by omega)
  · rintro xs S2 hl ⟨Ls, rfl, hL, hi⟩
    rw [rangeD_len] at hL hi
    exact ⟨Ls, rfl, hL, hi.mono (by omega)⟩
theorem ret_canon {ρ : List L} {S : Sto} {φ : Ph (List D)} {Q : Ctl → Sto → Prop} (h : wp (φ ρ S) fun xs S' => ∃ Ls : List Lb, xs = Ls.map labD ∧ Ls.length ≤ 90 ∧ Q (.rt (nmD (cn Ls))) S') : wp (mRet (mCall0 m_law_canon [] (mCons (mFrz φ) mNil)) ρ S) Q := by
  rw [w_ret, w_call0, w_cons, w_frz]
  refine wp.mono h ?_
  intro xs S' hh
  simp only [w_nil]
  obtain ⟨Ls, e, hl, q⟩ := hh
  obtain ⟨r, S2, e2, e3, e4⟩ := (canon_ok Ls xs e.symm sto0 hl).get
  rw [e2, wp_ok, e4]
  exact q
theorem nm_range (p : Nat) : Nm (List.range p) p := ⟨fun k v h => by
  have hk : k < p := by have := (List.getElem?_eq_some_iff.mp h).1; simpa using this
  rw [List.getElem?_range hk] at h
  cases h
  exact ⟨Nat.le_refl _, List.getElem?_range hk⟩, List.length_range⟩
theorem range_nm (p : Nat) : D.tup (rangeD 0 p) = nmD (List.range p) := by
  unfold rangeD nmD
  congr 1
  refine List.map_congr_left fun k _ => ?_
  show D.int (0 + (k : Nat)) = .int (k : Nat)
  rw [Int.zero_add]
theorem parting_ok (S : Sto) (n P : Int) (hp1 : 1 ≤ P) (hp : P ≤ 16) (hn : n < 2 ^ 50) (h : Inv S n) : wp (m_law_parting [.int P] S) fun r S' => Inv S' (n + 40) ∧ ∃ ns, r = .d (nmD ns) ∧ Nm ns P.toNat := by
  refine wp_run [.st, .d (.int P), .un, .un, .un] rfl ?_
  unfold b_law_parting
  rw [wp_seq, w_set]
  refine w_takeC rfl rfl (by decide) (by omega) h fun kind S1 h1 k1 k2 k3 => ?_
  rw [sq_nx, wp_seq, w_set, w_m2, w_c]
  refine w_takeC rfl rfl (by omega) (by omega) h1 fun t S2 h2 t1 t2 t3 => ?_
  rw [wp_add, sq_nx]
  have hs1 : 1 ≤ 1 + t := by omega
  have hs2 : 1 + t ≤ 100 := by omega
  generalize 1 + t = sz at *
  simp only [List.set_cons_zero, List.set_cons_succ]
  have go : ∀ (φe : Ph D) (sz' : Int), (∀ (z : Int) (S : Sto) (m : Int), 0 ≤ z → z < P → Inv S m → m ≤ n + 1 + 1 + 100 → wp (φe [.st, .d (.int P), .d (.int kind), .d (.int sz'), .d (.int z)] S) fun x S' => (∃ a : Lb, x = labD a) ∧ Inv S' (m + 1)) →
      wp (mRet (mCall0 m_law_canon [] (mCons (mFrz (mLc (.one 4) [4] (mRange1 (mCons (mVar 1) mNil)) mYes φe)) mNil)) [.st, .d (.int P), .d (.int kind), .d (.int sz'), .un] S2) fun c S' => ∃ d, c = .rt d ∧ Inv S' (n + 40) ∧ ∃ ns, Res.d d = Res.d (nmD ns) ∧ Nm ns P.toNat := fun φe sz' he => ret_canon (wp.mono (comp_lab (n := n + 1 + 1) rfl rfl (by omega) (by omega) h2 he) (by
      rintro _ S3 ⟨Ls, rfl, hl, hi⟩
      exact ⟨Ls, rfl, by omega, _, rfl, hi.mono (by omega), _, rfl, cn_Cn Ls, by rw [cn_len, hl]⟩))
  have lab : ∀ z : Int, ∃ a : Lb, D.int z = labD a := fun z => ⟨.i z, rfl⟩
  have tst : ∀ (z : Int) (φ ψ : Ph Ctl) (Q : Ctl → Sto → Prop), wp (mIfS (mB (m2 gEq (mVar 2) (mC (.int z)))) φ ψ [.st, .d (.int P), .d (.int kind), .d (.int sz), .un] S2) Q = if kind = z then wp (φ [.st, .d (.int P), .d (.int kind), .d (.int sz), .un] S2) Q else wp (ψ [.st, .d (.int P), .d (.int kind), .d (.int sz), .un] S2) Q := fun z φ ψ Q => by simp only [wp_seq, w_set, w_setO, w_m2, w_m1, w_var, varQ_d, w_c, w_nil, w_cons, w_cb, w_cbo, w_int, w_intB, w_abs, w_max, w_min, w_lenL, w_lenT, w_B, w_and, w_or, w_not, w_ifs, w_if, w_ret, w_retO, w_next, w_tup, w_lst, w_frz, w_andV, w_notV, stQ_st, w_st1, w_st2, w_st3, w_st4, w_st5, w_cells, w_stS, lawB_law, setQ1, setQ2, setQ3, setQ5, w_for, w_range1, rngQ_int, w_seqI, w_seqL, w_seqT, w_lc, w_call0, w_call1, stepQ_nx, stepQ_bk, stepQ_rt, wp_ok, wp_bad, sq_nx, sq_rt, sq_ro, wp_add, wp_sub, wp_lt, wp_le, wp_gt, wp_ge, wp_mul, wp_mod, wp_fdiv, wp_pow, wp_ix, wp_ixT, wp_toB, wp_noX, List.set_cons_zero, List.set_cons_succ, List.getElem?_cons_zero, List.getElem?_cons_succ, List.length_map, if_true, decide_eq_true_eq, Bool.false_eq_true, if_false, wp_eqI, wp_neI]
  rw [wp_seq, tst]
  by_cases c0 : kind = 0
  · rw [if_pos c0]
    refine wp.mono (Q := fun c S' => ∃ d, c = .rt d ∧ Inv S' (n + 40) ∧ ∃ ns, Res.d d = Res.d (nmD ns) ∧ Nm ns P.toNat) ?_ (by rintro _ S' ⟨d, rfl, h⟩; exact h)
    exact go _ _ fun z S m z1 z2 hi hm => by rw [w_c]; exact ⟨lab 0, hi.mono (by omega)⟩
  rw [if_neg c0, w_next, sq_nx, wp_seq, tst]
  by_cases c1 : kind = 1
  · rw [if_pos c1]
    refine wp.mono (Q := fun c S' => ∃ d, c = .rt d ∧ Inv S' (n + 40) ∧ ∃ ns, Res.d d = Res.d (nmD ns) ∧ Nm ns P.toNat) ?_ (by rintro _ S' ⟨d, rfl, h⟩; exact h)
    have e : mRgT (mVar 1) [.st, .d (.int P), .d (.int kind), .d (.int sz), .un] S2 = .ok (nmD (List.range P.toNat)) S2 := by
      rw [← range_nm]
      show (if 0 ≤ P ∧ P ≤ 1000 then _ else _) = _
      rw [if_pos ⟨by omega, by omega⟩]
    rw [w_ret]
    refine wp.of e ?_
    exact ⟨_, rfl, h2.mono (by omega), _, rfl, nm_range _⟩
  rw [if_neg c1, w_next, sq_nx, wp_seq, tst]
  by_cases c2 : kind = 2
  · rw [if_pos c2]
    refine wp.mono (Q := fun c S' => ∃ d, c = .rt d ∧ Inv S' (n + 40) ∧ ∃ ns, Res.d d = Res.d (nmD ns) ∧ Nm ns P.toNat) ?_ (by rintro _ S' ⟨d, rfl, h⟩; exact h)
    refine go _ _ fun z S m z1 z2 hi hm => ?_
    simp only [wp_seq, w_set, w_setO, w_m2, w_m1, w_var, varQ_d, w_c, w_nil, w_cons, w_cb, w_cbo, w_int, w_intB, w_abs, w_max, w_min, w_lenL, w_lenT, w_B, w_and, w_or, w_not, w_ifs, w_if, w_ret, w_retO, w_next, w_tup, w_lst, w_frz, w_andV, w_notV, stQ_st, w_st1, w_st2, w_st3, w_st4, w_st5, w_cells, w_stS, lawB_law, setQ1, setQ2, setQ3, setQ5, w_for, w_range1, rngQ_int, w_seqI, w_seqL, w_seqT, w_lc, w_call0, w_call1, stepQ_nx, stepQ_bk, stepQ_rt, wp_ok, wp_bad, sq_nx, sq_rt, sq_ro, wp_add, wp_sub, wp_lt, wp_le, wp_gt, wp_ge, wp_mul, wp_mod, wp_fdiv, wp_pow, wp_ix, wp_ixT, wp_toB, wp_noX, List.set_cons_zero, List.set_cons_succ, List.getElem?_cons_zero, List.getElem?_cons_succ, List.length_map, if_true, decide_eq_true_eq, Bool.false_eq_true, if_false, wp_eqI, wp_neI]
    refine ⟨⟨by omega, ?_⟩, lab _, hi.mono (by omega)⟩
    have := PB.log (k := 100) (pb (n := sz.natAbs) (by omega))
    omega
  rw [if_neg c2, w_next, sq_nx, wp_seq, tst]
  by_cases c3 : kind = 3
  · rw [if_pos c3]
    refine wp.mono (Q := fun c S' => ∃ d, c = .rt d ∧ Inv S' (n + 40) ∧ ∃ ns, Res.d d = Res.d (nmD ns) ∧ Nm ns P.toNat) ?_ (by rintro _ S' ⟨d, rfl, h⟩; exact h)
    refine go _ _ fun z S m z1 z2 hi hm => ?_
    simp only [wp_seq, w_set, w_setO, w_m2, w_m1, w_var, varQ_d, w_c, w_nil, w_cons, w_cb, w_cbo, w_int, w_intB, w_abs, w_max, w_min, w_lenL, w_lenT, w_B, w_and, w_or, w_not, w_ifs, w_if, w_ret, w_retO, w_next, w_tup, w_lst, w_frz, w_andV, w_notV, stQ_st, w_st1, w_st2, w_st3, w_st4, w_st5, w_cells, w_stS, lawB_law, setQ1, setQ2, setQ3, setQ5, w_for, w_range1, rngQ_int, w_seqI, w_seqL, w_seqT, w_lc, w_call0, w_call1, stepQ_nx, stepQ_bk, stepQ_rt, wp_ok, wp_bad, sq_nx, sq_rt, sq_ro, wp_add, wp_sub, wp_lt, wp_le, wp_gt, wp_ge, wp_mul, wp_mod, wp_fdiv, wp_pow, wp_ix, wp_ixT, wp_toB, wp_noX, List.set_cons_zero, List.set_cons_succ, List.getElem?_cons_zero, List.getElem?_cons_succ, List.length_map, if_true, decide_eq_true_eq, Bool.false_eq_true, if_false, wp_eqI, wp_neI]
    exact ⟨by omega, lab _, hi.mono (by omega)⟩
  rw [if_neg c3, w_next, sq_nx, wp_seq, tst]
  by_cases c4 : kind = 4
  · rw [if_pos c4]
    refine wp.mono (Q := fun c S' => ∃ d, c = .rt d ∧ Inv S' (n + 40) ∧ ∃ ns, Res.d d = Res.d (nmD ns) ∧ Nm ns P.toNat) ?_ (by rintro _ S' ⟨d, rfl, h⟩; exact h)
    refine go _ _ fun z S m z1 z2 hi hm => ?_
    simp only [wp_seq, w_set, w_setO, w_m2, w_m1, w_var, varQ_d, w_c, w_nil, w_cons, w_cb, w_cbo, w_int, w_intB, w_abs, w_max, w_min, w_lenL, w_lenT, w_B, w_and, w_or, w_not, w_ifs, w_if, w_ret, w_retO, w_next, w_tup, w_lst, w_frz, w_andV, w_notV, stQ_st, w_st1, w_st2, w_st3, w_st4, w_st5, w_cells, w_stS, lawB_law, setQ1, setQ2, setQ3, setQ5, w_for, w_range1, rngQ_int, w_seqI, w_seqL, w_seqT, w_lc, w_call0, w_call1, stepQ_nx, stepQ_bk, stepQ_rt, wp_ok, wp_bad, sq_nx, sq_rt, sq_ro, wp_add, wp_sub, wp_lt, wp_le, wp_gt, wp_ge, wp_mul, wp_mod, wp_fdiv, wp_pow, wp_ix, wp_ixT, wp_toB, wp_noX, List.set_cons_zero, List.set_cons_succ, List.getElem?_cons_zero, List.getElem?_cons_succ, List.length_map, if_true, decide_eq_true_eq, Bool.false_eq_true, if_false, wp_eqI, wp_neI]
    exact ⟨lab _, hi.mono (by omega)⟩
  rw [if_neg c4, w_next, sq_nx, wp_seq]
  refine wp.mono (Q := fun c S' => S' = S2 ∧ ∃ sz', 1 ≤ sz' ∧ sz' ≤ 100 ∧ c = Ctl.nx [.st, .d (.int P), .d (.int kind), .d (.int sz'), .un]) ?_ ?_
  · rw [tst]
    by_cases c5 : kind = 5
    · rw [if_pos c5]
      simp only [wp_seq, w_set, w_setO, w_m2, w_m1, w_var, varQ_d, w_c, w_nil, w_cons, w_cb, w_cbo, w_int, w_intB, w_abs, w_max, w_min, w_lenL, w_lenT, w_B, w_and, w_or, w_not, w_ifs, w_if, w_ret, w_retO, w_next, w_tup, w_lst, w_frz, w_andV, w_notV, stQ_st, w_st1, w_st2, w_st3, w_st4, w_st5, w_cells, w_stS, lawB_law, setQ1, setQ2, setQ3, setQ5, w_for, w_range1, rngQ_int, w_seqI, w_seqL, w_seqT, w_lc, w_call0, w_call1, stepQ_nx, stepQ_bk, stepQ_rt, wp_ok, wp_bad, sq_nx, sq_rt, sq_ro, wp_add, wp_sub, wp_lt, wp_le, wp_gt, wp_ge, wp_mul, wp_mod, wp_fdiv, wp_pow, wp_ix, wp_ixT, wp_toB, wp_noX, List.set_cons_zero, List.set_cons_succ, List.getElem?_cons_zero, List.getElem?_cons_succ, List.length_map, if_true, decide_eq_true_eq, Bool.false_eq_true, if_false, wp_eqI, wp_neI]
      exact ⟨trivial, _, by split <;> omega, by split <;> omega, rfl⟩
    · rw [if_neg c5, w_next]
      exact ⟨rfl, _, hs1, hs2, rfl⟩
  rintro _ _ ⟨rfl, sz', z1, z2, rfl⟩
  rw [sq_nx]
  refine wp.mono (go _ _ fun z S m z3 z4 hi hm => ?_) (by rintro _ S' ⟨d, rfl, h⟩; exact h)
  exact w_takeC rfl rfl (by omega) (by omega) hi fun t S2 h2 t1 t2 t3 => ⟨lab _, h2⟩
end K17

set_option Elab.async false
set_option linter.all false
set_option maxRecDepth 100000
set_option maxHeartbeats 4000000
set_option autoImplicit false
namespace K17
open PySem PySem.Spec L2 DL
theorem once_ok (S : Sto) (n m : Int) (hm : m.natAbs < 2 ^ 100) (hn : n < 2 ^ 50) (h : Inv S n) : wp (m_law_once [.int m] S) fun r S' => Inv S' (n + 1) ∧ ∃ b, r = .d (.bl b) := by
  refine wp_run [.st, .d (.int m)] rfl ?_
  unfold b_law_once
  rw [w_ret, w_m2]
  refine w_takeC rfl rfl hm (by omega) h fun t S1 h1 t1 t2 t3 => ?_
  rw [w_c, wp_eqI]
  exact ⟨h1, _, rfl⟩
theorem w_onceC {i : Nat} {ρ : List L} {S : Sto} {m : Int} {n : Int} {Q : D → Sto → Prop} {φ : Ph D} (hst : ρ[i]? = some .st) (hφ : φ ρ S = .ok (.int m) S) (hm : m.natAbs < 2 ^ 100) (hn : n < 2 ^ 50) (h : Inv S n)
    (q : ∀ (b : Bool) (S' : Sto), Inv S' (n + 1) → Q (.bl b) S') : wp (mCall1 m_law_once i (mCons φ mNil) ρ S) Q := by
  rw [w_call1, hst, stQ_st, w_cons]
  refine wp.of hφ ?_
  rw [w_nil]
  refine wp.mono (once_ok S n m hm hn h) ?_
  rintro _ S' ⟨i1, b, rfl⟩
  exact q b S' i1
theorem otherplots_ok (S : Sto) (n P : Int) (hp1 : 1 ≤ P) (hp : P ≤ 16) (hn : n < 2 ^ 40) (h : Inv S n) : wp (m_law_otherplots [.int P] S) fun r S' => Inv S' (n + 5) ∧ ∃ o : Int, r = .d (.int o) ∧ 1 ≤ o ∧ o ≤ 16 ∧ o ≠ P := by
  refine wp_run [.st, .d (.int P), .un] rfl ?_
  unfold b_law_otherplots
  rw [wp_seq, w_set, w_m2, w_c]
  refine w_takeC rfl rfl (by decide) (by omega) h fun t S1 h1 t1 t2 t3 => ?_
  rw [wp_add, sq_nx, wp_seq, w_ifs, w_B]
  refine w_onceC rfl rfl (by decide) (by omega) h1 fun b S2 h2 => ?_
  simp only [List.set_cons_zero, List.set_cons_succ]
  have t2 := t2 (by decide)
  have fin : ∀ o : Int, 1 ≤ o → o ≤ 15 → wp (mSeq (mIfS (mB (m2 gGe (mVar 2) (mVar 1))) (mSet 2 (m2 gAdd (mVar 2) (mC (.int 1)))) mNext) (mRet (mVar 2)) [.st, .d (.int P), .d (.int o)] S2) fun c S' => match c with
      | .rt d => Inv S' (n + 5) ∧ ∃ o : Int, Res.d d = Res.d (.int o) ∧ 1 ≤ o ∧ o ≤ 16 ∧ o ≠ P
      | .ro xs => Inv S' (n + 5) ∧ ∃ o : Int, Res.own xs = Res.d (.int o) ∧ 1 ≤ o ∧ o ≤ 16 ∧ o ≠ P
      | .nx _ => Inv S' (n + 5) ∧ ∃ o : Int, Res.d D.non = Res.d (.int o) ∧ 1 ≤ o ∧ o ≤ 16 ∧ o ≠ P
      | _ => False := fun o o1 o2 => by
    simp only [wp_seq, w_set, w_setO, w_m2, w_m1, w_var, varQ_d, w_c, w_nil, w_cons, w_cb, w_cbo, w_int, w_intB, w_abs, w_max, w_min, w_lenL, w_lenT, w_B, w_and, w_or, w_not, w_ifs, w_if, w_ret, w_retO, w_next, w_tup, w_lst, w_frz, w_andV, w_notV, stQ_st, w_st1, w_st2, w_st3, w_st4, w_st5, w_cells, w_stS, lawB_law, setQ1, setQ2, setQ3, setQ5, w_for, w_range1, rngQ_int, w_seqI, w_seqL, w_seqT, w_lc, w_call0, w_call1, stepQ_nx, stepQ_bk, stepQ_rt, wp_ok, wp_bad, sq_nx, sq_rt, sq_ro, wp_add, wp_sub, wp_lt, wp_le, wp_gt, wp_ge, wp_mul, wp_mod, wp_fdiv, wp_pow, wp_ix, wp_ixT, wp_toB, wp_noX, List.set_cons_zero, List.set_cons_succ, List.getElem?_cons_zero, List.getElem?_cons_succ, List.length_map, if_true, decide_eq_true_eq, Bool.false_eq_true, if_false, wp_eqI, wp_neI]
    by_cases c : P ≤ o
    · rw [if_pos c]
      exact ⟨h2.mono (by omega), _, rfl, by omega, by omega, by omega⟩
    · rw [if_neg c]
      exact ⟨h2.mono (by omega), _, rfl, by omega, by omega, by omega⟩
  rw [wp_toB]
  cases b
  · rw [if_neg Bool.false_ne_true, w_next, sq_nx]
    exact fin _ (by omega) (by omega)
  · rw [if_pos rfl]
    simp only [w_set, w_setO, w_m2, w_m1, w_var, varQ_d, w_c, w_nil, w_cons, w_cb, w_cbo, w_int, w_intB, w_abs, w_max, w_min, w_lenL, w_lenT, w_B, w_and, w_or, w_not, w_if, w_ret, w_retO, w_next, w_tup, w_lst, w_frz, w_andV, w_notV, stQ_st, w_st1, w_st2, w_st3, w_st4, w_st5, w_cells, w_stS, lawB_law, setQ1, setQ2, setQ3, setQ5, w_for, w_range1, rngQ_int, w_seqI, w_seqL, w_seqT, w_lc, w_call0, w_call1, stepQ_nx, stepQ_bk, stepQ_rt, wp_ok, wp_bad, sq_rt, sq_ro, wp_add, wp_sub, wp_lt, wp_le, wp_gt, wp_ge, wp_mul, wp_mod, wp_fdiv, wp_pow, wp_ix, wp_ixT, wp_toB, wp_noX, List.set_cons_zero, List.set_cons_succ, List.getElem?_cons_zero, List.getElem?_cons_succ, List.length_map, if_true, decide_eq_true_eq, Bool.false_eq_true, if_false, wp_eqI, wp_neI]
    rw [sq_nx]
    refine fin _ ?_ ?_ <;> split <;> omega
/-- numbers below a bound -/
structure Bl (zs : List Int) (M : Int) (n : Nat) : Prop where
  len : zs.length = n
  bd : ∀ z ∈ zs, 0 ≤ z ∧ z < M
theorem ixN_of {n : Nat} {z : Int} (h1 : 0 ≤ z) (h2 : z < n) : ixN n z = some z.toNat := by
  unfold ixN; rw [if_pos h1, if_pos h2]
theorem rangeD_ints (n : Nat) : rangeD 0 n = ((List.range n).map fun k => ((k : Nat) : Int)).map D.int := by
  unfold rangeD
  rw [List.map_map]
  refine List.map_congr_left fun k _ => ?_
  show D.int (0 + (k : Nat)) = .int (k : Nat)
  rw [Int.zero_add]
theorem range_bl (M : Int) : Bl ((List.range M.toNat).map fun k => ((k : Nat) : Int)) M M.toNat := ⟨by simp, fun z hz => by
  obtain ⟨k, hk, rfl⟩ := List.mem_map.mp hz
  rw [List.mem_range] at hk
  omega⟩
def tupI (zs : List Int) : D := .tup (zs.map .int)
theorem erase_map : ∀ (l : List Int) (n : Nat), (l.map DL.D.int).eraseIdx n = (l.eraseIdx n).map DL.D.int
  | [], n => by simp
  | x :: l, 0 => by simp
  | x :: l, n + 1 => by simp [erase_map l n]
theorem shuffle_ok (S : Sto) (n M : Int) (hp1 : 1 ≤ M) (hp : M ≤ 16) (hn : n < 2 ^ 40) (h : Inv S n) : wp (m_law_shuffle [.int M] S) fun r S' => Inv S' (n + 30) ∧ ∃ zs, r = .d (tupI zs) ∧ Bl zs M M.toNat := by
  refine wp_run [.st, .d (.int M), .un, .un, .un, .un, .un, .un] rfl ?_
  unfold b_law_shuffle
  rw [wp_seq, w_setO]
  refine w_rg ?_
  rw [w_var]
  refine ⟨M, rfl, by omega, by omega, ?_⟩
  rw [sq_nx, rangeD_ints]
  have B0 := range_bl M
  generalize ((List.range M.toNat).map fun k => ((k : Nat) : Int)) = z0 at *
  simp only [List.set_cons_zero, List.set_cons_succ]
  have fin : ∀ (zs : List Int) (S : Sto) (ρ : List L), Bl zs M M.toNat → Inv S (n + 30) → ρ[2]? = some (.own (zs.map .int)) → wp (mRet (mTupO 2) ρ S) fun c S' => ∃ d, c = .rt d ∧ Inv S' (n + 30) ∧ ∃ zs, d = tupI zs ∧ Bl zs M M.toNat := fun zs S ρ hz hi hr => by
    rw [w_ret, w_tupO hr]
    exact ⟨_, rfl, hi, zs, rfl, hz⟩
  refine wp.mono (Q := fun c S' => ∃ d, c = .rt d ∧ Inv S' (n + 30) ∧ ∃ zs, d = tupI zs ∧ Bl zs M M.toNat) ?_ (by
    rintro _ S' ⟨d, rfl, hi, zs, rfl, hz⟩
    exact ⟨hi, zs, rfl, hz⟩)
  -- the turn by turn way
  have slow : ∀ (S : Sto), Inv S (n + 1) → wp (mSeq (mSetO 6 (mLst mNil)) (mSeq (mFor (.one 7) (mRange1 (mCons (mVar 1) mNil)) (mAppPop 6 2 (mCall1 m_law_take 0 (mCons (mLenO 2) mNil)))) (mRet (mTupO 6))) [.st, .d (.int M), .own (z0.map .int), .un, .un, .un, .un, .un] S)
      fun c S' => ∃ d, c = .rt d ∧ Inv S' (n + 30) ∧ ∃ zs, d = tupI zs ∧ Bl zs M M.toNat := fun S hi => by
    rw [wp_seq, w_setO, w_lst, w_nil]
    refine ⟨rfl, ?_⟩
    rw [sq_nx, wp_seq, w_for, w_range1, w_cons, w_var]
    simp only [List.set_cons_zero, List.set_cons_succ, List.getElem?_cons_zero, List.getElem?_cons_succ, varQ_d, w_nil, rngQ_int]
    refine ⟨by unfold okR; simp; omega, ?_⟩
    refine forD_inv _ (fun k ρ S' => Inv S' (n + 1 + k) ∧ ∃ (ms rs : List Int) (l : L), Bl ms M k ∧ Bl rs M (M.toNat - k) ∧ ρ = [.st, .d (.int M), .own (rs.map .int), .un, .un, .un, .own (ms.map .int), l]) _ _ ⟨by simpa using hi, [], z0, .un, ⟨rfl, by simp⟩, by simpa using B0, rfl⟩ ?_ ?_
    · rintro k d ρ S2 hk ⟨h2, ms, rs, l, hms, hrs, rfl⟩
      obtain ⟨hk, rfl⟩ := rangeD_at hk
      refine ⟨_, rfl, ?_⟩
      refine w_appPop (xs := ms.map DL.D.int) (ys := rs.map DL.D.int) rfl rfl (by decide) ?_
      have hlr := hrs.len
      have e : mLenO 2 ([.st, .d (.int M), .own (rs.map .int), .un, .un, .un, .own (ms.map .int), .d (.int (k : Nat))] : List L) S2 = .ok (.int (rs.length : Nat)) S2 := by
        show Out.ok (DL.D.int ((rs.map DL.D.int).length : Nat)) S2 = _
        rw [List.length_map]
      refine w_takeC rfl e (by omega) (by omega) h2 fun t S3 h3 t1 t2 t3 => ?_
      have ht : t < rs.length := by
        by_cases c : (rs.length : Int) < 2
        · rw [t3 c]; omega
        · exact t2 (by omega)
      have hx : rs[t.toNat]? = some rs[t.toNat] := List.getElem?_eq_getElem (by omega)
      refine ⟨t, t.toNat, .int rs[t.toNat], rfl, (ixN_seq (ixN_of t1 (by rw [List.length_map]; exact ht))).1, by rw [List.getElem?_map, hx]; rfl, ?_, ?_, ?_⟩
      · simp only [line, decide_eq_true_eq, List.length_map, hms.len]; omega
      · unfold okR; simp; omega
      · refine ⟨h3.mono (by push_cast; omega), ms ++ [rs[t.toNat]], rs.eraseIdx t.toNat, .d (.int (k : Nat)), ⟨by simp [hms.len], ?_⟩, ⟨?_, ?_⟩, ?_⟩
        · intro z hz
          rcases List.mem_append.mp hz with hz | hz
          · exact hms.bd z hz
          · rw [List.mem_singleton.mp hz]; exact hrs.bd _ (List.getElem_mem _)
        · rw [List.length_eraseIdx, if_pos (by omega)]; omega
        · exact fun z hz => hrs.bd z (List.mem_of_mem_eraseIdx hz)
        · simp only [List.set_cons_zero, List.set_cons_succ, List.map_append, List.map_cons, List.map_nil, erase_map]
    · rintro ρ S2 ⟨h2, ms, rs, l, hms, hrs, rfl⟩
      rw [rangeD_len] at h2 hms
      rw [sq_nx, w_ret, w_tupO rfl]
      exact ⟨_, rfl, h2.mono (by omega), ms, rfl, hms⟩
  rw [wp_seq, w_ifs, w_and, w_B, w_m2, w_var]
  simp only [List.getElem?_cons_zero, List.getElem?_cons_succ, varQ_d, w_c, wp_gt, wp_toB]
  by_cases c1 : 1 < M
  · rw [if_pos (by simpa using c1), w_B]
    refine w_onceC rfl rfl (by decide) (by omega) h fun b S1 h1 => ?_
    rw [wp_toB]
    cases b
    · rw [if_neg Bool.false_ne_true, w_next, sq_nx]
      exact slow S1 h1
    · rw [if_pos rfl, wp_seq, w_set]
      refine w_takeC rfl rfl (by decide) (by omega) h1 fun kd S2 h2 k1 k2 k3 => ?_
      rw [sq_nx, wp_seq]
      simp only [List.set_cons_zero, List.set_cons_succ]
      have pass : ∀ Q : Ctl → Sto → Prop, ∀ c S', (∃ d, c = Ctl.rt d ∧ Q c S') → sq (mSeq (mSetO 6 (mLst mNil)) (mSeq (mFor (.one 7) (mRange1 (mCons (mVar 1) mNil)) (mAppPop 6 2 (mCall1 m_law_take 0 (mCons (mLenO 2) mNil)))) (mRet (mTupO 6)))) Q c S' := by
        rintro Q _ S' ⟨d, rfl, q⟩; exact q
      have done_ : ∀ c S', (∃ d, c = Ctl.rt d ∧ Inv S' (n + 30) ∧ ∃ zs, d = tupI zs ∧ Bl zs M M.toNat) → sq (mSeq (mSetO 6 (mLst mNil)) (mSeq (mFor (.one 7) (mRange1 (mCons (mVar 1) mNil)) (mAppPop 6 2 (mCall1 m_law_take 0 (mCons (mLenO 2) mNil)))) (mRet (mTupO 6)))) (fun c S' => ∃ d, c = .rt d ∧ Inv S' (n + 30) ∧ ∃ zs, d = tupI zs ∧ Bl zs M M.toNat) c S' := by
        rintro _ S' ⟨d, rfl, q⟩; exact ⟨d, rfl, q⟩
      refine wp.mono (Q := fun c S' => S2 = S' ∧ ∃ zs, Bl zs M M.toNat ∧ c = .nx [.st, .d (.int M), .own (zs.map .int), .d (.int kd), .un, .un, .un, .un]) ?_ ?_
      · rw [w_ifs, w_B, w_m2, w_var]
        simp only [List.getElem?_cons_zero, List.getElem?_cons_succ, varQ_d, w_c, wp_eqI, wp_toB]
        by_cases c2 : kd = 1
        · rw [if_pos (by simpa using c2), w_setO, w_revO (xs := z0.map DL.D.int) rfl]
          refine ⟨rfl, z0.reverse, ⟨by rw [List.length_reverse, B0.len], fun z hz => B0.bd z (by simpa using hz)⟩, ?_⟩
          simp only [List.set_cons_zero, List.set_cons_succ, List.map_reverse]
        · rw [if_neg (by simpa using c2), w_next]
          exact ⟨rfl, z0, B0, rfl⟩
      rintro _ _ ⟨rfl, zs, Bz, rfl⟩
      rw [sq_nx, wp_seq]
      have hwp : wp (mIfS (mB (m2 gEq (mVar 3) (mC (.int 2)))) (mSeq (mSet 4 (mCall1 m_law_take 0 (mCons (mVar 1) mNil))) (mSeq (mSet 5 (mCall1 m_law_take 0 (mCons (mVar 1) mNil))) (mSwap 2 4 5))) mNext [.st, .d (.int M), .own (zs.map .int), .d (.int kd), .un, .un, .un, .un] S2) fun c S' => Inv S' (n + 30) ∧ ∃ zs ρ, Bl zs M M.toNat ∧ c = .nx ρ ∧ ρ[2]? = some (.own (zs.map .int)) := by
        rw [w_ifs, w_B, w_m2, w_var]
        simp only [List.getElem?_cons_zero, List.getElem?_cons_succ, varQ_d, w_c, wp_eqI, wp_toB]
        by_cases c2 : kd = 2
        · rw [if_pos (by simpa using c2), wp_seq, w_set]
          refine w_takeC rfl rfl (by omega) (by omega) h2 fun a S3 h3 a1 a2 a3 => ?_
          rw [sq_nx, wp_seq, w_set]
          refine w_takeC rfl rfl (by omega) (by omega) h3 fun b S4 h4 b1 b2 b3 => ?_
          rw [sq_nx]
          have a2 := a2 (by omega)
          have b2 := b2 (by omega)
          have hl := Bz.len
          have xa : zs[a.toNat]? = some zs[a.toNat] := List.getElem?_eq_getElem (by omega)
          have xb : zs[b.toNat]? = some zs[b.toNat] := List.getElem?_eq_getElem (by omega)
          refine w_swap (xs := zs.map DL.D.int) (a := a) (b := b) (n := a.toNat) (k := b.toNat) (d := .int zs[a.toNat]) (e := .int zs[b.toNat]) rfl rfl rfl (ixN_of a1 (by rw [List.length_map]; omega)) (ixN_of b1 (by rw [List.length_map]; omega)) (by rw [List.getElem?_map, xa]; rfl) (by rw [List.getElem?_map, xb]; rfl) ?_
          refine ⟨h4.mono (by omega), (zs.set a.toNat zs[b.toNat]).set b.toNat zs[a.toNat], _, ⟨by simp [hl], fun z hz => ?_⟩, rfl, ?_⟩
          · rcases List.mem_or_eq_of_mem_set hz with hz | rfl
            · rcases List.mem_or_eq_of_mem_set hz with hz | rfl
              · exact Bz.bd z hz
              · exact Bz.bd _ (List.getElem_mem _)
            · exact Bz.bd _ (List.getElem_mem _)
          · rw [List.map_set, List.map_set]; rfl
        · rw [if_neg (by simpa using c2), w_next]
          exact ⟨h2.mono (by omega), zs, _, Bz, rfl, rfl⟩
      refine wp.mono hwp ?_
      rintro _ S3 ⟨h3, zs3, ρ3, B3, rfl, e3⟩
      rw [sq_nx]
      exact wp.mono (fin zs3 S3 ρ3 B3 h3 e3) done_
  · rw [if_neg (by simpa using c1), if_neg Bool.false_ne_true, w_next, sq_nx]
    exact slow S (h.mono (by omega))
end K17

set_option Elab.async false
set_option linter.all false
set_option maxRecDepth 100000
set_option maxHeartbeats 4000000
set_option autoImplicit false
namespace K17
open PySem PySem.Spec L2 DL
theorem w_partC {i : Nat} {ρ : List L} {S : Sto} {Q : D → Sto → Prop} {φ : Ph D} (hst : ρ[i]? = some .st)
    (h : wp (φ ρ S) fun d S1 => ∃ P n : Int, d = .int P ∧ 1 ≤ P ∧ P ≤ 16 ∧ n < 2 ^ 50 ∧ Inv S1 n ∧ ∀ (ns : List Nat) (S' : Sto), Inv S' (n + 40) → Nm ns P.toNat → Q (nmD ns) S') : wp (mCall1 m_law_parting i (mCons φ mNil) ρ S) Q := by
  rw [w_call1, hst, stQ_st, w_cons]
  refine wp.mono h ?_
  rintro _ S1 ⟨P, n, rfl, h1, h2, h3, h4, q⟩
  rw [w_nil]
  refine wp.mono (parting_ok S1 n P h1 h2 h3 h4) ?_
  rintro _ S' ⟨i1, ns, rfl, hN⟩
  exact q ns S' i1 hN
def liN (n : Nat) : Lb := .i (n : Int)
theorem nm_labs (ns : List Nat) : ns.map inD = (ns.map liN).map labD := by
  rw [List.map_map]; rfl
theorem w_canonL {xs : List D} {Ls : List Lb} {S : Sto} {Q : D → Sto → Prop} (e : xs = Ls.map labD) (hl : Ls.length ≤ 90) (q : Q (nmD (cn Ls)) S) : wp (m_law_canon [.lst xs] sto0) fun r _ => Q r.toD S := by
  obtain ⟨r, S2, e2, e3, e4⟩ := (canon_ok Ls xs e.symm sto0 hl).get
  rw [e2, wp_ok, e4]
  exact q
theorem map_set_lab (Ls : List Lb) (n : Nat) (a : Lb) : (Ls.map labD).set n (labD a) = (Ls.set n a).map labD := by rw [List.map_set]
theorem nudged_ok (S : Sto) (n : Int) (ns : List Nat) (hp1 : 1 ≤ ns.length) (hp : ns.length ≤ 16) (hn : n < 2 ^ 40) (h : Inv S n) : wp (m_law_nudged [nmD ns] S) fun r S' => Inv S' (n + 5) ∧ ∃ ms, r = .d (nmD ms) ∧ Nm ms ns.length := by
  generalize hd : nmD ns = nd
  refine wp_run [.st, .d nd, .un] rfl ?_
  subst hd
  unfold b_law_nudged
  rw [wp_seq, w_setO, w_cbo, w_cons, w_var]
  simp only [List.getElem?_cons_zero, List.getElem?_cons_succ, varQ_d, w_nil]
  unfold nmD
  rw [w_listT, sq_nx, wp_seq]
  simp only [List.set_cons_zero, List.set_cons_succ]
  have hlen : ∀ (S : Sto) (d : D) (Q : D → Sto → Prop), wp (mLenO 2 ([.st, .d d, .own (ns.map inD)] : List L) S) Q = Q (.int (ns.length : Nat)) S := fun S d Q => by
    rw [w_lenO (xs := ns.map inD) rfl, List.length_map]
  generalize D.tup (ns.map inD) = nd
  refine w_setI (xs := ns.map inD) rfl ?_
  have e1 : m2 gAdd (mLenO 2) (mC (.int 1)) ([.st, .d nd, .own (ns.map inD)] : List L) S = .ok (.int ((ns.length : Nat) + 1)) S := by
    show Out.ok (D.int (((ns.map inD).length : Nat) + 1)) S = _
    rw [List.length_map]
  refine w_takeC rfl e1 (by omega) (by omega) h fun t S1 h1 t1 t2 t3 => ?_
  have e2 : mLenO 2 ([.st, .d nd, .own (ns.map inD)] : List L) S1 = .ok (.int (ns.length : Nat)) S1 := by
    show Out.ok (D.int ((ns.map inD).length : Nat)) S1 = _
    rw [List.length_map]
  refine w_takeC rfl e2 (by omega) (by omega) h1 fun u S2 h2 u1 u2 u3 => ?_
  have hu : u < ns.length := by
    by_cases c : (ns.length : Int) < 2
    · rw [u3 c]; omega
    · exact u2 (by omega)
  refine ⟨u, u.toNat, rfl, ixN_of u1 (by rw [List.length_map]; exact hu), ?_⟩
  rw [sq_nx]
  have e3 : (ns.map inD).set u.toNat (.int t) = (((ns.map liN)).set u.toNat (.i t)).map labD := by
    rw [nm_labs, ← map_set_lab]; rfl
  rw [e3, w_gh rfl, w_ret, w_call0, w_cons, w_var]
  simp only [List.set_cons_zero, List.set_cons_succ, List.getElem?_cons_zero, List.getElem?_cons_succ, varQ_d, w_nil]
  generalize hxs : ((((ns.map liN)).set u.toNat (.i t)).map labD) = xs
  refine w_canonL (Q := fun d S' => Inv S' (n + 5) ∧ ∃ ms, Res.d d = Res.d (nmD ms) ∧ Nm ms ns.length) hxs.symm (by simp; omega) ?_
  exact ⟨h2.mono (by omega), _, rfl, cn_Cn _, by rw [cn_len]; simp⟩
end K17

set_option Elab.async false
set_option linter.all false
set_option maxRecDepth 100000
set_option maxHeartbeats 4000000
set_option autoImplicit false
namespace K17
open PySem PySem.Spec L2 DL
theorem smallMul {i j : Int} (h1 : i.natAbs < 2 ^ 100) (h2 : j.natAbs < 2 ^ 100) : CMulW i j := mulW (big (k := 100) (pb h1) (by decide)) (big (k := 100) (pb h2) (by decide))
theorem smallDiv {i j : Int} (h1 : 0 < j) (h2 : j.natAbs < 2 ^ 100) : CDivW i j := ⟨h1, by have := PB.log (pb h2); omega⟩
theorem at_lst {xs : List D} {z : Int} {d : D} (h1 : 0 ≤ z) (h : xs[z.toNat]? = some d) : atI xs z = some d := by
  have h2 := (List.getElem?_eq_some_iff.mp h).1
  unfold atI
  rw [ixN_of h1 (by omega)]
  exact h
/-- a point of the layout -/
theorem point_bd {p a b c : Int} (h0 : 0 ≤ p) (hp : p < a * b * c) (hb : 1 ≤ b) (hc : 1 ≤ c) : 0 ≤ p / (b * c) ∧ p / (b * c) < a ∧ 0 ≤ p / c % b ∧ p / c % b < b ∧ 0 ≤ p % c ∧ p % c < c := by
  have hbc : 0 < b * c := Int.mul_pos (by omega) (by omega)
  refine ⟨Int.ediv_nonneg h0 (by omega), ?_, Int.emod_nonneg _ (by omega), Int.emod_lt_of_pos _ (by omega), Int.emod_nonneg _ (by omega), Int.emod_lt_of_pos _ (by omega)⟩
  refine Int.ediv_lt_of_lt_mul hbc ?_
  rw [← Int.mul_assoc]; exact hp
theorem w_ix3 {i0 i1 i2 z : Int} {S : Sto} {Q : D → Sto → Prop} (z0 : 0 ≤ z) (z3 : z < 3) (q : ∀ u, (z = 0 → u = i0) → (z = 1 → u = i1) → (z = 2 → u = i2) → Q (.int u) S) : wp (gIx (.tup [.int i0, .int i1, .int i2]) (.int z) S) Q := by
  rw [wp_ixT]
  have : z = 0 ∨ z = 1 ∨ z = 2 := by omega
  rcases this with rfl | rfl | rfl
  · exact ⟨_, rfl, q i0 (fun _ => rfl) (fun h => by omega) (fun h => by omega)⟩
  · exact ⟨_, rfl, q i1 (fun h => by omega) (fun _ => rfl) (fun h => by omega)⟩
  · exact ⟨_, rfl, q i2 (fun h => by omega) (fun h => by omega) (fun _ => rfl)⟩
theorem ex3 {i0 i1 i2 z : Int} {P : D → Prop} (z0 : 0 ≤ z) (z3 : z < 3) (q : ∀ u, (z = 0 → u = i0) → (z = 1 → u = i1) → (z = 2 → u = i2) → P (.int u)) : ∃ d, atI [D.int i0, D.int i1, D.int i2] z = some d ∧ P d := by
  have : z = 0 ∨ z = 1 ∨ z = 2 := by omega
  rcases this with rfl | rfl | rfl
  · exact ⟨_, rfl, q i0 (fun _ => rfl) (fun h => by omega) (fun h => by omega)⟩
  · exact ⟨_, rfl, q i1 (fun h => by omega) (fun _ => rfl) (fun h => by omega)⟩
  · exact ⟨_, rfl, q i2 (fun h => by omega) (fun h => by omega) (fun _ => rfl)⟩
theorem w_ixI {xs : List Int} {z : Int} {S : Sto} {Q : D → Sto → Prop} (z0 : 0 ≤ z) (z3 : z < xs.length) (q : ∀ u, Q (.int u) S) : wp (gIx (tupI xs) (.int z) S) Q := by
  unfold tupI
  rw [wp_ixT]
  have hl : z.toNat < xs.length := by omega
  exact ⟨_, at_lst z0 (by rw [List.getElem?_map, List.getElem?_eq_getElem hl]; rfl), q _⟩
structure Pr (S : Sto) (n : Int) (d : D) : Prop where
  inv : Inv S n
  ex : ∃ (f s : List Nat) (p : Nat), d = .tup [nmD f, nmD s] ∧ Nm f p ∧ Nm s p ∧ 1 ≤ p ∧ p ≤ 16
/-- one labelling of the plots by the layout -/
theorem labels_ok {S : Sto} {a b c : Int} {l13 l14 l15 l16 : L} {x0 x1 x2 x3 x9 x10 : L} {ord : List Int} {ca cb cc rs : List Int} {Cd Od Rd : D} (ha : 1 ≤ a ∧ a ≤ 16) (hb : 1 ≤ b ∧ b ≤ 16) (hc : 1 ≤ c ∧ c ≤ 16) (hN : a * b * c ≤ 16)
    (hC : Cd = .lst [tupI ca, tupI cb, tupI cc]) (h1 : ca.length = a.toNat) (h2 : cb.length = b.toNat) (h3 : cc.length = c.toNat) (hO : Od = tupI ord) (hB : Bl ord (a * b * c) (a * b * c).toNat) (hR : Rd = .lst (rs.map .int)) (hr : Bl rs 3 3) :
    wp (mFor (.one 13) (mRange1 (mCons (mCB (pureC lenC) (mCons (mVar 8) mNil)) mNil)) (mSeq (mSet 14 (mTup (mCons (m2 gFdiv (mVar 13) (m2 gMul (mVar 5) (mVar 6))) (mCons (m2 gMod (mCB (pureC intC) (mCons (m2 gFdiv (mVar 13) (mVar 6)) mNil)) (mVar 5)) (mCons (m2 gMod (mCB (pureC intC) (mCons (mVar 13) mNil)) (mVar 6)) mNil)))))
  (mSetI 12 (mCB gTuple (mCons (mFrz (mLc (.one 16) [16] (mRange1 (mCons (mC (.int 3)) mNil)) mYes (m2 gIx (mTup (mCons (mC (.int 0)) (mCons (m2 gIx (m2 gIx (mVar 7) (mVar 16)) (m2 gIx (mVar 14) (mVar 16))) (mCons (m2 gIx (mVar 14) (mVar 16)) mNil)))) (m2 gIx (mVar 11) (mVar 16))))) mNil)) (m2 gIx (mVar 8) (mVar 13))))
      [x0, x1, x2, x3, .d (.int a), .d (.int b), .d (.int c), .d Cd, .d Od, x9, x10, .d Rd, .own (ord.map .int), l13, l14, l15, l16] S) fun c' S' => S' = S ∧ ∃ (Ls : List Lb) (m13 m14 m15 m16 : L), Ls.length = (a * b * c).toNat ∧ c' = .nx [x0, x1, x2, x3, .d (.int a), .d (.int b), .d (.int c), .d Cd, .d Od, x9, x10, .d Rd, .own (Ls.map labD), m13, m14, m15, m16] := by
  have wC : ∀ (z : Int) (S : Sto) (Q : D → Sto → Prop), (∀ (xs : List Int), (z = 0 → xs.length = a.toNat) → (z = 1 → xs.length = b.toNat) → (z = 2 → xs.length = c.toNat) → Q (tupI xs) S) → 0 ≤ z → z < 3 → wp (gIx Cd (.int z) S) Q := fun z S Q q z0 z3 => by
    rw [hC, wp_ix]
    have : z = 0 ∨ z = 1 ∨ z = 2 := by omega
    rcases this with rfl | rfl | rfl
    · exact ⟨_, rfl, q ca (fun _ => h1) (fun h => by omega) (fun h => by omega)⟩
    · exact ⟨_, rfl, q cb (fun h => by omega) (fun _ => h2) (fun h => by omega)⟩
    · exact ⟨_, rfl, q cc (fun h => by omega) (fun h => by omega) (fun _ => h3)⟩
  have wR : ∀ (z : Int) (S : Sto) (Q : D → Sto → Prop), (∀ r : Int, 0 ≤ r → r < 3 → Q (.int r) S) → 0 ≤ z → z < 3 → wp (gIx Rd (.int z) S) Q := fun z S Q q z0 z3 => by
    rw [hR, wp_ix]
    have hl : z.toNat < rs.length := by rw [hr.len]; omega
    have hz : rs[z.toNat]? = some rs[z.toNat] := List.getElem?_eq_getElem hl
    obtain ⟨b1, b2⟩ := hr.bd _ (List.getElem_mem hl)
    exact ⟨_, at_lst z0 (by rw [List.getElem?_map, hz]; rfl), q _ b1 b2⟩
  have wO : ∀ (z : Int) (S : Sto) (Q : D → Sto → Prop), (∀ r : Int, 0 ≤ r → r < a * b * c → Q (.int r) S) → 0 ≤ z → z < a * b * c → wp (gIx Od (.int z) S) Q := fun z S Q q z0 z3 => by
    rw [hO]
    unfold tupI
    rw [wp_ixT]
    have hl : z.toNat < ord.length := by rw [hB.len]; omega
    obtain ⟨b1, b2⟩ := hB.bd _ (List.getElem_mem hl)
    exact ⟨_, at_lst z0 (by rw [List.getElem?_map, List.getElem?_eq_getElem hl]; rfl), q _ b1 b2⟩
  have wL : ∀ (S : Sto) (Q : D → Sto → Prop), wp (pureC lenC [Od] S) Q = Q (.int (a * b * c)) S := fun S Q => by
    rw [hO]; unfold tupI
    rw [w_lenT, List.length_map, hB.len]
    congr 2
    have : 0 ≤ a * b * c := Int.mul_nonneg (Int.mul_nonneg (by omega) (by omega)) (by omega)
    omega
  have hN0 : 0 ≤ a * b * c := Int.mul_nonneg (Int.mul_nonneg (by omega) (by omega)) (by omega)
  have hlo := hB.len
  clear hC hR hO hB
  have e0 : ord.map DL.D.int = (ord.map Lb.i).map labD := by rw [List.map_map]; rfl
  rw [e0]
  have l0 : (ord.map Lb.i).length = (a * b * c).toNat := by rw [List.length_map, hlo]
  generalize ord.map Lb.i = L0 at *
  rw [w_for, w_range1, w_cons, w_cb, w_cons, w_var]
  simp only [List.getElem?_cons_zero, List.getElem?_cons_succ, varQ_d, w_nil, wL, rngQ_int]
  refine ⟨by unfold okR; simp; omega, ?_⟩
  refine forD_inv _ (fun k ρ S' => S' = S ∧ ∃ (Ls : List Lb) (m13 m14 m15 m16 : L), Ls.length = (a * b * c).toNat ∧ ρ = [x0, x1, x2, x3, .d (.int a), .d (.int b), .d (.int c), .d Cd, .d Od, x9, x10, .d Rd, .own (Ls.map labD), m13, m14, m15, m16]) _ _ ⟨rfl, L0, _, _, _, _, l0, rfl⟩ ?_ ?_
  · rintro k d ρ S2 hk ⟨rfl, Ls, m13, m14, m15, m16, hL, rfl⟩
    obtain ⟨hk, rfl⟩ := rangeD_at hk
    refine ⟨_, rfl, ?_⟩
    obtain ⟨p1, p2, p3, p4, p5, p6⟩ := point_bd (p := (k : Nat)) (a := a) (b := b) (c := c) (by omega) (by omega) hb.1 hc.1
    have q1 := Int.mul_le_mul ha.2 hb.2 (by omega) (by omega)
    rw [wp_seq, w_set, w_tup]
    simp only [List.set_cons_zero, List.set_cons_succ]
    generalize hkz : ((k : Nat) : Int) = kz at *
    simp only [w_set, w_setO, w_m2, w_m1, w_var, varQ_d, w_c, w_nil, w_cons, w_cb, w_cbo, w_int, w_intB, w_abs, w_max, w_min, w_lenL, w_lenT, w_B, w_and, w_or, w_not, w_if, w_ret, w_retO, w_next, w_tup, w_lst, w_frz, w_andV, w_notV, stQ_st, w_st1, w_st2, w_st3, w_st4, w_st5, w_cells, w_stS, lawB_law, setQ1, setQ2, setQ3, setQ5, w_for, w_range1, rngQ_int, w_seqI, w_seqL, w_seqT, w_lc, w_call0, w_call1, stepQ_nx, stepQ_bk, stepQ_rt, wp_ok, wp_bad, sq_rt, sq_ro, wp_add, wp_sub, wp_lt, wp_le, wp_gt, wp_ge, wp_mul, wp_mod, wp_fdiv, wp_pow, wp_ix, wp_ixT, wp_toB, wp_noX, List.set_cons_zero, List.set_cons_succ, List.getElem?_cons_zero, List.getElem?_cons_succ, List.length_map, if_true, decide_eq_true_eq, Bool.false_eq_true, if_false, wp_eqI, wp_neI]
    have hk0 : 0 ≤ kz := by omega
    have hkN : kz < a * b * c := by omega
    have q2 : 0 < b * c := Int.mul_pos (by omega) (by omega)
    have q3 : b * c ≤ 16 * 16 := Int.mul_le_mul hb.2 hc.2 (by omega) (by omega)
    refine ⟨smallMul (by omega) (by omega), smallDiv q2 (by omega), smallDiv (by omega) (by omega), by omega, by omega, rfl, ?_⟩
    rw [sq_nx]
    refine w_setI (xs := Ls.map labD) rfl ?_
    rw [w_cb, w_cons, w_frz, w_lc, w_range1]
    simp only [w_set, w_setO, w_m2, w_m1, w_var, varQ_d, w_c, w_nil, w_cons, w_cb, w_cbo, w_int, w_intB, w_abs, w_max, w_min, w_lenL, w_lenT, w_B, w_and, w_or, w_not, w_if, w_ret, w_retO, w_next, w_tup, w_lst, w_frz, w_andV, w_notV, stQ_st, w_st1, w_st2, w_st3, w_st4, w_st5, w_cells, w_stS, lawB_law, setQ1, setQ2, setQ3, setQ5, w_for, w_range1, rngQ_int, w_seqI, w_seqL, w_seqT, w_lc, w_call0, w_call1, stepQ_nx, stepQ_bk, stepQ_rt, wp_ok, wp_bad, sq_rt, sq_ro, wp_add, wp_sub, wp_lt, wp_le, wp_gt, wp_ge, wp_mul, wp_mod, wp_fdiv, wp_pow, wp_ix, wp_ixT, wp_toB, wp_noX, List.set_cons_zero, List.set_cons_succ, List.getElem?_cons_zero, List.getElem?_cons_succ, List.length_map, if_true, decide_eq_true_eq, Bool.false_eq_true, if_false, wp_eqI, wp_neI]
    refine ⟨by decide, rfl, ?_⟩
    refine comp_inv _ (fun k xs S' => S2 = S' ∧ ∃ zs : List Int, xs = zs.map DL.D.int) _ _ ⟨rfl, [], rfl⟩ ?_ ?_
    · rintro j d xs S3 hj hl ⟨rfl, zs, rfl⟩
      obtain ⟨hj', rfl⟩ := rangeD_at hj
      have hj3 : ((j : Nat) : Int) < 3 := by
        have : j < 3 := hj'
        omega
      have hj0 : 0 ≤ ((j : Nat) : Int) := by omega
      generalize ((j : Nat) : Int) = z at *
      refine ⟨_, rfl, ?_⟩
      show wp (m2 gIx _ _ [x0, x1, x2, x3, .d (.int a), .d (.int b), .d (.int c), .d Cd, .d Od, x9, x10, .d Rd, .own (Ls.map labD), .d (.int kz), .d (.tup [.int (kz / (b * c)), .int (kz / c % b), .int (kz % c)]), m15, .d (.int z)] S2) _
      simp only [w_set, w_setO, w_m2, w_m1, w_var, varQ_d, w_c, w_nil, w_cons, w_cb, w_cbo, w_int, w_intB, w_abs, w_max, w_min, w_lenL, w_lenT, w_B, w_and, w_or, w_not, w_if, w_ret, w_retO, w_next, w_tup, w_lst, w_frz, w_andV, w_notV, stQ_st, w_st1, w_st2, w_st3, w_st4, w_st5, w_cells, w_stS, lawB_law, setQ1, setQ2, setQ3, setQ5, w_for, w_range1, rngQ_int, w_seqI, w_seqL, w_seqT, w_lc, w_call0, w_call1, stepQ_nx, stepQ_bk, stepQ_rt, wp_ok, wp_bad, sq_rt, sq_ro, wp_add, wp_sub, wp_lt, wp_le, wp_gt, wp_ge, wp_mul, wp_mod, wp_fdiv, wp_pow, wp_ix, wp_ixT, wp_toB, wp_noX, List.set_cons_zero, List.set_cons_succ, List.getElem?_cons_zero, List.getElem?_cons_succ, List.length_map, if_true, decide_eq_true_eq, Bool.false_eq_true, if_false, wp_eqI, wp_neI]
      refine wC z _ _ (fun xs y0 y1 y2 => ?_) hj0 hj3
      refine ex3 hj0 hj3 fun u v0 v1 v2 => ?_
      refine w_ixI ?_ ?_ fun r => ?_
      · have : z = 0 ∨ z = 1 ∨ z = 2 := by omega
        rcases this with h | h | h
        · rw [v0 h]; exact p1
        · rw [v1 h]; exact p3
        · rw [v2 h]; exact p5
      · have : z = 0 ∨ z = 1 ∨ z = 2 := by omega
        rcases this with h | h | h
        · rw [v0 h, y0 h]; omega
        · rw [v1 h, y1 h]; omega
        · rw [v2 h, y2 h]; omega
      · refine ex3 hj0 hj3 fun u' _ _ _ => ⟨rfl, wR z _ _ (fun rl r0 r3 => w_ix3 r0 r3 fun u'' _ _ _ => ⟨rfl, zs ++ [u''], by rw [List.map_append]; rfl⟩) hj0 hj3⟩
    · rintro xs S3 hl ⟨rfl, zs, rfl⟩
      rw [w_tuple]
      refine wO kz _ _ (fun r r0 r1 => ?_) hk0 hkN
      refine ⟨r, r.toNat, rfl, ixN_of r0 (by rw [hL]; omega), ?_⟩
      have em : (Ls.map labD).set r.toNat (.tup (zs.map DL.D.int)) = (Ls.set r.toNat (.t zs)).map labD := by rw [List.map_set]; rfl
      rw [em]
      exact ⟨rfl, Ls.set r.toNat (.t zs), _, _, _, _, by rw [List.length_set, hL], rfl⟩
  · rintro ρ S2 ⟨rfl, Ls, m13, m14, m15, m16, hL, rfl⟩
    exact ⟨rfl, Ls, _, _, _, _, hL, rfl⟩
end K17

set_option Elab.async false
set_option linter.all false
set_option maxRecDepth 100000
set_option maxHeartbeats 4000000
set_option autoImplicit false
namespace K17
open PySem PySem.Spec L2 DL
theorem nm_tupI (ns : List Nat) : nmD ns = tupI (ns.map fun (n : Nat) => (n : Int)) := by
  unfold nmD tupI
  rw [List.map_map]; rfl
theorem w_shufC {i : Nat} {ρ : List L} {S : Sto} {Q : D → Sto → Prop} {φ : Ph D} (hst : ρ[i]? = some .st)
    (h : wp (φ ρ S) fun d S1 => ∃ M n : Int, d = .int M ∧ 1 ≤ M ∧ M ≤ 16 ∧ n < 2 ^ 40 ∧ Inv S1 n ∧ ∀ (zs : List Int) (S' : Sto), Inv S' (n + 30) → Bl zs M M.toNat → Q (tupI zs) S') : wp (mCall1 m_law_shuffle i (mCons φ mNil) ρ S) Q := by
  rw [w_call1, hst, stQ_st, w_cons]
  refine wp.mono h ?_
  rintro _ S1 ⟨M, n, rfl, h1, h2, h3, h4, q⟩
  rw [w_nil]
  refine wp.mono (shuffle_ok S1 n M h1 h2 h3 h4) ?_
  rintro _ S' ⟨i1, zs, rfl, hB⟩
  exact q zs S' i1 hB
/-- 1 + take(store, min(m, k)) -/
theorem w_size {ρ : List L} {S : Sto} {n m k : Int} {Q : D → Sto → Prop} {φ : Ph D} (hst : ρ[0]? = some .st) (hφ : ∀ S, φ ρ S = .ok (.int m) S) (hm : m.natAbs < 2 ^ 90) (hk : k.natAbs < 2 ^ 90) (hn : n < 2 ^ 50) (h : Inv S n)
    (q : ∀ (z : Int) (S' : Sto), Inv S' (n + 1) → 1 ≤ z → (1 ≤ m → 1 ≤ k → z ≤ m ∧ z ≤ k) → Q (.int z) S') :
    wp (m2 gAdd (mC (.int 1)) (mCall1 m_law_take 0 (mCons (mCB (pureC minC) (mCons φ (mCons (mC (.int k)) mNil))) mNil)) ρ S) Q := by
  rw [w_m2, w_c]
  have e : mCB (pureC minC) (mCons φ (mCons (mC (.int k)) mNil)) ρ S = .ok (.int (if k < m then k else m)) S := by
    show ((mCons φ (mCons (mC (.int k)) mNil)) ρ S).bind (pureC minC) = _
    have : mCons φ (mCons (mC (.int k)) mNil) ρ S = .ok [.int m, .int k] S := by
      show (φ ρ S).bind _ = _
      rw [hφ]; rfl
    rw [this]; rfl
  refine w_takeC hst e (by split <;> omega) (by omega) h fun t S1 h1 t1 t2 t3 => ?_
  rw [wp_add]
  refine q _ S1 h1 (by omega) fun a b => ?_
  by_cases c : (if k < m then k else m) < 2
  · rw [t3 c]; omega
  · have := t2 (by omega)
    split at this <;> omega
theorem pair_ok (M : Int) (hM1 : 1 ≤ M) (hM : M ≤ 16) (S : Sto) (n : Int) (hn : n < 2 ^ 30) (h : Inv S n) : wp (m_law_pair [.int M] S) fun r S' => Inv S' (n + 4000) ∧ ∃ (f s : List Nat) (p : Nat), r = .d (.tup [nmD f, nmD s]) ∧ Nm f p ∧ Nm s p ∧ 1 ≤ p ∧ p ≤ 16 := by
  refine wp_run [.st, .d (.int M), .un, .un, .un, .un, .un, .un, .un, .un, .un, .un, .un, .un, .un, .un, .un] rfl ?_
  refine wp.mono (Q := fun c S' => ∃ (f s : List Nat) (p : Nat), c = .rt (.tup [nmD f, nmD s]) ∧ Inv S' (n + 4000) ∧ Nm f p ∧ Nm s p ∧ 1 ≤ p ∧ p ≤ 16) ?_ (by
    rintro _ S' ⟨f, s, p, rfl, a, b⟩; exact ⟨a, f, s, p, rfl, b⟩)
  unfold b_law_pair
  rw [wp_seq, w_set]
  refine w_takeC rfl rfl (by decide) (by omega) h fun kind S1 h1 k1 k2 k3 => ?_
  rw [sq_nx, wp_seq, w_ifs, w_B, w_m2, w_var]
  simp only [List.set_cons_zero, List.set_cons_succ, List.getElem?_cons_zero, List.getElem?_cons_succ, varQ_d, w_c, wp_lt, wp_toB]
  by_cases c1 : kind < 2
  · rw [if_pos (by simpa using c1), wp_seq, w_set]
    refine w_partC rfl ?_
    rw [w_m2, w_c]
    refine w_takeC rfl rfl (by omega) (by omega) h1 fun t S2 h2 t1 t2 t3 => ?_
    have ht : t < M := by
      by_cases c : 2 ≤ M
      · exact t2 c
      · have := t3 (by omega); omega
    rw [wp_add]
    refine ⟨_, _, rfl, by omega, by omega, by omega, h2, fun f S3 h3 hf => ?_⟩
    have hP1 : 1 ≤ 1 + t := by omega
    have hP2 : 1 + t ≤ 16 := by omega
    generalize 1 + t = P at *
    have hl := hf.len
    rw [sq_nx, w_ret, w_tup, w_cons, w_var]
    simp only [List.set_cons_zero, List.set_cons_succ, List.getElem?_cons_zero, List.getElem?_cons_succ, varQ_d]
    rw [w_cons]
    refine w_partC rfl ?_
    rw [w_cb, w_cons, w_var]
    simp only [List.getElem?_cons_zero, List.getElem?_cons_succ, varQ_d, w_nil]
    unfold nmD
    rw [w_lenT, List.length_map]
    refine ⟨_, _, rfl, by omega, by omega, by omega, h3, fun s S4 h4 hs => ?_⟩
    refine ⟨rfl, f, s, f.length, rfl, h4.mono (by omega), ⟨hf.cn, rfl⟩, ⟨hs.cn, by rw [hs.len]; omega⟩, by omega, by omega⟩
  rw [if_neg (by simpa using c1), w_next, sq_nx, wp_seq, w_set]
  refine w_size rfl (fun S => rfl) (by omega) (by decide) (by omega) h1 fun a S2 h2 a1 a2 => ?_
  obtain ⟨a2, a3⟩ := a2 (by omega) (by decide)
  rw [sq_nx, wp_seq, w_set]
  simp only [List.set_cons_zero, List.set_cons_succ]
  have d1 : CDivW M a := smallDiv (by omega) (by omega)
  have v1 : 1 ≤ M / a := by
    refine Int.le_ediv_of_mul_le (by omega) (by omega)
  have v2 : M / a ≤ M := Int.ediv_le_self _ (by omega)
  refine w_size (m := M / a) rfl (fun S => ?_) (by omega) (by decide) (by omega) h2 fun b S3 h3 b1 b2 => ?_
  · show pure2 (int2 _ _) _ _ _ = _
    unfold pure2 int2
    simp only [decide_eq_true d1, if_true]
  obtain ⟨b2, b3⟩ := b2 (by omega) (by decide)
  rw [sq_nx, wp_seq, w_set]
  simp only [List.set_cons_zero, List.set_cons_succ]
  have ab : a * b ≤ M := by
    have e1 : a * (M / a) ≤ M := Int.mul_ediv_self_le (by omega)
    have e2 : a * b ≤ a * (M / a) := Int.mul_le_mul_of_nonneg_left b2 (by omega)
    omega
  have ab1 : 1 ≤ a * b := Int.mul_pos (by omega) (by omega)
  have dm : CMulW a b := smallMul (by omega) (by omega)
  have d2 : CDivW M (a * b) := smallDiv (by omega) (by omega)
  have v3 : 1 ≤ M / (a * b) := Int.le_ediv_of_mul_le (by omega) (by omega)
  have v4 : M / (a * b) ≤ M := Int.ediv_le_self _ (by omega)
  refine w_size (m := M / (a * b)) rfl (fun S => ?_) (by omega) (by decide) (by omega) h3 fun c S4 h4 c1' c2 => ?_
  · show ((pure2 (int2 _ _) (.int a) (.int b) S).bind fun y S2 => pure2 (int2 _ _) (.int M) y S2) = _
    unfold pure2 int2
    simp only [decide_eq_true dm, if_true, Out.bind, decide_eq_true d2]
  obtain ⟨c2, c3⟩ := c2 (by omega) (by decide)
  have abc : a * b * c ≤ 16 := by
    have e1 : (a * b) * (M / (a * b)) ≤ M := Int.mul_ediv_self_le (by omega)
    have e2 : (a * b) * c ≤ (a * b) * (M / (a * b)) := Int.mul_le_mul_of_nonneg_left c2 (by omega)
    omega
  have abc1 : 1 ≤ a * b * c := Int.mul_pos (by omega) (by omega)
  rw [sq_nx, wp_seq, w_set, w_frz, w_lc, w_seqI, w_tup]
  simp only [List.set_cons_zero, List.set_cons_succ]
  simp only [w_set, w_setO, w_m2, w_m1, w_var, varQ_d, w_c, w_nil, w_cons, w_cb, w_cbo, w_int, w_intB, w_abs, w_max, w_min, w_lenL, w_lenT, w_B, w_and, w_or, w_not, w_if, w_ret, w_retO, w_next, w_tup, w_lst, w_frz, w_andV, w_notV, stQ_st, w_st1, w_st2, w_st3, w_st4, w_st5, w_cells, w_stS, lawB_law, setQ1, setQ2, setQ3, setQ5, w_for, w_range1, rngQ_int, w_seqI, w_seqL, w_seqT, w_lc, w_call0, w_call1, stepQ_nx, stepQ_bk, stepQ_rt, wp_ok, wp_bad, sq_rt, sq_ro, wp_add, wp_sub, wp_lt, wp_le, wp_gt, wp_ge, wp_mul, wp_mod, wp_fdiv, wp_pow, wp_ix, wp_ixT, wp_toB, wp_noX, List.set_cons_zero, List.set_cons_succ, List.getElem?_cons_zero, List.getElem?_cons_succ, List.length_map, if_true, decide_eq_true_eq, Bool.false_eq_true, if_false, wp_eqI, wp_neI]
  refine ⟨rfl, rfl, ?_⟩
  have hdim : ∀ (j : Nat) (x : D), ([D.int a, D.int b, D.int c] : List D)[j]? = some x → ∃ z : Int, x = .int z ∧ 1 ≤ z ∧ z ≤ 16 := fun j x e => by
    match j, e with
    | 0, e => cases e; exact ⟨a, rfl, by omega, by omega⟩
    | 1, e => cases e; exact ⟨b, rfl, by omega, by omega⟩
    | 2, e => cases e; exact ⟨c, rfl, by omega, by omega⟩
    | j + 3, e => cases e
  refine comp_inv _ (fun k xs S' => Inv S' (n + 100 + 40 * (k : Nat)) ∧ ∀ (j : Nat) (z : Int), ([D.int a, D.int b, D.int c] : List D)[j]? = some (.int z) → j < k → ∃ ns, xs[j]? = some (nmD ns) ∧ Nm ns z.toNat) _ _ ⟨h4.mono (by omega), fun j z e hj => by omega⟩ ?_ ?_
  · rintro k d xs S5 hk hl ⟨h5, q5⟩
    obtain ⟨z, rfl, z1, z2⟩ := hdim k d hk
    have hk3 : k < 3 := (List.getElem?_eq_some_iff.mp hk).1
    refine ⟨_, rfl, ?_⟩
    refine w_partC rfl ?_
    rw [w_var]
    refine ⟨z, _, rfl, z1, z2, by omega, h5, fun ns S6 h6 hns => ⟨h6.mono (by omega), fun j z' e hj => ?_⟩⟩
    by_cases hjk : j < k
    · obtain ⟨ns', e1, e2⟩ := q5 j z' e hjk
      exact ⟨ns', by rw [List.getElem?_append_left (by omega)]; exact e1, e2⟩
    · have : j = k := by omega
      subst this
      rw [hk] at e
      cases e
      exact ⟨ns, by rw [List.getElem?_append_right (by omega), hl, Nat.sub_self]; rfl, hns⟩
  rintro xs S5 hl ⟨h5, q5⟩
  obtain ⟨fa, ea, na⟩ := q5 0 a rfl (show 0 < 3 by decide)
  obtain ⟨fb, eb, nb⟩ := q5 1 b rfl (show 1 < 3 by decide)
  obtain ⟨fc, ec, nc⟩ := q5 2 c rfl (show 2 < 3 by decide)
  have hxs : xs = [nmD fa, nmD fb, nmD fc] := by
    match xs, hl, ea, eb, ec with
    | [x, y, z], _, ea, eb, ec => cases ea; cases eb; cases ec; rfl
  have h5 : Inv S5 (n + 300) := h5.mono (by simp; omega)
  rw [nm_tupI, nm_tupI, nm_tupI] at hxs
  have la : (fa.map fun (n : Nat) => (n : Int)).length = a.toNat := by rw [List.length_map, na.len]
  have lb : (fb.map fun (n : Nat) => (n : Int)).length = b.toNat := by rw [List.length_map, nb.len]
  have lc : (fc.map fun (n : Nat) => (n : Int)).length = c.toNat := by rw [List.length_map, nc.len]
  generalize (fa.map fun (n : Nat) => (n : Int)) = ca at *
  generalize (fb.map fun (n : Nat) => (n : Int)) = cb at *
  generalize (fc.map fun (n : Nat) => (n : Int)) = cc at *
  clear q5 ea eb ec hdim
  have hCd : D.lst xs = .lst [tupI ca, tupI cb, tupI cc] := by rw [hxs]
  generalize D.lst xs = Cd at *
  rw [sq_nx, wp_seq, w_set]
  refine w_shufC rfl ?_
  simp only [w_set, w_setO, w_m2, w_m1, w_var, varQ_d, w_c, w_nil, w_cons, w_cb, w_cbo, w_int, w_intB, w_abs, w_max, w_min, w_lenL, w_lenT, w_B, w_and, w_or, w_not, w_if, w_ret, w_retO, w_next, w_tup, w_lst, w_frz, w_andV, w_notV, stQ_st, w_st1, w_st2, w_st3, w_st4, w_st5, w_cells, w_stS, lawB_law, setQ1, setQ2, setQ3, setQ5, w_for, w_range1, rngQ_int, w_seqI, w_seqL, w_seqT, w_lc, w_call0, w_call1, stepQ_nx, stepQ_bk, stepQ_rt, wp_ok, wp_bad, sq_rt, sq_ro, wp_add, wp_sub, wp_lt, wp_le, wp_gt, wp_ge, wp_mul, wp_mod, wp_fdiv, wp_pow, wp_ix, wp_ixT, wp_toB, wp_noX, List.set_cons_zero, List.set_cons_succ, List.getElem?_cons_zero, List.getElem?_cons_succ, List.length_map, if_true, decide_eq_true_eq, Bool.false_eq_true, if_false, wp_eqI, wp_neI]
  refine ⟨dm, smallMul (by omega) (by omega), a * b * c, n + 300, rfl, abc1, abc, by omega, h5, fun ord S6 h6 hB => ?_⟩
  have hOd : tupI ord = tupI ord := rfl
  generalize hO : tupI ord = Od at *
  rw [sq_nx, wp_seq, w_setO, w_lst, w_nil]
  refine ⟨rfl, ?_⟩
  rw [sq_nx, wp_seq, w_for, w_range1, w_cons, w_c, w_nil, rngQ_int]
  simp only [List.set_cons_zero, List.set_cons_succ]
  refine ⟨by decide, ?_⟩
  refine forD_inv _ (fun k ρ S' => Inv S' (n + 500 + 10 * (k : Nat)) ∧ ∃ (ps : List (List Nat)) (l10 l11 l12 l13 l14 l15 l16 : L), ps.length = k ∧ (∀ p ∈ ps, Nm p (a * b * c).toNat) ∧ ρ = [.st, .d (.int M), .d (.int kind), .un, .d (.int a), .d (.int b), .d (.int c), .d Cd, .d Od, .own (ps.map nmD), l10, l11, l12, l13, l14, l15, l16]) _ _ ⟨h6.mono (by omega), [], _, _, _, _, _, _, _, rfl, by simp, rfl⟩ ?_ ?_
  · rintro k d ρ S7 hk ⟨h7, ps, l10, l11, l12, l13, l14, l15, l16, hps, hnm, rfl⟩
    obtain ⟨hk', rfl⟩ := rangeD_at hk
    have hk2 : k < 2 := hk'
    refine ⟨_, rfl, ?_⟩
    generalize ((k : Nat) : Int) = kz
    rw [wp_seq, w_set, w_frz, w_lc, w_range1, w_cons, w_c, w_nil, rngQ_int]
    simp only [List.set_cons_zero, List.set_cons_succ]
    refine ⟨by decide, rfl, ?_⟩
    refine comp_inv _ (fun i xs S' => Inv S' (n + 500 + 10 * (k : Nat) + (i : Nat)) ∧ ∃ rs : List Int, xs = rs.map DL.D.int ∧ Bl rs 3 i) _ _ ⟨by simpa using h7, [], rfl, rfl, by simp⟩ ?_ ?_
    · rintro i d xs S8 hi hl ⟨h8, rs, rfl, hrs⟩
      obtain ⟨hi', rfl⟩ := rangeD_at hi
      have hi3 : i < 3 := hi'
      refine ⟨_, rfl, ?_⟩
      refine w_takeC rfl rfl (by decide) (by omega) h8 fun t S9 h9 t1 t2 t3 => ⟨h9.mono (by push_cast; omega), rs ++ [t], by rw [List.map_append]; rfl, by simp [hrs.len], fun z hz => ?_⟩
      rcases List.mem_append.mp hz with hz | hz
      · exact hrs.bd z hz
      · rw [List.mem_singleton.mp hz]; exact ⟨t1, t2 (by decide)⟩
    rintro xs S8 hl ⟨h8, rs, rfl, hrs⟩
    have h8 : Inv S8 (n + 500 + 10 * (k : Nat) + 3) := h8
    have hrs : Bl rs 3 3 := hrs
    generalize hRd : D.lst (rs.map DL.D.int) = Rd
    rw [sq_nx, wp_seq, w_setO, w_cbo, w_cons, w_var]
    simp only [List.set_cons_zero, List.set_cons_succ, List.getElem?_cons_zero, List.getElem?_cons_succ, varQ_d, w_nil]
    rw [← hO]
    unfold tupI
    rw [w_listT]
    have hO2 : D.tup (ord.map DL.D.int) = Od := hO
    rw [hO2, sq_nx, wp_seq]
    try simp only [List.set_cons_zero, List.set_cons_succ]
    refine wp.mono (labels_ok (a := a) (b := b) (c := c) (ca := ca) (cb := cb) (cc := cc) (rs := rs) (ord := ord) ⟨by omega, by omega⟩ ⟨by omega, by omega⟩ ⟨by omega, by omega⟩ abc hCd la lb lc hO.symm hB hRd.symm hrs) ?_
    rintro _ _ ⟨rfl, Ls, m13, m14, m15, m16, hLs, rfl⟩
    rw [sq_nx, w_gh rfl, w_app (xs := ps.map nmD) rfl, w_call0, w_cons, w_var]
    show varQ (some (.d (.lst (Ls.map labD)))) _ _
    rw [varQ_d, w_nil]
    generalize hxs2 : Ls.map labD = xs2
    obtain ⟨r, S9, f2, f3, f4⟩ := (canon_ok Ls xs2 hxs2 sto0 (by omega)).get
    rw [f2, wp_ok, f4]
    refine ⟨?_, ?_⟩
    · simp only [line, decide_eq_true_eq, List.length_map]; omega
    · rw [stepQ_nx]
      refine ⟨h8.mono (by push_cast; omega), ps ++ [cn Ls], _, _, _, _, _, _, _, by simp [hps], fun p hp => ?_, by rw [List.map_append]; rfl⟩
      rcases List.mem_append.mp hp with hp | hp
      · exact hnm p hp
      · rw [List.mem_singleton.mp hp]; exact ⟨cn_Cn Ls, by rw [cn_len, hLs]⟩
  · rintro ρ S7 ⟨h7, ps, l10, l11, l12, l13, l14, l15, l16, hps, hnm, rfl⟩
    rw [rangeD_len] at hps h7
    have h7 : Inv S7 (n + 600) := h7.mono (by simp; omega)
    obtain ⟨p0, p1, rfl⟩ : ∃ p0 p1, ps = [p0, p1] := by
      match ps, hps with
      | [x, y], _ => exact ⟨x, y, rfl⟩
    have n0 := hnm p0 (by simp)
    have n1 := hnm p1 (by simp)
    have hN1 : 1 ≤ (a * b * c).toNat := by omega
    have hN2 : (a * b * c).toNat ≤ 16 := by omega
    generalize hNN : (a * b * c).toNat = N at *
    rw [sq_nx]
    have hρ : ([.st, .d (.int M), .d (.int kind), .un, .d (.int a), .d (.int b), .d (.int c), .d Cd, .d Od, .own (List.map nmD [p0, p1]), l10, l11, l12, l13, l14, l15, l16] : List L)[9]? = some (.own [nmD p0, nmD p1]) := rfl
    have hk : ([.st, .d (.int M), .d (.int kind), .un, .d (.int a), .d (.int b), .d (.int c), .d Cd, .d Od, .own (List.map nmD [p0, p1]), l10, l11, l12, l13, l14, l15, l16] : List L)[2]? = some (.d (.int kind)) := rfl
    have hs : ([.st, .d (.int M), .d (.int kind), .un, .d (.int a), .d (.int b), .d (.int c), .d Cd, .d Od, .own (List.map nmD [p0, p1]), l10, l11, l12, l13, l14, l15, l16] : List L)[0]? = some .st := rfl
    have ho : ([.st, .d (.int M), .d (.int kind), .un, .d (.int a), .d (.int b), .d (.int c), .d Cd, .d Od, .own (List.map nmD [p0, p1]), l10, l11, l12, l13, l14, l15, l16] : List L)[8]? = some (.d Od) := rfl
    have hset : ∀ x : L, ([.st, .d (.int M), .d (.int kind), .un, .d (.int a), .d (.int b), .d (.int c), .d Cd, .d Od, .own (List.map nmD [p0, p1]), l10, l11, l12, l13, l14, l15, l16] : List L).set 16 x = [.st, .d (.int M), .d (.int kind), .un, .d (.int a), .d (.int b), .d (.int c), .d Cd, .d Od, .own (List.map nmD [p0, p1]), l10, l11, l12, l13, l14, l15, x] := fun x => rfl
    generalize ([.st, .d (.int M), .d (.int kind), .un, .d (.int a), .d (.int b), .d (.int c), .d Cd, .d Od, .own (List.map nmD [p0, p1]), l10, l11, l12, l13, l14, l15, l16] : List L) = ρ7 at *
    have x0 : ∀ (S : Sto) (Q : D → Sto → Prop), Q (nmD p0) S → wp (mIxO 9 (mC (.int 0)) ρ7 S) Q := fun S Q q => w_ixO hρ (by rw [w_c]; exact ⟨0, _, rfl, rfl, q⟩)
    have x1 : ∀ (S : Sto) (Q : D → Sto → Prop), Q (nmD p1) S → wp (mIxO 9 (mC (.int 1)) ρ7 S) Q := fun S Q q => w_ixO hρ (by rw [w_c]; exact ⟨1, _, rfl, rfl, q⟩)
    have nl : ∀ ns : List Nat, nmD ns = labD (.t (ns.map fun (n : Nat) => (n : Int))) := fun ns => nm_tupI ns
    -- the second one pushed
    have push : wp (mRet (mTup (mCons (mIxO 9 (mC (.int 0))) (mCons (mCall1 m_law_nudged 0 (mCons (mIxO 9 (mC (.int 1))) mNil)) mNil))) ρ7 S7) fun c S' => ∃ (f s : List Nat) (p : Nat), c = .rt (.tup [nmD f, nmD s]) ∧ Inv S' (n + 4000) ∧ Nm f p ∧ Nm s p ∧ 1 ≤ p ∧ p ≤ 16 := by
      rw [w_ret, w_tup, w_cons]
      refine x0 _ _ ?_
      rw [w_cons, w_call1, hs, stQ_st, w_cons]
      refine x1 _ _ ?_
      rw [w_nil]
      refine wp.mono (nudged_ok S7 (n + 600) p1 (by rw [n1.len]; exact hN1) (by rw [n1.len]; exact hN2) (by omega) h7) ?_
      rintro _ S8 ⟨h8, ms, rfl, hms⟩
      rw [w_nil]
      exact ⟨rfl, p0, ms, N, rfl, h8.mono (by omega), n0, ⟨hms.cn, by rw [hms.len, n1.len]⟩, hN1, hN2⟩
    have plain : wp (mRet (mTup (mCons (mIxO 9 (mC (.int 0))) (mCons (mIxO 9 (mC (.int 1))) mNil))) ρ7 S7) fun c S' => ∃ (f s : List Nat) (p : Nat), c = .rt (.tup [nmD f, nmD s]) ∧ Inv S' (n + 4000) ∧ Nm f p ∧ Nm s p ∧ 1 ≤ p ∧ p ≤ 16 := by
      rw [w_ret, w_tup, w_cons]
      refine x0 _ _ ?_
      rw [w_cons]
      refine x1 _ _ ?_
      rw [w_nil]
      exact ⟨rfl, p0, p1, N, rfl, h7.mono (by omega), n0, n1, hN1, hN2⟩
    have third : wp (mSeq (mIfS (mB (m2 gEq (mVar 2) (mC (.int 3)))) (mRet (mTup (mCons (mIxO 9 (mC (.int 0))) (mCons (mCall0 m_law_canon [] (mCons (mFrz (mLc (.one 16) [16] (mRange1 (mCons (mCB (pureC lenC) (mCons (mVar 8) mNil)) mNil)) mYes (mTup (mCons (m2 gIx (mIxO 9 (mC (.int 0))) (mVar 16)) (mCons (m2 gIx (mIxO 9 (mC (.int 1))) (mVar 16)) mNil))))) mNil)) mNil)))) mNext) (mRet (mTup (mCons (mIxO 9 (mC (.int 0))) (mCons (mIxO 9 (mC (.int 1))) mNil)))) ρ7 S7) fun c S' => ∃ (f s : List Nat) (p : Nat), c = .rt (.tup [nmD f, nmD s]) ∧ Inv S' (n + 4000) ∧ Nm f p ∧ Nm s p ∧ 1 ≤ p ∧ p ≤ 16 := by
      rw [wp_seq, w_ifs, w_B, w_m2, w_var, hk, varQ_d, w_c, wp_eqI, wp_toB]
      by_cases c3 : kind = 3
      · rw [if_pos (by simpa using c3), w_ret, w_tup, w_cons]
        refine x0 _ _ ?_
        rw [w_cons, w_call0, w_cons, w_frz, w_lc, w_range1, w_cons, w_cb, w_cons, w_var, ho, varQ_d, w_nil, ← hO]
        unfold tupI
        rw [w_lenT, List.length_map, hB.len, w_nil, rngQ_int]
        refine ⟨by unfold okR; simp; omega, by rw [rangeD_len]; simp only [line, decide_eq_true_eq]; omega, ?_⟩
        refine comp_inv _ (fun k xs S' => S7 = S' ∧ ∃ Ls : List Lb, xs = Ls.map labD ∧ Ls.length = k) _ _ ⟨rfl, [], rfl, rfl⟩ ?_ ?_
        · rintro k d xs S8 hkk hl ⟨rfl, Ls, rfl, hLs⟩
          obtain ⟨hkk', rfl⟩ := rangeD_at hkk
          have hkN : k < N := by simpa using hkk'
          refine ⟨_, rfl, ?_⟩
          have e9 : ((wipeL ρ7 [16]).set 16 (.d (.int (k : Nat))))[9]? = some (.own [nmD p0, nmD p1]) := by
            show ((ρ7.set 16 .un).set 16 _)[9]? = _
            rw [List.set_set, List.getElem?_set, if_neg (by decide), hρ]
          have e16 : ((wipeL ρ7 [16]).set 16 (.d (.int (k : Nat))))[16]? = some (.d (.int (k : Nat))) := by
            show ((ρ7.set 16 .un).set 16 _)[16]? = _
            rw [List.set_set, hset]; rfl
          generalize (wipeL ρ7 [16]).set 16 (.d (.int (k : Nat))) = ρ8 at *
          have y : ∀ (j : Int) (ns : List Nat) (S : Sto) (Q : D → Sto → Prop), atI [nmD p0, nmD p1] j = some (nmD ns) → ns.length = N → (∀ u : Int, Q (.int u) S) → wp (m2 gIx (mIxO 9 (mC (.int j))) (mVar 16) ρ8 S) Q := fun j ns S Q ea el q => by
            rw [w_m2]
            refine w_ixO e9 ?_
            rw [w_c]
            refine ⟨j, _, rfl, ea, ?_⟩
            rw [w_var, e16, varQ_d, nm_tupI]
            exact w_ixI (by omega) (by rw [List.length_map, el]; omega) q
          rw [w_tup, w_cons]
          refine y 0 p0 _ _ rfl n0.len fun u => ?_
          rw [w_cons]
          refine y 1 p1 _ _ rfl n1.len fun v => ?_
          rw [w_nil]
          exact ⟨rfl, rfl, Ls ++ [.t [u, v]], by rw [List.map_append]; rfl, by simp [hLs]⟩
        · rintro xs S8 hl ⟨rfl, Ls, hx, hLs⟩
          rw [rangeD_len] at hLs
          have hLs : Ls.length = N := by simpa using hLs
          rw [w_nil]
          obtain ⟨r, S9, f2, f3, f4⟩ := (canon_ok Ls xs hx.symm sto0 (by omega)).get
          rw [f2, wp_ok, f4, w_nil]
          exact ⟨rfl, p0, cn Ls, N, rfl, h7.mono (by omega), n0, ⟨cn_Cn Ls, by rw [cn_len, hLs]⟩, hN1, hN2⟩
      · rw [if_neg (by simpa using c3), w_next, sq_nx]
        exact plain
    rw [wp_seq, w_ifs, w_or, w_B, w_m2, w_var, hk, varQ_d, w_c, wp_eqI, wp_toB]
    by_cases c2 : kind = 2
    · rw [if_pos (by simpa using c2), if_pos rfl]
      refine wp.mono push ?_
      rintro _ S' ⟨f, s, p, rfl, q⟩
      exact ⟨f, s, p, rfl, q⟩
    · rw [if_neg (by simpa using c2), w_and, w_B, w_m2, w_var, hk, varQ_d, w_c, wp_gt, wp_toB]
      by_cases c4 : 4 < kind
      · rw [if_pos (by simpa using c4), w_B, w_m2]
        refine x0 _ _ (x1 _ _ ?_)
        rw [nl p0, nl p1, wp_eqL, wp_toB]
        by_cases ce : Lb.t (p0.map fun (n : Nat) => (n : Int)) = Lb.t (p1.map fun (n : Nat) => (n : Int))
        · rw [if_pos (by simpa using ce)]
          refine wp.mono push ?_
          rintro _ S' ⟨f, s, p, rfl, q⟩
          exact ⟨f, s, p, rfl, q⟩
        · rw [if_neg (by simpa using ce), w_next, sq_nx]
          exact third
      · rw [if_neg (by simpa using c4), if_neg Bool.false_ne_true, w_next, sq_nx]
        exact third
end K17

set_option Elab.async false
set_option linter.all false
set_option maxRecDepth 100000
set_option maxHeartbeats 4000000
set_option autoImplicit false
namespace K17
open PySem PySem.Spec L2 DL
/-- the plots of the lot of a name -/
def lotOf (ns : List Nat) (v : Nat) : List Nat := (List.range ns.length).filter fun k => decide (ns[k]? = some v)
def reps (ns : List Nat) : List Nat := (List.range ns.length).filter fun k => decide (ns[k]? = some k)
def lots (ns : List Nat) : List (List Nat) := (reps ns).map (lotOf ns)
def lotsD (ns : List Nat) : D := .tup ((lots ns).map nmD)
theorem wp_eq {α : Type} {o : Out α} {a : α} {S : Sto} (h : wp o fun x S' => x = a ∧ S' = S) : o = .ok a S := by
  obtain ⟨x, S', e, rfl, rfl⟩ := h.get
  exact e
def pD (q : Nat → Bool) : D → Bool
  | .int z => q z.toNat
  | _ => false
theorem filter_range (n : Nat) (q : Nat → Bool) : ((rangeD 0 n).filter (pD q)).map id = ((List.range n).filter q).map inD := by
  rw [List.map_id]
  have e : rangeD 0 n = (List.range n).map inD := by
    unfold rangeD
    refine List.map_congr_left fun k _ => ?_
    show D.int (0 + (k : Nat)) = .int (k : Nat)
    rw [Int.zero_add]
  rw [e, List.filter_map]
  congr 1
theorem nm_at {ns : List Nat} {k : Nat} {v : Nat} (h : ns[k]? = some v) : atI (ns.map inD) ((k : Nat) : Int) = some (.int (v : Nat)) := atL (by rw [List.getElem?_map, h]; rfl)
end K17

set_option Elab.async false
set_option linter.all false
set_option maxRecDepth 100000
set_option maxHeartbeats 4000000
set_option autoImplicit false
namespace K17
open PySem PySem.Spec L2 DL
theorem lookI_snoc (kvs : List (Key × Int)) (k k' : Key) (z : Int) : lookI (kvs ++ [(k, z)]) k' = (lookI kvs k').or (if k = k' then some z else none) := by
  unfold lookI
  rw [List.find?_append]
  cases e : kvs.find? fun p => decide (p.1 = k') with
  | some p => rfl
  | none =>
    by_cases c : k = k' <;> simp [c]
def stoK (kvs : List (Key × Int)) : Sto := { sto0 with mode := .dc kvs }
theorem first_ok (ns : List Nat) (hc : Cn ns) (hl : ns.length ≤ 16) (S : Sto) : wp (m_first_places [.lst (ns.map inD)] S) fun r S' => r = .own (ns.map inD) := by
  have e0 : enumD (ns.map inD) = enumD (ns.map inD) := rfl
  have hb : wp (b_first_places [.d (.lst (ns.map inD)), .st, .un, .un] stoD) fun c S' => c = .ro (ns.map inD) := by
    unfold b_first_places
    have hen : wp (mEnum (mCons (mVar 0) mNil) [.d (.lst (ns.map inD)), .st, .un, .un] stoD) fun ds S1 => ds = enumD (ns.map inD) ∧ S1 = stoD := by
      unfold mEnum
      rw [wp_bind, w_cons, w_var]
      simp only [List.getElem?_cons_zero, varQ_d, w_nil]
      show wp (.ok _ _) _
      rw [wp_ok]
      exact ⟨rfl, rfl⟩
    rw [wp_seq, w_for]
    refine wp.mono hen ?_
    rintro _ _ ⟨rfl, rfl⟩
    generalize hnd : D.lst (ns.map inD) = nd
    refine forD_inv _ (fun k ρ S' => ∃ kvs l2 l3, S' = stoK kvs ∧ kvs.length ≤ k ∧ (∀ v : Nat, lookI kvs (.inl (v : Int)) = if v < k ∧ ns[v]? = some v then some (v : Int) else none) ∧ ρ = [.d nd, .st, l2, l3]) _ _ ⟨[], _, _, rfl, Nat.le_refl _, fun v => by rw [if_neg (by omega)]; rfl, rfl⟩ ?_ ?_
    · rintro k d ρ S2 hk ⟨kvs, l2, l3, rfl, hkl, hlook, rfl⟩
      rw [enumD_get, List.getElem?_map] at hk
      cases q : ns[k]? with
      | none => rw [q] at hk; cases hk
      | some v =>
        rw [q] at hk
        cases hk
        have hkn : k < ns.length := (List.getElem?_eq_some_iff.mp q).1
        obtain ⟨hv1, hv2⟩ := hc k v q
        refine ⟨_, rfl, ?_⟩
        show wp (mIfS _ _ _ ([.d nd, .st, .d (.int (k : Nat)), .d (inD v)] : List L) (stoK kvs)) _
        have hni : wp (mDNotIn 1 (mVar 3) ([.d nd, .st, .d (.int (k : Nat)), .d (inD v)] : List L) (stoK kvs)) fun c S' => S' = stoK kvs ∧ c = !(lookI kvs (.inl (v : Int))).isSome := by
          unfold mDNotIn
          rw [wp_bind, w_var]
          simp only [List.getElem?_cons_zero, List.getElem?_cons_succ, varQ_d]
          show wp (.ok _ _) _
          rw [wp_ok]
          exact ⟨rfl, rfl⟩
        rw [w_ifs]
        refine wp.mono hni ?_
        rintro _ _ ⟨rfl, rfl⟩
        by_cases c : v < k
        · have hlv : lookI kvs (.inl (v : Int)) = some (v : Int) := by rw [hlook v, if_pos ⟨c, hv2⟩]
          rw [hlv]
          simp only [Option.isSome_some, Bool.not_true, Bool.false_eq_true, if_false]
          rw [w_next, stepQ_nx]
          refine ⟨kvs, _, _, rfl, by omega, fun u => ?_, rfl⟩
          rw [hlook u]
          by_cases cu : u = k
          · subst cu
            rw [if_neg (by omega), if_neg (fun h => ?_)]
            rw [q] at h
            have := Option.some.inj h.2
            omega
          · by_cases c1 : u < k ∧ ns[u]? = some u
            · rw [if_pos c1, if_pos ⟨by omega, c1.2⟩]
            · rw [if_neg c1, if_neg fun h => c1 ⟨by omega, h.2⟩]
        · have hvk : v = k := by omega
          subst hvk
          have hlk : lookI kvs (.inl (v : Int)) = none := by rw [hlook v, if_neg (fun h => c h.1)]
          rw [hlk]
          simp only [Option.isSome_none, Bool.not_false, if_true]
          have hput : wp (mDPut 1 (mVar 3) (mVar 2) ([.d nd, .st, .d (.int (v : Nat)), .d (inD v)] : List L) (stoK kvs)) fun c S' => S' = stoK (kvs ++ [(.inl (v : Int), (v : Int))]) ∧ c = .nx [.d nd, .st, .d (.int (v : Nat)), .d (inD v)] := by
            have e : mDPut 1 (mVar 3) (mVar 2) ([.d nd, .st, .d (.int (v : Nat)), .d (inD v)] : List L) (stoK kvs) = .ok (.nx [.d nd, .st, .d (.int (v : Nat)), .d (inD v)]) (stoK (kvs ++ [(.inl (v : Int), (v : Int))])) := by
              show (if (lookI kvs (.inl (v : Int))).isSome = false ∧ kvs.length < 1000 then _ else _) = _
              rw [if_pos ⟨by rw [hlk]; rfl, by omega⟩]
              rfl
            rw [e, wp_ok]
            exact ⟨rfl, rfl⟩
          refine wp.mono hput ?_
          rintro _ _ ⟨rfl, rfl⟩
          rw [stepQ_nx]
          refine ⟨_, _, _, rfl, by rw [List.length_append]; simp; omega, fun u => ?_, rfl⟩
          rw [lookI_snoc, hlook u]
          by_cases cu : u = v
          · subst cu
            rw [if_neg (by omega), if_pos rfl, if_pos ⟨by omega, q⟩]; rfl
          · rw [if_neg (fun h : (Sum.inl (v : Int) : Key) = .inl (u : Int) => cu (by have := Sum.inl.inj h; omega))]
            by_cases c1 : u < v ∧ ns[u]? = some u
            · rw [if_pos c1, if_pos ⟨by omega, c1.2⟩]; rfl
            · rw [if_neg c1, if_neg fun h => c1 ⟨by omega, h.2⟩]; rfl
    · rintro ρ S2 ⟨kvs, l2, l3, rfl, hkl, hlook, rfl⟩
      rw [enumD_len, List.length_map] at hlook
      rw [sq_nx, w_retO, w_lc, w_seqI, w_var]
      simp only [List.getElem?_cons_zero, varQ_d]
      rw [← hnd, w_seqL]
      refine ⟨by simp only [line, decide_eq_true_eq, List.length_map]; omega, ?_⟩
      refine comp_inv _ (fun k xs S' => stoK kvs = S' ∧ xs = (ns.take k).map inD) _ _ ⟨rfl, rfl⟩ ?_ ?_
      · rintro k d xs S3 hk hxl ⟨rfl, rfl⟩
        rw [List.getElem?_map] at hk
        cases q : ns[k]? with
        | none => rw [q] at hk; cases hk
        | some v =>
          rw [q] at hk
          cases hk
          have hkn : k < ns.length := (List.getElem?_eq_some_iff.mp q).1
          obtain ⟨hv1, hv2⟩ := hc k v q
          refine ⟨_, rfl, ?_⟩
          have e : mDGet 1 (mVar 3) ((wipeL [.d (.lst (ns.map inD)), .st, l2, l3] [3]).set 3 (.d (inD v))) (stoK kvs) = .ok (.int (v : Nat)) (stoK kvs) := by
            show (match lookI kvs (.inl (v : Int)) with
              | some z => Out.ok (D.int z) (stoK kvs)
              | none => .bad) = _
            rw [hlook v, if_pos ⟨by omega, hv2⟩]
          rw [e, wp_ok]
          refine ⟨rfl, ?_⟩
          rw [List.take_add_one, q]
          simp [inD]
      · rintro xs S3 hxl ⟨rfl, rfl⟩
        rw [List.length_map, List.take_length]
  obtain ⟨c, S', e, rfl⟩ := hb.get
  have : m_first_places [.lst (ns.map inD)] S = .ok (.own (ns.map inD)) sto0 := by
    show (match b_first_places [.d (.lst (ns.map inD)), .st, .un, .un] stoD with
      | .ok (.rt d) _ => Out.ok (Res.d d) sto0
      | .ok (.ro xs) _ => .ok (.own xs) sto0
      | .ok (.nx _) _ => .ok (.d .non) sto0
      | .exc x _ _ => .exc x [] sto0
      | _ => .bad) = _
    rw [e]
  rw [this, wp_ok]
end K17

set_option Elab.async false
set_option linter.all false
set_option maxRecDepth 100000
set_option maxHeartbeats 4000000
set_option autoImplicit false
namespace K17
open PySem PySem.Spec L2 DL
theorem asc_eq : ∀ (l m : List Int), l.Pairwise (· < ·) → m.Pairwise (· < ·) → (∀ x, x ∈ l ↔ x ∈ m) → l = m
  | [], [], _, _, _ => rfl
  | [], y :: m, _, _, h => absurd ((h y).mpr List.mem_cons_self) (by simp)
  | x :: l, [], _, _, h => absurd ((h x).mp List.mem_cons_self) (by simp)
  | x :: l, y :: m, h1, h2, h => by
    rw [List.pairwise_cons] at h1 h2
    have exy : x = y := by
      rcases List.mem_cons.mp ((h x).mp List.mem_cons_self) with e | e
      · exact e
      · rcases List.mem_cons.mp ((h y).mpr List.mem_cons_self) with e' | e'
        · exact e'.symm
        · have a := h2.1 x e
          have b := h1.1 y e'
          omega
    subst exy
    have : l = m := asc_eq l m h1.2 h2.2 fun z => ⟨fun hz => by
      rcases List.mem_cons.mp ((h z).mp (List.mem_cons_of_mem _ hz)) with e | e
      · have := h1.1 z hz; omega
      · exact e, fun hz => by
      rcases List.mem_cons.mp ((h z).mpr (List.mem_cons_of_mem _ hz)) with e | e
      · have := h2.1 z hz; omega
      · exact e⟩
    rw [this]
def zn (n : Nat) : Int := n
theorem reps_asc (ns : List Nat) (hc : Cn ns) : ascU (ns.map zn) = (reps ns).map zn := by
  refine asc_eq _ _ (asc_ascU _) ?_ fun x => ?_
  · have h : (reps ns).Pairwise (· < ·) := List.Pairwise.filter _ List.pairwise_lt_range
    exact List.Pairwise.map zn (fun a b h => by show (a : Int) < (b : Int); omega) h
  · rw [mem_ascU]
    constructor
    · intro h
      obtain ⟨v, hv, rfl⟩ := List.mem_map.mp h
      obtain ⟨k, hk⟩ := List.mem_iff_getElem?.mp hv
      obtain ⟨h1, h2⟩ := hc k v hk
      refine List.mem_map.mpr ⟨v, List.mem_filter.mpr ⟨?_, by simpa using h2⟩, rfl⟩
      exact List.mem_range.mpr (List.getElem?_eq_some_iff.mp h2).1
    · intro h
      obtain ⟨v, hv, rfl⟩ := List.mem_map.mp h
      have h2 := (List.mem_filter.mp hv).2
      exact List.mem_map.mpr ⟨v, List.mem_iff_getElem?.mpr ⟨v, by simpa using h2⟩, rfl⟩
theorem ints_in : ∀ ns : List Nat, intsOf (ns.map inD) = some (ns.map zn)
  | [] => rfl
  | n :: ns => by
    rw [List.map_cons, List.map_cons]
    show intsOf (.int (n : Int) :: ns.map inD) = _
    unfold intsOf
    rw [ints_in ns]; rfl
def pE (v : Int) : D → Bool
  | .pr [.int _, .int u] => decide (u = v)
  | _ => false
def fE : D → D
  | .pr [d, _] => d
  | d => d
def gE (ns : List Nat) (k : Nat) : D := .pr [.int (k : Nat), inD (ns[k]?.getD 0)]
theorem enum_in (ns : List Nat) : enumD (ns.map inD) = (List.range ns.length).map (gE ns) := by
  apply List.ext_getElem?
  intro i
  rw [enumD_get, List.getElem?_map, List.getElem?_map]
  by_cases h : i < ns.length
  · rw [List.getElem?_range h, List.getElem?_eq_getElem h]
    show some _ = some (gE ns i)
    unfold gE
    rw [List.getElem?_eq_getElem h]; rfl
  · rw [List.getElem?_eq_none (by omega), List.getElem?_eq_none (by simpa using h)]; rfl
theorem enum_filter (ns : List Nat) (v : Nat) : ((enumD (ns.map inD)).filter (pE (v : Int))).map fE = (lotOf ns v).map inD := by
  rw [enum_in, List.filter_map, List.map_map]
  unfold lotOf
  have e : (List.range ns.length).filter (pE (v : Int) ∘ gE ns) = (List.range ns.length).filter fun k => decide (ns[k]? = some v) := by
    refine List.filter_congr fun k hk => ?_
    have hk : k < ns.length := List.mem_range.mp hk
    show decide (((ns[k]?.getD 0 : Nat) : Int) = (v : Int)) = _
    rw [List.getElem?_eq_getElem hk]
    show decide (((ns[k] : Nat) : Int) = (v : Int)) = decide (some ns[k] = some v)
    by_cases h : ns[k] = v
    · simp [h]
    · simp [h]; omega
  rw [e]
  rfl
theorem byname_ok (ns : List Nat) (hc : Cn ns) (hl : ns.length ≤ 16) (S : Sto) : wp (m_lots_by_name [.lst (ns.map inD)] S) fun r S' => r = .own ((lots ns).map nmD) := by
  have hss : ∀ (S : Sto) (ρ : List L), ρ[0]? = some (.d (.lst (ns.map inD))) → mSortedSet (mVar 0) ρ S = .ok ((reps ns).map inD) S := fun S ρ h => by
    unfold mSortedSet mVar
    rw [h]
    show (match intsOf (ns.map inD) with
      | some ns => if ns.length < 64 then Out.ok ((ascU ns).map D.int) S else .bad
      | none => .bad) = _
    rw [ints_in]
    show (if (ns.map zn).length < 64 then Out.ok ((ascU (ns.map zn)).map D.int) S else .bad) = _
    rw [if_pos (by rw [List.length_map]; omega), reps_asc ns hc, List.map_map]
    rfl
  have hen : ∀ (S : Sto) (ρ : List L), ρ[0]? = some (.d (.lst (ns.map inD))) → mEnum (mCons (mVar 0) mNil) ρ S = .ok (enumD (ns.map inD)) S := fun S ρ h => by
    unfold mEnum mCons mVar
    rw [h]; rfl
  have hrl : (reps ns).length ≤ 16 := Nat.le_trans (List.length_filter_le _ _) (by rw [List.length_range]; exact hl)
  have hel : (enumD (ns.map inD)).length ≤ 16 := by rw [enumD_len, List.length_map]; exact hl
  generalize hnd : D.lst (ns.map inD) = nd at *
  refine wp_run [.d nd, .un, .un, .un] rfl ?_
  unfold b_lots_by_name
  rw [w_retO, w_lc, w_seqI, w_frz]
  refine wp.of (hss _ _ rfl) ?_
  rw [w_seqL]
  refine ⟨by simp only [line, decide_eq_true_eq, List.length_map]; omega, ?_⟩
  refine comp_inv _ (fun k xs S' => S = S' ∧ xs = (((reps ns).take k).map (lotOf ns)).map nmD) _ _ ⟨rfl, rfl⟩ ?_ ?_
  · rintro k d xs S2 hk hxl ⟨rfl, rfl⟩
    rw [List.getElem?_map] at hk
    cases q : (reps ns)[k]? with
    | none => rw [q] at hk; cases hk
    | some v =>
      rw [q] at hk
      cases hk
      refine ⟨_, rfl, ?_⟩
      show wp (mCB gTuple _ ([.d nd, .d (inD v), .un, .un] : List L) S) _
      rw [w_cb, w_cons, w_frz, w_lc]
      refine wp.of (hen _ _ rfl) ?_
      refine ⟨by simp only [line, decide_eq_true_eq]; omega, ?_⟩
      refine comp_filter (pE (v : Int)) fE _ _ _ (fun d hd => ?_) ?_
      · rw [enum_in] at hd
        obtain ⟨j, hj, rfl⟩ := List.mem_map.mp hd
        refine ⟨_, rfl, wp_eq ?_, fun _ => rfl⟩
        show wp (mB _ ([.d nd, .d (inD v), .d (.int (j : Nat)), .d (inD (ns[j]?.getD 0))] : List L) S) _
        rw [w_B, w_m2, w_var]
        simp only [List.getElem?_cons_zero, List.getElem?_cons_succ, varQ_d]
        rw [w_var]
        simp only [List.getElem?_cons_zero, List.getElem?_cons_succ, varQ_d]
        show wp (gEq (.int _) (.int _) S) _
        rw [wp_eqI, wp_toB]
        exact ⟨rfl, rfl⟩
      · rw [w_nil, w_tuple, enum_filter]
        refine ⟨rfl, ?_⟩
        rw [List.take_add_one, q, List.map_append, List.map_append]
        rfl
  · rintro xs S2 hxl ⟨rfl, rfl⟩
    rw [List.length_map, List.take_length]
    rfl
end K17

set_option Elab.async false
set_option linter.all false
set_option maxRecDepth 100000
set_option maxHeartbeats 4000000
set_option autoImplicit false
namespace K17
open PySem PySem.Spec L2 DL
def sizesD (ns : List Nat) : D := .tup ((lots ns).map fun l => .int (l.length : Nat))
def ptN : List Str := ["plots", "many", "names", "lots", "sizes"]
def ptD (cP : Addr) (ns : List Nat) : D := .obj cP ptN [.int (ns.length : Nat), .int ((lots ns).length : Nat), nmD ns, lotsD ns, sizesD ns]
def stoO (C : Addr) (nms : List Str) (ds : List D) : Sto := { sto0 with mode := .ob ⟨C, nms, ds⟩ }
theorem self_ok {C : Addr} {i : Nat} {f : Str} {φe : Ph D} {ρ : List L} {nms : List Str} {ds : List D} {d : D} (h : φe ρ (stoO C nms ds) = .ok d (stoO C nms ds)) (hr : ρ[i]? = some .st) (hf : f ∉ nms) (hl : nms.length < 900) : mSelf C i f φe ρ (stoO C nms ds) = .ok (.nx ρ) (stoO C (nms ++ [f]) (ds ++ [d])) := by
  unfold mSelf
  rw [h]
  show (match ρ[i]?, (stoO C nms ds).mode with
    | some .st, .ob o => if o.C = C ∧ f ∉ o.ns ∧ o.ns.length < 900 then Out.ok (Ctl.nx ρ) { stoO C nms ds with mode := .ob { o with ns := o.ns ++ [f], ds := o.ds ++ [d] } } else .bad
    | _, _ => .bad) = _
  rw [hr]
  show (if C = C ∧ f ∉ nms ∧ nms.length < 900 then _ else _) = _
  rw [if_pos ⟨rfl, hf, hl⟩]
  rfl
theorem most_ok (a : Int) (S : Sto) (x : Str) (h2 : a ≤ 16) : wp (m_check_most [.int a, .str x, .int 16] S) fun r S' => True := by
  refine wp_run [.d (.int a), .d (.str x), .d (.int 16)] rfl ?_
  unfold b_check_most
  simp only [wp_seq, w_set, w_setO, w_m2, w_m1, w_var, varQ_d, w_c, w_nil, w_cons, w_cb, w_cbo, w_int, w_intB, w_abs, w_max, w_min, w_lenL, w_lenT, w_B, w_and, w_or, w_not, w_ifs, w_if, w_ret, w_retO, w_next, w_tup, w_lst, w_frz, w_andV, w_notV, stQ_st, w_st1, w_st2, w_st3, w_st4, w_st5, w_cells, w_stS, lawB_law, setQ1, setQ2, setQ3, setQ5, w_for, w_range1, rngQ_int, w_seqI, w_seqL, w_seqT, w_lc, w_call0d, w_call1, w_meth, w_own, w_drop, stepQ_nx, stepQ_bk, stepQ_rt, wp_ok, wp_bad, sq_nx, sq_rt, sq_ro, wp_add, wp_sub, wp_lt, wp_le, wp_gt, wp_ge, wp_mul, wp_mod, wp_fdiv, wp_pow, wp_ix, wp_ixT, wp_toB, wp_noX, wp_eqI, wp_neI, List.set_cons_zero, List.set_cons_succ, List.getElem?_cons_zero, List.getElem?_cons_succ, List.length_map, List.append_nil, List.cons_append, List.nil_append, if_true, decide_eq_true_eq, Bool.false_eq_true, if_false, wipeL, w_mbrk, Bool.not_true, Bool.not_false, decide_true, decide_false, true_and, and_true, Res.toD, w_bad, v_lenO, ixQ_int, v_ixO, v_app, v_ext, v_retV, v_borB, v_gh, borL, List.map_cons, List.map_nil, unS_d, unS_un, unS_st, unS_own, ownQ_own, setIQ_int, v_setI, v_call0O, resO_own, Bool.and_self, Bool.and_true, Bool.true_and, Bool.and_false, Bool.false_and, w_slL, w_slT, slQ_l, slQ_t, w_noP, w_pt, intQ_int, w_catT, w_catL, wp_catL, w_cnt, tupQ_t, w_tru, w_truL, if_neg (show ¬ (16 : Int) < a by omega)]
theorem amount_ok (a : Int) (S : Sto) (x : Str) (h1 : 1 ≤ a) (h2 : a ≤ 16) : wp (m_check_amount [.int a, .str x, .int 16] S) fun r S' => True := by
  refine wp_run [.d (.int a), .d (.str x), .d (.int 16)] rfl ?_
  unfold b_check_amount
  simp only [wp_seq, w_set, w_setO, w_m2, w_m1, w_var, varQ_d, w_c, w_nil, w_cons, w_cb, w_cbo, w_int, w_intB, w_abs, w_max, w_min, w_lenL, w_lenT, w_B, w_and, w_or, w_not, w_ifs, w_if, w_ret, w_retO, w_next, w_tup, w_lst, w_frz, w_andV, w_notV, stQ_st, w_st1, w_st2, w_st3, w_st4, w_st5, w_cells, w_stS, lawB_law, setQ1, setQ2, setQ3, setQ5, w_for, w_range1, rngQ_int, w_seqI, w_seqL, w_seqT, w_lc, w_call0d, w_call1, w_meth, w_own, w_drop, stepQ_nx, stepQ_bk, stepQ_rt, wp_ok, wp_bad, sq_nx, sq_rt, sq_ro, wp_add, wp_sub, wp_lt, wp_le, wp_gt, wp_ge, wp_mul, wp_mod, wp_fdiv, wp_pow, wp_ix, wp_ixT, wp_toB, wp_noX, wp_eqI, wp_neI, List.set_cons_zero, List.set_cons_succ, List.getElem?_cons_zero, List.getElem?_cons_succ, List.length_map, List.append_nil, List.cons_append, List.nil_append, if_true, decide_eq_true_eq, Bool.false_eq_true, if_false, wipeL, w_mbrk, Bool.not_true, Bool.not_false, decide_true, decide_false, true_and, and_true, Res.toD, w_bad, v_lenO, ixQ_int, v_ixO, v_app, v_ext, v_retV, v_borB, v_gh, borL, List.map_cons, List.map_nil, unS_d, unS_un, unS_st, unS_own, ownQ_own, setIQ_int, v_setI, v_call0O, resO_own, Bool.and_self, Bool.and_true, Bool.true_and, Bool.and_false, Bool.false_and, w_slL, w_slT, slQ_l, slQ_t, w_noP, w_pt, intQ_int, w_catT, w_catL, wp_catL, w_cnt, tupQ_t, w_tru, w_truL, if_neg (show ¬ a < (1 : Int) by omega)]
  refine wp.mono (most_ok _ _ _ h2) fun _ _ _ => ?_
  simp only [wp_seq, w_set, w_setO, w_m2, w_m1, w_var, varQ_d, w_c, w_nil, w_cons, w_cb, w_cbo, w_int, w_intB, w_abs, w_max, w_min, w_lenL, w_lenT, w_B, w_and, w_or, w_not, w_ifs, w_if, w_ret, w_retO, w_next, w_tup, w_lst, w_frz, w_andV, w_notV, stQ_st, w_st1, w_st2, w_st3, w_st4, w_st5, w_cells, w_stS, lawB_law, setQ1, setQ2, setQ3, setQ5, w_for, w_range1, rngQ_int, w_seqI, w_seqL, w_seqT, w_lc, w_call0d, w_call1, w_meth, w_own, w_drop, stepQ_nx, stepQ_bk, stepQ_rt, wp_ok, wp_bad, sq_nx, sq_rt, sq_ro, wp_add, wp_sub, wp_lt, wp_le, wp_gt, wp_ge, wp_mul, wp_mod, wp_fdiv, wp_pow, wp_ix, wp_ixT, wp_toB, wp_noX, wp_eqI, wp_neI, List.set_cons_zero, List.set_cons_succ, List.getElem?_cons_zero, List.getElem?_cons_succ, List.length_map, List.append_nil, List.cons_append, List.nil_append, if_true, decide_eq_true_eq, Bool.false_eq_true, if_false, wipeL, w_mbrk, Bool.not_true, Bool.not_false, decide_true, decide_false, true_and, and_true, Res.toD, w_bad, v_lenO, ixQ_int, v_ixO, v_app, v_ext, v_retV, v_borB, v_gh, borL, List.map_cons, List.map_nil, unS_d, unS_un, unS_st, unS_own, ownQ_own, setIQ_int, v_setI, v_call0O, resO_own, Bool.and_self, Bool.and_true, Bool.true_and, Bool.and_false, Bool.false_and, w_slL, w_slT, slQ_l, slQ_t, w_noP, w_pt, intQ_int, w_catT, w_catL, wp_catL, w_cnt, tupQ_t, w_tru, w_truL]
theorem whole_ok (a : Int) (S : Sto) : m_is_whole [.int a] S = .ok (.d (.bl true)) S := rfl
theorem label_ok (a : Int) (d : D) (S : Sto) : wp (m_check_label [.int a, d] S) fun r S' => True := by
  refine wp_run [.d (.int a), .d d] rfl ?_
  unfold b_check_label
  rw [w_ifs, w_and, w_not, w_B, w_call0, w_cons, w_var]
  simp only [List.getElem?_cons_zero, List.getElem?_cons_succ, varQ_d, w_nil]
  rw [whole_ok, wp_ok]
  show wp (toB (.bl true) _) _
  rw [wp_toB]
  simp only [wp_seq, w_set, w_setO, w_m2, w_m1, w_var, varQ_d, w_c, w_nil, w_cons, w_cb, w_cbo, w_int, w_intB, w_abs, w_max, w_min, w_lenL, w_lenT, w_B, w_and, w_or, w_not, w_ifs, w_if, w_ret, w_retO, w_next, w_tup, w_lst, w_frz, w_andV, w_notV, stQ_st, w_st1, w_st2, w_st3, w_st4, w_st5, w_cells, w_stS, lawB_law, setQ1, setQ2, setQ3, setQ5, w_for, w_range1, rngQ_int, w_seqI, w_seqL, w_seqT, w_lc, w_call0d, w_call1, w_meth, w_own, w_drop, stepQ_nx, stepQ_bk, stepQ_rt, wp_ok, wp_bad, sq_nx, sq_rt, sq_ro, wp_add, wp_sub, wp_lt, wp_le, wp_gt, wp_ge, wp_mul, wp_mod, wp_fdiv, wp_pow, wp_ix, wp_ixT, wp_toB, wp_noX, wp_eqI, wp_neI, List.set_cons_zero, List.set_cons_succ, List.getElem?_cons_zero, List.getElem?_cons_succ, List.length_map, List.append_nil, List.cons_append, List.nil_append, if_true, decide_eq_true_eq, Bool.false_eq_true, if_false, wipeL, w_mbrk, Bool.not_true, Bool.not_false, decide_true, decide_false, true_and, and_true, Res.toD, w_bad, v_lenO, ixQ_int, v_ixO, v_app, v_ext, v_retV, v_borB, v_gh, borL, List.map_cons, List.map_nil, unS_d, unS_un, unS_st, unS_own, ownQ_own, setIQ_int, v_setI, v_call0O, resO_own, Bool.and_self, Bool.and_true, Bool.true_and, Bool.and_false, Bool.false_and, w_slL, w_slT, slQ_l, slQ_t, w_noP, w_pt, intQ_int, w_catT, w_catL, wp_catL, w_cnt, tupQ_t, w_tru, w_truL]
theorem init_ok (cP : Addr) (ns : List Nat) (hc : Cn ns) (h1 : 1 ≤ ns.length) (hl : ns.length ≤ 16) : ∃ S', m_Parting_init cP [.lst (ns.map inD)] (stoC cP) = .ok (.d .non) S' ∧ S'.mode = .ob ⟨cP, ptN, [.int (ns.length : Nat), .int ((lots ns).length : Nat), nmD ns, lotsD ns, sizesD ns]⟩ := by
  have hen : ∀ (S : Sto) (ρ : List L), ρ[1]? = some (.d (.lst (ns.map inD))) → mEnum (mCons (mVar 1) mNil) ρ S = .ok (enumD (ns.map inD)) S := fun S ρ h => by
    unfold mEnum mCons mVar
    rw [h]; rfl
  have hfp := (first_ok ns hc hl sto0)
  have hbn := (byname_ok ns hc hl sto0)
  have hlenL : ∀ (S : Sto) (Q : D → Sto → Prop), wp (pureC lenC [D.lst (ns.map inD)] S) Q = Q (.int (ns.length : Nat)) S := fun S Q => by rw [w_lenL, List.length_map]
  have main : wp (m_Parting_init cP [.lst (ns.map inD)] (stoO cP [] [])) fun r S' => r = .d .non ∧ S' = stoO cP ptN [.int (ns.length : Nat), .int ((lots ns).length : Nat), nmD ns, lotsD ns, sizesD ns] := by
    generalize hnd : D.lst (ns.map inD) = nd at *
    refine wp_run [.st, .d nd, .un, .un, .un, .un, .un] rfl ?_
    unfold b_Parting_init
    rw [wp_seq]
    unfold mDrop
    rw [wp_bind, w_call0d, w_cons, w_cb, w_cons, w_var]
    simp only [List.getElem?_cons_zero, List.getElem?_cons_succ, varQ_d, w_nil, hlenL, w_cons, w_c, List.cons_append, List.nil_append]
    refine wp.mono (amount_ok _ _ _ (by omega) (by omega)) fun _ _ _ => ?_
    rw [wp_ok, sq_nx, wp_seq, w_for]
    refine wp.of (hen _ _ rfl) ?_
    refine forD_inv _ (fun k ρ S' => S' = stoO cP [] [] ∧ ∃ l2 l3, ρ = [.st, .d nd, l2, l3, .un, .un, .un]) _ _ ⟨rfl, _, _, rfl⟩ ?_ ?_
    · rintro k d ρ S2 hk ⟨rfl, l2, l3, rfl⟩
      rw [enumD_get, List.getElem?_map] at hk
      cases q : ns[k]? with
      | none => rw [q] at hk; cases hk
      | some v =>
        rw [q] at hk
        cases hk
        refine ⟨_, rfl, ?_⟩
        show wp (mDrop _ ([.st, .d nd, .d (.int (k : Nat)), .d (inD v), .un, .un, .un] : List L) (stoO cP [] [])) _
        unfold mDrop
        rw [wp_bind, w_call0, w_cons, w_var]
        simp only [List.getElem?_cons_zero, List.getElem?_cons_succ, varQ_d, w_nil, w_cons, w_var]
        unfold inD
        refine wp.mono (label_ok _ _ _) fun _ _ _ => ?_
        rw [wp_ok, stepQ_nx]
        exact ⟨rfl, _, _, rfl⟩
    · rintro ρ S2 ⟨rfl, l2, l3, rfl⟩
      rw [sq_nx, wp_seq, w_set, w_call0, w_cons, w_var]
      simp only [List.getElem?_cons_zero, List.getElem?_cons_succ, varQ_d, w_nil]
      refine wp.mono hfp ?_
      rintro _ _ rfl
      rw [sq_nx, wp_seq, w_set, w_call0, w_cons, w_var]
      simp only [List.set_cons_zero, List.set_cons_succ, List.getElem?_cons_zero, List.getElem?_cons_succ, varQ_d, w_nil]
      show wp (m_lots_by_name [D.lst (ns.map inD)] sto0) _
      rw [hnd]
      refine wp.mono hbn ?_
      rintro _ _ rfl
      rw [sq_nx]
      show wp (mSeq _ _ ([.st, .d nd, l2, l3, .d (.lst (ns.map inD)), .d (.lst ((lots ns).map nmD)), .un] : List L) (stoO cP [] [])) _
      rw [wp_seq]
      refine wp.of (self_ok (d := .int (ns.length : Nat)) (by show Out.ok (D.int ((ns.map inD).length : Nat)) _ = _; rw [List.length_map]) rfl (by decide) (by decide)) ?_
      rw [sq_nx, wp_seq]
      refine wp.of (self_ok (d := .int ((lots ns).length : Nat)) (by show Out.ok (D.int (((lots ns).map nmD).length : Nat)) _ = _; rw [List.length_map]) rfl (by decide) (by decide)) ?_
      rw [sq_nx, wp_seq]
      refine wp.of (self_ok (d := nmD ns) rfl rfl (by decide) (by decide)) ?_
      rw [sq_nx, wp_seq]
      refine wp.of (self_ok (d := lotsD ns) rfl rfl (by decide) (by decide)) ?_
      rw [sq_nx]
      have hll : (lots ns).length ≤ 16 := by
        unfold lots
        rw [List.length_map]
        exact Nat.le_trans (List.length_filter_le _ _) (by rw [List.length_range]; exact hl)
      refine wp.of (self_ok (d := sizesD ns) (wp_eq ?_) rfl (by decide) (by decide)) ?_
      · rw [w_cb, w_cons, w_frz, w_lc, w_seqI, w_var]
        show wp (seqOf (.lst ((lots ns).map nmD)) _) _
        rw [w_seqL]
        refine ⟨by simp only [line, decide_eq_true_eq, List.length_map]; omega, ?_⟩
        generalize stoO cP _ _ = SS
        refine comp_inv _ (fun k xs S' => SS = S' ∧ xs = ((lots ns).take k).map fun l => D.int (l.length : Nat)) _ _ ⟨rfl, rfl⟩ ?_ ?_
        · rintro k d xs S3 hk hxl ⟨rfl, rfl⟩
          rw [List.getElem?_map] at hk
          cases q : (lots ns)[k]? with
          | none => rw [q] at hk; cases hk
          | some l =>
            rw [q] at hk
            cases hk
            refine ⟨_, rfl, ?_⟩
            show wp (mCB (pureC lenC) (mCons (mVar 6) mNil) ([.st, .d nd, l2, l3, .d (.lst (ns.map inD)), .d (.lst ((lots ns).map nmD)), .d (nmD l)] : List L) SS) _
            rw [w_cb, w_cons, w_var]
            simp only [List.getElem?_cons_zero, List.getElem?_cons_succ, varQ_d, w_nil]
            unfold nmD
            rw [w_lenT, List.length_map]
            refine ⟨rfl, ?_⟩
            rw [List.take_add_one, q, List.map_append]
            rfl
        · rintro xs S3 hxl ⟨rfl, rfl⟩
          rw [w_nil, w_tuple, List.length_map, List.take_length]
          exact ⟨rfl, rfl⟩
      · exact ⟨trivial, rfl⟩
  obtain ⟨r, S', e, rfl, rfl⟩ := main.get
  exact ⟨_, e, rfl⟩
end K17

set_option Elab.async false
set_option linter.all false
set_option maxRecDepth 100000
set_option maxHeartbeats 4000000
set_option autoImplicit false
namespace K17
open PySem PySem.Spec L2 DL
/-! ### names, joins, chains -/
def g (ns : List Nat) (k : Nat) : Nat := ns.getD k 0
theorem g_some {ns : List Nat} {k : Nat} (h : k < ns.length) : ns[k]? = some (g ns k) := by
  unfold g; simp [List.getD, h]
theorem g_of {ns : List Nat} {k v : Nat} (h : ns[k]? = some v) : g ns k = v := by unfold g; rw [List.getD_eq_getElem?_getD, h]; rfl
theorem g_iff {ns : List Nat} {k v : Nat} (h : k < ns.length) : ns[k]? = some v ↔ g ns k = v := by
  rw [g_some h]; simp
theorem g_map {ns : List Nat} {h : Nat → Nat} {k : Nat} (hk : k < ns.length) : g (ns.map h) k = h (g ns k) := by
  apply g_of
  rw [List.getElem?_map, g_some hk]; rfl
theorem Cn.le {ns : List Nat} (c : Cn ns) {k : Nat} (h : k < ns.length) : g ns k ≤ k := (c k _ (g_some h)).1
theorem Cn.lt {ns : List Nat} (c : Cn ns) {k : Nat} (h : k < ns.length) : g ns k < ns.length := Nat.lt_of_le_of_lt (c.le h) h
theorem Cn.idem {ns : List Nat} (c : Cn ns) {k : Nat} (h : k < ns.length) : g ns (g ns k) = g ns k := g_of (c k _ (g_some h)).2
theorem Cn.of {ns : List Nat} (h1 : ∀ k, k < ns.length → g ns k ≤ k) (h2 : ∀ k, k < ns.length → g ns (g ns k) = g ns k) : Cn ns := fun k v h => by
  have hk : k < ns.length := (List.getElem?_eq_some_iff.mp h).1
  have e := g_of h
  subst e
  have := h1 k hk
  exact ⟨this, by rw [g_some (by omega), h2 k hk]⟩
theorem lotOf_g (ns : List Nat) (v : Nat) : lotOf ns v = (List.range ns.length).filter fun k => decide (g ns k = v) := by
  unfold lotOf
  refine List.filter_congr fun k hk => ?_
  have := List.mem_range.mp hk
  simp [g_iff this]
theorem reps_g (ns : List Nat) : reps ns = (List.range ns.length).filter fun k => decide (g ns k = k) := by
  unfold reps
  refine List.filter_congr fun k hk => ?_
  have := List.mem_range.mp hk
  simp [g_iff this]
theorem mem_lotOf {ns : List Nat} {v p : Nat} : p ∈ lotOf ns v ↔ p < ns.length ∧ g ns p = v := by
  rw [lotOf_g, List.mem_filter, List.mem_range]; simp
theorem mem_reps {ns : List Nat} {p : Nat} : p ∈ reps ns ↔ p < ns.length ∧ g ns p = p := by
  rw [reps_g, List.mem_filter, List.mem_range]; simp
/-- one plot put to its mate -/
def jst (ns : List Nat) (k m : Nat) : List Nat := ns.map fun x => if x = max (g ns k) (g ns m) then min (g ns k) (g ns m) else x
def jn (f s : List Nat) : Nat → List Nat
  | 0 => f
  | k + 1 => jst (jn f s k) k (g s k)
def joinN (f s : List Nat) : List Nat := jn f s s.length
inductive Con (f s : List Nat) : Nat → Nat → Prop
  | refl (p : Nat) : Con f s p p
  | tail {p q r : Nat} : Con f s p q → q < f.length → r < f.length → (g f q = g f r ∨ g s q = g s r) → Con f s p r
theorem Con.trans {f s : List Nat} {p q r : Nat} (a : Con f s p q) (b : Con f s q r) : Con f s p r := by
  induction b with
  | refl => exact a
  | tail _ h1 h2 h3 ih => exact .tail ih h1 h2 h3
theorem Con.one {f s : List Nat} {p q : Nat} (h1 : p < f.length) (h2 : q < f.length) (h : g f p = g f q ∨ g s p = g s q) : Con f s p q := .tail (.refl p) h1 h2 h
theorem Con.symm {f s : List Nat} {p q : Nat} (a : Con f s p q) : Con f s q p := by
  induction a with
  | refl => exact .refl _
  | tail _ h1 h2 h3 ih => exact (Con.one h2 h1 (h3.imp Eq.symm Eq.symm)).trans ih
structure JI (f s ns : List Nat) (k : Nat) : Prop where
  len : ns.length = f.length
  le : ∀ p, p < f.length → g ns p ≤ p
  idem : ∀ p, p < f.length → g ns (g ns p) = g ns p
  con : ∀ p q, p < f.length → q < f.length → g ns p = g ns q → Con f s p q
  ff : ∀ p q, p < f.length → q < f.length → g f p = g f q → g ns p = g ns q
  ss : ∀ i, i < k → g ns i = g ns (g s i)
theorem JI.zero {f s : List Nat} (c : Cn f) : JI f s f 0 where
  len := rfl
  le := fun p h => c.le h
  idem := fun p h => c.idem h
  con := fun p q h1 h2 h => .one h1 h2 (.inl h)
  ff := fun p q _ _ h => h
  ss := fun i h => absurd h (by omega)
theorem JI.step {f s ns : List Nat} {k : Nat} (h : JI f s ns k) (c : Cn s) (he : s.length = f.length) (hk : k < f.length) : JI f s (jst ns k (g s k)) (k + 1) := by
  have hm : g s k < f.length := by have := c.lt (k := k) (by omega); omega
  have hmk : g s k ≤ k := c.le (by omega)
  have hcon : Con f s k (g s k) := .one hk hm (.inr (c.idem (k := k) (by omega)).symm)
  have ia := h.idem k hk
  have ib := h.idem _ hm
  have la := h.le k hk
  have lb := h.le _ hm
  have gj : ∀ p, p < f.length → g (jst ns k (g s k)) p = if g ns p = max (g ns k) (g ns (g s k)) then min (g ns k) (g ns (g s k)) else g ns p := fun p hp => by
    unfold jst
    rw [g_map (by rw [h.len]; exact hp)]
  generalize hns : jst ns k (g s k) = ms at *
  have hlen : ms.length = f.length := by rw [← hns]; unfold jst; rw [List.length_map, h.len]
  generalize hA : g ns k = A at *
  generalize hB : g ns (g s k) = B at *
  have hmin : min A B = A ∨ min A B = B := by omega
  have hmax : max A B = A ∨ max A B = B := by omega
  have vmin : g ns (min A B) = min A B := by rcases hmin with e | e <;> rw [e] <;> assumption
  have lmin : min A B < f.length := by omega
  refine ⟨hlen, fun p hp => ?_, fun p hp => ?_, fun p q hp hq e => ?_, fun p q hp hq e => ?_, fun i hi => ?_⟩
  · rw [gj p hp]
    have := h.le p hp
    split <;> omega
  · have l1 := h.le p hp
    rw [gj p hp]
    by_cases e : g ns p = max A B
    · rw [if_pos e, gj _ lmin, vmin]
      by_cases e2 : min A B = max A B
      · rw [if_pos e2]
      · rw [if_neg e2]
    · rw [if_neg e, gj _ (by omega), h.idem p hp, if_neg e]
  · rw [gj p hp, gj q hq] at e
    have cA : ∀ x, x < f.length → g ns x = A → Con f s x k := fun x hx ex => h.con x k hx hk (by rw [ex, hA])
    have cB : ∀ x, x < f.length → g ns x = B → Con f s x k := fun x hx ex => (h.con x _ hx hm (by rw [ex, hB])).trans hcon.symm
    have cAB : ∀ x, x < f.length → (g ns x = A ∨ g ns x = B) → Con f s x k := fun x hx e => e.elim (cA x hx) (cB x hx)
    by_cases e1 : g ns p = max A B
    · by_cases e2 : g ns q = max A B
      · exact h.con p q hp hq (by rw [e1, e2])
      · rw [if_pos e1, if_neg e2] at e
        exact (cAB p hp (by omega)).trans (cAB q hq (by omega)).symm
    · by_cases e2 : g ns q = max A B
      · rw [if_neg e1, if_pos e2] at e
        exact (cAB p hp (by omega)).trans (cAB q hq (by omega)).symm
      · rw [if_neg e1, if_neg e2] at e
        exact h.con p q hp hq e
  · rw [gj p hp, gj q hq, h.ff p q hp hq e]
  · by_cases e : i = k
    · subst e
      rw [gj i hk, gj _ hm, hA, hB]
      rcases Nat.le_total A B with l | l
      · rw [Nat.max_eq_right l, Nat.min_eq_left l, if_pos rfl]
        split <;> omega
      · rw [Nat.max_eq_left l, Nat.min_eq_right l, if_pos rfl]
        split <;> omega
    · have hi' : i < k := by omega
      have hil : i < f.length := by omega
      have := c.lt (k := i) (by omega)
      rw [gj i hil, gj _ (by omega), h.ss i hi']
theorem jn_JI {f s : List Nat} (cf : Cn f) (cs : Cn s) (he : s.length = f.length) : ∀ k, k ≤ f.length → JI f s (jn f s k) k
  | 0, _ => .zero cf
  | k + 1, h => (jn_JI cf cs he k (by omega)).step cs he (by omega)
theorem join_JI {f s : List Nat} (cf : Cn f) (cs : Cn s) (he : s.length = f.length) : JI f s (joinN f s) f.length := by
  have := jn_JI cf cs he f.length (Nat.le_refl _)
  unfold joinN
  rw [he]; exact this
theorem join_len {f s : List Nat} (cf : Cn f) (cs : Cn s) (he : s.length = f.length) : (joinN f s).length = f.length := (join_JI cf cs he).len
theorem join_Cn {f s : List Nat} (cf : Cn f) (cs : Cn s) (he : s.length = f.length) : Cn (joinN f s) := by
  have h := join_JI cf cs he
  exact .of (fun k hk => h.le k (by rw [← h.len]; exact hk)) fun k hk => h.idem k (by rw [← h.len]; exact hk)
theorem join_ss {f s : List Nat} (cf : Cn f) (cs : Cn s) (he : s.length = f.length) {p q : Nat} (hp : p < f.length) (hq : q < f.length) (e : g s p = g s q) : g (joinN f s) p = g (joinN f s) q := by
  have h := join_JI cf cs he
  rw [h.ss p hp, h.ss q hq, e]
theorem join_iff {f s : List Nat} (cf : Cn f) (cs : Cn s) (he : s.length = f.length) {p q : Nat} (hp : p < f.length) (hq : q < f.length) : g (joinN f s) p = g (joinN f s) q ↔ Con f s p q := by
  have h := join_JI cf cs he
  constructor
  · exact h.con p q hp hq
  · intro c
    clear hq
    induction c with
    | refl => rfl
    | tail _ h1 h2 h3 ih =>
      rw [ih]
      rcases h3 with h3 | h3
      · exact h.ff _ _ h1 h2 h3
      · exact join_ss cf cs he h1 h2 h3
/-! ### the plots that chains reach -/
def Adj (f s : List Nat) (o a : Nat) : Prop := g f o = g f a ∨ g s o = g s a
instance (f s : List Nat) (o a : Nat) : Decidable (Adj f s o a) := by unfold Adj; infer_instance
def addN (f s : List Nat) (a : Nat) (found : List Nat) (o : Nat) : List Nat := if o ∉ found ∧ Adj f s o a then found ++ [o] else found
def sweep (f s : List Nat) (a : Nat) (found : List Nat) : Nat → List Nat
  | 0 => found
  | j + 1 => addN f s a (sweep f s a found j) j
def bfs (f s : List Nat) (p : Nat) : Nat → List Nat
  | 0 => [p]
  | k + 1 => if k < (bfs f s p k).length then sweep f s (g (bfs f s p k) k) (bfs f s p k) f.length else bfs f s p k
structure FI (f s : List Nat) (p : Nat) (fd : List Nat) : Prop where
  nd : fd.Nodup
  lt : ∀ x ∈ fd, x < f.length
  con : ∀ x ∈ fd, Con f s p x
  at0 : p ∈ fd
theorem addN_pre (f s : List Nat) (a : Nat) (fd : List Nat) (o : Nat) : fd <+: addN f s a fd o := by
  unfold addN
  split
  · exact List.prefix_append _ _
  · exact List.prefix_refl _
theorem sweep_pre (f s : List Nat) (a : Nat) (fd : List Nat) : ∀ j, fd <+: sweep f s a fd j
  | 0 => List.prefix_refl _
  | j + 1 => (sweep_pre f s a fd j).trans (addN_pre _ _ _ _ _)
theorem addN_FI {f s : List Nat} {p a o : Nat} {fd : List Nat} (h : FI f s p fd) (ha : a ∈ fd) (ho : o < f.length) : FI f s p (addN f s a fd o) := by
  unfold addN
  split
  · rename_i c
    refine ⟨?_, fun x hx => ?_, fun x hx => ?_, List.mem_append_left _ h.at0⟩
    · rw [List.nodup_append]
      refine ⟨h.nd, by simp, fun x hx y hy => ?_⟩
      simp at hy
      subst hy
      exact fun e => c.1 (e ▸ hx)
    · rcases List.mem_append.mp hx with hx | hx
      · exact h.lt x hx
      · simp at hx; omega
    · rcases List.mem_append.mp hx with hx | hx
      · exact h.con x hx
      · simp at hx
        subst hx
        exact .tail (h.con a ha) (h.lt a ha) ho (c.2.imp Eq.symm Eq.symm)
  · exact h
theorem sweep_FI {f s : List Nat} {p a : Nat} {fd : List Nat} (h : FI f s p fd) (ha : a ∈ fd) : ∀ j, j ≤ f.length → FI f s p (sweep f s a fd j) ∧ ∀ o, o < j → Adj f s o a → o ∈ sweep f s a fd j
  | 0, _ => ⟨h, fun o ho => absurd ho (by omega)⟩
  | j + 1, hj => by
    obtain ⟨h1, h2⟩ := sweep_FI h ha j (by omega)
    refine ⟨addN_FI h1 ((sweep_pre f s a fd j).subset ha) (by omega), fun o ho c => ?_⟩
    by_cases e : o = j
    · subst e
      show o ∈ addN f s a _ o
      unfold addN
      by_cases m : o ∈ sweep f s a fd o
      · rw [if_neg (fun z => z.1 m)]; exact m
      · rw [if_pos ⟨m, c⟩]; exact List.mem_append_right _ (by simp)
    · exact (addN_pre f s a _ j).subset (h2 o (by omega) c)
theorem bfs_FI {f s : List Nat} {p : Nat} (hp : p < f.length) : ∀ k, FI f s p (bfs f s p k) ∧ ∀ i, i < k → i < (bfs f s p k).length → ∀ o, o < f.length → Adj f s o (g (bfs f s p k) i) → o ∈ bfs f s p k
  | 0 => ⟨⟨by show [p].Nodup; simp, fun x hx => by simp [bfs] at hx; omega, fun x hx => by simp [bfs] at hx; subst hx; exact .refl _, by simp [bfs]⟩, fun i h => absurd h (by omega)⟩
  | k + 1 => by
    obtain ⟨h1, h2⟩ := bfs_FI hp k
    unfold bfs
    by_cases c : k < (bfs f s p k).length
    · rw [if_pos c]
      have hmem : g (bfs f s p k) k ∈ bfs f s p k := List.mem_iff_getElem?.mpr ⟨k, g_some c⟩
      obtain ⟨h3, h4⟩ := sweep_FI h1 hmem f.length (Nat.le_refl _)
      refine ⟨h3, fun i hi hil o ho ad => ?_⟩
      have pre := sweep_pre f s (g (bfs f s p k) k) (bfs f s p k) f.length
      have gi : i < (bfs f s p k).length → g (sweep f s (g (bfs f s p k) k) (bfs f s p k) f.length) i = g (bfs f s p k) i := fun hi => by
        apply g_of
        obtain ⟨t, ht⟩ := pre
        rw [← ht, List.getElem?_append_left hi]
        exact g_some hi
      by_cases e : i = k
      · subst e
        rw [gi c] at ad
        exact h4 o ho ad
      · rw [gi (by omega)] at ad
        exact pre.subset (h2 i (by omega) (by omega) o ho ad)
    · rw [if_neg c]
      exact ⟨h1, fun i hi hil o ho ad => h2 i (by omega) hil o ho ad⟩
theorem nodup_le {n : Nat} {l : List Nat} (h : l.Nodup) (hl : ∀ x ∈ l, x < n) : l.length ≤ n := by
  have : l.length ≤ (List.range n).length := List.Nodup.length_le_of_subset h fun x hx => List.mem_range.mpr (hl x hx)
  simpa using this
theorem bfs_all {f s : List Nat} {p q : Nat} (hp : p < f.length) : q ∈ bfs f s p f.length ↔ Con f s p q := by
  obtain ⟨h1, h2⟩ := bfs_FI (s := s) hp f.length
  constructor
  · exact h1.con q
  · intro c
    induction c with
    | refl => exact h1.at0
    | tail _ hq hr ad ih =>
      obtain ⟨i, hi⟩ := List.mem_iff_getElem?.mp ih
      have hil := (List.getElem?_eq_some_iff.mp hi).1
      have hn := nodup_le h1.nd h1.lt
      refine h2 i (by omega) hil _ hr ?_
      rw [g_of hi]
      exact ad.imp Eq.symm Eq.symm
theorem bfs_sort {f s : List Nat} (cf : Cn f) (cs : Cn s) (he : s.length = f.length) {p : Nat} (hp : p < f.length) : sortI ((bfs f s p f.length).map zn) = (lotOf (joinN f s) (g (joinN f s) p)).map zn := by
  obtain ⟨h1, _⟩ := bfs_FI (s := s) hp f.length
  have hl := join_len cf cs he
  refine perm_asc (sortI_perm _ |>.trans ?_) (sortI_asc _) ?_
  · refine List.Perm.map zn ?_
    have nd2 : (lotOf (joinN f s) (g (joinN f s) p)).Nodup := List.Pairwise.filter _ List.nodup_range
    rw [List.perm_ext_iff_of_nodup h1.nd nd2]
    intro q
    rw [bfs_all hp, mem_lotOf, hl]
    constructor
    · intro c
      have hq := h1.lt q ((bfs_all hp).mpr c)
      exact ⟨hq, ((join_iff cf cs he hp hq).mpr c).symm⟩
    · rintro ⟨hq, e⟩
      exact (join_iff cf cs he hp hq).mp e.symm
  · have h : (lotOf (joinN f s) (g (joinN f s) p)).Pairwise (· < ·) := List.Pairwise.filter _ List.pairwise_lt_range
    exact List.Pairwise.map zn (fun a b h => by show (a : Int) ≤ (b : Int); omega) h
end K17

set_option Elab.async false
set_option linter.all false
set_option maxRecDepth 100000
set_option maxHeartbeats 4000000
set_option autoImplicit false
namespace K17
open PySem PySem.Spec L2 DL
def cnt (l r : List Nat) : Nat := (l.filter fun p => decide (p ∈ r)).length
theorem lotOf_asc (ns : List Nat) (v : Nat) : (lotOf ns v).Pairwise (· < ·) := List.Pairwise.filter _ List.pairwise_lt_range
theorem lot_head {ns : List Nat} (c : Cn ns) {v : Nat} (hv : v < ns.length) (e : g ns v = v) : (lotOf ns v)[0]? = some v := by
  have hm : v ∈ lotOf ns v := mem_lotOf.mpr ⟨hv, e⟩
  have hge : ∀ p ∈ lotOf ns v, v ≤ p := fun p hp => by
    obtain ⟨h1, h2⟩ := mem_lotOf.mp hp
    have := c.le h1
    omega
  have ha := lotOf_asc ns v
  cases q : lotOf ns v with
  | nil => rw [q] at hm; cases hm
  | cons x t =>
    rw [q] at hm hge ha
    rw [List.pairwise_cons] at ha
    rcases List.mem_cons.mp hm with h | h
    · simp [h]
    · have := ha.1 v h
      have := hge x List.mem_cons_self
      omega
def whole (f s : List Nat) (a : Nat) : List Nat := lotOf (joinN f s) (g (joinN f s) a)
section
variable {f s : List Nat} (cf : Cn f) (cs : Cn s) (he : s.length = f.length)
include cf cs he
theorem whole_mem {a p : Nat} : p ∈ whole f s a ↔ p < f.length ∧ g (joinN f s) p = g (joinN f s) a := by
  unfold whole
  rw [mem_lotOf, join_len cf cs he]
theorem whole_head {a : Nat} (ha : a < f.length) : (whole f s a)[0]? = some (g (joinN f s) a) := by
  have cj := join_Cn cf cs he
  have hl := join_len cf cs he
  exact lot_head cj (cj.lt (by rw [hl]; exact ha)) (cj.idem (by rw [hl]; exact ha))
theorem whole_len {a : Nat} : (whole f s a).length ≤ f.length := by
  unfold whole lotOf
  rw [join_len cf cs he]
  exact Nat.le_trans (List.length_filter_le _ _) (by rw [List.length_range]; exact Nat.le_refl _)
theorem whole_eq (a : Nat) : whole f s a = (List.range f.length).filter fun p => decide (g (joinN f s) p = g (joinN f s) a) := by
  unfold whole
  rw [lotOf_g, join_len cf cs he]
theorem whole_f {a : Nat} (ha : a < f.length) (hr : g f a = a) : ((whole f s a).filter fun p => decide (g f p = a)) = lotOf f a := by
  rw [whole_eq cf cs he, List.filter_filter, lotOf_g]
  refine List.filter_congr fun p hp => ?_
  have hp := List.mem_range.mp hp
  by_cases c : g f p = a
  · have : g (joinN f s) p = g (joinN f s) a := (join_JI cf cs he).ff p a hp ha (by rw [c, hr])
    simp [c, this]
  · simp [c]
theorem whole_s {a b : Nat} (hb : b ∈ whole f s a) (hr : g s b = b) : ((whole f s a).filter fun p => decide (g s p = b)) = lotOf s b := by
  obtain ⟨hb1, hb2⟩ := (whole_mem cf cs he).mp hb
  rw [whole_eq cf cs he, List.filter_filter, lotOf_g, he]
  refine List.filter_congr fun p hp => ?_
  have hp := List.mem_range.mp hp
  by_cases c : g s p = b
  · have : g (joinN f s) p = g (joinN f s) b := join_ss cf cs he hp hb1 (by rw [c, hr])
    rw [hb2] at this
    simp [c, this]
  · simp [c]
theorem whole_c {a b : Nat} (ha : a < f.length) (hr : g f a = a) : ((whole f s a).filter fun p => decide (g f p = a) && decide (g s p = b)).length = cnt (lotOf f a) (lotOf s b) := by
  unfold cnt
  rw [← whole_f cf cs he ha hr, List.filter_filter]
  congr 1
  refine List.filter_congr fun p hp => ?_
  obtain ⟨h1, _⟩ := (whole_mem cf cs he).mp hp
  have : decide (p ∈ lotOf s b) = decide (g s p = b) := by
    have : p ∈ lotOf s b ↔ g s p = b := by rw [mem_lotOf, he]; simp [h1]
    simp [this]
  rw [this, Bool.and_comm]
theorem reps_whole (a : Nat) : ((reps s).filter fun b => decide (b ∈ whole f s a)) = (whole f s a).filter fun b => decide (g s b = b) := by
  rw [reps_g, List.filter_filter, he]
  have : ∀ b, decide (b ∈ whole f s a) = (decide (b < f.length) && decide (g (joinN f s) b = g (joinN f s) a)) := fun b => by
    have := whole_mem cf cs he (a := a) (p := b)
    by_cases c : b ∈ whole f s a
    · have h := this.mp c
      simp [c, h]
    · by_cases h1 : b < f.length <;> by_cases h2 : g (joinN f s) b = g (joinN f s) a <;> simp_all
  refine Eq.trans (List.filter_congr fun p _ => by rw [this p]) ?_
  rw [whole_eq cf cs he, List.filter_filter]
  refine List.filter_congr fun p hp => ?_
  have hp := List.mem_range.mp hp
  simp only [hp, decide_true, Bool.true_and]
  rw [Bool.and_comm]
end
def rowL (f s : List Nat) (a b : Nat) : List Nat := [a, b, g (joinN f s) a, cnt (lotOf f a) (lotOf s b), (lotOf f a).length, (lotOf s b).length, (whole f s a).length]
def rowsA (f s : List Nat) (a : Nat) : List (List Nat) := ((whole f s a).filter fun b => decide (g s b = b)).map (rowL f s a)
def rowsR (f s : List Nat) : List (List Nat) := (reps f).flatMap (rowsA f s)
def rowsD (f s : List Nat) : D := .lst ((rowsR f s).map nmD)
theorem flat_le {α : Type} (k : List Nat → Nat) : True := trivial
theorem flatMap_len (l : List Nat) (h : Nat → List (List Nat)) (n : Nat) (hn : ∀ a ∈ l, (h a).length ≤ n) : (l.flatMap h).length ≤ l.length * n := by
  induction l with
  | nil => simp
  | cons x l ih =>
    rw [List.flatMap_cons, List.length_append, List.length_cons, Nat.succ_mul]
    have := ih fun a ha => hn a (List.mem_cons_of_mem _ ha)
    have := hn x List.mem_cons_self
    omega
theorem rowsA_len {f s : List Nat} (cf : Cn f) (cs : Cn s) (he : s.length = f.length) (a : Nat) : (rowsA f s a).length ≤ f.length := by
  unfold rowsA
  rw [List.length_map]
  exact Nat.le_trans (List.length_filter_le _ _) (whole_len cf cs he)
theorem reps_len (f : List Nat) : (reps f).length ≤ f.length := by
  unfold reps
  exact Nat.le_trans (List.length_filter_le _ _) (by rw [List.length_range]; exact Nat.le_refl _)
theorem rows_len {f s : List Nat} (cf : Cn f) (cs : Cn s) (he : s.length = f.length) (h16 : f.length ≤ 16) : (rowsR f s).length ≤ 256 := by
  have h1 := flatMap_len (reps f) (rowsA f s) 16 fun a _ => Nat.le_trans (rowsA_len cf cs he a) h16
  have h2 := reps_len f
  unfold rowsR
  omega
end K17

set_option Elab.async false
set_option linter.all false
set_option maxRecDepth 100000
set_option maxHeartbeats 4000000
set_option autoImplicit false
namespace K17
open PySem PySem.Spec L2 DL
theorem w_nmI {ns : List Nat} {k : Nat} {S : Sto} {Q : D → Sto → Prop} (h : k < ns.length) : wp (gIx (nmD ns) (.int (k : Nat)) S) Q = Q (.int (g ns k : Nat)) S := by
  unfold nmD
  rw [wp_ixT, nm_at (g_some h)]
  simp
theorem w_lsI {ns : List Nat} {k : Nat} {S : Sto} {Q : D → Sto → Prop} (h : k < ns.length) : wp (gIx (.lst (ns.map inD)) (.int (k : Nat)) S) Q = Q (.int (g ns k : Nat)) S := by
  rw [wp_ix, nm_at (g_some h)]
  simp
theorem w_nmL {l : List Nat} {S : Sto} {Q : D → Sto → Prop} : wp (pureC lenC [nmD l] S) Q = Q (.int (l.length : Nat)) S := by unfold nmD; rw [w_lenT, List.length_map]
theorem w_nmS {l : List Nat} {S : Sto} {Q : List D → Sto → Prop} : wp (seqOf (nmD l) S) Q = Q (l.map inD) S := by unfold nmD; rw [w_seqT]
theorem w_nmG {l : List Nat} {S : Sto} {Q : List D → Sto → Prop} : wp (gList [nmD l] S) Q = Q (l.map inD) S := by unfold nmD; rw [w_listT]
theorem w_enT {l : List Nat} {n : Nat} {ρ : List L} {S : Sto} {Q : List D → Sto → Prop} (h : ρ[n]? = some (.d (nmD l))) : wp (mEnumT (mCons (mVar n) mNil) ρ S) Q = Q (enumD (l.map inD)) S := by
  unfold mEnumT
  rw [wp_bind, w_cons, w_var, h, varQ_d, w_nil]
  unfold nmD
  exact wp_ok
theorem mapIn_at {l : List Nat} {k : Nat} {d : D} (h : (l.map inD)[k]? = some d) : k < l.length ∧ d = .int (g l k : Nat) := by
  rw [List.getElem?_map] at h
  cases q : l[k]? with
  | none => rw [q] at h; cases h
  | some v =>
    rw [q] at h
    cases h
    exact ⟨(List.getElem?_eq_some_iff.mp q).1, by rw [g_of q]; rfl⟩
theorem enumIn_at {l : List Nat} {k : Nat} {d : D} (h : (enumD (l.map inD))[k]? = some d) : k < l.length ∧ d = .pr [.int (k : Nat), .int (g l k : Nat)] := by
  rw [enumD_get] at h
  cases q : (l.map inD)[k]? with
  | none => rw [q] at h; cases h
  | some v =>
    rw [q] at h
    cases h
    obtain ⟨h1, rfl⟩ := mapIn_at q
    exact ⟨h1, rfl⟩
theorem minE (a b : Nat) : (if (b : Int) < (a : Int) then (b : Int) else (a : Int)) = ((min a b : Nat) : Int) := by split <;> omega
theorem maxE (a b : Nat) : (if (b : Int) > (a : Int) then (b : Int) else (a : Int)) = ((max a b : Nat) : Int) := by split <;> omega
theorem joined_ok (f s : List Nat) (cf : Cn f) (cs : Cn s) (he : s.length = f.length) (h16 : f.length ≤ 16) (S : Sto) : wp (m_joined_names [nmD f, nmD s] S) fun r S' => r = .d (.lst ((joinN f s).map inD)) := by
  refine wp_run [.d (nmD f), .d (nmD s), .un, .un, .un, .un, .un, .un] rfl ?_
  unfold b_joined_names
  rw [wp_seq, w_set]
  simp only [wp_seq, w_set, w_setO, w_m2, w_m1, w_var, varQ_d, w_c, w_nil, w_cons, w_cb, w_cbo, w_int, w_intB, w_abs, w_max, w_min, w_lenL, w_lenT, w_B, w_and, w_or, w_not, w_ifs, w_if, w_ret, w_retO, w_next, w_tup, w_lst, w_frz, w_andV, w_notV, stQ_st, w_st1, w_st2, w_st3, w_st4, w_st5, w_cells, w_stS, lawB_law, setQ1, setQ2, setQ3, setQ5, w_for, w_range1, rngQ_int, w_seqI, w_seqL, w_seqT, w_lc, w_call0d, w_call1, w_meth, w_own, w_drop, stepQ_nx, stepQ_bk, stepQ_rt, wp_ok, wp_bad, sq_nx, sq_rt, sq_ro, wp_add, wp_sub, wp_lt, wp_le, wp_gt, wp_ge, wp_mul, wp_mod, wp_fdiv, wp_pow, wp_ix, wp_ixT, wp_toB, wp_noX, wp_eqI, wp_neI, List.set_cons_zero, List.set_cons_succ, List.getElem?_cons_zero, List.getElem?_cons_succ, List.length_map, List.append_nil, List.cons_append, List.nil_append, if_true, decide_eq_true_eq, Bool.false_eq_true, if_false, wipeL, w_mbrk, Bool.not_true, Bool.not_false, decide_true, decide_false, true_and, and_true, Res.toD, w_bad, v_lenO, ixQ_int, v_ixO, v_app, v_ext, v_retV, v_borB, v_gh, borL, List.map_cons, List.map_nil, unS_d, unS_un, unS_st, unS_own, ownQ_own, setIQ_int, v_setI, v_call0O, resO_own, Bool.and_self, Bool.and_true, Bool.true_and, Bool.and_false, Bool.false_and, w_slL, w_slT, slQ_l, slQ_t, w_noP, w_pt, intQ_int, w_catT, w_catL, wp_catL, w_cnt, tupQ_t, w_tru, w_truL, w_nmG]
  rw [w_enT (l := s) rfl]
  refine forD_inv _ (fun k ρ S' => ∃ l3 l4 l5 l6 l7, ρ = [.d (nmD f), .d (nmD s), .d (.lst ((jn f s k).map inD)), l3, l4, l5, l6, l7]) _ _ ⟨_, _, _, _, _, rfl⟩ ?_ ?_
  · rintro k d ρ S2 hk ⟨l3, l4, l5, l6, l7, rfl⟩
    obtain ⟨hks, rfl⟩ := enumIn_at hk
    have hJ := jn_JI cf cs he k (by omega)
    have hk1 : k < (jn f s k).length := by rw [hJ.len]; omega
    have hk2 : g s k < (jn f s k).length := by rw [hJ.len]; have := cs.lt hks; omega
    refine ⟨_, rfl, ?_⟩
    show wp (mSeq _ _ ([.d (nmD f), .d (nmD s), .d (.lst ((jn f s k).map inD)), .d (.int (k : Nat)), .d (.int (g s k : Nat)), l5, l6, l7] : List L) S2) _
    simp only [wp_seq, w_set, w_setO, w_m2, w_m1, w_var, varQ_d, w_c, w_nil, w_cons, w_cb, w_cbo, w_int, w_intB, w_abs, w_max, w_min, w_lenL, w_lenT, w_B, w_and, w_or, w_not, w_ifs, w_if, w_ret, w_retO, w_next, w_tup, w_lst, w_frz, w_andV, w_notV, stQ_st, w_st1, w_st2, w_st3, w_st4, w_st5, w_cells, w_stS, lawB_law, setQ1, setQ2, setQ3, setQ5, w_for, w_range1, rngQ_int, w_seqI, w_seqL, w_seqT, w_lc, w_call0d, w_call1, w_meth, w_own, w_drop, stepQ_nx, stepQ_bk, stepQ_rt, wp_ok, wp_bad, sq_nx, sq_rt, sq_ro, wp_add, wp_sub, wp_lt, wp_le, wp_gt, wp_ge, wp_mul, wp_mod, wp_fdiv, wp_pow, wp_ix, wp_ixT, wp_toB, wp_noX, wp_eqI, wp_neI, List.set_cons_zero, List.set_cons_succ, List.getElem?_cons_zero, List.getElem?_cons_succ, List.length_map, List.append_nil, List.cons_append, List.nil_append, if_true, decide_eq_true_eq, Bool.false_eq_true, if_false, wipeL, w_mbrk, Bool.not_true, Bool.not_false, decide_true, decide_false, true_and, and_true, Res.toD, w_bad, v_lenO, ixQ_int, v_ixO, v_app, v_ext, v_retV, v_borB, v_gh, borL, List.map_cons, List.map_nil, unS_d, unS_un, unS_st, unS_own, ownQ_own, setIQ_int, v_setI, v_call0O, resO_own, Bool.and_self, Bool.and_true, Bool.true_and, Bool.and_false, Bool.false_and, w_slL, w_slT, slQ_l, slQ_t, w_noP, w_pt, intQ_int, w_catT, w_catL, wp_catL, w_cnt, tupQ_t, w_tru, w_truL, w_lsI hk1, w_lsI hk2, minE, maxE]
    have hl : line (jn f s k).length = true := by rw [hJ.len]; simp only [line, decide_eq_true_eq]; omega
    have hj : jn f s (k + 1) = jst (jn f s k) k (g s k) := rfl
    by_cases c : min (g (jn f s k) k) (g (jn f s k) (g s k)) = max (g (jn f s k) k) (g (jn f s k) (g s k))
    · rw [if_neg (by rw [c]; simp)]
      have : jst (jn f s k) k (g s k) = jn f s k := by
        unfold jst
        rw [c]
        refine (List.map_congr_left fun x _ => ?_).trans (List.map_id _)
        split <;> simp_all
      rw [hj, this]
      exact ⟨_, _, _, _, _, rfl⟩
    · rw [if_pos (by omega)]
      refine ⟨hl, ?_⟩
      refine comp_map (fun d => match d with | .int z => .int (if z = (max (g (jn f s k) k) (g (jn f s k) (g s k)) : Nat) then ((min (g (jn f s k) k) (g (jn f s k) (g s k)) : Nat) : Int) else z) | d => d) _ (fun d hd => ?_) ?_
      · obtain ⟨v, hv, rfl⟩ := List.mem_map.mp hd
        refine ⟨_, rfl, ?_⟩
        show wp (mIf _ _ _ ([.d (nmD f), .d (nmD s), .d (.lst ((jn f s k).map inD)), .d (.int (k : Nat)), .d (.int (g s k : Nat)), _, _, .d (inD v)] : List L) S2) _
        unfold inD
        simp only [wp_seq, w_set, w_setO, w_m2, w_m1, w_var, varQ_d, w_c, w_nil, w_cons, w_cb, w_cbo, w_int, w_intB, w_abs, w_max, w_min, w_lenL, w_lenT, w_B, w_and, w_or, w_not, w_ifs, w_if, w_ret, w_retO, w_next, w_tup, w_lst, w_frz, w_andV, w_notV, stQ_st, w_st1, w_st2, w_st3, w_st4, w_st5, w_cells, w_stS, lawB_law, setQ1, setQ2, setQ3, setQ5, w_for, w_range1, rngQ_int, w_seqI, w_seqL, w_seqT, w_lc, w_call0d, w_call1, w_meth, w_own, w_drop, stepQ_nx, stepQ_bk, stepQ_rt, wp_ok, wp_bad, sq_nx, sq_rt, sq_ro, wp_add, wp_sub, wp_lt, wp_le, wp_gt, wp_ge, wp_mul, wp_mod, wp_fdiv, wp_pow, wp_ix, wp_ixT, wp_toB, wp_noX, wp_eqI, wp_neI, List.set_cons_zero, List.set_cons_succ, List.getElem?_cons_zero, List.getElem?_cons_succ, List.length_map, List.append_nil, List.cons_append, List.nil_append, if_true, decide_eq_true_eq, Bool.false_eq_true, if_false, wipeL, w_mbrk, Bool.not_true, Bool.not_false, decide_true, decide_false, true_and, and_true, Res.toD, w_bad, v_lenO, ixQ_int, v_ixO, v_app, v_ext, v_retV, v_borB, v_gh, borL, List.map_cons, List.map_nil, unS_d, unS_un, unS_st, unS_own, ownQ_own, setIQ_int, v_setI, v_call0O, resO_own, Bool.and_self, Bool.and_true, Bool.true_and, Bool.and_false, Bool.false_and, w_slL, w_slT, slQ_l, slQ_t, w_noP, w_pt, intQ_int, w_catT, w_catL, wp_catL, w_cnt, tupQ_t, w_tru, w_truL]
        split <;> simp_all
      · rw [hj]
        unfold jst
        rw [List.map_map, List.map_map]
        have : (List.map ((fun d => match d with | .int z => .int (if z = (max (g (jn f s k) k) (g (jn f s k) (g s k)) : Nat) then ((min (g (jn f s k) k) (g (jn f s k) (g s k)) : Nat) : Int) else z) | d => d) ∘ inD) (jn f s k)) = List.map (inD ∘ fun x => if x = max (g (jn f s k) k) (g (jn f s k) (g s k)) then min (g (jn f s k) k) (g (jn f s k) (g s k)) else x) (jn f s k) := by
          refine List.map_congr_left fun x _ => ?_
          simp only [Function.comp, inD]
          congr 1
          split <;> split <;> omega
        rw [this]
        exact ⟨_, _, _, _, _, rfl⟩
  · rintro ρ S2 ⟨l3, l4, l5, l6, l7, rfl⟩
    rw [enumD_len, List.length_map]
    simp only [wp_seq, w_set, w_setO, w_m2, w_m1, w_var, varQ_d, w_c, w_nil, w_cons, w_cb, w_cbo, w_int, w_intB, w_abs, w_max, w_min, w_lenL, w_lenT, w_B, w_and, w_or, w_not, w_ifs, w_if, w_ret, w_retO, w_next, w_tup, w_lst, w_frz, w_andV, w_notV, stQ_st, w_st1, w_st2, w_st3, w_st4, w_st5, w_cells, w_stS, lawB_law, setQ1, setQ2, setQ3, setQ5, w_for, w_range1, rngQ_int, w_seqI, w_seqL, w_seqT, w_lc, w_call0d, w_call1, w_meth, w_own, w_drop, stepQ_nx, stepQ_bk, stepQ_rt, wp_ok, wp_bad, sq_nx, sq_rt, sq_ro, wp_add, wp_sub, wp_lt, wp_le, wp_gt, wp_ge, wp_mul, wp_mod, wp_fdiv, wp_pow, wp_ix, wp_ixT, wp_toB, wp_noX, wp_eqI, wp_neI, List.set_cons_zero, List.set_cons_succ, List.getElem?_cons_zero, List.getElem?_cons_succ, List.length_map, List.append_nil, List.cons_append, List.nil_append, if_true, decide_eq_true_eq, Bool.false_eq_true, if_false, wipeL, w_mbrk, Bool.not_true, Bool.not_false, decide_true, decide_false, true_and, and_true, Res.toD, w_bad, v_lenO, ixQ_int, v_ixO, v_app, v_ext, v_retV, v_borB, v_gh, borL, List.map_cons, List.map_nil, unS_d, unS_un, unS_st, unS_own, ownQ_own, setIQ_int, v_setI, v_call0O, resO_own, Bool.and_self, Bool.and_true, Bool.true_and, Bool.and_false, Bool.false_and, w_slL, w_slT, slQ_l, slQ_t, w_noP, w_pt, intQ_int, w_catT, w_catL, wp_catL, w_cnt, tupQ_t, w_tru, w_truL]
    rfl
theorem make_ok {cP : Addr} {ns : List Nat} {p : Nat} {φl : Ph (List D)} {ρ : List L} {S : Sto} (hn : Nm ns p) (h1 : 1 ≤ p) (hl : p ≤ 16) (h : φl ρ S = .ok [.lst (ns.map inD)] S) : mMake cP (m_Parting_init cP) φl ρ S = .ok (ptD cP ns) S := by
  obtain ⟨S', e, hm⟩ := init_ok cP ns hn.cn (by rw [hn.len]; exact h1) (by rw [hn.len]; exact hl)
  unfold mMake
  rw [h]
  show (match m_Parting_init cP [.lst (ns.map inD)] (stoC cP) with
    | .ok (.d .non) S2 => (match S2.mode with
      | .ob o => Out.ok (D.obj o.C o.ns o.ds) S
      | _ => .bad)
    | .exc x _ _ => .exc x ρ S
    | _ => .bad) = _
  rw [e]
  show (match S'.mode with
      | .ob o => Out.ok (D.obj o.C o.ns o.ds) S
      | _ => .bad) = _
  rw [hm]
  rfl
theorem getF_pt (cP : Addr) (f : Str) (ns : List Nat) : getF cP f (ptD cP ns) = (ptN.zip [.int (ns.length : Nat), .int ((lots ns).length : Nat), nmD ns, lotsD ns, sizesD ns]).lookup f := by
  show (if cP = cP then _ else none) = _
  rw [if_pos rfl]
theorem g_plots (cP : Addr) (ns : List Nat) (S : Sto) : gFld cP "plots" (ptD cP ns) S = .ok (.int (ns.length : Nat)) S := by
  unfold gFld; rw [getF_pt]; rfl
theorem g_names (cP : Addr) (ns : List Nat) (S : Sto) : gFld cP "names" (ptD cP ns) S = .ok (nmD ns) S := by
  unfold gFld; rw [getF_pt]; rfl
theorem g_lots (cP : Addr) (ns : List Nat) (S : Sto) : gFld cP "lots" (ptD cP ns) S = .ok (lotsD ns) S := by
  unfold gFld; rw [getF_pt]; rfl

theorem isObj_pt (cP : Addr) (ns : List Nat) : DL.isObj cP (ptD cP ns) = true := by unfold ptD DL.isObj; simp
theorem objOk_pt (cP : Addr) (m : Str) (ns : List Nat) (h : m ∉ ptN) : objOk cP m (ptD cP ns) = true := by unfold ptD objOk; simp [h]
theorem w_pl {cP : Addr} {ns : List Nat} {S : Sto} {Q : D → Sto → Prop} : wp (gFld cP "plots" (ptD cP ns) S) Q = Q (.int (ns.length : Nat)) S := wp_is1 (g_plots cP ns S)
theorem w_na {cP : Addr} {ns : List Nat} {S : Sto} {Q : D → Sto → Prop} : wp (gFld cP "names" (ptD cP ns) S) Q = Q (nmD ns) S := wp_is1 (g_names cP ns S)
theorem w_lo {cP : Addr} {ns : List Nat} {S : Sto} {Q : D → Sto → Prop} : wp (gFld cP "lots" (ptD cP ns) S) Q = Q (lotsD ns) S := wp_is1 (g_lots cP ns S)
theorem w_loS {ns : List Nat} {S : Sto} {Q : List D → Sto → Prop} : wp (seqOf (lotsD ns) S) Q = Q ((lots ns).map nmD) S := by unfold lotsD; rw [w_seqT]
theorem inF_in (p : Nat) (r : List Nat) : inF (.int (p : Nat)) (r.map inD) = decide (p ∈ r) := by
  unfold inF
  induction r with
  | nil => simp
  | cons x l ih =>
    rw [List.map_cons, List.any_cons, ih]
    have : eqF (inD x) (.int (p : Nat)) = decide (x = p) := by
      unfold inD eqF
      by_cases h : x = p
      · simp [h]
      · have h' : ¬ ((x : Int) = (p : Int)) := by omega
        simp [h, h']
    rw [this]
    by_cases h : x = p
    · simp [h]
    · have h2 : ¬ p = x := fun e => h e.symm
      simp [h, h2]
theorem flat_in (r : List Nat) : (r.map inD).all flatD = true := by
  rw [List.all_eq_true]
  intro d hd
  obtain ⟨k, _, rfl⟩ := List.mem_map.mp hd
  rfl
theorem w_inN {p : Nat} {r : List Nat} {S : Sto} {Q : D → Sto → Prop} : wp (pure2 (in2 false) (.int (p : Nat)) (nmD r) S) Q = Q (.bl (decide (p ∈ r))) S := by
  refine wp_is1 ?_
  unfold pure2 in2 nmD
  simp only
  rw [if_pos ⟨rfl, flat_in r⟩]
  simp only [Bool.false_eq_true, if_false, inF_in]
def pIn (p : Nat) : D → Bool
  | .tup ds => inF (.int (p : Nat)) ds
  | _ => false
theorem pIn_nm (p : Nat) (l : List Nat) : pIn p (nmD l) = decide (p ∈ l) := inF_in p l
theorem filt_in (l r : List Nat) : (((l.map inD).filter (pD fun p => decide (p ∈ r))).map id).length = cnt l r := by
  rw [List.map_id, List.filter_map, List.length_map]
  unfold cnt
  congr 1
theorem place_ok (n p : Nat) (h : p < n) (S : Sto) : wp (m_is_place [.int (n : Nat), .int (p : Nat)] S) fun r _ => r = .d (.bl true) := by
  refine wp_run [.d (.int (n : Nat)), .d (.int (p : Nat))] rfl ?_
  unfold b_is_place
  rw [w_ret, w_andV]
  simp only [wp_seq, w_set, w_setO, w_m2, w_m1, w_var, varQ_d, w_c, w_nil, w_cons, w_cb, w_cbo, w_int, w_intB, w_abs, w_max, w_min, w_lenL, w_lenT, w_B, w_and, w_or, w_not, w_ifs, w_if, w_ret, w_retO, w_next, w_tup, w_lst, w_frz, w_andV, w_notV, stQ_st, w_st1, w_st2, w_st3, w_st4, w_st5, w_cells, w_stS, lawB_law, setQ1, setQ2, setQ3, setQ5, w_for, w_range1, rngQ_int, w_seqI, w_seqL, w_seqT, w_lc, w_call0d, w_call1, w_meth, w_own, w_drop, stepQ_nx, stepQ_bk, stepQ_rt, wp_ok, wp_bad, sq_nx, sq_rt, sq_ro, wp_add, wp_sub, wp_lt, wp_le, wp_gt, wp_ge, wp_mul, wp_mod, wp_fdiv, wp_pow, wp_ix, wp_ixT, wp_toB, wp_noX, wp_eqI, wp_neI, List.set_cons_zero, List.set_cons_succ, List.getElem?_cons_zero, List.getElem?_cons_succ, List.length_map, List.append_nil, List.cons_append, List.nil_append, if_true, decide_eq_true_eq, Bool.false_eq_true, if_false, wipeL, w_mbrk, Bool.not_true, Bool.not_false, decide_true, decide_false, true_and, and_true, Res.toD, w_bad, v_lenO, ixQ_int, v_ixO, v_app, v_ext, v_retV, v_borB, v_gh, borL, List.map_cons, List.map_nil, unS_d, unS_un, unS_st, unS_own, ownQ_own, setIQ_int, v_setI, v_call0O, resO_own, Bool.and_self, Bool.and_true, Bool.true_and, Bool.and_false, Bool.false_and, w_slL, w_slT, slQ_l, slQ_t, w_noP, w_pt, intQ_int, w_catT, w_catL, wp_catL, w_cnt, tupQ_t, w_tru, w_truL]
  refine wp.of (whole_ok (p : Nat) sto0) ?_
  simp only [wp_seq, w_set, w_setO, w_m2, w_m1, w_var, varQ_d, w_c, w_nil, w_cons, w_cb, w_cbo, w_int, w_intB, w_abs, w_max, w_min, w_lenL, w_lenT, w_B, w_and, w_or, w_not, w_ifs, w_if, w_ret, w_retO, w_next, w_tup, w_lst, w_frz, w_andV, w_notV, stQ_st, w_st1, w_st2, w_st3, w_st4, w_st5, w_cells, w_stS, lawB_law, setQ1, setQ2, setQ3, setQ5, w_for, w_range1, rngQ_int, w_seqI, w_seqL, w_seqT, w_lc, w_call0d, w_call1, w_meth, w_own, w_drop, stepQ_nx, stepQ_bk, stepQ_rt, wp_ok, wp_bad, sq_nx, sq_rt, sq_ro, wp_add, wp_sub, wp_lt, wp_le, wp_gt, wp_ge, wp_mul, wp_mod, wp_fdiv, wp_pow, wp_ix, wp_ixT, wp_toB, wp_noX, wp_eqI, wp_neI, List.set_cons_zero, List.set_cons_succ, List.getElem?_cons_zero, List.getElem?_cons_succ, List.length_map, List.append_nil, List.cons_append, List.nil_append, if_true, decide_eq_true_eq, Bool.false_eq_true, if_false, wipeL, w_mbrk, Bool.not_true, Bool.not_false, decide_true, decide_false, true_and, and_true, Res.toD, w_bad, v_lenO, ixQ_int, v_ixO, v_app, v_ext, v_retV, v_borB, v_gh, borL, List.map_cons, List.map_nil, unS_d, unS_un, unS_st, unS_own, ownQ_own, setIQ_int, v_setI, v_call0O, resO_own, Bool.and_self, Bool.and_true, Bool.true_and, Bool.and_false, Bool.false_and, w_slL, w_slT, slQ_l, slQ_t, w_noP, w_pt, intQ_int, w_catT, w_catL, wp_catL, w_cnt, tupQ_t, w_tru, w_truL]
  refine w_chain ?_
  simp only [wp_seq, w_set, w_setO, w_m2, w_m1, w_var, varQ_d, w_c, w_nil, w_cons, w_cb, w_cbo, w_int, w_intB, w_abs, w_max, w_min, w_lenL, w_lenT, w_B, w_and, w_or, w_not, w_ifs, w_if, w_ret, w_retO, w_next, w_tup, w_lst, w_frz, w_andV, w_notV, stQ_st, w_st1, w_st2, w_st3, w_st4, w_st5, w_cells, w_stS, lawB_law, setQ1, setQ2, setQ3, setQ5, w_for, w_range1, rngQ_int, w_seqI, w_seqL, w_seqT, w_lc, w_call0d, w_call1, w_meth, w_own, w_drop, stepQ_nx, stepQ_bk, stepQ_rt, wp_ok, wp_bad, sq_nx, sq_rt, sq_ro, wp_add, wp_sub, wp_lt, wp_le, wp_gt, wp_ge, wp_mul, wp_mod, wp_fdiv, wp_pow, wp_ix, wp_ixT, wp_toB, wp_noX, wp_eqI, wp_neI, List.set_cons_zero, List.set_cons_succ, List.getElem?_cons_zero, List.getElem?_cons_succ, List.length_map, List.append_nil, List.cons_append, List.nil_append, if_true, decide_eq_true_eq, Bool.false_eq_true, if_false, wipeL, w_mbrk, Bool.not_true, Bool.not_false, decide_true, decide_false, true_and, and_true, Res.toD, w_bad, v_lenO, ixQ_int, v_ixO, v_app, v_ext, v_retV, v_borB, v_gh, borL, List.map_cons, List.map_nil, unS_d, unS_un, unS_st, unS_own, ownQ_own, setIQ_int, v_setI, v_call0O, resO_own, Bool.and_self, Bool.and_true, Bool.true_and, Bool.and_false, Bool.false_and, w_slL, w_slT, slQ_l, slQ_t, w_noP, w_pt, intQ_int, w_catT, w_catL, wp_catL, w_cnt, tupQ_t, w_tru, w_truL]
  refine ⟨true, by simp, ?_⟩
  simp only [wp_seq, w_set, w_setO, w_m2, w_m1, w_var, varQ_d, w_c, w_nil, w_cons, w_cb, w_cbo, w_int, w_intB, w_abs, w_max, w_min, w_lenL, w_lenT, w_B, w_and, w_or, w_not, w_ifs, w_if, w_ret, w_retO, w_next, w_tup, w_lst, w_frz, w_andV, w_notV, stQ_st, w_st1, w_st2, w_st3, w_st4, w_st5, w_cells, w_stS, lawB_law, setQ1, setQ2, setQ3, setQ5, w_for, w_range1, rngQ_int, w_seqI, w_seqL, w_seqT, w_lc, w_call0d, w_call1, w_meth, w_own, w_drop, stepQ_nx, stepQ_bk, stepQ_rt, wp_ok, wp_bad, sq_nx, sq_rt, sq_ro, wp_add, wp_sub, wp_lt, wp_le, wp_gt, wp_ge, wp_mul, wp_mod, wp_fdiv, wp_pow, wp_ix, wp_ixT, wp_toB, wp_noX, wp_eqI, wp_neI, List.set_cons_zero, List.set_cons_succ, List.getElem?_cons_zero, List.getElem?_cons_succ, List.length_map, List.append_nil, List.cons_append, List.nil_append, if_true, decide_eq_true_eq, Bool.false_eq_true, if_false, wipeL, w_mbrk, Bool.not_true, Bool.not_false, decide_true, decide_false, true_and, and_true, Res.toD, w_bad, v_lenO, ixQ_int, v_ixO, v_app, v_ext, v_retV, v_borB, v_gh, borL, List.map_cons, List.map_nil, unS_d, unS_un, unS_st, unS_own, ownQ_own, setIQ_int, v_setI, v_call0O, resO_own, Bool.and_self, Bool.and_true, Bool.true_and, Bool.and_false, Bool.false_and, w_slL, w_slT, slQ_l, slQ_t, w_noP, w_pt, intQ_int, w_catT, w_catL, wp_catL, w_cnt, tupQ_t, w_tru, w_truL]
  simp; omega
theorem plot_ok (n p : Nat) (h : p < n) (S : Sto) : wp (m_check_plot [.int (n : Nat), .int (p : Nat)] S) fun _ _ => True := by
  refine wp_run [.d (.int (n : Nat)), .d (.int (p : Nat))] rfl ?_
  unfold b_check_plot
  simp only [wp_seq, w_set, w_setO, w_m2, w_m1, w_var, varQ_d, w_c, w_nil, w_cons, w_cb, w_cbo, w_int, w_intB, w_abs, w_max, w_min, w_lenL, w_lenT, w_B, w_and, w_or, w_not, w_ifs, w_if, w_ret, w_retO, w_next, w_tup, w_lst, w_frz, w_andV, w_notV, stQ_st, w_st1, w_st2, w_st3, w_st4, w_st5, w_cells, w_stS, lawB_law, setQ1, setQ2, setQ3, setQ5, w_for, w_range1, rngQ_int, w_seqI, w_seqL, w_seqT, w_lc, w_call0d, w_call1, w_meth, w_own, w_drop, stepQ_nx, stepQ_bk, stepQ_rt, wp_ok, wp_bad, sq_nx, sq_rt, sq_ro, wp_add, wp_sub, wp_lt, wp_le, wp_gt, wp_ge, wp_mul, wp_mod, wp_fdiv, wp_pow, wp_ix, wp_ixT, wp_toB, wp_noX, wp_eqI, wp_neI, List.set_cons_zero, List.set_cons_succ, List.getElem?_cons_zero, List.getElem?_cons_succ, List.length_map, List.append_nil, List.cons_append, List.nil_append, if_true, decide_eq_true_eq, Bool.false_eq_true, if_false, wipeL, w_mbrk, Bool.not_true, Bool.not_false, decide_true, decide_false, true_and, and_true, Res.toD, w_bad, v_lenO, ixQ_int, v_ixO, v_app, v_ext, v_retV, v_borB, v_gh, borL, List.map_cons, List.map_nil, unS_d, unS_un, unS_st, unS_own, ownQ_own, setIQ_int, v_setI, v_call0O, resO_own, Bool.and_self, Bool.and_true, Bool.true_and, Bool.and_false, Bool.false_and, w_slL, w_slT, slQ_l, slQ_t, w_noP, w_pt, intQ_int, w_catT, w_catL, wp_catL, w_cnt, tupQ_t, w_tru, w_truL]
  refine wp.mono (place_ok n p h sto0) ?_
  rintro _ S' rfl
  simp only [wp_seq, w_set, w_setO, w_m2, w_m1, w_var, varQ_d, w_c, w_nil, w_cons, w_cb, w_cbo, w_int, w_intB, w_abs, w_max, w_min, w_lenL, w_lenT, w_B, w_and, w_or, w_not, w_ifs, w_if, w_ret, w_retO, w_next, w_tup, w_lst, w_frz, w_andV, w_notV, stQ_st, w_st1, w_st2, w_st3, w_st4, w_st5, w_cells, w_stS, lawB_law, setQ1, setQ2, setQ3, setQ5, w_for, w_range1, rngQ_int, w_seqI, w_seqL, w_seqT, w_lc, w_call0d, w_call1, w_meth, w_own, w_drop, stepQ_nx, stepQ_bk, stepQ_rt, wp_ok, wp_bad, sq_nx, sq_rt, sq_ro, wp_add, wp_sub, wp_lt, wp_le, wp_gt, wp_ge, wp_mul, wp_mod, wp_fdiv, wp_pow, wp_ix, wp_ixT, wp_toB, wp_noX, wp_eqI, wp_neI, List.set_cons_zero, List.set_cons_succ, List.getElem?_cons_zero, List.getElem?_cons_succ, List.length_map, List.append_nil, List.cons_append, List.nil_append, if_true, decide_eq_true_eq, Bool.false_eq_true, if_false, wipeL, w_mbrk, Bool.not_true, Bool.not_false, decide_true, decide_false, true_and, and_true, Res.toD, w_bad, v_lenO, ixQ_int, v_ixO, v_app, v_ext, v_retV, v_borB, v_gh, borL, List.map_cons, List.map_nil, unS_d, unS_un, unS_st, unS_own, ownQ_own, setIQ_int, v_setI, v_call0O, resO_own, Bool.and_self, Bool.and_true, Bool.true_and, Bool.and_false, Bool.false_and, w_slL, w_slT, slQ_l, slQ_t, w_noP, w_pt, intQ_int, w_catT, w_catL, wp_catL, w_cnt, tupQ_t, w_tru, w_truL]
theorem counts_ok (cU : Addr) (n : Nat) (ms : List Nat) (h : ∀ m ∈ ms, m = n) (S : Sto) : wp (m_check_counts cU [.int (n : Nat), .lst (ms.map inD)] S) fun _ _ => True := by
  refine wp_run [.d (.int (n : Nat)), .d (.lst (ms.map inD)), .un] rfl ?_
  unfold b_check_counts
  simp only [wp_seq, w_set, w_setO, w_m2, w_m1, w_var, varQ_d, w_c, w_nil, w_cons, w_cb, w_cbo, w_int, w_intB, w_abs, w_max, w_min, w_lenL, w_lenT, w_B, w_and, w_or, w_not, w_ifs, w_if, w_ret, w_retO, w_next, w_tup, w_lst, w_frz, w_andV, w_notV, stQ_st, w_st1, w_st2, w_st3, w_st4, w_st5, w_cells, w_stS, lawB_law, setQ1, setQ2, setQ3, setQ5, w_for, w_range1, rngQ_int, w_seqI, w_seqL, w_seqT, w_lc, w_call0d, w_call1, w_meth, w_own, w_drop, stepQ_nx, stepQ_bk, stepQ_rt, wp_ok, wp_bad, sq_nx, sq_rt, sq_ro, wp_add, wp_sub, wp_lt, wp_le, wp_gt, wp_ge, wp_mul, wp_mod, wp_fdiv, wp_pow, wp_ix, wp_ixT, wp_toB, wp_noX, wp_eqI, wp_neI, List.set_cons_zero, List.set_cons_succ, List.getElem?_cons_zero, List.getElem?_cons_succ, List.length_map, List.append_nil, List.cons_append, List.nil_append, if_true, decide_eq_true_eq, Bool.false_eq_true, if_false, wipeL, w_mbrk, Bool.not_true, Bool.not_false, decide_true, decide_false, true_and, and_true, Res.toD, w_bad, v_lenO, ixQ_int, v_ixO, v_app, v_ext, v_retV, v_borB, v_gh, borL, List.map_cons, List.map_nil, unS_d, unS_un, unS_st, unS_own, ownQ_own, setIQ_int, v_setI, v_call0O, resO_own, Bool.and_self, Bool.and_true, Bool.true_and, Bool.and_false, Bool.false_and, w_slL, w_slT, slQ_l, slQ_t, w_noP, w_pt, intQ_int, w_catT, w_catL, wp_catL, w_cnt, tupQ_t, w_tru, w_truL]
  refine forD_inv _ (fun k ρ S' => ∃ l2, ρ = [.d (.int (n : Nat)), .d (.lst (ms.map inD)), l2]) _ _ ⟨_, rfl⟩ ?_ ?_
  · rintro k d ρ S2 hk ⟨l2, rfl⟩
    obtain ⟨hk', rfl⟩ := mapIn_at hk
    have e : g ms k = n := h _ (List.mem_iff_getElem?.mpr ⟨k, g_some hk'⟩)
    refine ⟨_, rfl, ?_⟩
    show wp (mIfS _ _ _ ([.d (.int (n : Nat)), .d (.lst (ms.map inD)), .d (.int (g ms k : Nat))] : List L) S2) _
    simp only [wp_seq, w_set, w_setO, w_m2, w_m1, w_var, varQ_d, w_c, w_nil, w_cons, w_cb, w_cbo, w_int, w_intB, w_abs, w_max, w_min, w_lenL, w_lenT, w_B, w_and, w_or, w_not, w_ifs, w_if, w_ret, w_retO, w_next, w_tup, w_lst, w_frz, w_andV, w_notV, stQ_st, w_st1, w_st2, w_st3, w_st4, w_st5, w_cells, w_stS, lawB_law, setQ1, setQ2, setQ3, setQ5, w_for, w_range1, rngQ_int, w_seqI, w_seqL, w_seqT, w_lc, w_call0d, w_call1, w_meth, w_own, w_drop, stepQ_nx, stepQ_bk, stepQ_rt, wp_ok, wp_bad, sq_nx, sq_rt, sq_ro, wp_add, wp_sub, wp_lt, wp_le, wp_gt, wp_ge, wp_mul, wp_mod, wp_fdiv, wp_pow, wp_ix, wp_ixT, wp_toB, wp_noX, wp_eqI, wp_neI, List.set_cons_zero, List.set_cons_succ, List.getElem?_cons_zero, List.getElem?_cons_succ, List.length_map, List.append_nil, List.cons_append, List.nil_append, if_true, decide_eq_true_eq, Bool.false_eq_true, if_false, wipeL, w_mbrk, Bool.not_true, Bool.not_false, decide_true, decide_false, true_and, and_true, Res.toD, w_bad, v_lenO, ixQ_int, v_ixO, v_app, v_ext, v_retV, v_borB, v_gh, borL, List.map_cons, List.map_nil, unS_d, unS_un, unS_st, unS_own, ownQ_own, setIQ_int, v_setI, v_call0O, resO_own, Bool.and_self, Bool.and_true, Bool.true_and, Bool.and_false, Bool.false_and, w_slL, w_slT, slQ_l, slQ_t, w_noP, w_pt, intQ_int, w_catT, w_catL, wp_catL, w_cnt, tupQ_t, w_tru, w_truL, e]
    rw [if_neg (by simp)]
    exact ⟨_, rfl⟩
  · rintro ρ S2 _
    trivial
theorem alike_ok (cP cU : Addr) (n : Nat) (s : List Nat) (h : s.length = n) (S : Sto) : wp (m_check_alike cP cU [.int (n : Nat), .lst [ptD cP s]] S) fun _ _ => True := by
  refine wp_run [.d (.int (n : Nat)), .d (.lst [ptD cP s]), .un] rfl ?_
  unfold b_check_alike
  simp only [wp_seq, w_set, w_setO, w_m2, w_m1, w_var, varQ_d, w_c, w_nil, w_cons, w_cb, w_cbo, w_int, w_intB, w_abs, w_max, w_min, w_lenL, w_lenT, w_B, w_and, w_or, w_not, w_ifs, w_if, w_ret, w_retO, w_next, w_tup, w_lst, w_frz, w_andV, w_notV, stQ_st, w_st1, w_st2, w_st3, w_st4, w_st5, w_cells, w_stS, lawB_law, setQ1, setQ2, setQ3, setQ5, w_for, w_range1, rngQ_int, w_seqI, w_seqL, w_seqT, w_lc, w_call0d, w_call1, w_meth, w_own, w_drop, stepQ_nx, stepQ_bk, stepQ_rt, wp_ok, wp_bad, sq_nx, sq_rt, sq_ro, wp_add, wp_sub, wp_lt, wp_le, wp_gt, wp_ge, wp_mul, wp_mod, wp_fdiv, wp_pow, wp_ix, wp_ixT, wp_toB, wp_noX, wp_eqI, wp_neI, List.set_cons_zero, List.set_cons_succ, List.getElem?_cons_zero, List.getElem?_cons_succ, List.length_map, List.append_nil, List.cons_append, List.nil_append, if_true, decide_eq_true_eq, Bool.false_eq_true, if_false, wipeL, w_mbrk, Bool.not_true, Bool.not_false, decide_true, decide_false, true_and, and_true, Res.toD, w_bad, v_lenO, ixQ_int, v_ixO, v_app, v_ext, v_retV, v_borB, v_gh, borL, List.map_cons, List.map_nil, unS_d, unS_un, unS_st, unS_own, ownQ_own, setIQ_int, v_setI, v_call0O, resO_own, Bool.and_self, Bool.and_true, Bool.true_and, Bool.and_false, Bool.false_and, w_slL, w_slT, slQ_l, slQ_t, w_noP, w_pt, intQ_int, w_catT, w_catL, wp_catL, w_cnt, tupQ_t, w_tru, w_truL]
  refine ⟨rfl, ?_⟩
  refine comp_map (fun _ => .int (s.length : Nat)) _ (fun d hd => ?_) ?_
  · simp at hd
    subst hd
    refine ⟨_, rfl, ?_⟩
    show wp (m1 _ _ ([.d (.int (n : Nat)), .d (.lst [ptD cP s]), .d (ptD cP s)] : List L) S) _
    simp only [wp_seq, w_set, w_setO, w_m2, w_m1, w_var, varQ_d, w_c, w_nil, w_cons, w_cb, w_cbo, w_int, w_intB, w_abs, w_max, w_min, w_lenL, w_lenT, w_B, w_and, w_or, w_not, w_ifs, w_if, w_ret, w_retO, w_next, w_tup, w_lst, w_frz, w_andV, w_notV, stQ_st, w_st1, w_st2, w_st3, w_st4, w_st5, w_cells, w_stS, lawB_law, setQ1, setQ2, setQ3, setQ5, w_for, w_range1, rngQ_int, w_seqI, w_seqL, w_seqT, w_lc, w_call0d, w_call1, w_meth, w_own, w_drop, stepQ_nx, stepQ_bk, stepQ_rt, wp_ok, wp_bad, sq_nx, sq_rt, sq_ro, wp_add, wp_sub, wp_lt, wp_le, wp_gt, wp_ge, wp_mul, wp_mod, wp_fdiv, wp_pow, wp_ix, wp_ixT, wp_toB, wp_noX, wp_eqI, wp_neI, List.set_cons_zero, List.set_cons_succ, List.getElem?_cons_zero, List.getElem?_cons_succ, List.length_map, List.append_nil, List.cons_append, List.nil_append, if_true, decide_eq_true_eq, Bool.false_eq_true, if_false, wipeL, w_mbrk, Bool.not_true, Bool.not_false, decide_true, decide_false, true_and, and_true, Res.toD, w_bad, v_lenO, ixQ_int, v_ixO, v_app, v_ext, v_retV, v_borB, v_gh, borL, List.map_cons, List.map_nil, unS_d, unS_un, unS_st, unS_own, ownQ_own, setIQ_int, v_setI, v_call0O, resO_own, Bool.and_self, Bool.and_true, Bool.true_and, Bool.and_false, Bool.false_and, w_slL, w_slT, slQ_l, slQ_t, w_noP, w_pt, intQ_int, w_catT, w_catL, wp_catL, w_cnt, tupQ_t, w_tru, w_truL, w_pl]
  · refine wp.mono (counts_ok cU n [s.length] (by simp [h]) sto0) ?_
    intro _ _ _
    trivial
theorem lots_at {ns : List Nat} {k : Nat} {d : D} (h : ((lots ns).map nmD)[k]? = some d) : ∃ v, (reps ns)[k]? = some v ∧ d = nmD (lotOf ns v) := by
  unfold lots at h
  rw [List.map_map, List.getElem?_map] at h
  cases q : (reps ns)[k]? with
  | none => rw [q] at h; cases h
  | some v => rw [q] at h; cases h; exact ⟨v, rfl, rfl⟩
theorem lot_ok (cP : Addr) (ns : List Nat) (c : Cn ns) (h16 : ns.length ≤ 16) (p : Nat) (h : p < ns.length) (S : Sto) : wp (m_Parting_lot_of cP [ptD cP ns, .int (p : Nat)] S) fun r _ => r = .d (nmD (lotOf ns (g ns p))) := by
  refine wp_run [.d (ptD cP ns), .d (.int (p : Nat)), .un] rfl ?_
  unfold b_Parting_lot_of
  simp only [wp_seq, w_set, w_setO, w_m2, w_m1, w_var, varQ_d, w_c, w_nil, w_cons, w_cb, w_cbo, w_int, w_intB, w_abs, w_max, w_min, w_lenL, w_lenT, w_B, w_and, w_or, w_not, w_ifs, w_if, w_ret, w_retO, w_next, w_tup, w_lst, w_frz, w_andV, w_notV, stQ_st, w_st1, w_st2, w_st3, w_st4, w_st5, w_cells, w_stS, lawB_law, setQ1, setQ2, setQ3, setQ5, w_for, w_range1, rngQ_int, w_seqI, w_seqL, w_seqT, w_lc, w_call0d, w_call1, w_meth, w_own, w_drop, stepQ_nx, stepQ_bk, stepQ_rt, wp_ok, wp_bad, sq_nx, sq_rt, sq_ro, wp_add, wp_sub, wp_lt, wp_le, wp_gt, wp_ge, wp_mul, wp_mod, wp_fdiv, wp_pow, wp_ix, wp_ixT, wp_toB, wp_noX, wp_eqI, wp_neI, List.set_cons_zero, List.set_cons_succ, List.getElem?_cons_zero, List.getElem?_cons_succ, List.length_map, List.append_nil, List.cons_append, List.nil_append, if_true, decide_eq_true_eq, Bool.false_eq_true, if_false, wipeL, w_mbrk, Bool.not_true, Bool.not_false, decide_true, decide_false, true_and, and_true, Res.toD, w_bad, v_lenO, ixQ_int, v_ixO, v_app, v_ext, v_retV, v_borB, v_gh, borL, List.map_cons, List.map_nil, unS_d, unS_un, unS_st, unS_own, ownQ_own, setIQ_int, v_setI, v_call0O, resO_own, Bool.and_self, Bool.and_true, Bool.true_and, Bool.and_false, Bool.false_and, w_slL, w_slT, slQ_l, slQ_t, w_noP, w_pt, intQ_int, w_catT, w_catL, wp_catL, w_cnt, tupQ_t, w_tru, w_truL, w_pl]
  refine wp.mono (plot_ok _ p h sto0) ?_
  intro _ _ _
  have hl : (lots ns).length ≤ 16 := by
    unfold lots
    rw [List.length_map]
    exact Nat.le_trans (reps_len ns) h16
  simp only [wp_seq, w_set, w_setO, w_m2, w_m1, w_var, varQ_d, w_c, w_nil, w_cons, w_cb, w_cbo, w_int, w_intB, w_abs, w_max, w_min, w_lenL, w_lenT, w_B, w_and, w_or, w_not, w_ifs, w_if, w_ret, w_retO, w_next, w_tup, w_lst, w_frz, w_andV, w_notV, stQ_st, w_st1, w_st2, w_st3, w_st4, w_st5, w_cells, w_stS, lawB_law, setQ1, setQ2, setQ3, setQ5, w_for, w_range1, rngQ_int, w_seqI, w_seqL, w_seqT, w_lc, w_call0d, w_call1, w_meth, w_own, w_drop, stepQ_nx, stepQ_bk, stepQ_rt, wp_ok, wp_bad, sq_nx, sq_rt, sq_ro, wp_add, wp_sub, wp_lt, wp_le, wp_gt, wp_ge, wp_mul, wp_mod, wp_fdiv, wp_pow, wp_ix, wp_ixT, wp_toB, wp_noX, wp_eqI, wp_neI, List.set_cons_zero, List.set_cons_succ, List.getElem?_cons_zero, List.getElem?_cons_succ, List.length_map, List.append_nil, List.cons_append, List.nil_append, if_true, decide_eq_true_eq, Bool.false_eq_true, if_false, wipeL, w_mbrk, Bool.not_true, Bool.not_false, decide_true, decide_false, true_and, and_true, Res.toD, w_bad, v_lenO, ixQ_int, v_ixO, v_app, v_ext, v_retV, v_borB, v_gh, borL, List.map_cons, List.map_nil, unS_d, unS_un, unS_st, unS_own, ownQ_own, setIQ_int, v_setI, v_call0O, resO_own, Bool.and_self, Bool.and_true, Bool.true_and, Bool.and_false, Bool.false_and, w_slL, w_slT, slQ_l, slQ_t, w_noP, w_pt, intQ_int, w_catT, w_catL, wp_catL, w_cnt, tupQ_t, w_tru, w_truL, w_lo, w_loS]
  refine ⟨by simp only [line, decide_eq_true_eq]; omega, ?_⟩
  refine comp_filt (pIn p) id _ (fun d hd => ?_) ?_
  · obtain ⟨l, hl, rfl⟩ := List.mem_map.mp hd
    refine ⟨_, rfl, ?_, fun _ => ?_⟩
    · show wp (mB _ ([.d (ptD cP ns), .d (.int (p : Nat)), .d (nmD l)] : List L) S) _
      simp only [wp_seq, w_set, w_setO, w_m2, w_m1, w_var, varQ_d, w_c, w_nil, w_cons, w_cb, w_cbo, w_int, w_intB, w_abs, w_max, w_min, w_lenL, w_lenT, w_B, w_and, w_or, w_not, w_ifs, w_if, w_ret, w_retO, w_next, w_tup, w_lst, w_frz, w_andV, w_notV, stQ_st, w_st1, w_st2, w_st3, w_st4, w_st5, w_cells, w_stS, lawB_law, setQ1, setQ2, setQ3, setQ5, w_for, w_range1, rngQ_int, w_seqI, w_seqL, w_seqT, w_lc, w_call0d, w_call1, w_meth, w_own, w_drop, stepQ_nx, stepQ_bk, stepQ_rt, wp_ok, wp_bad, sq_nx, sq_rt, sq_ro, wp_add, wp_sub, wp_lt, wp_le, wp_gt, wp_ge, wp_mul, wp_mod, wp_fdiv, wp_pow, wp_ix, wp_ixT, wp_toB, wp_noX, wp_eqI, wp_neI, List.set_cons_zero, List.set_cons_succ, List.getElem?_cons_zero, List.getElem?_cons_succ, List.length_map, List.append_nil, List.cons_append, List.nil_append, if_true, decide_eq_true_eq, Bool.false_eq_true, if_false, wipeL, w_mbrk, Bool.not_true, Bool.not_false, decide_true, decide_false, true_and, and_true, Res.toD, w_bad, v_lenO, ixQ_int, v_ixO, v_app, v_ext, v_retV, v_borB, v_gh, borL, List.map_cons, List.map_nil, unS_d, unS_un, unS_st, unS_own, ownQ_own, setIQ_int, v_setI, v_call0O, resO_own, Bool.and_self, Bool.and_true, Bool.true_and, Bool.and_false, Bool.false_and, w_slL, w_slT, slQ_l, slQ_t, w_noP, w_pt, intQ_int, w_catT, w_catL, wp_catL, w_cnt, tupQ_t, w_tru, w_truL, w_inN, pIn_nm]
    · show wp (mVar 2 ([.d (ptD cP ns), .d (.int (p : Nat)), .d (nmD l)] : List L) S) _
      simp only [wp_seq, w_set, w_setO, w_m2, w_m1, w_var, varQ_d, w_c, w_nil, w_cons, w_cb, w_cbo, w_int, w_intB, w_abs, w_max, w_min, w_lenL, w_lenT, w_B, w_and, w_or, w_not, w_ifs, w_if, w_ret, w_retO, w_next, w_tup, w_lst, w_frz, w_andV, w_notV, stQ_st, w_st1, w_st2, w_st3, w_st4, w_st5, w_cells, w_stS, lawB_law, setQ1, setQ2, setQ3, setQ5, w_for, w_range1, rngQ_int, w_seqI, w_seqL, w_seqT, w_lc, w_call0d, w_call1, w_meth, w_own, w_drop, stepQ_nx, stepQ_bk, stepQ_rt, wp_ok, wp_bad, sq_nx, sq_rt, sq_ro, wp_add, wp_sub, wp_lt, wp_le, wp_gt, wp_ge, wp_mul, wp_mod, wp_fdiv, wp_pow, wp_ix, wp_ixT, wp_toB, wp_noX, wp_eqI, wp_neI, List.set_cons_zero, List.set_cons_succ, List.getElem?_cons_zero, List.getElem?_cons_succ, List.length_map, List.append_nil, List.cons_append, List.nil_append, if_true, decide_eq_true_eq, Bool.false_eq_true, if_false, wipeL, w_mbrk, Bool.not_true, Bool.not_false, decide_true, decide_false, true_and, and_true, Res.toD, w_bad, v_lenO, ixQ_int, v_ixO, v_app, v_ext, v_retV, v_borB, v_gh, borL, List.map_cons, List.map_nil, unS_d, unS_un, unS_st, unS_own, ownQ_own, setIQ_int, v_setI, v_call0O, resO_own, Bool.and_self, Bool.and_true, Bool.true_and, Bool.and_false, Bool.false_and, w_slL, w_slT, slQ_l, slQ_t, w_noP, w_pt, intQ_int, w_catT, w_catL, wp_catL, w_cnt, tupQ_t, w_tru, w_truL]
      simp
  · have e : (List.filter (pIn p) ((lots ns).map nmD)) = ((reps ns).filter fun v => decide (g ns p = v)).map fun v => nmD (lotOf ns v) := by
      unfold lots
      rw [List.map_map, List.filter_map]
      have : (reps ns).filter (pIn p ∘ nmD ∘ lotOf ns) = (reps ns).filter fun v => decide (g ns p = v) := by
        refine List.filter_congr fun v _ => ?_
        show pIn p (nmD (lotOf ns v)) = _
        rw [pIn_nm]
        have := mem_lotOf (ns := ns) (v := v) (p := p)
        simp [this, h]
      rw [this]
      rfl
    rw [List.map_id, e]
    have hm : g ns p ∈ (reps ns).filter fun v => decide (g ns p = v) := List.mem_filter.mpr ⟨mem_reps.mpr ⟨c.lt h, c.idem h⟩, by simp⟩
    cases q : (reps ns).filter fun v => decide (g ns p = v) with
    | nil => rw [q] at hm; cases hm
    | cons v t =>
      have hv : v ∈ (reps ns).filter fun v => decide (g ns p = v) := by rw [q]; exact List.mem_cons_self
      have hv := (List.mem_filter.mp hv).2
      simp at hv
      refine ⟨nmD (lotOf ns v), atL (k := 0) rfl, ?_⟩
      rw [hv]
theorem or_ok (cP cU : Addr) (f s : List Nat) (cf : Cn f) (cs : Cn s) (he : s.length = f.length) (h1 : 1 ≤ f.length) (h16 : f.length ≤ 16) (S : Sto) : wp (m_Parting_or cP cU [ptD cP f, ptD cP s] S) fun r _ => r = .d (ptD cP (joinN f s)) := by
  refine wp_run [.d (ptD cP f), .d (ptD cP s)] rfl ?_
  unfold b_Parting_or
  simp only [wp_seq, w_set, w_setO, w_m2, w_m1, w_var, varQ_d, w_c, w_nil, w_cons, w_cb, w_cbo, w_int, w_intB, w_abs, w_max, w_min, w_lenL, w_lenT, w_B, w_and, w_or, w_not, w_ifs, w_if, w_ret, w_retO, w_next, w_tup, w_lst, w_frz, w_andV, w_notV, stQ_st, w_st1, w_st2, w_st3, w_st4, w_st5, w_cells, w_stS, lawB_law, setQ1, setQ2, setQ3, setQ5, w_for, w_range1, rngQ_int, w_seqI, w_seqL, w_seqT, w_lc, w_call0d, w_call1, w_meth, w_own, w_drop, stepQ_nx, stepQ_bk, stepQ_rt, wp_ok, wp_bad, sq_nx, sq_rt, sq_ro, wp_add, wp_sub, wp_lt, wp_le, wp_gt, wp_ge, wp_mul, wp_mod, wp_fdiv, wp_pow, wp_ix, wp_ixT, wp_toB, wp_noX, wp_eqI, wp_neI, List.set_cons_zero, List.set_cons_succ, List.getElem?_cons_zero, List.getElem?_cons_succ, List.length_map, List.append_nil, List.cons_append, List.nil_append, if_true, decide_eq_true_eq, Bool.false_eq_true, if_false, wipeL, w_mbrk, Bool.not_true, Bool.not_false, decide_true, decide_false, true_and, and_true, Res.toD, w_bad, v_lenO, ixQ_int, v_ixO, v_app, v_ext, v_retV, v_borB, v_gh, borL, List.map_cons, List.map_nil, unS_d, unS_un, unS_st, unS_own, ownQ_own, setIQ_int, v_setI, v_call0O, resO_own, Bool.and_self, Bool.and_true, Bool.true_and, Bool.and_false, Bool.false_and, w_slL, w_slT, slQ_l, slQ_t, w_noP, w_pt, intQ_int, w_catT, w_catL, wp_catL, w_cnt, tupQ_t, w_tru, w_truL, w_pl]
  refine ⟨rfl, ?_⟩
  refine wp.mono (alike_ok cP cU _ s he sto0) ?_
  intro _ _ _
  have e : mCons (mCall0 m_joined_names [] (mCons (m1 (gFld cP "names") (mVar 0)) (mCons (m1 (gFld cP "names") (mVar 1)) mNil))) mNil ([.d (ptD cP f), .d (ptD cP s)] : List L) S = .ok [.lst ((joinN f s).map inD)] S := by
    refine wp_eq ?_
    simp only [wp_seq, w_set, w_setO, w_m2, w_m1, w_var, varQ_d, w_c, w_nil, w_cons, w_cb, w_cbo, w_int, w_intB, w_abs, w_max, w_min, w_lenL, w_lenT, w_B, w_and, w_or, w_not, w_ifs, w_if, w_ret, w_retO, w_next, w_tup, w_lst, w_frz, w_andV, w_notV, stQ_st, w_st1, w_st2, w_st3, w_st4, w_st5, w_cells, w_stS, lawB_law, setQ1, setQ2, setQ3, setQ5, w_for, w_range1, rngQ_int, w_seqI, w_seqL, w_seqT, w_lc, w_call0d, w_call1, w_meth, w_own, w_drop, stepQ_nx, stepQ_bk, stepQ_rt, wp_ok, wp_bad, sq_nx, sq_rt, sq_ro, wp_add, wp_sub, wp_lt, wp_le, wp_gt, wp_ge, wp_mul, wp_mod, wp_fdiv, wp_pow, wp_ix, wp_ixT, wp_toB, wp_noX, wp_eqI, wp_neI, List.set_cons_zero, List.set_cons_succ, List.getElem?_cons_zero, List.getElem?_cons_succ, List.length_map, List.append_nil, List.cons_append, List.nil_append, if_true, decide_eq_true_eq, Bool.false_eq_true, if_false, wipeL, w_mbrk, Bool.not_true, Bool.not_false, decide_true, decide_false, true_and, and_true, Res.toD, w_bad, v_lenO, ixQ_int, v_ixO, v_app, v_ext, v_retV, v_borB, v_gh, borL, List.map_cons, List.map_nil, unS_d, unS_un, unS_st, unS_own, ownQ_own, setIQ_int, v_setI, v_call0O, resO_own, Bool.and_self, Bool.and_true, Bool.true_and, Bool.and_false, Bool.false_and, w_slL, w_slT, slQ_l, slQ_t, w_noP, w_pt, intQ_int, w_catT, w_catL, wp_catL, w_cnt, tupQ_t, w_tru, w_truL, w_na]
    refine wp.mono (joined_ok f s cf cs he h16 sto0) ?_
    rintro _ _ rfl
    rfl
  refine wp.of (make_ok (p := f.length) ⟨join_Cn cf cs he, join_len cf cs he⟩ h1 h16 e) ?_
  rfl
theorem row_ok (l r v : List Nat) (a b c : Nat) (hl : l[0]? = some a) (hr : r[0]? = some b) (hv : v[0]? = some c) (h16 : l.length ≤ 16) (S : Sto) : wp (m_row [nmD l, nmD r, nmD v] S) fun x _ => x = .d (nmD [a, b, c, cnt l r, l.length, r.length, v.length]) := by
  have l0 : 0 < l.length := (List.getElem?_eq_some_iff.mp hl).1
  have r0 : 0 < r.length := (List.getElem?_eq_some_iff.mp hr).1
  have v0 : 0 < v.length := (List.getElem?_eq_some_iff.mp hv).1
  refine wp_run [.d (nmD l), .d (nmD r), .d (nmD v), .un, .un] rfl ?_
  unfold b_row
  simp only [wp_seq, w_set, w_setO, w_m2, w_m1, w_var, varQ_d, w_c, w_nil, w_cons, w_cb, w_cbo, w_int, w_intB, w_abs, w_max, w_min, w_lenL, w_lenT, w_B, w_and, w_or, w_not, w_ifs, w_if, w_ret, w_retO, w_next, w_tup, w_lst, w_frz, w_andV, w_notV, stQ_st, w_st1, w_st2, w_st3, w_st4, w_st5, w_cells, w_stS, lawB_law, setQ1, setQ2, setQ3, setQ5, w_for, w_range1, rngQ_int, w_seqI, w_seqL, w_seqT, w_lc, w_call0d, w_call1, w_meth, w_own, w_drop, stepQ_nx, stepQ_bk, stepQ_rt, wp_ok, wp_bad, sq_nx, sq_rt, sq_ro, wp_add, wp_sub, wp_lt, wp_le, wp_gt, wp_ge, wp_mul, wp_mod, wp_fdiv, wp_pow, wp_ix, wp_ixT, wp_toB, wp_noX, wp_eqI, wp_neI, List.set_cons_zero, List.set_cons_succ, List.getElem?_cons_zero, List.getElem?_cons_succ, List.length_map, List.append_nil, List.cons_append, List.nil_append, if_true, decide_eq_true_eq, Bool.false_eq_true, if_false, wipeL, w_mbrk, Bool.not_true, Bool.not_false, decide_true, decide_false, true_and, and_true, Res.toD, w_bad, v_lenO, ixQ_int, v_ixO, v_app, v_ext, v_retV, v_borB, v_gh, borL, List.map_cons, List.map_nil, unS_d, unS_un, unS_st, unS_own, ownQ_own, setIQ_int, v_setI, v_call0O, resO_own, Bool.and_self, Bool.and_true, Bool.true_and, Bool.and_false, Bool.false_and, w_slL, w_slT, slQ_l, slQ_t, w_noP, w_pt, intQ_int, w_catT, w_catL, wp_catL, w_cnt, tupQ_t, w_tru, w_truL, w_nmS]
  refine ⟨by simp only [line, decide_eq_true_eq]; omega, ?_⟩
  refine comp_filt (pD fun p => decide (p ∈ r)) id _ (fun d hd => ?_) ?_
  · obtain ⟨p, _, rfl⟩ := List.mem_map.mp hd
    refine ⟨_, rfl, ?_, fun _ => ?_⟩
    · show wp (mB _ ([.d (nmD l), .d (nmD r), .d (nmD v), .un, .d (inD p)] : List L) S) _
      unfold inD
      simp only [wp_seq, w_set, w_setO, w_m2, w_m1, w_var, varQ_d, w_c, w_nil, w_cons, w_cb, w_cbo, w_int, w_intB, w_abs, w_max, w_min, w_lenL, w_lenT, w_B, w_and, w_or, w_not, w_ifs, w_if, w_ret, w_retO, w_next, w_tup, w_lst, w_frz, w_andV, w_notV, stQ_st, w_st1, w_st2, w_st3, w_st4, w_st5, w_cells, w_stS, lawB_law, setQ1, setQ2, setQ3, setQ5, w_for, w_range1, rngQ_int, w_seqI, w_seqL, w_seqT, w_lc, w_call0d, w_call1, w_meth, w_own, w_drop, stepQ_nx, stepQ_bk, stepQ_rt, wp_ok, wp_bad, sq_nx, sq_rt, sq_ro, wp_add, wp_sub, wp_lt, wp_le, wp_gt, wp_ge, wp_mul, wp_mod, wp_fdiv, wp_pow, wp_ix, wp_ixT, wp_toB, wp_noX, wp_eqI, wp_neI, List.set_cons_zero, List.set_cons_succ, List.getElem?_cons_zero, List.getElem?_cons_succ, List.length_map, List.append_nil, List.cons_append, List.nil_append, if_true, decide_eq_true_eq, Bool.false_eq_true, if_false, wipeL, w_mbrk, Bool.not_true, Bool.not_false, decide_true, decide_false, true_and, and_true, Res.toD, w_bad, v_lenO, ixQ_int, v_ixO, v_app, v_ext, v_retV, v_borB, v_gh, borL, List.map_cons, List.map_nil, unS_d, unS_un, unS_st, unS_own, ownQ_own, setIQ_int, v_setI, v_call0O, resO_own, Bool.and_self, Bool.and_true, Bool.true_and, Bool.and_false, Bool.false_and, w_slL, w_slT, slQ_l, slQ_t, w_noP, w_pt, intQ_int, w_catT, w_catL, wp_catL, w_cnt, tupQ_t, w_tru, w_truL, w_inN]
      rfl
    · show wp (mVar 4 ([.d (nmD l), .d (nmD r), .d (nmD v), .un, .d (inD p)] : List L) S) _
      simp only [wp_seq, w_set, w_setO, w_m2, w_m1, w_var, varQ_d, w_c, w_nil, w_cons, w_cb, w_cbo, w_int, w_intB, w_abs, w_max, w_min, w_lenL, w_lenT, w_B, w_and, w_or, w_not, w_ifs, w_if, w_ret, w_retO, w_next, w_tup, w_lst, w_frz, w_andV, w_notV, stQ_st, w_st1, w_st2, w_st3, w_st4, w_st5, w_cells, w_stS, lawB_law, setQ1, setQ2, setQ3, setQ5, w_for, w_range1, rngQ_int, w_seqI, w_seqL, w_seqT, w_lc, w_call0d, w_call1, w_meth, w_own, w_drop, stepQ_nx, stepQ_bk, stepQ_rt, wp_ok, wp_bad, sq_nx, sq_rt, sq_ro, wp_add, wp_sub, wp_lt, wp_le, wp_gt, wp_ge, wp_mul, wp_mod, wp_fdiv, wp_pow, wp_ix, wp_ixT, wp_toB, wp_noX, wp_eqI, wp_neI, List.set_cons_zero, List.set_cons_succ, List.getElem?_cons_zero, List.getElem?_cons_succ, List.length_map, List.append_nil, List.cons_append, List.nil_append, if_true, decide_eq_true_eq, Bool.false_eq_true, if_false, wipeL, w_mbrk, Bool.not_true, Bool.not_false, decide_true, decide_false, true_and, and_true, Res.toD, w_bad, v_lenO, ixQ_int, v_ixO, v_app, v_ext, v_retV, v_borB, v_gh, borL, List.map_cons, List.map_nil, unS_d, unS_un, unS_st, unS_own, ownQ_own, setIQ_int, v_setI, v_call0O, resO_own, Bool.and_self, Bool.and_true, Bool.true_and, Bool.and_false, Bool.false_and, w_slL, w_slT, slQ_l, slQ_t, w_noP, w_pt, intQ_int, w_catT, w_catL, wp_catL, w_cnt, tupQ_t, w_tru, w_truL]
      simp
  · have z : ((0 : Nat) : Int) = 0 := rfl
    have e1 : ∀ (S : Sto) (Q : D → Sto → Prop), wp (gIx (nmD l) (.int 0) S) Q = Q (.int (a : Nat)) S := fun S Q => by rw [← z, w_nmI l0, g_of hl]
    have e2 : ∀ (S : Sto) (Q : D → Sto → Prop), wp (gIx (nmD r) (.int 0) S) Q = Q (.int (b : Nat)) S := fun S Q => by rw [← z, w_nmI r0, g_of hr]
    have e3 : ∀ (S : Sto) (Q : D → Sto → Prop), wp (gIx (nmD v) (.int 0) S) Q = Q (.int (c : Nat)) S := fun S Q => by rw [← z, w_nmI v0, g_of hv]
    simp only [wp_seq, w_set, w_setO, w_m2, w_m1, w_var, varQ_d, w_c, w_nil, w_cons, w_cb, w_cbo, w_int, w_intB, w_abs, w_max, w_min, w_lenL, w_lenT, w_B, w_and, w_or, w_not, w_ifs, w_if, w_ret, w_retO, w_next, w_tup, w_lst, w_frz, w_andV, w_notV, stQ_st, w_st1, w_st2, w_st3, w_st4, w_st5, w_cells, w_stS, lawB_law, setQ1, setQ2, setQ3, setQ5, w_for, w_range1, rngQ_int, w_seqI, w_seqL, w_seqT, w_lc, w_call0d, w_call1, w_meth, w_own, w_drop, stepQ_nx, stepQ_bk, stepQ_rt, wp_ok, wp_bad, sq_nx, sq_rt, sq_ro, wp_add, wp_sub, wp_lt, wp_le, wp_gt, wp_ge, wp_mul, wp_mod, wp_fdiv, wp_pow, wp_ix, wp_ixT, wp_toB, wp_noX, wp_eqI, wp_neI, List.set_cons_zero, List.set_cons_succ, List.getElem?_cons_zero, List.getElem?_cons_succ, List.length_map, List.append_nil, List.cons_append, List.nil_append, if_true, decide_eq_true_eq, Bool.false_eq_true, if_false, wipeL, w_mbrk, Bool.not_true, Bool.not_false, decide_true, decide_false, true_and, and_true, Res.toD, w_bad, v_lenO, ixQ_int, v_ixO, v_app, v_ext, v_retV, v_borB, v_gh, borL, List.map_cons, List.map_nil, unS_d, unS_un, unS_st, unS_own, ownQ_own, setIQ_int, v_setI, v_call0O, resO_own, Bool.and_self, Bool.and_true, Bool.true_and, Bool.and_false, Bool.false_and, w_slL, w_slT, slQ_l, slQ_t, w_noP, w_pt, intQ_int, w_catT, w_catL, wp_catL, w_cnt, tupQ_t, w_tru, w_truL, e1, e2, e3, w_nmL]
    refine ⟨rfl, ?_⟩
    have hc : ((List.filter (pD fun p => decide (p ∈ r)) (l.map inD))).length = cnt l r := by
      have := filt_in l r
      rw [List.map_id] at this
      exact this
    rw [hc]
    rfl
end K17

set_option Elab.async false
set_option linter.all false
set_option maxRecDepth 100000
set_option maxHeartbeats 4000000
set_option autoImplicit false
namespace K17
open PySem PySem.Spec L2 DL
def hdN : D → Nat
  | .tup (.int b :: _) => b.toNat
  | _ => 0
theorem hd_nm {l : List Nat} {b : Nat} (h : l[0]? = some b) : hdN (nmD l) = b := by
  cases l with
  | nil => cases h
  | cons x t => cases h; rfl
theorem w_h0 {l : List Nat} {b : Nat} (h : l[0]? = some b) {S : Sto} {Q : D → Sto → Prop} : wp (gIx (nmD l) (.int 0) S) Q = Q (.int (b : Nat)) S := by
  have z : ((0 : Nat) : Int) = 0 := rfl
  rw [← z, w_nmI (List.getElem?_eq_some_iff.mp h).1, g_of h]
theorem lots_len' (s : List Nat) (h : s.length ≤ 16) : (lots s).length ≤ 16 := by
  unfold lots
  rw [List.length_map]
  exact Nat.le_trans (reps_len s) h
theorem lotOf_len (s : List Nat) (v : Nat) : (lotOf s v).length ≤ s.length := by
  unfold lotOf
  exact Nat.le_trans (List.length_filter_le _ _) (by rw [List.length_range]; exact Nat.le_refl _)
theorem rows_comp {f s : List Nat} (cf : Cn f) (cs : Cn s) (he : s.length = f.length) (a : Nat) : (((lots s).map nmD).filter fun d => decide (hdN d ∈ whole f s a)).map (fun d => nmD (rowL f s a (hdN d))) = (rowsA f s a).map nmD := by
  unfold lots rowsA
  rw [List.map_map, List.filter_map, List.map_map, ← reps_whole cf cs he, List.map_map]
  have e : ∀ b ∈ reps s, hdN (nmD (lotOf s b)) = b := fun b hb => by
    obtain ⟨h1, h2⟩ := mem_reps.mp hb
    exact hd_nm (lot_head cs h1 h2)
  have e1 : (reps s).filter ((fun d => decide (hdN d ∈ whole f s a)) ∘ nmD ∘ lotOf s) = (reps s).filter fun b => decide (b ∈ whole f s a) := by
    refine List.filter_congr fun b hb => ?_
    show decide (hdN (nmD (lotOf s b)) ∈ whole f s a) = _
    rw [e b hb]
  rw [e1]
  refine List.map_congr_left fun b hb => ?_
  show nmD (rowL f s a (hdN (nmD (lotOf s b)))) = _
  rw [e b (List.mem_filter.mp hb).1]
  rfl
theorem meeting_ok (cP cU : Addr) (f s : List Nat) (cf : Cn f) (cs : Cn s) (he : s.length = f.length) (h1 : 1 ≤ f.length) (h16 : f.length ≤ 16) (S : Sto) : wp (m_meeting cP cU [ptD cP f, ptD cP s] S) fun r _ => r = .own ((rowsR f s).map nmD) := by
  have hs16 : s.length ≤ 16 := by omega
  have cj := join_Cn cf cs he
  have lj := join_len cf cs he
  refine wp_run [.d (ptD cP f), .d (ptD cP s), .un, .un, .un, .un, .un] rfl ?_
  unfold b_meeting
  simp only [wp_seq, w_set, w_setO, w_m2, w_m1, w_var, varQ_d, w_c, w_nil, w_cons, w_cb, w_cbo, w_int, w_intB, w_abs, w_max, w_min, w_lenL, w_lenT, w_B, w_and, w_or, w_not, w_ifs, w_if, w_ret, w_retO, w_next, w_tup, w_lst, w_frz, w_andV, w_notV, stQ_st, w_st1, w_st2, w_st3, w_st4, w_st5, w_cells, w_stS, lawB_law, setQ1, setQ2, setQ3, setQ5, w_for, w_range1, rngQ_int, w_seqI, w_seqL, w_seqT, w_lc, w_call0d, w_call1, w_meth, w_own, w_drop, stepQ_nx, stepQ_bk, stepQ_rt, wp_ok, wp_bad, sq_nx, sq_rt, sq_ro, wp_add, wp_sub, wp_lt, wp_le, wp_gt, wp_ge, wp_mul, wp_mod, wp_fdiv, wp_pow, wp_ix, wp_ixT, wp_toB, wp_noX, wp_eqI, wp_neI, List.set_cons_zero, List.set_cons_succ, List.getElem?_cons_zero, List.getElem?_cons_succ, List.length_map, List.append_nil, List.cons_append, List.nil_append, if_true, decide_eq_true_eq, Bool.false_eq_true, if_false, wipeL, w_mbrk, Bool.not_true, Bool.not_false, decide_true, decide_false, true_and, and_true, Res.toD, w_bad, v_lenO, ixQ_int, v_ixO, v_app, v_ext, v_retV, v_borB, v_gh, borL, List.map_cons, List.map_nil, unS_d, unS_un, unS_st, unS_own, ownQ_own, setIQ_int, v_setI, v_call0O, resO_own, Bool.and_self, Bool.and_true, Bool.true_and, Bool.and_false, Bool.false_and, w_slL, w_slT, slQ_l, slQ_t, w_noP, w_pt, intQ_int, w_catT, w_catL, wp_catL, w_cnt, tupQ_t, w_tru, w_truL, w_pl]
  refine ⟨rfl, ?_⟩
  refine wp.mono (alike_ok cP cU _ s he sto0) ?_
  intro _ _ _
  simp only [wp_seq, w_set, w_setO, w_m2, w_m1, w_var, varQ_d, w_c, w_nil, w_cons, w_cb, w_cbo, w_int, w_intB, w_abs, w_max, w_min, w_lenL, w_lenT, w_B, w_and, w_or, w_not, w_ifs, w_if, w_ret, w_retO, w_next, w_tup, w_lst, w_frz, w_andV, w_notV, stQ_st, w_st1, w_st2, w_st3, w_st4, w_st5, w_cells, w_stS, lawB_law, setQ1, setQ2, setQ3, setQ5, w_for, w_range1, rngQ_int, w_seqI, w_seqL, w_seqT, w_lc, w_call0d, w_call1, w_meth, w_own, w_drop, stepQ_nx, stepQ_bk, stepQ_rt, wp_ok, wp_bad, sq_nx, sq_rt, sq_ro, wp_add, wp_sub, wp_lt, wp_le, wp_gt, wp_ge, wp_mul, wp_mod, wp_fdiv, wp_pow, wp_ix, wp_ixT, wp_toB, wp_noX, wp_eqI, wp_neI, List.set_cons_zero, List.set_cons_succ, List.getElem?_cons_zero, List.getElem?_cons_succ, List.length_map, List.append_nil, List.cons_append, List.nil_append, if_true, decide_eq_true_eq, Bool.false_eq_true, if_false, wipeL, w_mbrk, Bool.not_true, Bool.not_false, decide_true, decide_false, true_and, and_true, Res.toD, w_bad, v_lenO, ixQ_int, v_ixO, v_app, v_ext, v_retV, v_borB, v_gh, borL, List.map_cons, List.map_nil, unS_d, unS_un, unS_st, unS_own, ownQ_own, setIQ_int, v_setI, v_call0O, resO_own, Bool.and_self, Bool.and_true, Bool.true_and, Bool.and_false, Bool.false_and, w_slL, w_slT, slQ_l, slQ_t, w_noP, w_pt, intQ_int, w_catT, w_catL, wp_catL, w_cnt, tupQ_t, w_tru, w_truL, isObj_pt, Bool.and_self]
  refine wp.mono (or_ok cP cU f s cf cs he h1 h16 sto0) ?_
  rintro _ _ rfl
  simp only [wp_seq, w_set, w_setO, w_m2, w_m1, w_var, varQ_d, w_c, w_nil, w_cons, w_cb, w_cbo, w_int, w_intB, w_abs, w_max, w_min, w_lenL, w_lenT, w_B, w_and, w_or, w_not, w_ifs, w_if, w_ret, w_retO, w_next, w_tup, w_lst, w_frz, w_andV, w_notV, stQ_st, w_st1, w_st2, w_st3, w_st4, w_st5, w_cells, w_stS, lawB_law, setQ1, setQ2, setQ3, setQ5, w_for, w_range1, rngQ_int, w_seqI, w_seqL, w_seqT, w_lc, w_call0d, w_call1, w_meth, w_own, w_drop, stepQ_nx, stepQ_bk, stepQ_rt, wp_ok, wp_bad, sq_nx, sq_rt, sq_ro, wp_add, wp_sub, wp_lt, wp_le, wp_gt, wp_ge, wp_mul, wp_mod, wp_fdiv, wp_pow, wp_ix, wp_ixT, wp_toB, wp_noX, wp_eqI, wp_neI, List.set_cons_zero, List.set_cons_succ, List.getElem?_cons_zero, List.getElem?_cons_succ, List.length_map, List.append_nil, List.cons_append, List.nil_append, if_true, decide_eq_true_eq, Bool.false_eq_true, if_false, wipeL, w_mbrk, Bool.not_true, Bool.not_false, decide_true, decide_false, true_and, and_true, Res.toD, w_bad, v_lenO, ixQ_int, v_ixO, v_app, v_ext, v_retV, v_borB, v_gh, borL, List.map_cons, List.map_nil, unS_d, unS_un, unS_st, unS_own, ownQ_own, setIQ_int, v_setI, v_call0O, resO_own, Bool.and_self, Bool.and_true, Bool.true_and, Bool.and_false, Bool.false_and, w_slL, w_slT, slQ_l, slQ_t, w_noP, w_pt, intQ_int, w_catT, w_catL, wp_catL, w_cnt, tupQ_t, w_tru, w_truL, w_lo, w_loS]
  refine ⟨rfl, ?_⟩
  refine forD_inv _ (fun k ρ S' => ∃ l4 l5 l6, ρ = [.d (ptD cP f), .d (ptD cP s), .d (ptD cP (joinN f s)), .own ((((reps f).take k).flatMap (rowsA f s)).map nmD), l4, l5, l6]) _ _ ⟨_, _, _, rfl⟩ ?_ ?_
  · rintro k d ρ S2 hk ⟨l4, l5, l6, rfl⟩
    obtain ⟨a, ha, rfl⟩ := lots_at hk
    have hk16 : k < 16 := by
      have := (List.getElem?_eq_some_iff.mp ha).1
      have := reps_len f
      omega
    obtain ⟨ha1, ha2⟩ := mem_reps.mp (List.mem_of_getElem? ha)
    have hh := lot_head cf ha1 ha2
    refine ⟨_, rfl, ?_⟩
    show wp (mSeq _ _ ([.d (ptD cP f), .d (ptD cP s), .d (ptD cP (joinN f s)), .own ((((reps f).take k).flatMap (rowsA f s)).map nmD), .d (nmD (lotOf f a)), l5, l6] : List L) S2) _
    simp only [wp_seq, w_set, w_setO, w_m2, w_m1, w_var, varQ_d, w_c, w_nil, w_cons, w_cb, w_cbo, w_int, w_intB, w_abs, w_max, w_min, w_lenL, w_lenT, w_B, w_and, w_or, w_not, w_ifs, w_if, w_ret, w_retO, w_next, w_tup, w_lst, w_frz, w_andV, w_notV, stQ_st, w_st1, w_st2, w_st3, w_st4, w_st5, w_cells, w_stS, lawB_law, setQ1, setQ2, setQ3, setQ5, w_for, w_range1, rngQ_int, w_seqI, w_seqL, w_seqT, w_lc, w_call0d, w_call1, w_meth, w_own, w_drop, stepQ_nx, stepQ_bk, stepQ_rt, wp_ok, wp_bad, sq_nx, sq_rt, sq_ro, wp_add, wp_sub, wp_lt, wp_le, wp_gt, wp_ge, wp_mul, wp_mod, wp_fdiv, wp_pow, wp_ix, wp_ixT, wp_toB, wp_noX, wp_eqI, wp_neI, List.set_cons_zero, List.set_cons_succ, List.getElem?_cons_zero, List.getElem?_cons_succ, List.length_map, List.append_nil, List.cons_append, List.nil_append, if_true, decide_eq_true_eq, Bool.false_eq_true, if_false, wipeL, w_mbrk, Bool.not_true, Bool.not_false, decide_true, decide_false, true_and, and_true, Res.toD, w_bad, v_lenO, ixQ_int, v_ixO, v_app, v_ext, v_retV, v_borB, v_gh, borL, List.map_cons, List.map_nil, unS_d, unS_un, unS_st, unS_own, ownQ_own, setIQ_int, v_setI, v_call0O, resO_own, Bool.and_self, Bool.and_true, Bool.true_and, Bool.and_false, Bool.false_and, w_slL, w_slT, slQ_l, slQ_t, w_noP, w_pt, intQ_int, w_catT, w_catL, wp_catL, w_cnt, tupQ_t, w_tru, w_truL, w_h0 hh, objOk_pt cP "lot_of" (joinN f s) (by decide)]
    refine wp.mono (lot_ok cP (joinN f s) cj (by omega) a (by omega) sto0) ?_
    rintro _ _ rfl
    simp only [wp_seq, w_set, w_setO, w_m2, w_m1, w_var, varQ_d, w_c, w_nil, w_cons, w_cb, w_cbo, w_int, w_intB, w_abs, w_max, w_min, w_lenL, w_lenT, w_B, w_and, w_or, w_not, w_ifs, w_if, w_ret, w_retO, w_next, w_tup, w_lst, w_frz, w_andV, w_notV, stQ_st, w_st1, w_st2, w_st3, w_st4, w_st5, w_cells, w_stS, lawB_law, setQ1, setQ2, setQ3, setQ5, w_for, w_range1, rngQ_int, w_seqI, w_seqL, w_seqT, w_lc, w_call0d, w_call1, w_meth, w_own, w_drop, stepQ_nx, stepQ_bk, stepQ_rt, wp_ok, wp_bad, sq_nx, sq_rt, sq_ro, wp_add, wp_sub, wp_lt, wp_le, wp_gt, wp_ge, wp_mul, wp_mod, wp_fdiv, wp_pow, wp_ix, wp_ixT, wp_toB, wp_noX, wp_eqI, wp_neI, List.set_cons_zero, List.set_cons_succ, List.getElem?_cons_zero, List.getElem?_cons_succ, List.length_map, List.append_nil, List.cons_append, List.nil_append, if_true, decide_eq_true_eq, Bool.false_eq_true, if_false, wipeL, w_mbrk, Bool.not_true, Bool.not_false, decide_true, decide_false, true_and, and_true, Res.toD, w_bad, v_lenO, ixQ_int, v_ixO, v_app, v_ext, v_retV, v_borB, v_gh, borL, List.map_cons, List.map_nil, unS_d, unS_un, unS_st, unS_own, ownQ_own, setIQ_int, v_setI, v_call0O, resO_own, Bool.and_self, Bool.and_true, Bool.true_and, Bool.and_false, Bool.false_and, w_slL, w_slT, slQ_l, slQ_t, w_noP, w_pt, intQ_int, w_catT, w_catL, wp_catL, w_cnt, tupQ_t, w_tru, w_truL, w_lo, w_loS]
    refine ⟨by have := lots_len' s hs16; simp only [line, decide_eq_true_eq]; omega, ?_⟩
    refine comp_filt (fun d => decide (hdN d ∈ whole f s a)) (fun d => nmD (rowL f s a (hdN d))) _ (fun d hd => ?_) ?_
    · obtain ⟨l, hl, rfl⟩ := List.mem_map.mp hd
      obtain ⟨b, hb, rfl⟩ := List.mem_map.mp hl
      obtain ⟨hb1, hb2⟩ := mem_reps.mp hb
      have hr := lot_head cs hb1 hb2
      have hl16 := lotOf_len f a
      refine ⟨_, rfl, ?_, fun _ => ?_⟩
      · show wp (mB _ ([.d (ptD cP f), .d (ptD cP s), .d (ptD cP (joinN f s)), .own ((((reps f).take k).flatMap (rowsA f s)).map nmD), .d (nmD (lotOf f a)), .d (nmD (whole f s a)), .d (nmD (lotOf s b))] : List L) S2) _
        simp only [wp_seq, w_set, w_setO, w_m2, w_m1, w_var, varQ_d, w_c, w_nil, w_cons, w_cb, w_cbo, w_int, w_intB, w_abs, w_max, w_min, w_lenL, w_lenT, w_B, w_and, w_or, w_not, w_ifs, w_if, w_ret, w_retO, w_next, w_tup, w_lst, w_frz, w_andV, w_notV, stQ_st, w_st1, w_st2, w_st3, w_st4, w_st5, w_cells, w_stS, lawB_law, setQ1, setQ2, setQ3, setQ5, w_for, w_range1, rngQ_int, w_seqI, w_seqL, w_seqT, w_lc, w_call0d, w_call1, w_meth, w_own, w_drop, stepQ_nx, stepQ_bk, stepQ_rt, wp_ok, wp_bad, sq_nx, sq_rt, sq_ro, wp_add, wp_sub, wp_lt, wp_le, wp_gt, wp_ge, wp_mul, wp_mod, wp_fdiv, wp_pow, wp_ix, wp_ixT, wp_toB, wp_noX, wp_eqI, wp_neI, List.set_cons_zero, List.set_cons_succ, List.getElem?_cons_zero, List.getElem?_cons_succ, List.length_map, List.append_nil, List.cons_append, List.nil_append, if_true, decide_eq_true_eq, Bool.false_eq_true, if_false, wipeL, w_mbrk, Bool.not_true, Bool.not_false, decide_true, decide_false, true_and, and_true, Res.toD, w_bad, v_lenO, ixQ_int, v_ixO, v_app, v_ext, v_retV, v_borB, v_gh, borL, List.map_cons, List.map_nil, unS_d, unS_un, unS_st, unS_own, ownQ_own, setIQ_int, v_setI, v_call0O, resO_own, Bool.and_self, Bool.and_true, Bool.true_and, Bool.and_false, Bool.false_and, w_slL, w_slT, slQ_l, slQ_t, w_noP, w_pt, intQ_int, w_catT, w_catL, wp_catL, w_cnt, tupQ_t, w_tru, w_truL, w_h0 hr, w_inN, hd_nm hr]
      · show wp (mCall0 _ _ _ ([.d (ptD cP f), .d (ptD cP s), .d (ptD cP (joinN f s)), .own ((((reps f).take k).flatMap (rowsA f s)).map nmD), .d (nmD (lotOf f a)), .d (nmD (whole f s a)), .d (nmD (lotOf s b))] : List L) S2) _
        simp only [wp_seq, w_set, w_setO, w_m2, w_m1, w_var, varQ_d, w_c, w_nil, w_cons, w_cb, w_cbo, w_int, w_intB, w_abs, w_max, w_min, w_lenL, w_lenT, w_B, w_and, w_or, w_not, w_ifs, w_if, w_ret, w_retO, w_next, w_tup, w_lst, w_frz, w_andV, w_notV, stQ_st, w_st1, w_st2, w_st3, w_st4, w_st5, w_cells, w_stS, lawB_law, setQ1, setQ2, setQ3, setQ5, w_for, w_range1, rngQ_int, w_seqI, w_seqL, w_seqT, w_lc, w_call0d, w_call1, w_meth, w_own, w_drop, stepQ_nx, stepQ_bk, stepQ_rt, wp_ok, wp_bad, sq_nx, sq_rt, sq_ro, wp_add, wp_sub, wp_lt, wp_le, wp_gt, wp_ge, wp_mul, wp_mod, wp_fdiv, wp_pow, wp_ix, wp_ixT, wp_toB, wp_noX, wp_eqI, wp_neI, List.set_cons_zero, List.set_cons_succ, List.getElem?_cons_zero, List.getElem?_cons_succ, List.length_map, List.append_nil, List.cons_append, List.nil_append, if_true, decide_eq_true_eq, Bool.false_eq_true, if_false, wipeL, w_mbrk, Bool.not_true, Bool.not_false, decide_true, decide_false, true_and, and_true, Res.toD, w_bad, v_lenO, ixQ_int, v_ixO, v_app, v_ext, v_retV, v_borB, v_gh, borL, List.map_cons, List.map_nil, unS_d, unS_un, unS_st, unS_own, ownQ_own, setIQ_int, v_setI, v_call0O, resO_own, Bool.and_self, Bool.and_true, Bool.true_and, Bool.and_false, Bool.false_and, w_slL, w_slT, slQ_l, slQ_t, w_noP, w_pt, intQ_int, w_catT, w_catL, wp_catL, w_cnt, tupQ_t, w_tru, w_truL]
        refine wp.mono (row_ok (lotOf f a) (lotOf s b) (whole f s a) a b _ hh hr (whole_head cf cs he ha1) (by omega) sto0) ?_
        rintro _ _ rfl
        rw [hd_nm hr]
        rfl
    · rw [rows_comp cf cs he]
      refine ⟨?_, ?_⟩
      · have h2 := flatMap_len ((reps f).take k) (rowsA f s) 16 fun a _ => Nat.le_trans (rowsA_len cf cs he a) h16
        have h3 : ((reps f).take k).length ≤ 16 := by rw [List.length_take]; omega
        have h4 := rowsA_len cf cs he a
        simp only [line, List.length_map, Bool.and_eq_true, decide_eq_true_eq]
        omega
      · have e3 : (((reps f).take (k + 1)).flatMap (rowsA f s)).map nmD = (((reps f).take k).flatMap (rowsA f s)).map nmD ++ (rowsA f s a).map nmD := by
          rw [List.take_add_one, ha, List.flatMap_append, List.map_append]
          simp
        rw [e3]
        exact ⟨_, _, _, rfl⟩
  · rintro ρ S2 ⟨l4, l5, l6, rfl⟩
    have e : ((lots f).map nmD).length = (reps f).length := by unfold lots; simp
    rw [e, List.take_length, sq_nx, w_retV rfl]
    rfl
end K17

set_option Elab.async false
set_option linter.all false
set_option maxRecDepth 100000
set_option maxHeartbeats 4000000
set_option autoImplicit false
namespace K17
open PySem PySem.Spec L2 DL
theorem atI_in {l : List Nat} {k : Nat} (h : k < l.length) : atI (l.map inD) ((k : Nat) : Int) = some (.int (g l k : Nat)) := nm_at (g_some h)
theorem w_inL {p : Nat} {r : List Nat} {S : Sto} {Q : D → Sto → Prop} : wp (pure2 (in2 true) (.int (p : Nat)) (.lst (r.map inD)) S) Q = Q (.bl (!decide (p ∈ r))) S := by
  refine wp_is1 ?_
  unfold pure2 in2
  simp only
  rw [if_pos ⟨rfl, flat_in r⟩]
  simp only [if_true, inF_in]
theorem eqN (a b : Nat) : decide ((a : Int) = (b : Int)) = decide (a = b) := by
  by_cases h : a = b
  · simp [h]
  · have : ¬ (a : Int) = b := by omega
    simp [h, this]
theorem natE (a b : Nat) : ((a : Int) = (b : Int)) = (a = b) := propext ⟨fun h => by omega, fun h => by omega⟩
theorem ltN (a b : Nat) : ((a : Int) < (b : Int)) = (a < b) := propext ⟨fun h => by omega, fun h => by omega⟩
theorem okR_n (n : Nat) (h : n ≤ 1000) : okR ((n : Nat) : Int) = true := by unfold okR; simp; omega
theorem rangeN {n k : Nat} {d : D} (h : (rangeD 0 ((n : Nat) : Int).toNat)[k]? = some d) : k < n ∧ d = .int (k : Nat) := by
  obtain ⟨a, b⟩ := rangeD_at h
  exact ⟨by simpa using a, b⟩
theorem reached_ok (f s : List Nat) (cf : Cn f) (cs : Cn s) (he : s.length = f.length) (h16 : f.length ≤ 16) (p : Nat) (hp : p < f.length) (S : Sto) : wp (m_law_reached [nmD f, nmD s, .int (p : Nat)] S) fun r _ => r = .own ((lotOf (joinN f s) (g (joinN f s) p)).map inD) := by
  refine wp_run [.d (nmD f), .d (nmD s), .d (.int (p : Nat)), .un, .un, .un, .un] rfl ?_
  unfold b_law_reached
  simp only [wp_seq, w_set, w_setO, w_m2, w_m1, w_var, varQ_d, w_c, w_nil, w_cons, w_cb, w_cbo, w_int, w_intB, w_abs, w_max, w_min, w_lenL, w_lenT, w_B, w_and, w_or, w_not, w_ifs, w_if, w_ret, w_retO, w_next, w_tup, w_lst, w_frz, w_andV, w_notV, stQ_st, w_st1, w_st2, w_st3, w_st4, w_st5, w_cells, w_stS, lawB_law, setQ1, setQ2, setQ3, setQ5, w_for, w_range1, rngQ_int, w_seqI, w_seqL, w_seqT, w_lc, w_call0d, w_call1, w_meth, w_own, w_drop, stepQ_nx, stepQ_bk, stepQ_rt, wp_ok, wp_bad, sq_nx, sq_rt, sq_ro, wp_add, wp_sub, wp_lt, wp_le, wp_gt, wp_ge, wp_mul, wp_mod, wp_fdiv, wp_pow, wp_ix, wp_ixT, wp_toB, wp_noX, wp_eqI, wp_neI, List.set_cons_zero, List.set_cons_succ, List.getElem?_cons_zero, List.getElem?_cons_succ, List.length_map, List.append_nil, List.cons_append, List.nil_append, if_true, decide_eq_true_eq, Bool.false_eq_true, if_false, wipeL, w_mbrk, Bool.not_true, Bool.not_false, decide_true, decide_false, true_and, and_true, Res.toD, w_bad, v_lenO, ixQ_int, v_ixO, v_app, v_ext, v_retV, v_borB, v_gh, borL, List.map_cons, List.map_nil, unS_d, unS_un, unS_st, unS_own, ownQ_own, setIQ_int, v_setI, v_call0O, resO_own, Bool.and_self, Bool.and_true, Bool.true_and, Bool.and_false, Bool.false_and, w_slL, w_slT, slQ_l, slQ_t, w_noP, w_pt, intQ_int, w_catT, w_catL, wp_catL, w_cnt, tupQ_t, w_tru, w_truL, w_nmL]
  refine ⟨rfl, okR_n _ (by omega), ?_⟩
  refine forD_inv _ (fun k ρ S' => ∃ l4 l5 l6, ρ = [.d (nmD f), .d (nmD s), .d (.int (p : Nat)), .own ((bfs f s p k).map inD), l4, l5, l6]) _ _ ⟨_, _, _, rfl⟩ ?_ ?_
  · rintro k d ρ S2 hk ⟨l4, l5, l6, rfl⟩
    obtain ⟨hk, rfl⟩ := rangeN hk
    obtain ⟨F, _⟩ := bfs_FI (s := s) hp k
    refine ⟨_, rfl, ?_⟩
    show wp (mIfS _ _ _ ([.d (nmD f), .d (nmD s), .d (.int (p : Nat)), .own ((bfs f s p k).map inD), .d (.int (k : Nat)), l5, l6] : List L) S2) _
    have hb : bfs f s p (k + 1) = if k < (bfs f s p k).length then sweep f s (g (bfs f s p k) k) (bfs f s p k) f.length else bfs f s p k := rfl
    by_cases c : k < (bfs f s p k).length
    · rw [if_pos c] at hb
      simp only [wp_seq, w_set, w_setO, w_m2, w_m1, w_var, varQ_d, w_c, w_nil, w_cons, w_cb, w_cbo, w_int, w_intB, w_abs, w_max, w_min, w_lenL, w_lenT, w_B, w_and, w_or, w_not, w_ifs, w_if, w_ret, w_retO, w_next, w_tup, w_lst, w_frz, w_andV, w_notV, stQ_st, w_st1, w_st2, w_st3, w_st4, w_st5, w_cells, w_stS, lawB_law, setQ1, setQ2, setQ3, setQ5, w_for, w_range1, rngQ_int, w_seqI, w_seqL, w_seqT, w_lc, w_call0d, w_call1, w_meth, w_own, w_drop, stepQ_nx, stepQ_bk, stepQ_rt, wp_ok, wp_bad, sq_nx, sq_rt, sq_ro, wp_add, wp_sub, wp_lt, wp_le, wp_gt, wp_ge, wp_mul, wp_mod, wp_fdiv, wp_pow, wp_ix, wp_ixT, wp_toB, wp_noX, wp_eqI, wp_neI, List.set_cons_zero, List.set_cons_succ, List.getElem?_cons_zero, List.getElem?_cons_succ, List.length_map, List.append_nil, List.cons_append, List.nil_append, if_true, decide_eq_true_eq, Bool.false_eq_true, if_false, wipeL, w_mbrk, Bool.not_true, Bool.not_false, decide_true, decide_false, true_and, and_true, Res.toD, w_bad, v_lenO, ixQ_int, v_ixO, v_app, v_ext, v_retV, v_borB, v_gh, borL, List.map_cons, List.map_nil, unS_d, unS_un, unS_st, unS_own, ownQ_own, setIQ_int, v_setI, v_call0O, resO_own, Bool.and_self, Bool.and_true, Bool.true_and, Bool.and_false, Bool.false_and, w_slL, w_slT, slQ_l, slQ_t, w_noP, w_pt, intQ_int, w_catT, w_catL, wp_catL, w_cnt, tupQ_t, w_tru, w_truL, ltN, c, atI_in c, Option.some.injEq, exists_eq_left', w_nmL]
      have ha := F.lt _ (List.mem_iff_getElem?.mpr ⟨k, g_some c⟩)
      have ham : g (bfs f s p k) k ∈ bfs f s p k := List.mem_iff_getElem?.mpr ⟨k, g_some c⟩
      generalize g (bfs f s p k) k = a at *
      refine ⟨okR_n _ (by omega), ?_⟩
      refine forD_inv _ (fun j ρ S' => ∃ l6, ρ = [.d (nmD f), .d (nmD s), .d (.int (p : Nat)), .own ((sweep f s a (bfs f s p k) j).map inD), .d (.int (k : Nat)), .d (.int (a : Nat)), l6]) _ _ ⟨_, rfl⟩ ?_ ?_
      · rintro j d ρ S3 hj ⟨l6, rfl⟩
        obtain ⟨hjf, rfl⟩ := rangeN hj
        obtain ⟨F2, _⟩ := sweep_FI F ham j (by omega)
        have hn := nodup_le F2.nd F2.lt
        refine ⟨_, rfl, ?_⟩
        show wp (mIfS _ _ _ ([.d (nmD f), .d (nmD s), .d (.int (p : Nat)), .own ((sweep f s a (bfs f s p k) j).map inD), .d (.int (k : Nat)), .d (.int (a : Nat)), .d (.int (j : Nat))] : List L) S3) _
        have hsw : sweep f s a (bfs f s p k) (j + 1) = addN f s a (sweep f s a (bfs f s p k) j) j := rfl
        rw [hsw]
        generalize sweep f s a (bfs f s p k) j = fd at *
        simp only [wp_seq, w_set, w_setO, w_m2, w_m1, w_var, varQ_d, w_c, w_nil, w_cons, w_cb, w_cbo, w_int, w_intB, w_abs, w_max, w_min, w_lenL, w_lenT, w_B, w_and, w_or, w_not, w_ifs, w_if, w_ret, w_retO, w_next, w_tup, w_lst, w_frz, w_andV, w_notV, stQ_st, w_st1, w_st2, w_st3, w_st4, w_st5, w_cells, w_stS, lawB_law, setQ1, setQ2, setQ3, setQ5, w_for, w_range1, rngQ_int, w_seqI, w_seqL, w_seqT, w_lc, w_call0d, w_call1, w_meth, w_own, w_drop, stepQ_nx, stepQ_bk, stepQ_rt, wp_ok, wp_bad, sq_nx, sq_rt, sq_ro, wp_add, wp_sub, wp_lt, wp_le, wp_gt, wp_ge, wp_mul, wp_mod, wp_fdiv, wp_pow, wp_ix, wp_ixT, wp_toB, wp_noX, wp_eqI, wp_neI, List.set_cons_zero, List.set_cons_succ, List.getElem?_cons_zero, List.getElem?_cons_succ, List.length_map, List.append_nil, List.cons_append, List.nil_append, if_true, decide_eq_true_eq, Bool.false_eq_true, if_false, wipeL, w_mbrk, Bool.not_true, Bool.not_false, decide_true, decide_false, true_and, and_true, Res.toD, w_bad, v_lenO, ixQ_int, v_ixO, v_app, v_ext, v_retV, v_borB, v_gh, borL, List.map_cons, List.map_nil, unS_d, unS_un, unS_st, unS_own, ownQ_own, setIQ_int, v_setI, v_call0O, resO_own, Bool.and_self, Bool.and_true, Bool.true_and, Bool.and_false, Bool.false_and, w_slL, w_slT, slQ_l, slQ_t, w_noP, w_pt, intQ_int, w_catT, w_catL, wp_catL, w_cnt, tupQ_t, w_tru, w_truL, w_inL, w_nmI hjf, w_nmI ha, w_nmI (show j < s.length by omega), w_nmI (show a < s.length by omega), natE]
        have hfl : line fd.length = true := by simp only [line, decide_eq_true_eq]; omega
        unfold addN
        by_cases m : j ∈ fd
        · rw [if_neg (by simp [m]), if_neg (fun z => z.1 m)]
          exact ⟨_, rfl⟩
        · rw [if_pos (by simp [m])]
          have e : List.map inD (fd ++ [j]) = List.map inD fd ++ [.int (j : Nat)] := by rw [List.map_append]; rfl
          by_cases c1 : g f j = g f a
          · rw [if_pos c1, if_pos ⟨m, .inl c1⟩, e]
            exact ⟨hfl, _, rfl⟩
          · rw [if_neg c1]
            by_cases c2 : g s j = g s a
            · rw [if_pos c2, if_pos ⟨m, .inr c2⟩, e]
              exact ⟨hfl, _, rfl⟩
            · rw [if_neg c2, if_neg (fun z => z.2.elim c1 c2)]
              exact ⟨_, rfl⟩
      · rintro ρ S3 ⟨l6, rfl⟩
        have e : (rangeD 0 (f.length : Int).toNat).length = f.length := by rw [rangeD_len]; simp
        rw [e, stepQ_nx, ← hb]
        exact ⟨_, _, _, rfl⟩
    · rw [if_neg c] at hb
      simp only [wp_seq, w_set, w_setO, w_m2, w_m1, w_var, varQ_d, w_c, w_nil, w_cons, w_cb, w_cbo, w_int, w_intB, w_abs, w_max, w_min, w_lenL, w_lenT, w_B, w_and, w_or, w_not, w_ifs, w_if, w_ret, w_retO, w_next, w_tup, w_lst, w_frz, w_andV, w_notV, stQ_st, w_st1, w_st2, w_st3, w_st4, w_st5, w_cells, w_stS, lawB_law, setQ1, setQ2, setQ3, setQ5, w_for, w_range1, rngQ_int, w_seqI, w_seqL, w_seqT, w_lc, w_call0d, w_call1, w_meth, w_own, w_drop, stepQ_nx, stepQ_bk, stepQ_rt, wp_ok, wp_bad, sq_nx, sq_rt, sq_ro, wp_add, wp_sub, wp_lt, wp_le, wp_gt, wp_ge, wp_mul, wp_mod, wp_fdiv, wp_pow, wp_ix, wp_ixT, wp_toB, wp_noX, wp_eqI, wp_neI, List.set_cons_zero, List.set_cons_succ, List.getElem?_cons_zero, List.getElem?_cons_succ, List.length_map, List.append_nil, List.cons_append, List.nil_append, if_true, decide_eq_true_eq, Bool.false_eq_true, if_false, wipeL, w_mbrk, Bool.not_true, Bool.not_false, decide_true, decide_false, true_and, and_true, Res.toD, w_bad, v_lenO, ixQ_int, v_ixO, v_app, v_ext, v_retV, v_borB, v_gh, borL, List.map_cons, List.map_nil, unS_d, unS_un, unS_st, unS_own, ownQ_own, setIQ_int, v_setI, v_call0O, resO_own, Bool.and_self, Bool.and_true, Bool.true_and, Bool.and_false, Bool.false_and, w_slL, w_slT, slQ_l, slQ_t, w_noP, w_pt, intQ_int, w_catT, w_catL, wp_catL, w_cnt, tupQ_t, w_tru, w_truL, ltN, c]
      rw [hb]
      exact ⟨_, _, _, rfl⟩
  · rintro ρ S2 ⟨l4, l5, l6, rfl⟩
    have e : (rangeD 0 (f.length : Int).toNat).length = f.length := by rw [rangeD_len]; simp
    rw [e, sq_nx, v_gh, frzL_own (n := 3) rfl, w_retO]
    rw [w_sortI (is := (bfs f s p f.length).map zn) (by rw [List.map_map]; rfl), bfs_sort cf cs he hp, List.map_map]
    rfl
end K17

set_option Elab.async false
set_option linter.all false
set_option maxRecDepth 100000
set_option maxHeartbeats 4000000
set_option autoImplicit false
namespace K17
open PySem PySem.Spec L2 DL
theorem comp_in {v : Nat} {l : List Nat} (q : Nat → Bool) {φt : Ph Bool} {ρ : List L} {S : Sto} {Q : List D → Sto → Prop} (hv : v < ρ.length)
    (h : ∀ p ∈ l, wp (φt (ρ.set v (.d (.int (p : Nat)))) S) fun c S' => c = q p ∧ S' = S) (k : Q ((l.filter q).map inD) S) : wp (compD (.one v) φt (mVar v) (l.map inD) ρ S) Q := by
  refine comp_filt (pD q) id _ (fun d hd => ?_) ?_
  · obtain ⟨p, hp, rfl⟩ := List.mem_map.mp hd
    refine ⟨ρ.set v (.d (.int (p : Nat))), rfl, h p hp, fun _ => ?_⟩
    rw [w_var, List.getElem?_set, if_pos rfl, if_pos hv, varQ_d]
    exact ⟨rfl, rfl⟩
  · rw [List.map_id, List.filter_map]
    exact k
theorem w_l0 {l : List Nat} {b : Nat} (h : l[0]? = some b) {S : Sto} {Q : D → Sto → Prop} : wp (gIx (.lst (l.map inD)) (.int 0) S) Q = Q (.int (b : Nat)) S := by
  have z : ((0 : Nat) : Int) = 0 := rfl
  rw [← z, w_lsI (List.getElem?_eq_some_iff.mp h).1, g_of h]
theorem rowsdue_ok (f s : List Nat) (cf : Cn f) (cs : Cn s) (he : s.length = f.length) (h16 : f.length ≤ 16) (S : Sto) : wp (m_law_rowsdue [nmD f, nmD s] S) fun r _ => r = .own ((rowsR f s).map nmD) := by
  refine wp_run [.d (nmD f), .d (nmD s), .un, .un, .un, .un, .un, .un, .un] rfl ?_
  unfold b_law_rowsdue
  simp only [wp_seq, w_set, w_setO, w_m2, w_m1, w_var, varQ_d, w_c, w_nil, w_cons, w_cb, w_cbo, w_int, w_intB, w_abs, w_max, w_min, w_lenL, w_lenT, w_B, w_and, w_or, w_not, w_ifs, w_if, w_ret, w_retO, w_next, w_tup, w_lst, w_frz, w_andV, w_notV, stQ_st, w_st1, w_st2, w_st3, w_st4, w_st5, w_cells, w_stS, lawB_law, setQ1, setQ2, setQ3, setQ5, w_for, w_range1, rngQ_int, w_seqI, w_seqL, w_seqT, w_lc, w_call0d, w_call1, w_meth, w_own, w_drop, stepQ_nx, stepQ_bk, stepQ_rt, wp_ok, wp_bad, sq_nx, sq_rt, sq_ro, wp_add, wp_sub, wp_lt, wp_le, wp_gt, wp_ge, wp_mul, wp_mod, wp_fdiv, wp_pow, wp_ix, wp_ixT, wp_toB, wp_noX, wp_eqI, wp_neI, List.set_cons_zero, List.set_cons_succ, List.getElem?_cons_zero, List.getElem?_cons_succ, List.length_map, List.append_nil, List.cons_append, List.nil_append, if_true, decide_eq_true_eq, Bool.false_eq_true, if_false, wipeL, w_mbrk, Bool.not_true, Bool.not_false, decide_true, decide_false, true_and, and_true, Res.toD, w_bad, v_lenO, ixQ_int, v_ixO, v_app, v_ext, v_retV, v_borB, v_gh, borL, List.map_cons, List.map_nil, unS_d, unS_un, unS_st, unS_own, ownQ_own, setIQ_int, v_setI, v_call0O, resO_own, Bool.and_self, Bool.and_true, Bool.true_and, Bool.and_false, Bool.false_and, w_slL, w_slT, slQ_l, slQ_t, w_noP, w_pt, intQ_int, w_catT, w_catL, wp_catL, w_cnt, tupQ_t, w_tru, w_truL, w_nmL]
  refine ⟨rfl, okR_n _ (by omega), ?_⟩
  have hlen : ∀ k, k ≤ f.length → ((((List.range k).filter fun a => decide (g f a = a)).flatMap (rowsA f s))).length ≤ 256 := fun k hk => by
    have h2 := flatMap_len ((List.range k).filter fun a => decide (g f a = a)) (rowsA f s) 16 fun a _ => Nat.le_trans (rowsA_len cf cs he a) h16
    have h3 := List.length_filter_le (fun a => decide (g f a = a)) (List.range k)
    rw [List.length_range] at h3
    omega
  refine forD_inv _ (fun k ρ S' => ∃ l3 l4 l5 l6 l7 l8, ρ = [.d (nmD f), .d (nmD s), .own (((((List.range k).filter fun a => decide (g f a = a)).flatMap (rowsA f s))).map nmD), l3, l4, l5, l6, l7, l8]) _ _ ⟨_, _, _, _, _, _, rfl⟩ ?_ ?_
  · rintro a d ρ S2 hk ⟨l3, l4, l5, l6, l7, l8, rfl⟩
    obtain ⟨ha, rfl⟩ := rangeN hk
    have hA := hlen a (by omega)
    have hsn : ((List.range (a + 1)).filter fun a => decide (g f a = a)) = ((List.range a).filter fun a => decide (g f a = a)) ++ (if g f a = a then [a] else []) := by
      rw [List.range_succ, List.filter_append]
      congr 1
      by_cases c : g f a = a <;> simp [c]
    rw [hsn]
    generalize ((List.range a).filter fun a => decide (g f a = a)) = ra at *
    refine ⟨_, rfl, ?_⟩
    show wp (mIfS _ _ _ ([.d (nmD f), .d (nmD s), .own ((ra.flatMap (rowsA f s)).map nmD), .d (.int (a : Nat)), l4, l5, l6, l7, l8] : List L) S2) _
    by_cases c : g f a = a
    · rw [if_pos c]
      simp only [wp_seq, w_set, w_setO, w_m2, w_m1, w_var, varQ_d, w_c, w_nil, w_cons, w_cb, w_cbo, w_int, w_intB, w_abs, w_max, w_min, w_lenL, w_lenT, w_B, w_and, w_or, w_not, w_ifs, w_if, w_ret, w_retO, w_next, w_tup, w_lst, w_frz, w_andV, w_notV, stQ_st, w_st1, w_st2, w_st3, w_st4, w_st5, w_cells, w_stS, lawB_law, setQ1, setQ2, setQ3, setQ5, w_for, w_range1, rngQ_int, w_seqI, w_seqL, w_seqT, w_lc, w_call0d, w_call1, w_meth, w_own, w_drop, stepQ_nx, stepQ_bk, stepQ_rt, wp_ok, wp_bad, sq_nx, sq_rt, sq_ro, wp_add, wp_sub, wp_lt, wp_le, wp_gt, wp_ge, wp_mul, wp_mod, wp_fdiv, wp_pow, wp_ix, wp_ixT, wp_toB, wp_noX, wp_eqI, wp_neI, List.set_cons_zero, List.set_cons_succ, List.getElem?_cons_zero, List.getElem?_cons_succ, List.length_map, List.append_nil, List.cons_append, List.nil_append, if_true, decide_eq_true_eq, Bool.false_eq_true, if_false, wipeL, w_mbrk, Bool.not_true, Bool.not_false, decide_true, decide_false, true_and, and_true, Res.toD, w_bad, v_lenO, ixQ_int, v_ixO, v_app, v_ext, v_retV, v_borB, v_gh, borL, List.map_cons, List.map_nil, unS_d, unS_un, unS_st, unS_own, ownQ_own, setIQ_int, v_setI, v_call0O, resO_own, Bool.and_self, Bool.and_true, Bool.true_and, Bool.and_false, Bool.false_and, w_slL, w_slT, slQ_l, slQ_t, w_noP, w_pt, intQ_int, w_catT, w_catL, wp_catL, w_cnt, tupQ_t, w_tru, w_truL, w_nmI ha, natE, c]
      refine wp.mono (reached_ok f s cf cs he h16 a ha sto0) ?_
      rintro _ _ rfl
      have hwl := whole_len cf cs he (a := a)
      simp only [wp_seq, w_set, w_setO, w_m2, w_m1, w_var, varQ_d, w_c, w_nil, w_cons, w_cb, w_cbo, w_int, w_intB, w_abs, w_max, w_min, w_lenL, w_lenT, w_B, w_and, w_or, w_not, w_ifs, w_if, w_ret, w_retO, w_next, w_tup, w_lst, w_frz, w_andV, w_notV, stQ_st, w_st1, w_st2, w_st3, w_st4, w_st5, w_cells, w_stS, lawB_law, setQ1, setQ2, setQ3, setQ5, w_for, w_range1, rngQ_int, w_seqI, w_seqL, w_seqT, w_lc, w_call0d, w_call1, w_meth, w_own, w_drop, stepQ_nx, stepQ_bk, stepQ_rt, wp_ok, wp_bad, sq_nx, sq_rt, sq_ro, wp_add, wp_sub, wp_lt, wp_le, wp_gt, wp_ge, wp_mul, wp_mod, wp_fdiv, wp_pow, wp_ix, wp_ixT, wp_toB, wp_noX, wp_eqI, wp_neI, List.set_cons_zero, List.set_cons_succ, List.getElem?_cons_zero, List.getElem?_cons_succ, List.length_map, List.append_nil, List.cons_append, List.nil_append, if_true, decide_eq_true_eq, Bool.false_eq_true, if_false, wipeL, w_mbrk, Bool.not_true, Bool.not_false, decide_true, decide_false, true_and, and_true, Res.toD, w_bad, v_lenO, ixQ_int, v_ixO, v_app, v_ext, v_retV, v_borB, v_gh, borL, List.map_cons, List.map_nil, unS_d, unS_un, unS_st, unS_own, ownQ_own, setIQ_int, v_setI, v_call0O, resO_own, Bool.and_self, Bool.and_true, Bool.true_and, Bool.and_false, Bool.false_and, w_slL, w_slT, slQ_l, slQ_t, w_noP, w_pt, intQ_int, w_catT, w_catL, wp_catL, w_cnt, tupQ_t, w_tru, w_truL]
      have hwd : lotOf (joinN f s) (g (joinN f s) a) = whole f s a := rfl
      rw [hwd]
      have hl1 : line (whole f s a).length = true := by simp only [line, decide_eq_true_eq]; omega
      refine ⟨hl1, ?_⟩
      refine comp_in (fun p => decide (g f p = a)) (by simp) (fun p hp => ?_) ?_
      · have hpl := ((whole_mem cf cs he).mp hp).1
        show wp (mB _ ([.d (nmD f), .d (nmD s), .own ((ra.flatMap (rowsA f s)).map nmD), .d (.int (a : Nat)), .d (.lst ((whole f s a).map inD)), l5, l6, l7, .d (.int (p : Nat))] : List L) S2) _
        simp only [wp_seq, w_set, w_setO, w_m2, w_m1, w_var, varQ_d, w_c, w_nil, w_cons, w_cb, w_cbo, w_int, w_intB, w_abs, w_max, w_min, w_lenL, w_lenT, w_B, w_and, w_or, w_not, w_ifs, w_if, w_ret, w_retO, w_next, w_tup, w_lst, w_frz, w_andV, w_notV, stQ_st, w_st1, w_st2, w_st3, w_st4, w_st5, w_cells, w_stS, lawB_law, setQ1, setQ2, setQ3, setQ5, w_for, w_range1, rngQ_int, w_seqI, w_seqL, w_seqT, w_lc, w_call0d, w_call1, w_meth, w_own, w_drop, stepQ_nx, stepQ_bk, stepQ_rt, wp_ok, wp_bad, sq_nx, sq_rt, sq_ro, wp_add, wp_sub, wp_lt, wp_le, wp_gt, wp_ge, wp_mul, wp_mod, wp_fdiv, wp_pow, wp_ix, wp_ixT, wp_toB, wp_noX, wp_eqI, wp_neI, List.set_cons_zero, List.set_cons_succ, List.getElem?_cons_zero, List.getElem?_cons_succ, List.length_map, List.append_nil, List.cons_append, List.nil_append, if_true, decide_eq_true_eq, Bool.false_eq_true, if_false, wipeL, w_mbrk, Bool.not_true, Bool.not_false, decide_true, decide_false, true_and, and_true, Res.toD, w_bad, v_lenO, ixQ_int, v_ixO, v_app, v_ext, v_retV, v_borB, v_gh, borL, List.map_cons, List.map_nil, unS_d, unS_un, unS_st, unS_own, ownQ_own, setIQ_int, v_setI, v_call0O, resO_own, Bool.and_self, Bool.and_true, Bool.true_and, Bool.and_false, Bool.false_and, w_slL, w_slT, slQ_l, slQ_t, w_noP, w_pt, intQ_int, w_catT, w_catL, wp_catL, w_cnt, tupQ_t, w_tru, w_truL, w_nmI hpl, natE]
      rw [whole_f cf cs he ha c, List.length_map]
      refine forD_inv _ (fun j ρ S' => ∃ l6 l7 l8, ρ = [.d (nmD f), .d (nmD s), .own ((ra.flatMap (rowsA f s) ++ (((whole f s a).take j).filter fun b => decide (g s b = b)).map (rowL f s a)).map nmD), .d (.int (a : Nat)), .d (.lst ((whole f s a).map inD)), .d (.int ((lotOf f a).length : Nat)), l6, l7, l8]) _ _ ⟨l6, l7, l8, by rw [List.take_zero]; simp only [List.filter_nil, List.map_nil, List.append_nil]⟩ ?_ ?_
      · rintro j d ρ S3 hj ⟨l6, l7, l8, rfl⟩
        obtain ⟨hjl, rfl⟩ := mapIn_at hj
        have hbm : g (whole f s a) j ∈ whole f s a := List.mem_iff_getElem?.mpr ⟨j, g_some hjl⟩
        have hjs : (whole f s a).take (j + 1) = (whole f s a).take j ++ [g (whole f s a) j] := by rw [List.take_add_one, g_some hjl]; rfl
        rw [hjs, List.filter_append]
        have hfl := List.length_filter_le (fun b => decide (g s b = b)) ((whole f s a).take j)
        rw [List.length_take] at hfl
        generalize g (whole f s a) j = b at *
        have hb1 := ((whole_mem cf cs he).mp hbm).1
        generalize ((whole f s a).take j).filter (fun b => decide (g s b = b)) = fb at *
        refine ⟨_, rfl, ?_⟩
        show wp (mIfS _ _ _ ([.d (nmD f), .d (nmD s), .own ((ra.flatMap (rowsA f s) ++ fb.map (rowL f s a)).map nmD), .d (.int (a : Nat)), .d (.lst ((whole f s a).map inD)), .d (.int ((lotOf f a).length : Nat)), .d (.int (b : Nat)), l7, l8] : List L) S3) _
        by_cases cb : g s b = b
        · have hfb : List.filter (fun b => decide (g s b = b)) [b] = [b] := by simp [cb]
          rw [hfb]
          simp only [wp_seq, w_set, w_setO, w_m2, w_m1, w_var, varQ_d, w_c, w_nil, w_cons, w_cb, w_cbo, w_int, w_intB, w_abs, w_max, w_min, w_lenL, w_lenT, w_B, w_and, w_or, w_not, w_ifs, w_if, w_ret, w_retO, w_next, w_tup, w_lst, w_frz, w_andV, w_notV, stQ_st, w_st1, w_st2, w_st3, w_st4, w_st5, w_cells, w_stS, lawB_law, setQ1, setQ2, setQ3, setQ5, w_for, w_range1, rngQ_int, w_seqI, w_seqL, w_seqT, w_lc, w_call0d, w_call1, w_meth, w_own, w_drop, stepQ_nx, stepQ_bk, stepQ_rt, wp_ok, wp_bad, sq_nx, sq_rt, sq_ro, wp_add, wp_sub, wp_lt, wp_le, wp_gt, wp_ge, wp_mul, wp_mod, wp_fdiv, wp_pow, wp_ix, wp_ixT, wp_toB, wp_noX, wp_eqI, wp_neI, List.set_cons_zero, List.set_cons_succ, List.getElem?_cons_zero, List.getElem?_cons_succ, List.length_map, List.append_nil, List.cons_append, List.nil_append, if_true, decide_eq_true_eq, Bool.false_eq_true, if_false, wipeL, w_mbrk, Bool.not_true, Bool.not_false, decide_true, decide_false, true_and, and_true, Res.toD, w_bad, v_lenO, ixQ_int, v_ixO, v_app, v_ext, v_retV, v_borB, v_gh, borL, List.map_cons, List.map_nil, unS_d, unS_un, unS_st, unS_own, ownQ_own, setIQ_int, v_setI, v_call0O, resO_own, Bool.and_self, Bool.and_true, Bool.true_and, Bool.and_false, Bool.false_and, w_slL, w_slT, slQ_l, slQ_t, w_noP, w_pt, intQ_int, w_catT, w_catL, wp_catL, w_cnt, tupQ_t, w_tru, w_truL, w_nmI (show b < s.length by omega), natE, cb, w_l0 (whole_head cf cs he ha)]
          refine ⟨hl1, ?_⟩
          refine comp_in (fun p => decide (g f p = a) && decide (g s p = b)) (by simp) (fun p hp => ?_) ?_
          · have hpl := ((whole_mem cf cs he).mp hp).1
            show wp (mAnd _ _ ([.d (nmD f), .d (nmD s), .own ((ra.flatMap (rowsA f s) ++ fb.map (rowL f s a)).map nmD), .d (.int (a : Nat)), .d (.lst ((whole f s a).map inD)), .d (.int ((lotOf f a).length : Nat)), .d (.int (b : Nat)), l7, .d (.int (p : Nat))] : List L) S3) _
            by_cases c1 : g f p = a <;> by_cases c2 : g s p = b <;> simp only [wp_seq, w_set, w_setO, w_m2, w_m1, w_var, varQ_d, w_c, w_nil, w_cons, w_cb, w_cbo, w_int, w_intB, w_abs, w_max, w_min, w_lenL, w_lenT, w_B, w_and, w_or, w_not, w_ifs, w_if, w_ret, w_retO, w_next, w_tup, w_lst, w_frz, w_andV, w_notV, stQ_st, w_st1, w_st2, w_st3, w_st4, w_st5, w_cells, w_stS, lawB_law, setQ1, setQ2, setQ3, setQ5, w_for, w_range1, rngQ_int, w_seqI, w_seqL, w_seqT, w_lc, w_call0d, w_call1, w_meth, w_own, w_drop, stepQ_nx, stepQ_bk, stepQ_rt, wp_ok, wp_bad, sq_nx, sq_rt, sq_ro, wp_add, wp_sub, wp_lt, wp_le, wp_gt, wp_ge, wp_mul, wp_mod, wp_fdiv, wp_pow, wp_ix, wp_ixT, wp_toB, wp_noX, wp_eqI, wp_neI, List.set_cons_zero, List.set_cons_succ, List.getElem?_cons_zero, List.getElem?_cons_succ, List.length_map, List.append_nil, List.cons_append, List.nil_append, if_true, decide_eq_true_eq, Bool.false_eq_true, if_false, wipeL, w_mbrk, Bool.not_true, Bool.not_false, decide_true, decide_false, true_and, and_true, Res.toD, w_bad, v_lenO, ixQ_int, v_ixO, v_app, v_ext, v_retV, v_borB, v_gh, borL, List.map_cons, List.map_nil, unS_d, unS_un, unS_st, unS_own, ownQ_own, setIQ_int, v_setI, v_call0O, resO_own, Bool.and_self, Bool.and_true, Bool.true_and, Bool.and_false, Bool.false_and, w_slL, w_slT, slQ_l, slQ_t, w_noP, w_pt, intQ_int, w_catT, w_catL, wp_catL, w_cnt, tupQ_t, w_tru, w_truL, w_nmI hpl, w_nmI (show p < s.length by omega), natE, c1, c2]
          rw [List.length_map, whole_c cf cs he ha c]
          refine ⟨hl1, ?_⟩
          refine comp_in (fun p => decide (g s p = b)) (by simp) (fun p hp => ?_) ?_
          · have hpl := ((whole_mem cf cs he).mp hp).1
            show wp (mB _ ([.d (nmD f), .d (nmD s), .own ((ra.flatMap (rowsA f s) ++ fb.map (rowL f s a)).map nmD), .d (.int (a : Nat)), .d (.lst ((whole f s a).map inD)), .d (.int ((lotOf f a).length : Nat)), .d (.int (b : Nat)), .d (.int (cnt (lotOf f a) (lotOf s b) : Nat)), .d (.int (p : Nat))] : List L) S3) _
            simp only [wp_seq, w_set, w_setO, w_m2, w_m1, w_var, varQ_d, w_c, w_nil, w_cons, w_cb, w_cbo, w_int, w_intB, w_abs, w_max, w_min, w_lenL, w_lenT, w_B, w_and, w_or, w_not, w_ifs, w_if, w_ret, w_retO, w_next, w_tup, w_lst, w_frz, w_andV, w_notV, stQ_st, w_st1, w_st2, w_st3, w_st4, w_st5, w_cells, w_stS, lawB_law, setQ1, setQ2, setQ3, setQ5, w_for, w_range1, rngQ_int, w_seqI, w_seqL, w_seqT, w_lc, w_call0d, w_call1, w_meth, w_own, w_drop, stepQ_nx, stepQ_bk, stepQ_rt, wp_ok, wp_bad, sq_nx, sq_rt, sq_ro, wp_add, wp_sub, wp_lt, wp_le, wp_gt, wp_ge, wp_mul, wp_mod, wp_fdiv, wp_pow, wp_ix, wp_ixT, wp_toB, wp_noX, wp_eqI, wp_neI, List.set_cons_zero, List.set_cons_succ, List.getElem?_cons_zero, List.getElem?_cons_succ, List.length_map, List.append_nil, List.cons_append, List.nil_append, if_true, decide_eq_true_eq, Bool.false_eq_true, if_false, wipeL, w_mbrk, Bool.not_true, Bool.not_false, decide_true, decide_false, true_and, and_true, Res.toD, w_bad, v_lenO, ixQ_int, v_ixO, v_app, v_ext, v_retV, v_borB, v_gh, borL, List.map_cons, List.map_nil, unS_d, unS_un, unS_st, unS_own, ownQ_own, setIQ_int, v_setI, v_call0O, resO_own, Bool.and_self, Bool.and_true, Bool.true_and, Bool.and_false, Bool.false_and, w_slL, w_slT, slQ_l, slQ_t, w_noP, w_pt, intQ_int, w_catT, w_catL, wp_catL, w_cnt, tupQ_t, w_tru, w_truL, w_nmI (show p < s.length by omega), natE]
          rw [whole_s cf cs he hbm cb]
          rw [List.length_map]
          refine ⟨rfl, ?_, ?_⟩
          · simp only [line, List.length_append, List.length_map, decide_eq_true_eq]
            omega
          · have e : List.map nmD (List.flatMap (rowsA f s) ra ++ List.map (rowL f s a) (fb ++ [b])) = List.map nmD (List.flatMap (rowsA f s) ra ++ List.map (rowL f s a) fb) ++ [nmD (rowL f s a b)] := by
              simp only [List.map_append, List.map_cons, List.map_nil, List.append_assoc]
            rw [e]
            exact ⟨_, _, _, rfl⟩
        · have hfb : List.filter (fun b => decide (g s b = b)) [b] = [] := by simp [cb]
          rw [hfb, List.append_nil]
          simp only [wp_seq, w_set, w_setO, w_m2, w_m1, w_var, varQ_d, w_c, w_nil, w_cons, w_cb, w_cbo, w_int, w_intB, w_abs, w_max, w_min, w_lenL, w_lenT, w_B, w_and, w_or, w_not, w_ifs, w_if, w_ret, w_retO, w_next, w_tup, w_lst, w_frz, w_andV, w_notV, stQ_st, w_st1, w_st2, w_st3, w_st4, w_st5, w_cells, w_stS, lawB_law, setQ1, setQ2, setQ3, setQ5, w_for, w_range1, rngQ_int, w_seqI, w_seqL, w_seqT, w_lc, w_call0d, w_call1, w_meth, w_own, w_drop, stepQ_nx, stepQ_bk, stepQ_rt, wp_ok, wp_bad, sq_nx, sq_rt, sq_ro, wp_add, wp_sub, wp_lt, wp_le, wp_gt, wp_ge, wp_mul, wp_mod, wp_fdiv, wp_pow, wp_ix, wp_ixT, wp_toB, wp_noX, wp_eqI, wp_neI, List.set_cons_zero, List.set_cons_succ, List.getElem?_cons_zero, List.getElem?_cons_succ, List.length_map, List.append_nil, List.cons_append, List.nil_append, if_true, decide_eq_true_eq, Bool.false_eq_true, if_false, wipeL, w_mbrk, Bool.not_true, Bool.not_false, decide_true, decide_false, true_and, and_true, Res.toD, w_bad, v_lenO, ixQ_int, v_ixO, v_app, v_ext, v_retV, v_borB, v_gh, borL, List.map_cons, List.map_nil, unS_d, unS_un, unS_st, unS_own, ownQ_own, setIQ_int, v_setI, v_call0O, resO_own, Bool.and_self, Bool.and_true, Bool.true_and, Bool.and_false, Bool.false_and, w_slL, w_slT, slQ_l, slQ_t, w_noP, w_pt, intQ_int, w_catT, w_catL, wp_catL, w_cnt, tupQ_t, w_tru, w_truL, w_nmI (show b < s.length by omega), natE, cb]
          exact ⟨_, _, _, rfl⟩
      · rintro ρ S3 ⟨l6, l7, l8, rfl⟩
        rw [List.length_map, List.take_length, stepQ_nx, List.flatMap_append]
        have e : List.flatMap (rowsA f s) [a] = List.map (rowL f s a) (List.filter (fun b => decide (g s b = b)) (whole f s a)) := by simp [rowsA]
        rw [e]
        exact ⟨_, _, _, _, _, _, rfl⟩
    · rw [if_neg c]
      simp only [wp_seq, w_set, w_setO, w_m2, w_m1, w_var, varQ_d, w_c, w_nil, w_cons, w_cb, w_cbo, w_int, w_intB, w_abs, w_max, w_min, w_lenL, w_lenT, w_B, w_and, w_or, w_not, w_ifs, w_if, w_ret, w_retO, w_next, w_tup, w_lst, w_frz, w_andV, w_notV, stQ_st, w_st1, w_st2, w_st3, w_st4, w_st5, w_cells, w_stS, lawB_law, setQ1, setQ2, setQ3, setQ5, w_for, w_range1, rngQ_int, w_seqI, w_seqL, w_seqT, w_lc, w_call0d, w_call1, w_meth, w_own, w_drop, stepQ_nx, stepQ_bk, stepQ_rt, wp_ok, wp_bad, sq_nx, sq_rt, sq_ro, wp_add, wp_sub, wp_lt, wp_le, wp_gt, wp_ge, wp_mul, wp_mod, wp_fdiv, wp_pow, wp_ix, wp_ixT, wp_toB, wp_noX, wp_eqI, wp_neI, List.set_cons_zero, List.set_cons_succ, List.getElem?_cons_zero, List.getElem?_cons_succ, List.length_map, List.append_nil, List.cons_append, List.nil_append, if_true, decide_eq_true_eq, Bool.false_eq_true, if_false, wipeL, w_mbrk, Bool.not_true, Bool.not_false, decide_true, decide_false, true_and, and_true, Res.toD, w_bad, v_lenO, ixQ_int, v_ixO, v_app, v_ext, v_retV, v_borB, v_gh, borL, List.map_cons, List.map_nil, unS_d, unS_un, unS_st, unS_own, ownQ_own, setIQ_int, v_setI, v_call0O, resO_own, Bool.and_self, Bool.and_true, Bool.true_and, Bool.and_false, Bool.false_and, w_slL, w_slT, slQ_l, slQ_t, w_noP, w_pt, intQ_int, w_catT, w_catL, wp_catL, w_cnt, tupQ_t, w_tru, w_truL, w_nmI ha, natE, c]
      exact ⟨_, _, _, _, _, _, rfl⟩
  · rintro ρ S2 ⟨l3, l4, l5, l6, l7, l8, rfl⟩
    have e : (rangeD 0 (f.length : Int).toNat).length = f.length := by rw [rangeD_len]; simp
    rw [e, ← reps_g]
    simp only [wp_seq, w_set, w_setO, w_m2, w_m1, w_var, varQ_d, w_c, w_nil, w_cons, w_cb, w_cbo, w_int, w_intB, w_abs, w_max, w_min, w_lenL, w_lenT, w_B, w_and, w_or, w_not, w_ifs, w_if, w_ret, w_retO, w_next, w_tup, w_lst, w_frz, w_andV, w_notV, stQ_st, w_st1, w_st2, w_st3, w_st4, w_st5, w_cells, w_stS, lawB_law, setQ1, setQ2, setQ3, setQ5, w_for, w_range1, rngQ_int, w_seqI, w_seqL, w_seqT, w_lc, w_call0d, w_call1, w_meth, w_own, w_drop, stepQ_nx, stepQ_bk, stepQ_rt, wp_ok, wp_bad, sq_nx, sq_rt, sq_ro, wp_add, wp_sub, wp_lt, wp_le, wp_gt, wp_ge, wp_mul, wp_mod, wp_fdiv, wp_pow, wp_ix, wp_ixT, wp_toB, wp_noX, wp_eqI, wp_neI, List.set_cons_zero, List.set_cons_succ, List.getElem?_cons_zero, List.getElem?_cons_succ, List.length_map, List.append_nil, List.cons_append, List.nil_append, if_true, decide_eq_true_eq, Bool.false_eq_true, if_false, wipeL, w_mbrk, Bool.not_true, Bool.not_false, decide_true, decide_false, true_and, and_true, Res.toD, w_bad, v_lenO, ixQ_int, v_ixO, v_app, v_ext, v_retV, v_borB, v_gh, borL, List.map_cons, List.map_nil, unS_d, unS_un, unS_st, unS_own, ownQ_own, setIQ_int, v_setI, v_call0O, resO_own, Bool.and_self, Bool.and_true, Bool.true_and, Bool.and_false, Bool.false_and, w_slL, w_slT, slQ_l, slQ_t, w_noP, w_pt, intQ_int, w_catT, w_catL, wp_catL, w_cnt, tupQ_t, w_tru, w_truL]
    rfl
end K17

set_option Elab.async false
set_option linter.all false
set_option maxRecDepth 100000
set_option maxHeartbeats 4000000
set_option autoImplicit false
namespace K17
open PySem PySem.Spec L2 DL
theorem atX {xs : List D} {k : Nat} {d : D} (h : xs[k]? = some d) {S : Sto} {Q : D → Sto → Prop} (q : Q d S) : wp (gIx (.lst xs) (.int (k : Nat)) S) Q := by
  rw [wp_ix]; exact ⟨d, atL h, q⟩
theorem atXT {xs : List D} {k : Nat} {d : D} (h : xs[k]? = some d) {S : Sto} {Q : D → Sto → Prop} (q : Q d S) : wp (gIx (.tup xs) (.int (k : Nat)) S) Q := by
  rw [wp_ixT]; exact ⟨d, atL h, q⟩
theorem isN_ok (d : D) (S : Sto) (Q : D → Sto → Prop) : wp (gIsN d .non S) Q = Q (.bl (isN d)) S := by
  have : gIsN d .non S = .ok (.bl (isN d)) S := rfl
  rw [this, wp_ok]
/-- a value is the same as itself -/
def Sm (n : Nat) (d : D) : Prop := ∀ S, wp (m_law_same n [d, d] S) fun r _ => r = .d (.bl true)
theorem w_if1 {T : String} {v : Nat} {φt φu : Ph Ctl} {ρ : List L} {S : Sto} {Q : Ctl → Sto → Prop} {d : D} {b : Bool} (hv : ρ[v]? = some (.d d)) (hi : ∀ S, gIsi T d S = .ok (.bl b) S) : wp (mIfS (mB (m1 (gIsi T) (mVar v))) φt φu ρ S) Q = if b = true then wp (φt ρ S) Q else wp (φu ρ S) Q := by
  rw [w_ifs, w_B, w_m1, w_var, hv, varQ_d, hi, wp_ok, wp_toB]
theorem sm_int (n : Nat) (i : Int) : Sm (n + 1) (.int i) := fun S => by
  refine wp_run (φ := b_law_same (m_law_same n)) [.d (.int i), .d (.int i), .un] rfl ?_
  unfold b_law_same
  rw [wp_seq, w_ifs, w_B, w_m2, w_var]
  simp only [List.getElem?_cons_zero, List.getElem?_cons_succ, varQ_d]
  rw [w_c, isN_ok, wp_toB, if_neg (fun h : isN (D.int i) = true => by cases h), w_next, sq_nx, wp_seq, w_if1 (b := false) rfl (fun S => rfl), if_neg (by decide), w_next, sq_nx, wp_seq, w_if1 (b := true) rfl (fun S => rfl), if_pos rfl, w_ret, w_andV, w_m1, w_var]
  simp only [List.getElem?_cons_zero, List.getElem?_cons_succ, varQ_d]
  have e1 : gIsi "int" (.int i) S = .ok (.bl true) S := rfl
  have e2 : gIsi "bool" (.int i) S = .ok (.bl false) S := rfl
  rw [e1, wp_ok, wp_toB, if_pos rfl, w_andV, w_notV, w_m1, w_var]
  simp only [List.getElem?_cons_zero, List.getElem?_cons_succ, varQ_d]
  rw [e2, wp_ok, wp_toB, wp_toB, if_pos (by decide : (!false) = true), w_m2, w_var]
  simp only [List.getElem?_cons_zero, List.getElem?_cons_succ, varQ_d]
  rw [w_var]
  simp only [List.getElem?_cons_zero, List.getElem?_cons_succ, varQ_d]
  rw [wp_eqI, sq_rt]
  simp
structure SeqD (d : D) (xs : List D) (t : Bool) : Prop where
  ln : ∀ (S : Sto) (Q : D → Sto → Prop), wp (pureC lenC [d] S) Q = Q (.int (xs.length : Nat)) S
  ix : ∀ (k : Nat) (x : D) (S : Sto) (Q : D → Sto → Prop), xs[k]? = some x → Q x S → wp (gIx d (.int (k : Nat)) S) Q
  nn : isN d = false
  ib : ∀ S, gIsi "bool" d S = .ok (.bl false) S
  ii : ∀ S, gIsi "int" d S = .ok (.bl false) S
  is : ∀ S, gIsi "str" d S = .ok (.bl false) S
  it : ∀ S, gIsi "tuple" d S = .ok (.bl t) S
  il : ∀ S, gIsi "list" d S = .ok (.bl (!t)) S
theorem sm_seq {n : Nat} {d : D} {xs : List D} {t : Bool} (H : SeqD d xs t) (hl : xs.length ≤ 900) (hx : ∀ x ∈ xs, Sm n x) : Sm (n + 1) d := fun S => by
  refine wp_run (φ := b_law_same (m_law_same n)) [.d d, .d d, .un] rfl ?_
  unfold b_law_same
  rw [wp_seq, w_ifs, w_B, w_m2, w_var]
  simp only [List.getElem?_cons_zero, List.getElem?_cons_succ, varQ_d]
  rw [w_c, isN_ok, H.nn, wp_toB, if_neg (by decide), w_next, sq_nx, wp_seq, w_if1 rfl H.ib, if_neg (by decide), w_next, sq_nx, wp_seq, w_if1 rfl H.ii, if_neg (by decide), w_next, sq_nx, wp_seq, w_if1 rfl H.is, if_neg (by decide), w_next, sq_nx, wp_seq]
  have lt : ∀ Q : Ctl → Sto → Prop, Q (.nx [.d d, .d d, .un]) S → wp (mIfS (mB (m1 (gIsi "tuple") (mVar 1))) (mIfS (mOr (mNot (mB (m1 (gIsi "tuple") (mVar 0)))) (mB (m2 gNe (mCB (pureC lenC) (mCons (mVar 0) mNil)) (mCB (pureC lenC) (mCons (mVar 1) mNil))))) (mRet (mC (.bl false)))
   mNext)
   (mIfS (mOr (mNot (mB (m1 (gIsi "list") (mVar 1)))) (mOr (mNot (mB (m1 (gIsi "list") (mVar 0)))) (mB (m2 gNe (mCB (pureC lenC) (mCons (mVar 0) mNil)) (mCB (pureC lenC) (mCons (mVar 1) mNil)))))) (mRet (mC (.bl false)))
   mNext) [.d d, .d d, .un] S) Q := fun Q q => by
    have hne : wp (mB (m2 gNe (mCB (pureC lenC) (mCons (mVar 0) mNil)) (mCB (pureC lenC) (mCons (mVar 1) mNil))) [.d d, .d d, .un] S) fun c S' => c = false ∧ S' = S := by
      rw [w_B, w_m2, w_cb, w_cons, w_var]
      simp only [List.getElem?_cons_zero, List.getElem?_cons_succ, varQ_d]
      rw [w_nil, H.ln, w_cb, w_cons, w_var]
      simp only [List.getElem?_cons_zero, List.getElem?_cons_succ, varQ_d]
      rw [w_nil, H.ln, wp_neI, wp_toB]
      exact ⟨by simp, rfl⟩
    rw [w_if1 rfl H.it]
    cases t
    · rw [if_neg (by decide), w_ifs, w_or, w_not, w_B, w_m1, w_var]
      simp only [List.getElem?_cons_zero, List.getElem?_cons_succ, varQ_d]
      rw [H.il, wp_ok, wp_toB, if_neg (by decide), w_or, w_not, w_B, w_m1, w_var]
      simp only [List.getElem?_cons_zero, List.getElem?_cons_succ, varQ_d]
      rw [H.il, wp_ok, wp_toB, if_neg (by decide)]
      refine wp.mono hne ?_
      rintro _ _ ⟨rfl, rfl⟩
      rw [if_neg (by decide), w_next]
      exact q
    · rw [if_pos rfl, w_ifs, w_or, w_not, w_B, w_m1, w_var]
      simp only [List.getElem?_cons_zero, List.getElem?_cons_succ, varQ_d]
      rw [H.it, wp_ok, wp_toB, if_neg (by decide)]
      refine wp.mono hne ?_
      rintro _ _ ⟨rfl, rfl⟩
      rw [if_neg (by decide), w_next]
      exact q
  refine lt _ ?_
  rw [sq_nx, wp_seq, w_for, w_range1, w_cons, w_cb, w_cons, w_var]
  simp only [List.getElem?_cons_zero, List.getElem?_cons_succ, varQ_d]
  rw [w_nil, H.ln, w_nil, rngQ_int]
  refine ⟨by unfold okR; simp; omega, ?_⟩
  refine forD_inv _ (fun k ρ S' => ∃ l2, ρ = [.d d, .d d, l2]) _ _ ⟨_, rfl⟩ ?_ ?_
  · rintro k e ρ S2 hk ⟨l2, rfl⟩
    obtain ⟨hk', rfl⟩ := rangeD_at hk
    have hkl : k < xs.length := by simpa using hk'
    have hxk : xs[k]? = some xs[k] := List.getElem?_eq_getElem hkl
    have hsm := hx xs[k] (List.getElem_mem hkl)
    generalize xs[k] = x at *
    refine ⟨_, rfl, ?_⟩
    show wp (mIfS _ _ _ ([.d d, .d d, .d (.int (k : Nat))] : List L) S2) _
    rw [w_ifs, w_not, w_B, w_call0, w_cons, w_m2, w_var]
    simp only [List.getElem?_cons_zero, List.getElem?_cons_succ, varQ_d]
    rw [w_var]
    simp only [List.getElem?_cons_zero, List.getElem?_cons_succ, varQ_d]
    refine H.ix k x _ _ hxk ?_
    rw [w_cons, w_m2, w_var]
    simp only [List.getElem?_cons_zero, List.getElem?_cons_succ, varQ_d]
    rw [w_var]
    simp only [List.getElem?_cons_zero, List.getElem?_cons_succ, varQ_d]
    refine H.ix k x _ _ hxk ?_
    rw [w_nil]
    refine wp.mono (hsm sto0) ?_
    rintro _ _ rfl
    show wp (toB (.bl true) _) _
    rw [wp_toB, if_neg (by decide), w_next, stepQ_nx]
    exact ⟨_, rfl⟩
  · rintro ρ S2 ⟨l2, rfl⟩
    rw [sq_nx, w_ret, w_c]
theorem seq_tup (xs : List D) : SeqD (.tup xs) xs true := ⟨fun S Q => w_lenT, fun k x S Q h q => atXT h q, rfl, fun S => rfl, fun S => rfl, fun S => rfl, fun S => rfl, fun S => rfl⟩
theorem seq_lst (xs : List D) : SeqD (.lst xs) xs false := ⟨fun S Q => w_lenL, fun k x S Q h q => atX h q, rfl, fun S => rfl, fun S => rfl, fun S => rfl, fun S => rfl, fun S => rfl⟩
theorem sm_nm (n : Nat) (ns : List Nat) (h : ns.length ≤ 900) : Sm (n + 2) (nmD ns) := by
  have e := seq_tup (ns.map inD)
  unfold nmD
  generalize D.tup (ns.map inD) = d at *
  refine sm_seq e (by rw [List.length_map]; exact h) fun x hx => ?_
  obtain ⟨k, _, rfl⟩ := List.mem_map.mp hx
  exact sm_int n _
theorem sm_pair (n : Nat) (i j : Int) : Sm (n + 2) (.tup [.int i, .int j]) := sm_seq (seq_tup [.int i, .int j]) (show 2 ≤ 900 by decide) fun x hx => by
  simp at hx
  rcases hx with rfl | rfl <;> exact sm_int n _

theorem sm_rows (n : Nat) (f s : List Nat) (h : (rowsR f s).length ≤ 900) : Sm (n + 3) (rowsD f s) := by
  have e := seq_lst ((rowsR f s).map nmD)
  unfold rowsD
  generalize D.lst ((rowsR f s).map nmD) = d at *
  refine sm_seq e (by rw [List.length_map]; exact h) fun x hx => ?_
  obtain ⟨r, hr, rfl⟩ := List.mem_map.mp hx
  refine sm_nm n r ?_
  obtain ⟨a, _, ha⟩ := List.mem_flatMap.mp hr
  obtain ⟨b, _, rfl⟩ := List.mem_map.mp ha
  exact (show 7 ≤ 900 by decide)
/-! ### unlike counts -/
abbrev ulX (cU : Addr) (a b : Int) : XD := ⟨cU, (["right_plots", "left_plots"] : List Str), [.int b, .int a]⟩
theorem run_exc {hb : Bool} {n : Nat} {φ : Ph Ctl} {ds : List D} {S : Sto} {ρ ρ' : List L} {x : XD} {S' : Sto} (e : startL hb n ds = ρ) (h : φ ρ S = .exc x ρ' S') : runD hb n φ ds S = .exc x [] S' := by
  unfold runD
  rw [e, h]
theorem drop_exc {φ : Ph D} {ρ ρ' : List L} {S S' : Sto} {x : XD} (h : φ ρ S = .exc x ρ' S') : mDrop φ ρ S = .exc x ρ' S' := by
  unfold mDrop
  rw [h]; rfl
theorem seq_exc {φ k : Ph Ctl} {ρ ρ' : List L} {S S' : Sto} {x : XD} (h : φ ρ S = .exc x ρ' S') : mSeq φ k ρ S = .exc x ρ' S' := by
  unfold mSeq
  rw [h]; rfl
theorem call0_exc {m : Fn} {dds : List D} {φl : Ph (List D)} {ρ ρ' : List L} {S S' : Sto} {x : XD} {ds : List D} (ha : φl ρ S = .ok ds S) (h : m (ds ++ dds) sto0 = .exc x ρ' S') : mCall0 m dds φl ρ S = .exc x ρ S := by
  unfold mCall0
  rw [ha]
  simp only [Out.bind, h]
theorem call0O_exc {m : Fn} {dds : List D} {φl : Ph (List D)} {ρ ρ' : List L} {S S' : Sto} {x : XD} {ds : List D} (ha : φl ρ S = .ok ds S) (h : m (ds ++ dds) sto0 = .exc x ρ' S') : mCall0O m dds φl ρ S = .exc x ρ S := by
  unfold mCall0O
  rw [ha]
  simp only [Out.bind, h]
theorem counts_exc (cU : Addr) (n m : Int) (h : m ≠ n) (S : Sto) : m_check_counts cU [.int n, .lst [.int m]] S = .exc (ulX cU n m) [] S := by
  refine run_exc (ρ := [.d (.int n), .d (.lst [.int m]), .un]) (ρ' := [.d (.int n), .d (.lst [.int m]), .d (.int m)]) rfl ?_
  unfold b_check_counts mFor
  have e : mSeqI (mVar 1) ([.d (.int n), .d (.lst [.int m]), .un] : List L) S = .ok [.int m] S := rfl
  have hT : mB (m2 gNe (mVar 2) (mVar 0)) ([.d (.int n), .d (.lst [.int m]), .d (.int m)] : List L) S = .ok true S := by
    refine wp_eq ?_
    simp only [wp_seq, w_set, w_setO, w_m2, w_m1, w_var, varQ_d, w_c, w_nil, w_cons, w_cb, w_cbo, w_int, w_intB, w_abs, w_max, w_min, w_lenL, w_lenT, w_B, w_and, w_or, w_not, w_ifs, w_if, w_ret, w_retO, w_next, w_tup, w_lst, w_frz, w_andV, w_notV, stQ_st, w_st1, w_st2, w_st3, w_st4, w_st5, w_cells, w_stS, lawB_law, setQ1, setQ2, setQ3, setQ5, w_for, w_range1, rngQ_int, w_seqI, w_seqL, w_seqT, w_lc, w_call0d, w_call1, w_meth, w_own, w_drop, stepQ_nx, stepQ_bk, stepQ_rt, wp_ok, wp_bad, sq_nx, sq_rt, sq_ro, wp_add, wp_sub, wp_lt, wp_le, wp_gt, wp_ge, wp_mul, wp_mod, wp_fdiv, wp_pow, wp_ix, wp_ixT, wp_toB, wp_noX, wp_eqI, wp_neI, List.set_cons_zero, List.set_cons_succ, List.getElem?_cons_zero, List.getElem?_cons_succ, List.length_map, List.append_nil, List.cons_append, List.nil_append, if_true, decide_eq_true_eq, Bool.false_eq_true, if_false, wipeL, w_mbrk, Bool.not_true, Bool.not_false, decide_true, decide_false, true_and, and_true, Res.toD, w_bad, v_lenO, ixQ_int, v_ixO, v_app, v_ext, v_retV, v_borB, v_gh, borL, List.map_cons, List.map_nil, unS_d, unS_un, unS_st, unS_own, ownQ_own, setIQ_int, v_setI, v_call0O, resO_own, Bool.and_self, Bool.and_true, Bool.true_and, Bool.and_false, Bool.false_and, w_slL, w_slT, slQ_l, slQ_t, w_noP, w_pt, intQ_int, w_catT, w_catL, wp_catL, w_cnt, tupQ_t, w_tru, w_truL]
    simpa using h
  have hI : mIfS (mB (m2 gNe (mVar 2) (mVar 0))) (mRaise cU (["left_plots", "right_plots"] : List Str) (mCons (mVar 0) (mCons (mVar 2) mNil))) mNext ([.d (.int n), .d (.lst [.int m]), .d (.int m)] : List L) S = .exc (ulX cU n m) [.d (.int n), .d (.lst [.int m]), .d (.int m)] S := by
    unfold mIfS
    rw [hT]
    simp only [Out.bind, if_true]
    rfl
  rw [e]
  simp only [Out.bind, forD, Tgt.put, List.set_cons_zero, List.set_cons_succ]
  rw [hI]
theorem alike_exc (cP cU : Addr) (n : Nat) (s : List Nat) (h : s.length ≠ n) (S : Sto) : m_check_alike cP cU [.int (n : Nat), .lst [ptD cP s]] S = .exc (ulX cU (n : Nat) (s.length : Nat)) [] S := by
  refine run_exc (ρ := [.d (.int (n : Nat)), .d (.lst [ptD cP s]), .un]) (ρ' := [.d (.int (n : Nat)), .d (.lst [ptD cP s]), .un]) rfl ?_
  unfold b_check_alike
  refine drop_exc (call0_exc (ds := [.int (n : Nat), .lst [.int (s.length : Nat)]]) (wp_eq ?_) (counts_exc cU _ _ (by omega) sto0))
  simp only [wp_seq, w_set, w_setO, w_m2, w_m1, w_var, varQ_d, w_c, w_nil, w_cons, w_cb, w_cbo, w_int, w_intB, w_abs, w_max, w_min, w_lenL, w_lenT, w_B, w_and, w_or, w_not, w_ifs, w_if, w_ret, w_retO, w_next, w_tup, w_lst, w_frz, w_andV, w_notV, stQ_st, w_st1, w_st2, w_st3, w_st4, w_st5, w_cells, w_stS, lawB_law, setQ1, setQ2, setQ3, setQ5, w_for, w_range1, rngQ_int, w_seqI, w_seqL, w_seqT, w_lc, w_call0d, w_call1, w_meth, w_own, w_drop, stepQ_nx, stepQ_bk, stepQ_rt, wp_ok, wp_bad, sq_nx, sq_rt, sq_ro, wp_add, wp_sub, wp_lt, wp_le, wp_gt, wp_ge, wp_mul, wp_mod, wp_fdiv, wp_pow, wp_ix, wp_ixT, wp_toB, wp_noX, wp_eqI, wp_neI, List.set_cons_zero, List.set_cons_succ, List.getElem?_cons_zero, List.getElem?_cons_succ, List.length_map, List.append_nil, List.cons_append, List.nil_append, if_true, decide_eq_true_eq, Bool.false_eq_true, if_false, wipeL, w_mbrk, Bool.not_true, Bool.not_false, decide_true, decide_false, true_and, and_true, Res.toD, w_bad, v_lenO, ixQ_int, v_ixO, v_app, v_ext, v_retV, v_borB, v_gh, borL, List.map_cons, List.map_nil, unS_d, unS_un, unS_st, unS_own, ownQ_own, setIQ_int, v_setI, v_call0O, resO_own, Bool.and_self, Bool.and_true, Bool.true_and, Bool.and_false, Bool.false_and, w_slL, w_slT, slQ_l, slQ_t, w_noP, w_pt, intQ_int, w_catT, w_catL, wp_catL, w_cnt, tupQ_t, w_tru, w_truL]
  refine ⟨rfl, ?_⟩
  refine comp_map (fun _ => .int (s.length : Nat)) _ (fun d hd => ?_) ?_
  · simp at hd
    subst hd
    refine ⟨_, rfl, ?_⟩
    show wp (m1 _ _ ([.d (.int (n : Nat)), .d (.lst [ptD cP s]), .d (ptD cP s)] : List L) S) _
    simp only [wp_seq, w_set, w_setO, w_m2, w_m1, w_var, varQ_d, w_c, w_nil, w_cons, w_cb, w_cbo, w_int, w_intB, w_abs, w_max, w_min, w_lenL, w_lenT, w_B, w_and, w_or, w_not, w_ifs, w_if, w_ret, w_retO, w_next, w_tup, w_lst, w_frz, w_andV, w_notV, stQ_st, w_st1, w_st2, w_st3, w_st4, w_st5, w_cells, w_stS, lawB_law, setQ1, setQ2, setQ3, setQ5, w_for, w_range1, rngQ_int, w_seqI, w_seqL, w_seqT, w_lc, w_call0d, w_call1, w_meth, w_own, w_drop, stepQ_nx, stepQ_bk, stepQ_rt, wp_ok, wp_bad, sq_nx, sq_rt, sq_ro, wp_add, wp_sub, wp_lt, wp_le, wp_gt, wp_ge, wp_mul, wp_mod, wp_fdiv, wp_pow, wp_ix, wp_ixT, wp_toB, wp_noX, wp_eqI, wp_neI, List.set_cons_zero, List.set_cons_succ, List.getElem?_cons_zero, List.getElem?_cons_succ, List.length_map, List.append_nil, List.cons_append, List.nil_append, if_true, decide_eq_true_eq, Bool.false_eq_true, if_false, wipeL, w_mbrk, Bool.not_true, Bool.not_false, decide_true, decide_false, true_and, and_true, Res.toD, w_bad, v_lenO, ixQ_int, v_ixO, v_app, v_ext, v_retV, v_borB, v_gh, borL, List.map_cons, List.map_nil, unS_d, unS_un, unS_st, unS_own, ownQ_own, setIQ_int, v_setI, v_call0O, resO_own, Bool.and_self, Bool.and_true, Bool.true_and, Bool.and_false, Bool.false_and, w_slL, w_slT, slQ_l, slQ_t, w_noP, w_pt, intQ_int, w_catT, w_catL, wp_catL, w_cnt, tupQ_t, w_tru, w_truL, w_pl]
  · exact ⟨rfl, rfl⟩
theorem meeting_exc (cP cU : Addr) (f s : List Nat) (h : s.length ≠ f.length) (S : Sto) : m_meeting cP cU [ptD cP f, ptD cP s] S = .exc (ulX cU (f.length : Nat) (s.length : Nat)) [] S := by
  refine run_exc (ρ := [.d (ptD cP f), .d (ptD cP s), .un, .un, .un, .un, .un]) (ρ' := [.d (ptD cP f), .d (ptD cP s), .un, .un, .un, .un, .un]) rfl ?_
  unfold b_meeting
  refine seq_exc (drop_exc (call0_exc (ds := [.int (f.length : Nat), .lst [ptD cP s]]) (wp_eq ?_) (alike_exc cP cU _ s h sto0)))
  simp only [wp_seq, w_set, w_setO, w_m2, w_m1, w_var, varQ_d, w_c, w_nil, w_cons, w_cb, w_cbo, w_int, w_intB, w_abs, w_max, w_min, w_lenL, w_lenT, w_B, w_and, w_or, w_not, w_ifs, w_if, w_ret, w_retO, w_next, w_tup, w_lst, w_frz, w_andV, w_notV, stQ_st, w_st1, w_st2, w_st3, w_st4, w_st5, w_cells, w_stS, lawB_law, setQ1, setQ2, setQ3, setQ5, w_for, w_range1, rngQ_int, w_seqI, w_seqL, w_seqT, w_lc, w_call0d, w_call1, w_meth, w_own, w_drop, stepQ_nx, stepQ_bk, stepQ_rt, wp_ok, wp_bad, sq_nx, sq_rt, sq_ro, wp_add, wp_sub, wp_lt, wp_le, wp_gt, wp_ge, wp_mul, wp_mod, wp_fdiv, wp_pow, wp_ix, wp_ixT, wp_toB, wp_noX, wp_eqI, wp_neI, List.set_cons_zero, List.set_cons_succ, List.getElem?_cons_zero, List.getElem?_cons_succ, List.length_map, List.append_nil, List.cons_append, List.nil_append, if_true, decide_eq_true_eq, Bool.false_eq_true, if_false, wipeL, w_mbrk, Bool.not_true, Bool.not_false, decide_true, decide_false, true_and, and_true, Res.toD, w_bad, v_lenO, ixQ_int, v_ixO, v_app, v_ext, v_retV, v_borB, v_gh, borL, List.map_cons, List.map_nil, unS_d, unS_un, unS_st, unS_own, ownQ_own, setIQ_int, v_setI, v_call0O, resO_own, Bool.and_self, Bool.and_true, Bool.true_and, Bool.and_false, Bool.false_and, w_slL, w_slT, slQ_l, slQ_t, w_noP, w_pt, intQ_int, w_catT, w_catL, wp_catL, w_cnt, tupQ_t, w_tru, w_truL, w_pl]
  rfl
theorem refused_ok (cP cU : Addr) (f s : List Nat) (h : s.length ≠ f.length) (S : Sto) : m_law_refused cP cU [ptD cP f, ptD cP s, .int (f.length : Nat), .int (s.length : Nat)] S = .ok (.d (.bl true)) S := by
  have e : b_law_refused cP cU ([.d (ptD cP f), .d (ptD cP s), .d (.int (f.length : Nat)), .d (.int (s.length : Nat)), .un] : List L) S = .ok (.rt (.bl true)) S := by
    unfold b_law_refused mTryS
    have e1 : mDrop (mFrz (mCall0O (m_meeting cP cU) [] (mCons (mVar 0) (mCons (mVar 1) mNil)))) ([.d (ptD cP f), .d (ptD cP s), .d (.int (f.length : Nat)), .d (.int (s.length : Nat)), .un] : List L) S = .exc (ulX cU (f.length : Nat) (s.length : Nat)) [.d (ptD cP f), .d (ptD cP s), .d (.int (f.length : Nat)), .d (.int (s.length : Nat)), .un] S := by
      refine drop_exc ?_
      unfold mFrz
      rw [call0O_exc (ds := [ptD cP f, ptD cP s]) rfl (meeting_exc cP cU f s h sto0)]
      rfl
    rw [e1]
    simp only
    rw [if_pos ⟨trivial, trivial, rfl⟩]
    unfold tryOut
    have e2 : mCons (mTup (mCons (mVar 2) (mCons (mVar 3) mNil))) mNil (([.d (ptD cP f), .d (ptD cP s), .d (.int (f.length : Nat)), .d (.int (s.length : Nat)), .un] : List L).set 4 .un) S = .ok [.tup [.int (f.length : Nat), .int (s.length : Nat)]] S := rfl
    rw [e2]
    obtain ⟨r, S2, e3, rfl⟩ := (sm_pair 4 (f.length : Nat) (s.length : Nat) sto0).get
    simp only [ulX, List.reverse_cons, List.reverse_nil, List.nil_append, List.cons_append]
    rw [e3]
  show runD false 1 (b_law_refused cP cU) _ S = _
  unfold runD
  have hst : startL false 1 [ptD cP f, ptD cP s, .int (f.length : Nat), .int (s.length : Nat)] = ([.d (ptD cP f), .d (ptD cP s), .d (.int (f.length : Nat)), .d (.int (s.length : Nat)), .un] : List L) := rfl
  rw [hst, e]
end K17

set_option Elab.async false
set_option linter.all false
set_option maxRecDepth 100000
set_option maxHeartbeats 4000000
set_option autoImplicit false
namespace K17
open PySem PySem.Spec L2 DL
theorem w_sets2 {i j : Nat} {φ : Ph D} {ρ : List L} {S : Sto} {Q : Ctl → Sto → Prop} (h : wp (φ ρ S) fun d S1 => ∃ x y, d = .tup [x, y] ∧ Q (.nx ((ρ.set i (.d x)).set j (.d y))) S1) : wp (mSets [i, j] φ ρ S) Q := by
  obtain ⟨d, S1, e, x, y, rfl, q⟩ := h.get
  have : mSets [i, j] φ ρ S = .ok (.nx ((ρ.set i (.d x)).set j (.d y))) S1 := by
    unfold mSets
    rw [e]
    rfl
  rw [this, wp_ok]
  exact q
theorem w_make {cP : Addr} {φl : Ph (List D)} {ρ : List L} {S : Sto} {Q : D → Sto → Prop} (h : wp (φl ρ S) fun ds S1 => ∃ (ns : List Nat) (p : Nat), ds = [.lst (ns.map inD)] ∧ Nm ns p ∧ 1 ≤ p ∧ p ≤ 16 ∧ Q (ptD cP ns) S1) : wp (mMake cP (m_Parting_init cP) φl ρ S) Q := by
  obtain ⟨ds, S1, e, ns, p, rfl, hn, h1, hl, q⟩ := h.get
  obtain ⟨S', e', hm⟩ := init_ok cP ns hn.cn (by rw [hn.len]; exact h1) (by rw [hn.len]; exact hl)
  have : mMake cP (m_Parting_init cP) φl ρ S = .ok (ptD cP ns) S1 := by
    unfold mMake
    rw [e]
    simp only [Out.bind, e', hm]
    rfl
  rw [this, wp_ok]
  exact q
theorem same_ok {d : D} (h : Sm 6 d) (S : Sto) {Q : Res → Sto → Prop} (q : ∀ S', Q (.d (.bl true)) S') : wp (m_law_same 6 [d, d] S) Q := by
  refine wp.mono (h S) ?_
  rintro _ S' rfl
  exact q S'
theorem meet_ok {cP cU : Addr} {f s : List Nat} (cf : Cn f) (cs : Cn s) (he : s.length = f.length) (h1 : 1 ≤ f.length) (h16 : f.length ≤ 16) (S : Sto) {Q : Res → Sto → Prop} (q : ∀ S', Q (.own ((rowsR f s).map nmD)) S') : wp (m_meeting cP cU [ptD cP f, ptD cP s] S) Q := by
  refine wp.mono (meeting_ok cP cU f s cf cs he h1 h16 S) ?_
  rintro _ S' rfl
  exact q S'
theorem due_ok {f s : List Nat} (cf : Cn f) (cs : Cn s) (he : s.length = f.length) (h16 : f.length ≤ 16) (S : Sto) {Q : Res → Sto → Prop} (q : ∀ S', Q (.own ((rowsR f s).map nmD)) S') : wp (m_law_rowsdue [nmD f, nmD s] S) Q := by
  refine wp.mono (rowsdue_ok f s cf cs he h16 S) ?_
  rintro _ S' rfl
  exact q S'
theorem ixN_0 {n : Nat} (h : 0 < n) : ixN n 0 = some 0 := by
  unfold ixN
  rw [if_pos (by omega), if_pos (by omega)]
  rfl
theorem rows_pos {f s : List Nat} (cf : Cn f) (cs : Cn s) (he : s.length = f.length) (h1 : 1 ≤ f.length) : 1 ≤ (rowsR f s).length := by
  have g0 : g f 0 = 0 := by have := cf.le (k := 0) (by omega); omega
  have s0 : g s 0 = 0 := by have := cs.le (k := 0) (by omega); omega
  have m0 : 0 ∈ reps f := mem_reps.mpr ⟨by omega, g0⟩
  have m1 : rowL f s 0 0 ∈ rowsA f s 0 := List.mem_map.mpr ⟨0, List.mem_filter.mpr ⟨(whole_mem cf cs he).mpr ⟨by omega, rfl⟩, by simp [s0]⟩, rfl⟩
  exact List.length_pos_of_mem (List.mem_flatMap.mpr ⟨0, m0, m1⟩)
theorem law_math (cP cU : Addr) (cells : List Int) (seed : Int) (hl : cells.length ≤ 63) (hs : seed.natAbs < 2 ^ 70) : ∃ S', b_law cP cU (L.un :: L.st :: List.replicate 8 L.un) ⟨cells, 0, 0, 0, seed, 0, .law⟩ = .ok (.rt (.bl true)) S' := by
  have i0 : Inv ⟨cells, 0, 0, 0, seed, 0, .law⟩ 0 := ⟨rfl, by simp, by simp, hs, by simp, by simp, fun h => absurd h (by simp)⟩
  have main : wp (b_law cP cU ([.un, .st, .un, .un, .un, .un, .un, .un, .un, .un] : List L) ⟨cells, 0, 0, 0, seed, 0, .law⟩) fun c _ => c = .rt (.bl true) := by
    unfold b_law
    rw [wp_seq]
    refine w_sets2 ?_
    simp only [wp_seq, w_set, w_setO, w_m2, w_m1, w_var, varQ_d, w_c, w_nil, w_cons, w_cb, w_cbo, w_int, w_intB, w_abs, w_max, w_min, w_lenL, w_lenT, w_B, w_and, w_or, w_not, w_ifs, w_if, w_ret, w_retO, w_next, w_tup, w_lst, w_frz, w_andV, w_notV, stQ_st, w_st1, w_st2, w_st3, w_st4, w_st5, w_cells, w_stS, lawB_law, setQ1, setQ2, setQ3, setQ5, w_for, w_range1, rngQ_int, w_seqI, w_seqL, w_seqT, w_lc, w_call0d, w_call1, w_meth, w_own, w_drop, stepQ_nx, stepQ_bk, stepQ_rt, wp_ok, wp_bad, sq_nx, sq_rt, sq_ro, wp_add, wp_sub, wp_lt, wp_le, wp_gt, wp_ge, wp_mul, wp_mod, wp_fdiv, wp_pow, wp_ix, wp_ixT, wp_toB, wp_noX, wp_eqI, wp_neI, List.set_cons_zero, List.set_cons_succ, List.getElem?_cons_zero, List.getElem?_cons_succ, List.length_map, List.append_nil, List.cons_append, List.nil_append, if_true, decide_eq_true_eq, Bool.false_eq_true, if_false, wipeL, w_mbrk, Bool.not_true, Bool.not_false, decide_true, decide_false, true_and, and_true, Res.toD, w_bad, v_lenO, ixQ_int, v_ixO, v_app, v_ext, v_retV, v_borB, v_gh, borL, List.map_cons, List.map_nil, unS_d, unS_un, unS_st, unS_own, ownQ_own, setIQ_int, v_setI, v_call0O, resO_own, Bool.and_self, Bool.and_true, Bool.true_and, Bool.and_false, Bool.false_and, w_slL, w_slT, slQ_l, slQ_t, w_noP, w_pt, intQ_int, w_catT, w_catL, wp_catL, w_cnt, tupQ_t, w_tru, w_truL]
    refine wp.mono (pair_ok 16 (by decide) (by decide) _ 0 (by decide) i0) ?_
    rintro _ S2 ⟨i2, f, s, p, rfl, nf, nS, p1, p16⟩
    have cf := nf.cn
    have cs := nS.cn
    have lf := nf.len
    have ls := nS.len
    have he : s.length = f.length := by omega
    have hR1 := rows_len cf cs he (by omega)
    have hR2 := rows_len cs cf he.symm (by omega)
    have hR3 := rows_len cf cf rfl (by omega)
    have hR4 := rows_len cs cs rfl (by omega)
    have sm1 := sm_rows 3 f s (by omega)
    have sm2 := sm_rows 3 s f (by omega)
    have sm3 := sm_rows 3 f f (by omega)
    have sm4 := sm_rows 3 s s (by omega)
    refine ⟨nmD f, nmD s, rfl, ?_⟩
    try simp only [wp_seq, w_set, w_setO, w_m2, w_m1, w_var, varQ_d, w_c, w_nil, w_cons, w_cb, w_cbo, w_int, w_intB, w_abs, w_max, w_min, w_lenL, w_lenT, w_B, w_and, w_or, w_not, w_ifs, w_if, w_ret, w_retO, w_next, w_tup, w_lst, w_frz, w_andV, w_notV, stQ_st, w_st1, w_st2, w_st3, w_st4, w_st5, w_cells, w_stS, lawB_law, setQ1, setQ2, setQ3, setQ5, w_for, w_range1, rngQ_int, w_seqI, w_seqL, w_seqT, w_lc, w_call0d, w_call1, w_meth, w_own, w_drop, stepQ_nx, stepQ_bk, stepQ_rt, wp_ok, wp_bad, sq_nx, sq_rt, sq_ro, wp_add, wp_sub, wp_lt, wp_le, wp_gt, wp_ge, wp_mul, wp_mod, wp_fdiv, wp_pow, wp_ix, wp_ixT, wp_toB, wp_noX, wp_eqI, wp_neI, List.set_cons_zero, List.set_cons_succ, List.getElem?_cons_zero, List.getElem?_cons_succ, List.length_map, List.append_nil, List.cons_append, List.nil_append, if_true, decide_eq_true_eq, Bool.false_eq_true, if_false, wipeL, w_mbrk, Bool.not_true, Bool.not_false, decide_true, decide_false, true_and, and_true, Res.toD, w_bad, v_lenO, ixQ_int, v_ixO, v_app, v_ext, v_retV, v_borB, v_gh, borL, List.map_cons, List.map_nil, unS_d, unS_un, unS_st, unS_own, ownQ_own, setIQ_int, v_setI, v_call0O, resO_own, Bool.and_self, Bool.and_true, Bool.true_and, Bool.and_false, Bool.false_and, w_slL, w_slT, slQ_l, slQ_t, w_noP, w_pt, intQ_int, w_catT, w_catL, wp_catL, w_cnt, tupQ_t, w_tru, w_truL]
    refine w_make ?_
    try simp only [wp_seq, w_set, w_setO, w_m2, w_m1, w_var, varQ_d, w_c, w_nil, w_cons, w_cb, w_cbo, w_int, w_intB, w_abs, w_max, w_min, w_lenL, w_lenT, w_B, w_and, w_or, w_not, w_ifs, w_if, w_ret, w_retO, w_next, w_tup, w_lst, w_frz, w_andV, w_notV, stQ_st, w_st1, w_st2, w_st3, w_st4, w_st5, w_cells, w_stS, lawB_law, setQ1, setQ2, setQ3, setQ5, w_for, w_range1, rngQ_int, w_seqI, w_seqL, w_seqT, w_lc, w_call0d, w_call1, w_meth, w_own, w_drop, stepQ_nx, stepQ_bk, stepQ_rt, wp_ok, wp_bad, sq_nx, sq_rt, sq_ro, wp_add, wp_sub, wp_lt, wp_le, wp_gt, wp_ge, wp_mul, wp_mod, wp_fdiv, wp_pow, wp_ix, wp_ixT, wp_toB, wp_noX, wp_eqI, wp_neI, List.set_cons_zero, List.set_cons_succ, List.getElem?_cons_zero, List.getElem?_cons_succ, List.length_map, List.append_nil, List.cons_append, List.nil_append, if_true, decide_eq_true_eq, Bool.false_eq_true, if_false, wipeL, w_mbrk, Bool.not_true, Bool.not_false, decide_true, decide_false, true_and, and_true, Res.toD, w_bad, v_lenO, ixQ_int, v_ixO, v_app, v_ext, v_retV, v_borB, v_gh, borL, List.map_cons, List.map_nil, unS_d, unS_un, unS_st, unS_own, ownQ_own, setIQ_int, v_setI, v_call0O, resO_own, Bool.and_self, Bool.and_true, Bool.true_and, Bool.and_false, Bool.false_and, w_slL, w_slT, slQ_l, slQ_t, w_noP, w_pt, intQ_int, w_catT, w_catL, wp_catL, w_cnt, tupQ_t, w_tru, w_truL, w_nmG]
    refine ⟨f, p, rfl, nf, p1, p16, ?_⟩
    try simp only [wp_seq, w_set, w_setO, w_m2, w_m1, w_var, varQ_d, w_c, w_nil, w_cons, w_cb, w_cbo, w_int, w_intB, w_abs, w_max, w_min, w_lenL, w_lenT, w_B, w_and, w_or, w_not, w_ifs, w_if, w_ret, w_retO, w_next, w_tup, w_lst, w_frz, w_andV, w_notV, stQ_st, w_st1, w_st2, w_st3, w_st4, w_st5, w_cells, w_stS, lawB_law, setQ1, setQ2, setQ3, setQ5, w_for, w_range1, rngQ_int, w_seqI, w_seqL, w_seqT, w_lc, w_call0d, w_call1, w_meth, w_own, w_drop, stepQ_nx, stepQ_bk, stepQ_rt, wp_ok, wp_bad, sq_nx, sq_rt, sq_ro, wp_add, wp_sub, wp_lt, wp_le, wp_gt, wp_ge, wp_mul, wp_mod, wp_fdiv, wp_pow, wp_ix, wp_ixT, wp_toB, wp_noX, wp_eqI, wp_neI, List.set_cons_zero, List.set_cons_succ, List.getElem?_cons_zero, List.getElem?_cons_succ, List.length_map, List.append_nil, List.cons_append, List.nil_append, if_true, decide_eq_true_eq, Bool.false_eq_true, if_false, wipeL, w_mbrk, Bool.not_true, Bool.not_false, decide_true, decide_false, true_and, and_true, Res.toD, w_bad, v_lenO, ixQ_int, v_ixO, v_app, v_ext, v_retV, v_borB, v_gh, borL, List.map_cons, List.map_nil, unS_d, unS_un, unS_st, unS_own, ownQ_own, setIQ_int, v_setI, v_call0O, resO_own, Bool.and_self, Bool.and_true, Bool.true_and, Bool.and_false, Bool.false_and, w_slL, w_slT, slQ_l, slQ_t, w_noP, w_pt, intQ_int, w_catT, w_catL, wp_catL, w_cnt, tupQ_t, w_tru, w_truL]
    refine w_make ?_
    try simp only [wp_seq, w_set, w_setO, w_m2, w_m1, w_var, varQ_d, w_c, w_nil, w_cons, w_cb, w_cbo, w_int, w_intB, w_abs, w_max, w_min, w_lenL, w_lenT, w_B, w_and, w_or, w_not, w_ifs, w_if, w_ret, w_retO, w_next, w_tup, w_lst, w_frz, w_andV, w_notV, stQ_st, w_st1, w_st2, w_st3, w_st4, w_st5, w_cells, w_stS, lawB_law, setQ1, setQ2, setQ3, setQ5, w_for, w_range1, rngQ_int, w_seqI, w_seqL, w_seqT, w_lc, w_call0d, w_call1, w_meth, w_own, w_drop, stepQ_nx, stepQ_bk, stepQ_rt, wp_ok, wp_bad, sq_nx, sq_rt, sq_ro, wp_add, wp_sub, wp_lt, wp_le, wp_gt, wp_ge, wp_mul, wp_mod, wp_fdiv, wp_pow, wp_ix, wp_ixT, wp_toB, wp_noX, wp_eqI, wp_neI, List.set_cons_zero, List.set_cons_succ, List.getElem?_cons_zero, List.getElem?_cons_succ, List.length_map, List.append_nil, List.cons_append, List.nil_append, if_true, decide_eq_true_eq, Bool.false_eq_true, if_false, wipeL, w_mbrk, Bool.not_true, Bool.not_false, decide_true, decide_false, true_and, and_true, Res.toD, w_bad, v_lenO, ixQ_int, v_ixO, v_app, v_ext, v_retV, v_borB, v_gh, borL, List.map_cons, List.map_nil, unS_d, unS_un, unS_st, unS_own, ownQ_own, setIQ_int, v_setI, v_call0O, resO_own, Bool.and_self, Bool.and_true, Bool.true_and, Bool.and_false, Bool.false_and, w_slL, w_slT, slQ_l, slQ_t, w_noP, w_pt, intQ_int, w_catT, w_catL, wp_catL, w_cnt, tupQ_t, w_tru, w_truL, w_nmG]
    refine ⟨s, p, rfl, nS, p1, p16, ?_⟩
    try simp only [wp_seq, w_set, w_setO, w_m2, w_m1, w_var, varQ_d, w_c, w_nil, w_cons, w_cb, w_cbo, w_int, w_intB, w_abs, w_max, w_min, w_lenL, w_lenT, w_B, w_and, w_or, w_not, w_ifs, w_if, w_ret, w_retO, w_next, w_tup, w_lst, w_frz, w_andV, w_notV, stQ_st, w_st1, w_st2, w_st3, w_st4, w_st5, w_cells, w_stS, lawB_law, setQ1, setQ2, setQ3, setQ5, w_for, w_range1, rngQ_int, w_seqI, w_seqL, w_seqT, w_lc, w_call0d, w_call1, w_meth, w_own, w_drop, stepQ_nx, stepQ_bk, stepQ_rt, wp_ok, wp_bad, sq_nx, sq_rt, sq_ro, wp_add, wp_sub, wp_lt, wp_le, wp_gt, wp_ge, wp_mul, wp_mod, wp_fdiv, wp_pow, wp_ix, wp_ixT, wp_toB, wp_noX, wp_eqI, wp_neI, List.set_cons_zero, List.set_cons_succ, List.getElem?_cons_zero, List.getElem?_cons_succ, List.length_map, List.append_nil, List.cons_append, List.nil_append, if_true, decide_eq_true_eq, Bool.false_eq_true, if_false, wipeL, w_mbrk, Bool.not_true, Bool.not_false, decide_true, decide_false, true_and, and_true, Res.toD, w_bad, v_lenO, ixQ_int, v_ixO, v_app, v_ext, v_retV, v_borB, v_gh, borL, List.map_cons, List.map_nil, unS_d, unS_un, unS_st, unS_own, ownQ_own, setIQ_int, v_setI, v_call0O, resO_own, Bool.and_self, Bool.and_true, Bool.true_and, Bool.and_false, Bool.false_and, w_slL, w_slT, slQ_l, slQ_t, w_noP, w_pt, intQ_int, w_catT, w_catL, wp_catL, w_cnt, tupQ_t, w_tru, w_truL]
    refine due_ok cf cs he (by omega) _ fun _ => ?_
    try simp only [wp_seq, w_set, w_setO, w_m2, w_m1, w_var, varQ_d, w_c, w_nil, w_cons, w_cb, w_cbo, w_int, w_intB, w_abs, w_max, w_min, w_lenL, w_lenT, w_B, w_and, w_or, w_not, w_ifs, w_if, w_ret, w_retO, w_next, w_tup, w_lst, w_frz, w_andV, w_notV, stQ_st, w_st1, w_st2, w_st3, w_st4, w_st5, w_cells, w_stS, lawB_law, setQ1, setQ2, setQ3, setQ5, w_for, w_range1, rngQ_int, w_seqI, w_seqL, w_seqT, w_lc, w_call0d, w_call1, w_meth, w_own, w_drop, stepQ_nx, stepQ_bk, stepQ_rt, wp_ok, wp_bad, sq_nx, sq_rt, sq_ro, wp_add, wp_sub, wp_lt, wp_le, wp_gt, wp_ge, wp_mul, wp_mod, wp_fdiv, wp_pow, wp_ix, wp_ixT, wp_toB, wp_noX, wp_eqI, wp_neI, List.set_cons_zero, List.set_cons_succ, List.getElem?_cons_zero, List.getElem?_cons_succ, List.length_map, List.append_nil, List.cons_append, List.nil_append, if_true, decide_eq_true_eq, Bool.false_eq_true, if_false, wipeL, w_mbrk, Bool.not_true, Bool.not_false, decide_true, decide_false, true_and, and_true, Res.toD, w_bad, v_lenO, ixQ_int, v_ixO, v_app, v_ext, v_retV, v_borB, v_gh, borL, List.map_cons, List.map_nil, unS_d, unS_un, unS_st, unS_own, ownQ_own, setIQ_int, v_setI, v_call0O, resO_own, Bool.and_self, Bool.and_true, Bool.true_and, Bool.and_false, Bool.false_and, w_slL, w_slT, slQ_l, slQ_t, w_noP, w_pt, intQ_int, w_catT, w_catL, wp_catL, w_cnt, tupQ_t, w_tru, w_truL]
    refine meet_ok cf cs he (by omega) (by omega) _ fun _ => ?_
    try simp only [wp_seq, w_set, w_setO, w_m2, w_m1, w_var, varQ_d, w_c, w_nil, w_cons, w_cb, w_cbo, w_int, w_intB, w_abs, w_max, w_min, w_lenL, w_lenT, w_B, w_and, w_or, w_not, w_ifs, w_if, w_ret, w_retO, w_next, w_tup, w_lst, w_frz, w_andV, w_notV, stQ_st, w_st1, w_st2, w_st3, w_st4, w_st5, w_cells, w_stS, lawB_law, setQ1, setQ2, setQ3, setQ5, w_for, w_range1, rngQ_int, w_seqI, w_seqL, w_seqT, w_lc, w_call0d, w_call1, w_meth, w_own, w_drop, stepQ_nx, stepQ_bk, stepQ_rt, wp_ok, wp_bad, sq_nx, sq_rt, sq_ro, wp_add, wp_sub, wp_lt, wp_le, wp_gt, wp_ge, wp_mul, wp_mod, wp_fdiv, wp_pow, wp_ix, wp_ixT, wp_toB, wp_noX, wp_eqI, wp_neI, List.set_cons_zero, List.set_cons_succ, List.getElem?_cons_zero, List.getElem?_cons_succ, List.length_map, List.append_nil, List.cons_append, List.nil_append, if_true, decide_eq_true_eq, Bool.false_eq_true, if_false, wipeL, w_mbrk, Bool.not_true, Bool.not_false, decide_true, decide_false, true_and, and_true, Res.toD, w_bad, v_lenO, ixQ_int, v_ixO, v_app, v_ext, v_retV, v_borB, v_gh, borL, List.map_cons, List.map_nil, unS_d, unS_un, unS_st, unS_own, ownQ_own, setIQ_int, v_setI, v_call0O, resO_own, Bool.and_self, Bool.and_true, Bool.true_and, Bool.and_false, Bool.false_and, w_slL, w_slT, slQ_l, slQ_t, w_noP, w_pt, intQ_int, w_catT, w_catL, wp_catL, w_cnt, tupQ_t, w_tru, w_truL]
    refine same_ok sm1 _ fun _ => ?_
    try simp only [wp_seq, w_set, w_setO, w_m2, w_m1, w_var, varQ_d, w_c, w_nil, w_cons, w_cb, w_cbo, w_int, w_intB, w_abs, w_max, w_min, w_lenL, w_lenT, w_B, w_and, w_or, w_not, w_ifs, w_if, w_ret, w_retO, w_next, w_tup, w_lst, w_frz, w_andV, w_notV, stQ_st, w_st1, w_st2, w_st3, w_st4, w_st5, w_cells, w_stS, lawB_law, setQ1, setQ2, setQ3, setQ5, w_for, w_range1, rngQ_int, w_seqI, w_seqL, w_seqT, w_lc, w_call0d, w_call1, w_meth, w_own, w_drop, stepQ_nx, stepQ_bk, stepQ_rt, wp_ok, wp_bad, sq_nx, sq_rt, sq_ro, wp_add, wp_sub, wp_lt, wp_le, wp_gt, wp_ge, wp_mul, wp_mod, wp_fdiv, wp_pow, wp_ix, wp_ixT, wp_toB, wp_noX, wp_eqI, wp_neI, List.set_cons_zero, List.set_cons_succ, List.getElem?_cons_zero, List.getElem?_cons_succ, List.length_map, List.append_nil, List.cons_append, List.nil_append, if_true, decide_eq_true_eq, Bool.false_eq_true, if_false, wipeL, w_mbrk, Bool.not_true, Bool.not_false, decide_true, decide_false, true_and, and_true, Res.toD, w_bad, v_lenO, ixQ_int, v_ixO, v_app, v_ext, v_retV, v_borB, v_gh, borL, List.map_cons, List.map_nil, unS_d, unS_un, unS_st, unS_own, ownQ_own, setIQ_int, v_setI, v_call0O, resO_own, Bool.and_self, Bool.and_true, Bool.true_and, Bool.and_false, Bool.false_and, w_slL, w_slT, slQ_l, slQ_t, w_noP, w_pt, intQ_int, w_catT, w_catL, wp_catL, w_cnt, tupQ_t, w_tru, w_truL]
    refine meet_ok cs cf he.symm (by omega) (by omega) _ fun _ => ?_
    try simp only [wp_seq, w_set, w_setO, w_m2, w_m1, w_var, varQ_d, w_c, w_nil, w_cons, w_cb, w_cbo, w_int, w_intB, w_abs, w_max, w_min, w_lenL, w_lenT, w_B, w_and, w_or, w_not, w_ifs, w_if, w_ret, w_retO, w_next, w_tup, w_lst, w_frz, w_andV, w_notV, stQ_st, w_st1, w_st2, w_st3, w_st4, w_st5, w_cells, w_stS, lawB_law, setQ1, setQ2, setQ3, setQ5, w_for, w_range1, rngQ_int, w_seqI, w_seqL, w_seqT, w_lc, w_call0d, w_call1, w_meth, w_own, w_drop, stepQ_nx, stepQ_bk, stepQ_rt, wp_ok, wp_bad, sq_nx, sq_rt, sq_ro, wp_add, wp_sub, wp_lt, wp_le, wp_gt, wp_ge, wp_mul, wp_mod, wp_fdiv, wp_pow, wp_ix, wp_ixT, wp_toB, wp_noX, wp_eqI, wp_neI, List.set_cons_zero, List.set_cons_succ, List.getElem?_cons_zero, List.getElem?_cons_succ, List.length_map, List.append_nil, List.cons_append, List.nil_append, if_true, decide_eq_true_eq, Bool.false_eq_true, if_false, wipeL, w_mbrk, Bool.not_true, Bool.not_false, decide_true, decide_false, true_and, and_true, Res.toD, w_bad, v_lenO, ixQ_int, v_ixO, v_app, v_ext, v_retV, v_borB, v_gh, borL, List.map_cons, List.map_nil, unS_d, unS_un, unS_st, unS_own, ownQ_own, setIQ_int, v_setI, v_call0O, resO_own, Bool.and_self, Bool.and_true, Bool.true_and, Bool.and_false, Bool.false_and, w_slL, w_slT, slQ_l, slQ_t, w_noP, w_pt, intQ_int, w_catT, w_catL, wp_catL, w_cnt, tupQ_t, w_tru, w_truL]
    refine due_ok cs cf he.symm (by omega) _ fun _ => ?_
    try simp only [wp_seq, w_set, w_setO, w_m2, w_m1, w_var, varQ_d, w_c, w_nil, w_cons, w_cb, w_cbo, w_int, w_intB, w_abs, w_max, w_min, w_lenL, w_lenT, w_B, w_and, w_or, w_not, w_ifs, w_if, w_ret, w_retO, w_next, w_tup, w_lst, w_frz, w_andV, w_notV, stQ_st, w_st1, w_st2, w_st3, w_st4, w_st5, w_cells, w_stS, lawB_law, setQ1, setQ2, setQ3, setQ5, w_for, w_range1, rngQ_int, w_seqI, w_seqL, w_seqT, w_lc, w_call0d, w_call1, w_meth, w_own, w_drop, stepQ_nx, stepQ_bk, stepQ_rt, wp_ok, wp_bad, sq_nx, sq_rt, sq_ro, wp_add, wp_sub, wp_lt, wp_le, wp_gt, wp_ge, wp_mul, wp_mod, wp_fdiv, wp_pow, wp_ix, wp_ixT, wp_toB, wp_noX, wp_eqI, wp_neI, List.set_cons_zero, List.set_cons_succ, List.getElem?_cons_zero, List.getElem?_cons_succ, List.length_map, List.append_nil, List.cons_append, List.nil_append, if_true, decide_eq_true_eq, Bool.false_eq_true, if_false, wipeL, w_mbrk, Bool.not_true, Bool.not_false, decide_true, decide_false, true_and, and_true, Res.toD, w_bad, v_lenO, ixQ_int, v_ixO, v_app, v_ext, v_retV, v_borB, v_gh, borL, List.map_cons, List.map_nil, unS_d, unS_un, unS_st, unS_own, ownQ_own, setIQ_int, v_setI, v_call0O, resO_own, Bool.and_self, Bool.and_true, Bool.true_and, Bool.and_false, Bool.false_and, w_slL, w_slT, slQ_l, slQ_t, w_noP, w_pt, intQ_int, w_catT, w_catL, wp_catL, w_cnt, tupQ_t, w_tru, w_truL]
    refine same_ok sm2 _ fun _ => ?_
    try simp only [wp_seq, w_set, w_setO, w_m2, w_m1, w_var, varQ_d, w_c, w_nil, w_cons, w_cb, w_cbo, w_int, w_intB, w_abs, w_max, w_min, w_lenL, w_lenT, w_B, w_and, w_or, w_not, w_ifs, w_if, w_ret, w_retO, w_next, w_tup, w_lst, w_frz, w_andV, w_notV, stQ_st, w_st1, w_st2, w_st3, w_st4, w_st5, w_cells, w_stS, lawB_law, setQ1, setQ2, setQ3, setQ5, w_for, w_range1, rngQ_int, w_seqI, w_seqL, w_seqT, w_lc, w_call0d, w_call1, w_meth, w_own, w_drop, stepQ_nx, stepQ_bk, stepQ_rt, wp_ok, wp_bad, sq_nx, sq_rt, sq_ro, wp_add, wp_sub, wp_lt, wp_le, wp_gt, wp_ge, wp_mul, wp_mod, wp_fdiv, wp_pow, wp_ix, wp_ixT, wp_toB, wp_noX, wp_eqI, wp_neI, List.set_cons_zero, List.set_cons_succ, List.getElem?_cons_zero, List.getElem?_cons_succ, List.length_map, List.append_nil, List.cons_append, List.nil_append, if_true, decide_eq_true_eq, Bool.false_eq_true, if_false, wipeL, w_mbrk, Bool.not_true, Bool.not_false, decide_true, decide_false, true_and, and_true, Res.toD, w_bad, v_lenO, ixQ_int, v_ixO, v_app, v_ext, v_retV, v_borB, v_gh, borL, List.map_cons, List.map_nil, unS_d, unS_un, unS_st, unS_own, ownQ_own, setIQ_int, v_setI, v_call0O, resO_own, Bool.and_self, Bool.and_true, Bool.true_and, Bool.and_false, Bool.false_and, w_slL, w_slT, slQ_l, slQ_t, w_noP, w_pt, intQ_int, w_catT, w_catL, wp_catL, w_cnt, tupQ_t, w_tru, w_truL]
    refine meet_ok cf cf rfl (by omega) (by omega) _ fun _ => ?_
    try simp only [wp_seq, w_set, w_setO, w_m2, w_m1, w_var, varQ_d, w_c, w_nil, w_cons, w_cb, w_cbo, w_int, w_intB, w_abs, w_max, w_min, w_lenL, w_lenT, w_B, w_and, w_or, w_not, w_ifs, w_if, w_ret, w_retO, w_next, w_tup, w_lst, w_frz, w_andV, w_notV, stQ_st, w_st1, w_st2, w_st3, w_st4, w_st5, w_cells, w_stS, lawB_law, setQ1, setQ2, setQ3, setQ5, w_for, w_range1, rngQ_int, w_seqI, w_seqL, w_seqT, w_lc, w_call0d, w_call1, w_meth, w_own, w_drop, stepQ_nx, stepQ_bk, stepQ_rt, wp_ok, wp_bad, sq_nx, sq_rt, sq_ro, wp_add, wp_sub, wp_lt, wp_le, wp_gt, wp_ge, wp_mul, wp_mod, wp_fdiv, wp_pow, wp_ix, wp_ixT, wp_toB, wp_noX, wp_eqI, wp_neI, List.set_cons_zero, List.set_cons_succ, List.getElem?_cons_zero, List.getElem?_cons_succ, List.length_map, List.append_nil, List.cons_append, List.nil_append, if_true, decide_eq_true_eq, Bool.false_eq_true, if_false, wipeL, w_mbrk, Bool.not_true, Bool.not_false, decide_true, decide_false, true_and, and_true, Res.toD, w_bad, v_lenO, ixQ_int, v_ixO, v_app, v_ext, v_retV, v_borB, v_gh, borL, List.map_cons, List.map_nil, unS_d, unS_un, unS_st, unS_own, ownQ_own, setIQ_int, v_setI, v_call0O, resO_own, Bool.and_self, Bool.and_true, Bool.true_and, Bool.and_false, Bool.false_and, w_slL, w_slT, slQ_l, slQ_t, w_noP, w_pt, intQ_int, w_catT, w_catL, wp_catL, w_cnt, tupQ_t, w_tru, w_truL]
    refine due_ok cf cf rfl (by omega) _ fun _ => ?_
    try simp only [wp_seq, w_set, w_setO, w_m2, w_m1, w_var, varQ_d, w_c, w_nil, w_cons, w_cb, w_cbo, w_int, w_intB, w_abs, w_max, w_min, w_lenL, w_lenT, w_B, w_and, w_or, w_not, w_ifs, w_if, w_ret, w_retO, w_next, w_tup, w_lst, w_frz, w_andV, w_notV, stQ_st, w_st1, w_st2, w_st3, w_st4, w_st5, w_cells, w_stS, lawB_law, setQ1, setQ2, setQ3, setQ5, w_for, w_range1, rngQ_int, w_seqI, w_seqL, w_seqT, w_lc, w_call0d, w_call1, w_meth, w_own, w_drop, stepQ_nx, stepQ_bk, stepQ_rt, wp_ok, wp_bad, sq_nx, sq_rt, sq_ro, wp_add, wp_sub, wp_lt, wp_le, wp_gt, wp_ge, wp_mul, wp_mod, wp_fdiv, wp_pow, wp_ix, wp_ixT, wp_toB, wp_noX, wp_eqI, wp_neI, List.set_cons_zero, List.set_cons_succ, List.getElem?_cons_zero, List.getElem?_cons_succ, List.length_map, List.append_nil, List.cons_append, List.nil_append, if_true, decide_eq_true_eq, Bool.false_eq_true, if_false, wipeL, w_mbrk, Bool.not_true, Bool.not_false, decide_true, decide_false, true_and, and_true, Res.toD, w_bad, v_lenO, ixQ_int, v_ixO, v_app, v_ext, v_retV, v_borB, v_gh, borL, List.map_cons, List.map_nil, unS_d, unS_un, unS_st, unS_own, ownQ_own, setIQ_int, v_setI, v_call0O, resO_own, Bool.and_self, Bool.and_true, Bool.true_and, Bool.and_false, Bool.false_and, w_slL, w_slT, slQ_l, slQ_t, w_noP, w_pt, intQ_int, w_catT, w_catL, wp_catL, w_cnt, tupQ_t, w_tru, w_truL]
    refine same_ok sm3 _ fun _ => ?_
    try simp only [wp_seq, w_set, w_setO, w_m2, w_m1, w_var, varQ_d, w_c, w_nil, w_cons, w_cb, w_cbo, w_int, w_intB, w_abs, w_max, w_min, w_lenL, w_lenT, w_B, w_and, w_or, w_not, w_ifs, w_if, w_ret, w_retO, w_next, w_tup, w_lst, w_frz, w_andV, w_notV, stQ_st, w_st1, w_st2, w_st3, w_st4, w_st5, w_cells, w_stS, lawB_law, setQ1, setQ2, setQ3, setQ5, w_for, w_range1, rngQ_int, w_seqI, w_seqL, w_seqT, w_lc, w_call0d, w_call1, w_meth, w_own, w_drop, stepQ_nx, stepQ_bk, stepQ_rt, wp_ok, wp_bad, sq_nx, sq_rt, sq_ro, wp_add, wp_sub, wp_lt, wp_le, wp_gt, wp_ge, wp_mul, wp_mod, wp_fdiv, wp_pow, wp_ix, wp_ixT, wp_toB, wp_noX, wp_eqI, wp_neI, List.set_cons_zero, List.set_cons_succ, List.getElem?_cons_zero, List.getElem?_cons_succ, List.length_map, List.append_nil, List.cons_append, List.nil_append, if_true, decide_eq_true_eq, Bool.false_eq_true, if_false, wipeL, w_mbrk, Bool.not_true, Bool.not_false, decide_true, decide_false, true_and, and_true, Res.toD, w_bad, v_lenO, ixQ_int, v_ixO, v_app, v_ext, v_retV, v_borB, v_gh, borL, List.map_cons, List.map_nil, unS_d, unS_un, unS_st, unS_own, ownQ_own, setIQ_int, v_setI, v_call0O, resO_own, Bool.and_self, Bool.and_true, Bool.true_and, Bool.and_false, Bool.false_and, w_slL, w_slT, slQ_l, slQ_t, w_noP, w_pt, intQ_int, w_catT, w_catL, wp_catL, w_cnt, tupQ_t, w_tru, w_truL]
    refine w_make ?_
    simp only [wp_seq, w_set, w_setO, w_m2, w_m1, w_var, varQ_d, w_c, w_nil, w_cons, w_cb, w_cbo, w_int, w_intB, w_abs, w_max, w_min, w_lenL, w_lenT, w_B, w_and, w_or, w_not, w_ifs, w_if, w_ret, w_retO, w_next, w_tup, w_lst, w_frz, w_andV, w_notV, stQ_st, w_st1, w_st2, w_st3, w_st4, w_st5, w_cells, w_stS, lawB_law, setQ1, setQ2, setQ3, setQ5, w_for, w_range1, rngQ_int, w_seqI, w_seqL, w_seqT, w_lc, w_call0d, w_call1, w_meth, w_own, w_drop, stepQ_nx, stepQ_bk, stepQ_rt, wp_ok, wp_bad, sq_nx, sq_rt, sq_ro, wp_add, wp_sub, wp_lt, wp_le, wp_gt, wp_ge, wp_mul, wp_mod, wp_fdiv, wp_pow, wp_ix, wp_ixT, wp_toB, wp_noX, wp_eqI, wp_neI, List.set_cons_zero, List.set_cons_succ, List.getElem?_cons_zero, List.getElem?_cons_succ, List.length_map, List.append_nil, List.cons_append, List.nil_append, if_true, decide_eq_true_eq, Bool.false_eq_true, if_false, wipeL, w_mbrk, Bool.not_true, Bool.not_false, decide_true, decide_false, true_and, and_true, Res.toD, w_bad, v_lenO, ixQ_int, v_ixO, v_app, v_ext, v_retV, v_borB, v_gh, borL, List.map_cons, List.map_nil, unS_d, unS_un, unS_st, unS_own, ownQ_own, setIQ_int, v_setI, v_call0O, resO_own, Bool.and_self, Bool.and_true, Bool.true_and, Bool.and_false, Bool.false_and, w_slL, w_slT, slQ_l, slQ_t, w_noP, w_pt, intQ_int, w_catT, w_catL, wp_catL, w_cnt, tupQ_t, w_tru, w_truL, w_nmG]
    refine ⟨s, p, rfl, nS, p1, p16, ?_⟩
    refine meet_ok cs cs rfl (by omega) (by omega) _ fun _ => ?_
    try simp only [wp_seq, w_set, w_setO, w_m2, w_m1, w_var, varQ_d, w_c, w_nil, w_cons, w_cb, w_cbo, w_int, w_intB, w_abs, w_max, w_min, w_lenL, w_lenT, w_B, w_and, w_or, w_not, w_ifs, w_if, w_ret, w_retO, w_next, w_tup, w_lst, w_frz, w_andV, w_notV, stQ_st, w_st1, w_st2, w_st3, w_st4, w_st5, w_cells, w_stS, lawB_law, setQ1, setQ2, setQ3, setQ5, w_for, w_range1, rngQ_int, w_seqI, w_seqL, w_seqT, w_lc, w_call0d, w_call1, w_meth, w_own, w_drop, stepQ_nx, stepQ_bk, stepQ_rt, wp_ok, wp_bad, sq_nx, sq_rt, sq_ro, wp_add, wp_sub, wp_lt, wp_le, wp_gt, wp_ge, wp_mul, wp_mod, wp_fdiv, wp_pow, wp_ix, wp_ixT, wp_toB, wp_noX, wp_eqI, wp_neI, List.set_cons_zero, List.set_cons_succ, List.getElem?_cons_zero, List.getElem?_cons_succ, List.length_map, List.append_nil, List.cons_append, List.nil_append, if_true, decide_eq_true_eq, Bool.false_eq_true, if_false, wipeL, w_mbrk, Bool.not_true, Bool.not_false, decide_true, decide_false, true_and, and_true, Res.toD, w_bad, v_lenO, ixQ_int, v_ixO, v_app, v_ext, v_retV, v_borB, v_gh, borL, List.map_cons, List.map_nil, unS_d, unS_un, unS_st, unS_own, ownQ_own, setIQ_int, v_setI, v_call0O, resO_own, Bool.and_self, Bool.and_true, Bool.true_and, Bool.and_false, Bool.false_and, w_slL, w_slT, slQ_l, slQ_t, w_noP, w_pt, intQ_int, w_catT, w_catL, wp_catL, w_cnt, tupQ_t, w_tru, w_truL]
    refine due_ok cs cs rfl (by omega) _ fun _ => ?_
    try simp only [wp_seq, w_set, w_setO, w_m2, w_m1, w_var, varQ_d, w_c, w_nil, w_cons, w_cb, w_cbo, w_int, w_intB, w_abs, w_max, w_min, w_lenL, w_lenT, w_B, w_and, w_or, w_not, w_ifs, w_if, w_ret, w_retO, w_next, w_tup, w_lst, w_frz, w_andV, w_notV, stQ_st, w_st1, w_st2, w_st3, w_st4, w_st5, w_cells, w_stS, lawB_law, setQ1, setQ2, setQ3, setQ5, w_for, w_range1, rngQ_int, w_seqI, w_seqL, w_seqT, w_lc, w_call0d, w_call1, w_meth, w_own, w_drop, stepQ_nx, stepQ_bk, stepQ_rt, wp_ok, wp_bad, sq_nx, sq_rt, sq_ro, wp_add, wp_sub, wp_lt, wp_le, wp_gt, wp_ge, wp_mul, wp_mod, wp_fdiv, wp_pow, wp_ix, wp_ixT, wp_toB, wp_noX, wp_eqI, wp_neI, List.set_cons_zero, List.set_cons_succ, List.getElem?_cons_zero, List.getElem?_cons_succ, List.length_map, List.append_nil, List.cons_append, List.nil_append, if_true, decide_eq_true_eq, Bool.false_eq_true, if_false, wipeL, w_mbrk, Bool.not_true, Bool.not_false, decide_true, decide_false, true_and, and_true, Res.toD, w_bad, v_lenO, ixQ_int, v_ixO, v_app, v_ext, v_retV, v_borB, v_gh, borL, List.map_cons, List.map_nil, unS_d, unS_un, unS_st, unS_own, ownQ_own, setIQ_int, v_setI, v_call0O, resO_own, Bool.and_self, Bool.and_true, Bool.true_and, Bool.and_false, Bool.false_and, w_slL, w_slT, slQ_l, slQ_t, w_noP, w_pt, intQ_int, w_catT, w_catL, wp_catL, w_cnt, tupQ_t, w_tru, w_truL]
    refine same_ok sm4 _ fun _ => ?_
    try simp only [wp_seq, w_set, w_setO, w_m2, w_m1, w_var, varQ_d, w_c, w_nil, w_cons, w_cb, w_cbo, w_int, w_intB, w_abs, w_max, w_min, w_lenL, w_lenT, w_B, w_and, w_or, w_not, w_ifs, w_if, w_ret, w_retO, w_next, w_tup, w_lst, w_frz, w_andV, w_notV, stQ_st, w_st1, w_st2, w_st3, w_st4, w_st5, w_cells, w_stS, lawB_law, setQ1, setQ2, setQ3, setQ5, w_for, w_range1, rngQ_int, w_seqI, w_seqL, w_seqT, w_lc, w_call0d, w_call1, w_meth, w_own, w_drop, stepQ_nx, stepQ_bk, stepQ_rt, wp_ok, wp_bad, sq_nx, sq_rt, sq_ro, wp_add, wp_sub, wp_lt, wp_le, wp_gt, wp_ge, wp_mul, wp_mod, wp_fdiv, wp_pow, wp_ix, wp_ixT, wp_toB, wp_noX, wp_eqI, wp_neI, List.set_cons_zero, List.set_cons_succ, List.getElem?_cons_zero, List.getElem?_cons_succ, List.length_map, List.append_nil, List.cons_append, List.nil_append, if_true, decide_eq_true_eq, Bool.false_eq_true, if_false, wipeL, w_mbrk, Bool.not_true, Bool.not_false, decide_true, decide_false, true_and, and_true, Res.toD, w_bad, v_lenO, ixQ_int, v_ixO, v_app, v_ext, v_retV, v_borB, v_gh, borL, List.map_cons, List.map_nil, unS_d, unS_un, unS_st, unS_own, ownQ_own, setIQ_int, v_setI, v_call0O, resO_own, Bool.and_self, Bool.and_true, Bool.true_and, Bool.and_false, Bool.false_and, w_slL, w_slT, slQ_l, slQ_t, w_noP, w_pt, intQ_int, w_catT, w_catL, wp_catL, w_cnt, tupQ_t, w_tru, w_truL]
    refine ⟨rfl, 0, ixN_0 (by have := rows_pos cf cs he (by omega); omega), rfl, ?_⟩
    refine ⟨by simp only [line, List.length_set, List.length_map, decide_eq_true_eq]; omega, ?_⟩
    refine meet_ok cf cs he (by omega) (by omega) _ fun _ => ?_
    try simp only [wp_seq, w_set, w_setO, w_m2, w_m1, w_var, varQ_d, w_c, w_nil, w_cons, w_cb, w_cbo, w_int, w_intB, w_abs, w_max, w_min, w_lenL, w_lenT, w_B, w_and, w_or, w_not, w_ifs, w_if, w_ret, w_retO, w_next, w_tup, w_lst, w_frz, w_andV, w_notV, stQ_st, w_st1, w_st2, w_st3, w_st4, w_st5, w_cells, w_stS, lawB_law, setQ1, setQ2, setQ3, setQ5, w_for, w_range1, rngQ_int, w_seqI, w_seqL, w_seqT, w_lc, w_call0d, w_call1, w_meth, w_own, w_drop, stepQ_nx, stepQ_bk, stepQ_rt, wp_ok, wp_bad, sq_nx, sq_rt, sq_ro, wp_add, wp_sub, wp_lt, wp_le, wp_gt, wp_ge, wp_mul, wp_mod, wp_fdiv, wp_pow, wp_ix, wp_ixT, wp_toB, wp_noX, wp_eqI, wp_neI, List.set_cons_zero, List.set_cons_succ, List.getElem?_cons_zero, List.getElem?_cons_succ, List.length_map, List.append_nil, List.cons_append, List.nil_append, if_true, decide_eq_true_eq, Bool.false_eq_true, if_false, wipeL, w_mbrk, Bool.not_true, Bool.not_false, decide_true, decide_false, true_and, and_true, Res.toD, w_bad, v_lenO, ixQ_int, v_ixO, v_app, v_ext, v_retV, v_borB, v_gh, borL, List.map_cons, List.map_nil, unS_d, unS_un, unS_st, unS_own, ownQ_own, setIQ_int, v_setI, v_call0O, resO_own, Bool.and_self, Bool.and_true, Bool.true_and, Bool.and_false, Bool.false_and, w_slL, w_slT, slQ_l, slQ_t, w_noP, w_pt, intQ_int, w_catT, w_catL, wp_catL, w_cnt, tupQ_t, w_tru, w_truL]
    refine same_ok sm1 _ fun _ => ?_
    simp only [wp_seq, w_set, w_setO, w_m2, w_m1, w_var, varQ_d, w_c, w_nil, w_cons, w_cb, w_cbo, w_int, w_intB, w_abs, w_max, w_min, w_lenL, w_lenT, w_B, w_and, w_or, w_not, w_ifs, w_if, w_ret, w_retO, w_next, w_tup, w_lst, w_frz, w_andV, w_notV, stQ_st, w_st1, w_st2, w_st3, w_st4, w_st5, w_cells, w_stS, lawB_law, setQ1, setQ2, setQ3, setQ5, w_for, w_range1, rngQ_int, w_seqI, w_seqL, w_seqT, w_lc, w_call0d, w_call1, w_meth, w_own, w_drop, stepQ_nx, stepQ_bk, stepQ_rt, wp_ok, wp_bad, sq_nx, sq_rt, sq_ro, wp_add, wp_sub, wp_lt, wp_le, wp_gt, wp_ge, wp_mul, wp_mod, wp_fdiv, wp_pow, wp_ix, wp_ixT, wp_toB, wp_noX, wp_eqI, wp_neI, List.set_cons_zero, List.set_cons_succ, List.getElem?_cons_zero, List.getElem?_cons_succ, List.length_map, List.append_nil, List.cons_append, List.nil_append, if_true, decide_eq_true_eq, Bool.false_eq_true, if_false, wipeL, w_mbrk, Bool.not_true, Bool.not_false, decide_true, decide_false, true_and, and_true, Res.toD, w_bad, v_lenO, ixQ_int, v_ixO, v_app, v_ext, v_retV, v_borB, v_gh, borL, List.map_cons, List.map_nil, unS_d, unS_un, unS_st, unS_own, ownQ_own, setIQ_int, v_setI, v_call0O, resO_own, Bool.and_self, Bool.and_true, Bool.true_and, Bool.and_false, Bool.false_and, w_slL, w_slT, slQ_l, slQ_t, w_noP, w_pt, intQ_int, w_catT, w_catL, wp_catL, w_cnt, tupQ_t, w_tru, w_truL, w_nmL]
    refine wp.mono (otherplots_ok S2 (0 + 4000) (f.length : Nat) (by omega) (by omega) (by decide) i2) ?_
    rintro _ S3 ⟨i3, o, rfl, o1, o2, o3⟩
    try simp only [wp_seq, w_set, w_setO, w_m2, w_m1, w_var, varQ_d, w_c, w_nil, w_cons, w_cb, w_cbo, w_int, w_intB, w_abs, w_max, w_min, w_lenL, w_lenT, w_B, w_and, w_or, w_not, w_ifs, w_if, w_ret, w_retO, w_next, w_tup, w_lst, w_frz, w_andV, w_notV, stQ_st, w_st1, w_st2, w_st3, w_st4, w_st5, w_cells, w_stS, lawB_law, setQ1, setQ2, setQ3, setQ5, w_for, w_range1, rngQ_int, w_seqI, w_seqL, w_seqT, w_lc, w_call0d, w_call1, w_meth, w_own, w_drop, stepQ_nx, stepQ_bk, stepQ_rt, wp_ok, wp_bad, sq_nx, sq_rt, sq_ro, wp_add, wp_sub, wp_lt, wp_le, wp_gt, wp_ge, wp_mul, wp_mod, wp_fdiv, wp_pow, wp_ix, wp_ixT, wp_toB, wp_noX, wp_eqI, wp_neI, List.set_cons_zero, List.set_cons_succ, List.getElem?_cons_zero, List.getElem?_cons_succ, List.length_map, List.append_nil, List.cons_append, List.nil_append, if_true, decide_eq_true_eq, Bool.false_eq_true, if_false, wipeL, w_mbrk, Bool.not_true, Bool.not_false, decide_true, decide_false, true_and, and_true, Res.toD, w_bad, v_lenO, ixQ_int, v_ixO, v_app, v_ext, v_retV, v_borB, v_gh, borL, List.map_cons, List.map_nil, unS_d, unS_un, unS_st, unS_own, ownQ_own, setIQ_int, v_setI, v_call0O, resO_own, Bool.and_self, Bool.and_true, Bool.true_and, Bool.and_false, Bool.false_and, w_slL, w_slT, slQ_l, slQ_t, w_noP, w_pt, intQ_int, w_catT, w_catL, wp_catL, w_cnt, tupQ_t, w_tru, w_truL]
    refine w_make ?_
    rw [w_cons, w_frz, w_cbo, w_cons]
    refine w_partC rfl ?_
    try simp only [wp_seq, w_set, w_setO, w_m2, w_m1, w_var, varQ_d, w_c, w_nil, w_cons, w_cb, w_cbo, w_int, w_intB, w_abs, w_max, w_min, w_lenL, w_lenT, w_B, w_and, w_or, w_not, w_ifs, w_if, w_ret, w_retO, w_next, w_tup, w_lst, w_frz, w_andV, w_notV, stQ_st, w_st1, w_st2, w_st3, w_st4, w_st5, w_cells, w_stS, lawB_law, setQ1, setQ2, setQ3, setQ5, w_for, w_range1, rngQ_int, w_seqI, w_seqL, w_seqT, w_lc, w_call0d, w_call1, w_meth, w_own, w_drop, stepQ_nx, stepQ_bk, stepQ_rt, wp_ok, wp_bad, sq_nx, sq_rt, sq_ro, wp_add, wp_sub, wp_lt, wp_le, wp_gt, wp_ge, wp_mul, wp_mod, wp_fdiv, wp_pow, wp_ix, wp_ixT, wp_toB, wp_noX, wp_eqI, wp_neI, List.set_cons_zero, List.set_cons_succ, List.getElem?_cons_zero, List.getElem?_cons_succ, List.length_map, List.append_nil, List.cons_append, List.nil_append, if_true, decide_eq_true_eq, Bool.false_eq_true, if_false, wipeL, w_mbrk, Bool.not_true, Bool.not_false, decide_true, decide_false, true_and, and_true, Res.toD, w_bad, v_lenO, ixQ_int, v_ixO, v_app, v_ext, v_retV, v_borB, v_gh, borL, List.map_cons, List.map_nil, unS_d, unS_un, unS_st, unS_own, ownQ_own, setIQ_int, v_setI, v_call0O, resO_own, Bool.and_self, Bool.and_true, Bool.true_and, Bool.and_false, Bool.false_and, w_slL, w_slT, slQ_l, slQ_t, w_noP, w_pt, intQ_int, w_catT, w_catL, wp_catL, w_cnt, tupQ_t, w_tru, w_truL]
    refine ⟨o, _, rfl, o1, o2, by decide, i3, fun ms S4 i4 hms => ?_⟩
    have lm := hms.len
    simp only [wp_seq, w_set, w_setO, w_m2, w_m1, w_var, varQ_d, w_c, w_nil, w_cons, w_cb, w_cbo, w_int, w_intB, w_abs, w_max, w_min, w_lenL, w_lenT, w_B, w_and, w_or, w_not, w_ifs, w_if, w_ret, w_retO, w_next, w_tup, w_lst, w_frz, w_andV, w_notV, stQ_st, w_st1, w_st2, w_st3, w_st4, w_st5, w_cells, w_stS, lawB_law, setQ1, setQ2, setQ3, setQ5, w_for, w_range1, rngQ_int, w_seqI, w_seqL, w_seqT, w_lc, w_call0d, w_call1, w_meth, w_own, w_drop, stepQ_nx, stepQ_bk, stepQ_rt, wp_ok, wp_bad, sq_nx, sq_rt, sq_ro, wp_add, wp_sub, wp_lt, wp_le, wp_gt, wp_ge, wp_mul, wp_mod, wp_fdiv, wp_pow, wp_ix, wp_ixT, wp_toB, wp_noX, wp_eqI, wp_neI, List.set_cons_zero, List.set_cons_succ, List.getElem?_cons_zero, List.getElem?_cons_succ, List.length_map, List.append_nil, List.cons_append, List.nil_append, if_true, decide_eq_true_eq, Bool.false_eq_true, if_false, wipeL, w_mbrk, Bool.not_true, Bool.not_false, decide_true, decide_false, true_and, and_true, Res.toD, w_bad, v_lenO, ixQ_int, v_ixO, v_app, v_ext, v_retV, v_borB, v_gh, borL, List.map_cons, List.map_nil, unS_d, unS_un, unS_st, unS_own, ownQ_own, setIQ_int, v_setI, v_call0O, resO_own, Bool.and_self, Bool.and_true, Bool.true_and, Bool.and_false, Bool.false_and, w_slL, w_slT, slQ_l, slQ_t, w_noP, w_pt, intQ_int, w_catT, w_catL, wp_catL, w_cnt, tupQ_t, w_tru, w_truL, w_nmG]
    obtain rfl : o = (ms.length : Nat) := by omega
    refine ⟨ms, ms.length, rfl, ⟨hms.cn, rfl⟩, by omega, by omega, ?_⟩
    refine wp.of (refused_ok cP cU f ms (by omega) sto0) ?_
    try simp only [wp_seq, w_set, w_setO, w_m2, w_m1, w_var, varQ_d, w_c, w_nil, w_cons, w_cb, w_cbo, w_int, w_intB, w_abs, w_max, w_min, w_lenL, w_lenT, w_B, w_and, w_or, w_not, w_ifs, w_if, w_ret, w_retO, w_next, w_tup, w_lst, w_frz, w_andV, w_notV, stQ_st, w_st1, w_st2, w_st3, w_st4, w_st5, w_cells, w_stS, lawB_law, setQ1, setQ2, setQ3, setQ5, w_for, w_range1, rngQ_int, w_seqI, w_seqL, w_seqT, w_lc, w_call0d, w_call1, w_meth, w_own, w_drop, stepQ_nx, stepQ_bk, stepQ_rt, wp_ok, wp_bad, sq_nx, sq_rt, sq_ro, wp_add, wp_sub, wp_lt, wp_le, wp_gt, wp_ge, wp_mul, wp_mod, wp_fdiv, wp_pow, wp_ix, wp_ixT, wp_toB, wp_noX, wp_eqI, wp_neI, List.set_cons_zero, List.set_cons_succ, List.getElem?_cons_zero, List.getElem?_cons_succ, List.length_map, List.append_nil, List.cons_append, List.nil_append, if_true, decide_eq_true_eq, Bool.false_eq_true, if_false, wipeL, w_mbrk, Bool.not_true, Bool.not_false, decide_true, decide_false, true_and, and_true, Res.toD, w_bad, v_lenO, ixQ_int, v_ixO, v_app, v_ext, v_retV, v_borB, v_gh, borL, List.map_cons, List.map_nil, unS_d, unS_un, unS_st, unS_own, ownQ_own, setIQ_int, v_setI, v_call0O, resO_own, Bool.and_self, Bool.and_true, Bool.true_and, Bool.and_false, Bool.false_and, w_slL, w_slT, slQ_l, slQ_t, w_noP, w_pt, intQ_int, w_catT, w_catL, wp_catL, w_cnt, tupQ_t, w_tru, w_truL]
    rw [show ((f.length : Nat) : Int) = ((f.length : Nat) : Int) from rfl, ← he]
    refine wp.of (refused_ok cP cU ms s (by omega) sto0) ?_
    simp only [wp_seq, w_set, w_setO, w_m2, w_m1, w_var, varQ_d, w_c, w_nil, w_cons, w_cb, w_cbo, w_int, w_intB, w_abs, w_max, w_min, w_lenL, w_lenT, w_B, w_and, w_or, w_not, w_ifs, w_if, w_ret, w_retO, w_next, w_tup, w_lst, w_frz, w_andV, w_notV, stQ_st, w_st1, w_st2, w_st3, w_st4, w_st5, w_cells, w_stS, lawB_law, setQ1, setQ2, setQ3, setQ5, w_for, w_range1, rngQ_int, w_seqI, w_seqL, w_seqT, w_lc, w_call0d, w_call1, w_meth, w_own, w_drop, stepQ_nx, stepQ_bk, stepQ_rt, wp_ok, wp_bad, sq_nx, sq_rt, sq_ro, wp_add, wp_sub, wp_lt, wp_le, wp_gt, wp_ge, wp_mul, wp_mod, wp_fdiv, wp_pow, wp_ix, wp_ixT, wp_toB, wp_noX, wp_eqI, wp_neI, List.set_cons_zero, List.set_cons_succ, List.getElem?_cons_zero, List.getElem?_cons_succ, List.length_map, List.append_nil, List.cons_append, List.nil_append, if_true, decide_eq_true_eq, Bool.false_eq_true, if_false, wipeL, w_mbrk, Bool.not_true, Bool.not_false, decide_true, decide_false, true_and, and_true, Res.toD, w_bad, v_lenO, ixQ_int, v_ixO, v_app, v_ext, v_retV, v_borB, v_gh, borL, List.map_cons, List.map_nil, unS_d, unS_un, unS_st, unS_own, ownQ_own, setIQ_int, v_setI, v_call0O, resO_own, Bool.and_self, Bool.and_true, Bool.true_and, Bool.and_false, Bool.false_and, w_slL, w_slT, slQ_l, slQ_t, w_noP, w_pt, intQ_int, w_catT, w_catL, wp_catL, w_cnt, tupQ_t, w_tru, w_truL, w_na]
    refine same_ok (sm_nm 4 f (by omega)) _ fun _ => ?_
    try simp only [wp_seq, w_set, w_setO, w_m2, w_m1, w_var, varQ_d, w_c, w_nil, w_cons, w_cb, w_cbo, w_int, w_intB, w_abs, w_max, w_min, w_lenL, w_lenT, w_B, w_and, w_or, w_not, w_ifs, w_if, w_ret, w_retO, w_next, w_tup, w_lst, w_frz, w_andV, w_notV, stQ_st, w_st1, w_st2, w_st3, w_st4, w_st5, w_cells, w_stS, lawB_law, setQ1, setQ2, setQ3, setQ5, w_for, w_range1, rngQ_int, w_seqI, w_seqL, w_seqT, w_lc, w_call0d, w_call1, w_meth, w_own, w_drop, stepQ_nx, stepQ_bk, stepQ_rt, wp_ok, wp_bad, sq_nx, sq_rt, sq_ro, wp_add, wp_sub, wp_lt, wp_le, wp_gt, wp_ge, wp_mul, wp_mod, wp_fdiv, wp_pow, wp_ix, wp_ixT, wp_toB, wp_noX, wp_eqI, wp_neI, List.set_cons_zero, List.set_cons_succ, List.getElem?_cons_zero, List.getElem?_cons_succ, List.length_map, List.append_nil, List.cons_append, List.nil_append, if_true, decide_eq_true_eq, Bool.false_eq_true, if_false, wipeL, w_mbrk, Bool.not_true, Bool.not_false, decide_true, decide_false, true_and, and_true, Res.toD, w_bad, v_lenO, ixQ_int, v_ixO, v_app, v_ext, v_retV, v_borB, v_gh, borL, List.map_cons, List.map_nil, unS_d, unS_un, unS_st, unS_own, ownQ_own, setIQ_int, v_setI, v_call0O, resO_own, Bool.and_self, Bool.and_true, Bool.true_and, Bool.and_false, Bool.false_and, w_slL, w_slT, slQ_l, slQ_t, w_noP, w_pt, intQ_int, w_catT, w_catL, wp_catL, w_cnt, tupQ_t, w_tru, w_truL]
    refine same_ok (sm_nm 4 s (by omega)) _ fun _ => ?_
    try simp only [wp_seq, w_set, w_setO, w_m2, w_m1, w_var, varQ_d, w_c, w_nil, w_cons, w_cb, w_cbo, w_int, w_intB, w_abs, w_max, w_min, w_lenL, w_lenT, w_B, w_and, w_or, w_not, w_ifs, w_if, w_ret, w_retO, w_next, w_tup, w_lst, w_frz, w_andV, w_notV, stQ_st, w_st1, w_st2, w_st3, w_st4, w_st5, w_cells, w_stS, lawB_law, setQ1, setQ2, setQ3, setQ5, w_for, w_range1, rngQ_int, w_seqI, w_seqL, w_seqT, w_lc, w_call0d, w_call1, w_meth, w_own, w_drop, stepQ_nx, stepQ_bk, stepQ_rt, wp_ok, wp_bad, sq_nx, sq_rt, sq_ro, wp_add, wp_sub, wp_lt, wp_le, wp_gt, wp_ge, wp_mul, wp_mod, wp_fdiv, wp_pow, wp_ix, wp_ixT, wp_toB, wp_noX, wp_eqI, wp_neI, List.set_cons_zero, List.set_cons_succ, List.getElem?_cons_zero, List.getElem?_cons_succ, List.length_map, List.append_nil, List.cons_append, List.nil_append, if_true, decide_eq_true_eq, Bool.false_eq_true, if_false, wipeL, w_mbrk, Bool.not_true, Bool.not_false, decide_true, decide_false, true_and, and_true, Res.toD, w_bad, v_lenO, ixQ_int, v_ixO, v_app, v_ext, v_retV, v_borB, v_gh, borL, List.map_cons, List.map_nil, unS_d, unS_un, unS_st, unS_own, ownQ_own, setIQ_int, v_setI, v_call0O, resO_own, Bool.and_self, Bool.and_true, Bool.true_and, Bool.and_false, Bool.false_and, w_slL, w_slT, slQ_l, slQ_t, w_noP, w_pt, intQ_int, w_catT, w_catL, wp_catL, w_cnt, tupQ_t, w_tru, w_truL]
    refine meet_ok cf cs he (by omega) (by omega) _ fun _ => ?_
    try simp only [wp_seq, w_set, w_setO, w_m2, w_m1, w_var, varQ_d, w_c, w_nil, w_cons, w_cb, w_cbo, w_int, w_intB, w_abs, w_max, w_min, w_lenL, w_lenT, w_B, w_and, w_or, w_not, w_ifs, w_if, w_ret, w_retO, w_next, w_tup, w_lst, w_frz, w_andV, w_notV, stQ_st, w_st1, w_st2, w_st3, w_st4, w_st5, w_cells, w_stS, lawB_law, setQ1, setQ2, setQ3, setQ5, w_for, w_range1, rngQ_int, w_seqI, w_seqL, w_seqT, w_lc, w_call0d, w_call1, w_meth, w_own, w_drop, stepQ_nx, stepQ_bk, stepQ_rt, wp_ok, wp_bad, sq_nx, sq_rt, sq_ro, wp_add, wp_sub, wp_lt, wp_le, wp_gt, wp_ge, wp_mul, wp_mod, wp_fdiv, wp_pow, wp_ix, wp_ixT, wp_toB, wp_noX, wp_eqI, wp_neI, List.set_cons_zero, List.set_cons_succ, List.getElem?_cons_zero, List.getElem?_cons_succ, List.length_map, List.append_nil, List.cons_append, List.nil_append, if_true, decide_eq_true_eq, Bool.false_eq_true, if_false, wipeL, w_mbrk, Bool.not_true, Bool.not_false, decide_true, decide_false, true_and, and_true, Res.toD, w_bad, v_lenO, ixQ_int, v_ixO, v_app, v_ext, v_retV, v_borB, v_gh, borL, List.map_cons, List.map_nil, unS_d, unS_un, unS_st, unS_own, ownQ_own, setIQ_int, v_setI, v_call0O, resO_own, Bool.and_self, Bool.and_true, Bool.true_and, Bool.and_false, Bool.false_and, w_slL, w_slT, slQ_l, slQ_t, w_noP, w_pt, intQ_int, w_catT, w_catL, wp_catL, w_cnt, tupQ_t, w_tru, w_truL]
    refine same_ok sm1 _ fun _ => ?_
    rfl
  obtain ⟨c, S', e, rfl⟩ := main.get
  exact ⟨S', e⟩
end K17

set_option Elab.async false
set_option linter.all false
set_option maxRecDepth 100000
set_option maxHeartbeats 8000000
set_option autoImplicit false
namespace K17
open PySem PySem.Spec L2 DL
open PyProof.Rows (envOfC)
abbrev s_U_init : Stmt := inClass (top 7) 0
theorem sc_U_init : FnScope ["self", "left_plots", "right_plots"] ["self", "left_plots", "right_plots"] (defScope s_U_init) := ⟨rfl, rfl, rfl, by decide +kernel, rfl, by decide +kernel, by decide +kernel⟩
theorem df_mk {K : PySem.W.Frag} {h : Heap} {mg : Str → Option Value} {x : Str} {st : Stmt} {ps : List Str} {f : Addr} {oc kV dc pm cd ct : Value} {od an : Option Addr} {sl : Array (Option Value)} (X : K.In h) (G : h.Ns mainGlobals mg) (a : PySem.W.nsIn K mainGlobals x = some (some (.ref f)))
    (l : K.lookup f = some ⟨oc, od, .func (PySem.W.fnOf x x (defArgs st) (defBody st) (defScope st) .none kV dc pm an cd ct), sl⟩) (c : PySem.W.codeIn K cd x = true) (k : PySem.W.keepIn K (.ref f) = true)
    (hb : ∀ (kV dc pm : Value) (an : Option Addr) (cd ct : Value) (us : List Value), us.length = ps.length → bindArgs (PySem.W.fnOf x x (defArgs st) (defBody st) (defScope st) .none kV dc pm an cd ct) ⟨us, []⟩ = pure (ps.zip us)) :
    Df K mg x st ps f (PySem.W.fnOf x x (defArgs st) (defBody st) (defScope st) .none kV dc pm an cd ct) :=
  have F : FunD K x x (defArgs st) (defBody st) (defScope st) [] [] f (PySem.W.fnOf x x (defArgs st) (defBody st) (defScope st) .none kV dc pm an cd ct) := ⟨⟨oc, od, .none, kV, dc, pm, an, cd, ct, sl, rfl, l, c, .inl ⟨rfl, rfl⟩, .inl rfl⟩, k⟩
  ⟨F, PySem.W.mg_of X G a, .all (hb kV dc pm an cd ct)⟩
theorem dm_mk {K : PySem.W.Frag} {x qual : Str} {st : Stmt} {ps : List Str} {f : Addr} {oc kV dc pm cd ct : Value} {od an : Option Addr} {sl : Array (Option Value)}
    (l : K.lookup f = some ⟨oc, od, .func (PySem.W.fnOf x qual (defArgs st) (defBody st) (defScope st) .none kV dc pm an cd ct), sl⟩) (c : PySem.W.codeIn K cd qual = true) (k : PySem.W.keepIn K (.ref f) = true)
    (hb : ∀ (kV dc pm : Value) (an : Option Addr) (cd ct : Value) (us : List Value), us.length = ps.length → bindArgs (PySem.W.fnOf x qual (defArgs st) (defBody st) (defScope st) .none kV dc pm an cd ct) ⟨us, []⟩ = pure (ps.zip us)) :
    Dm K x qual st ps f (PySem.W.fnOf x qual (defArgs st) (defBody st) (defScope st) .none kV dc pm an cd ct) :=
  have F : FunD K x qual (defArgs st) (defBody st) (defScope st) [] [] f (PySem.W.fnOf x qual (defArgs st) (defBody st) (defScope st) .none kV dc pm an cd ct) := ⟨⟨oc, od, .none, kV, dc, pm, an, cd, ct, sl, rfl, l, c, .inl ⟨rfl, rfl⟩, .inl rfl⟩, k⟩
  ⟨F, .all (hb kV dc pm an cd ct)⟩
theorem dd_mk {K : PySem.W.Frag} {h : Heap} {mg : Str → Option Value} {x : Str} {st : Stmt} {ps : List Str} {i : Int} {f T : Addr} {oc kV dc pm cd ct tc : Value} {od an td : Option Addr} {sl ts : Array (Option Value)} {tt : Tok} {tn m : Nat} (X : K.In h) (G : h.Ns mainGlobals mg) (a : PySem.W.nsIn K mainGlobals x = some (some (.ref f)))
    (l : K.lookup f = some ⟨oc, od, .func (PySem.W.fnOf x x (defArgs st) (defBody st) (defScope st) (.ref T) kV dc pm an cd ct), sl⟩) (lT : K.lookup T = some ⟨tc, td, .seq #[.int i tt] tn, ts⟩) (c : PySem.W.codeIn K cd x = true) (k : PySem.W.keepIn K (.ref f) = true)
    (h1 : ps.length = m + 1) (h2 : m + 1 = ps.length)
    (hb : ∀ (T : Addr) (kV doc pm : Value) (an : Option Addr) (cdv ct : Value) (us its : List Value), us.length = m + 1 → its.length = 1 →
      ∃ k, bindArgs (PySem.W.fnOf x x (defArgs st) (defBody st) (defScope st) (.ref T) kV doc pm an cdv ct) ⟨us, []⟩ = seqItems? (.ref T) >>= k ∧ k (some its.toArray) = pure (ps.zip (us ++ its.drop 1)))
    (hd : ∀ (T : Addr) (kV doc pm : Value) (an : Option Addr) (cdv ct : Value) (us its : List Value), us.length = m → its.length = 1 →
      ∃ k, bindArgs (PySem.W.fnOf x x (defArgs st) (defBody st) (defScope st) (.ref T) kV doc pm an cdv ct) ⟨us, []⟩ = seqItems? (.ref T) >>= k ∧ k (some its.toArray) = pure (ps.zip (us ++ its.drop 0))) :
    Dd K mg x st ps [.int i] f (PySem.W.fnOf x x (defArgs st) (defBody st) (defScope st) (.ref T) kV dc pm an cd ct) :=
  have F : FunD K x x (defArgs st) (defBody st) (defScope st) [.int i] [] f (PySem.W.fnOf x x (defArgs st) (defBody st) (defScope st) (.ref T) kV dc pm an cd ct) := ⟨⟨oc, od, .ref T, kV, dc, pm, an, cd, ct, sl, rfl, l, c, .inr ⟨by simp, T, _, [.int i tt], tn, rfl, lT, rfl, .cons ⟨tt, rfl⟩ .nil⟩, .inl rfl⟩, k⟩
  ⟨F, PySem.W.mg_of X G a, by
    obtain ⟨ds, hv, hb'⟩ := F.binds1 (ps := ps) (m + 1) 1 (by simp) (by simp [h1]) hb
    cases hv
    exact hb', F.binds1 (ps := ps) m 0 (by simp) (by simp [h1]) hd⟩
theorem all_mk {P : Program} {w : World} {K : PySem.W.Frag} {h : Heap} {mg : Str → Option Value} {fa : Addr} (X : K.In h) (G : h.Ns mainGlobals mg) (hfa : mg "law" = some (.ref fa))
    (hb : ∀ ns : List Int, ns.length ≤ 63 → ∃ seed : Int, seed.natAbs < 2 ^ 70 ∧ ∃ S, b_store [.un, .d (.lst (ns.map DL.D.int)), .un, .un] sto0 = .ok (.ro [.lst (ns.map DL.D.int), .int 0, .int 0, .int 0, .int seed, .int 0]) S)
    (hm : ∀ (cParting cUnlikePlots : Addr) (ns : List Int) (seed : Int), ns.length ≤ 63 → seed.natAbs < 2 ^ 70 → ∃ S', b_law cParting cUnlikePlots (L.un :: L.st :: List.replicate 8 L.un) ⟨ns, 0, 0, 0, seed, 0, .law⟩ = .ok (.rt (.bl true)) S')
    {f0 : Addr} {oc0 kV0 dc0 pm0 cd0 ct0 : Value} {od0 an0 : Option Addr} {sl0 : Array (Option Value)}
    {f1 : Addr} {oc1 kV1 dc1 pm1 cd1 ct1 : Value} {od1 an1 : Option Addr} {sl1 : Array (Option Value)}
    {f2 : Addr} {oc2 kV2 dc2 pm2 cd2 ct2 : Value} {od2 an2 : Option Addr} {sl2 : Array (Option Value)}
    {f3 : Addr} {oc3 kV3 dc3 pm3 cd3 ct3 : Value} {od3 an3 : Option Addr} {sl3 : Array (Option Value)}
    {T3 : Addr} {tc3 : Value} {td3 : Option Addr} {tt3 : Tok} {tn3 : Nat} {ts3 : Array (Option Value)}
    {f4 : Addr} {oc4 kV4 dc4 pm4 cd4 ct4 : Value} {od4 an4 : Option Addr} {sl4 : Array (Option Value)}
    {T4 : Addr} {tc4 : Value} {td4 : Option Addr} {tt4 : Tok} {tn4 : Nat} {ts4 : Array (Option Value)}
    {f5 : Addr} {oc5 kV5 dc5 pm5 cd5 ct5 : Value} {od5 an5 : Option Addr} {sl5 : Array (Option Value)}
    {f6 : Addr} {oc6 kV6 dc6 pm6 cd6 ct6 : Value} {od6 an6 : Option Addr} {sl6 : Array (Option Value)}
    {f7 : Addr} {oc7 kV7 dc7 pm7 cd7 ct7 : Value} {od7 an7 : Option Addr} {sl7 : Array (Option Value)}
    {f8 : Addr} {oc8 kV8 dc8 pm8 cd8 ct8 : Value} {od8 an8 : Option Addr} {sl8 : Array (Option Value)}
    {f9 : Addr} {oc9 kV9 dc9 pm9 cd9 ct9 : Value} {od9 an9 : Option Addr} {sl9 : Array (Option Value)}
    {f10 : Addr} {oc10 kV10 dc10 pm10 cd10 ct10 : Value} {od10 an10 : Option Addr} {sl10 : Array (Option Value)}
    {f11 : Addr} {oc11 kV11 dc11 pm11 cd11 ct11 : Value} {od11 an11 : Option Addr} {sl11 : Array (Option Value)}
    {f12 : Addr} {oc12 kV12 dc12 pm12 cd12 ct12 : Value} {od12 an12 : Option Addr} {sl12 : Array (Option Value)}
    {f13 : Addr} {oc13 kV13 dc13 pm13 cd13 ct13 : Value} {od13 an13 : Option Addr} {sl13 : Array (Option Value)}
    {f14 : Addr} {oc14 kV14 dc14 pm14 cd14 ct14 : Value} {od14 an14 : Option Addr} {sl14 : Array (Option Value)}
    {f15 : Addr} {oc15 kV15 dc15 pm15 cd15 ct15 : Value} {od15 an15 : Option Addr} {sl15 : Array (Option Value)}
    {f16 : Addr} {oc16 kV16 dc16 pm16 cd16 ct16 : Value} {od16 an16 : Option Addr} {sl16 : Array (Option Value)}
    {f17 : Addr} {oc17 kV17 dc17 pm17 cd17 ct17 : Value} {od17 an17 : Option Addr} {sl17 : Array (Option Value)}
    {f18 : Addr} {oc18 kV18 dc18 pm18 cd18 ct18 : Value} {od18 an18 : Option Addr} {sl18 : Array (Option Value)}
    {f19 : Addr} {oc19 kV19 dc19 pm19 cd19 ct19 : Value} {od19 an19 : Option Addr} {sl19 : Array (Option Value)}
    {f20 : Addr} {oc20 kV20 dc20 pm20 cd20 ct20 : Value} {od20 an20 : Option Addr} {sl20 : Array (Option Value)}
    {f21 : Addr} {oc21 kV21 dc21 pm21 cd21 ct21 : Value} {od21 an21 : Option Addr} {sl21 : Array (Option Value)}
    {f22 : Addr} {oc22 kV22 dc22 pm22 cd22 ct22 : Value} {od22 an22 : Option Addr} {sl22 : Array (Option Value)}
    {f23 : Addr} {oc23 kV23 dc23 pm23 cd23 ct23 : Value} {od23 an23 : Option Addr} {sl23 : Array (Option Value)}
    {f24 : Addr} {oc24 kV24 dc24 pm24 cd24 ct24 : Value} {od24 an24 : Option Addr} {sl24 : Array (Option Value)}
    {f25 : Addr} {oc25 kV25 dc25 pm25 cd25 ct25 : Value} {od25 an25 : Option Addr} {sl25 : Array (Option Value)}
    {f26 : Addr} {oc26 kV26 dc26 pm26 cd26 ct26 : Value} {od26 an26 : Option Addr} {sl26 : Array (Option Value)}
    {f27 : Addr} {oc27 kV27 dc27 pm27 cd27 ct27 : Value} {od27 an27 : Option Addr} {sl27 : Array (Option Value)}
    {cP fI : Addr} {ocI kVI dcI pmI cdI ctI : Value} {odI anI : Option Addr} {slI : Array (Option Value)}
    {fm0 : Addr} {ocm0 kVm0 dcm0 pmm0 cdm0 ctm0 : Value} {odm0 anm0 : Option Addr} {slm0 : Array (Option Value)}
    {fm1 : Addr} {ocm1 kVm1 dcm1 pmm1 cdm1 ctm1 : Value} {odm1 anm1 : Option Addr} {slm1 : Array (Option Value)}
    {cU fU cAnswerError cBadPlot cCrossError cInputError cLimitError : Addr} {ocU kVU dcU pmU cdU ctU : Value} {odU anU : Option Addr} {slU : Array (Option Value)} {nmU qU : Str} {NU : Addr} {bsU bmU : List Value} {snU : List Str} {subU : List Value} {abU : Bool} {colU : Option Bool} {ddU : Option Addr} {m0U m1U m2U m3U m5U : Option Value}
    (a0 : PySem.W.nsIn K mainGlobals "is_whole" = some (some (.ref f0)))
    (l0 : K.lookup f0 = some ⟨oc0, od0, .func (PySem.W.fnOf "is_whole" "is_whole" (defArgs s_is_whole) (defBody s_is_whole) (defScope s_is_whole) .none kV0 dc0 pm0 an0 cd0 ct0), sl0⟩)
    (c0 : PySem.W.codeIn K cd0 "is_whole" = true)
    (k0 : PySem.W.keepIn K (.ref f0) = true)
    (a1 : PySem.W.nsIn K mainGlobals "is_place" = some (some (.ref f1)))
    (l1 : K.lookup f1 = some ⟨oc1, od1, .func (PySem.W.fnOf "is_place" "is_place" (defArgs s_is_place) (defBody s_is_place) (defScope s_is_place) .none kV1 dc1 pm1 an1 cd1 ct1), sl1⟩)
    (c1 : PySem.W.codeIn K cd1 "is_place" = true)
    (k1 : PySem.W.keepIn K (.ref f1) = true)
    (a2 : PySem.W.nsIn K mainGlobals "check_label" = some (some (.ref f2)))
    (l2 : K.lookup f2 = some ⟨oc2, od2, .func (PySem.W.fnOf "check_label" "check_label" (defArgs s_check_label) (defBody s_check_label) (defScope s_check_label) .none kV2 dc2 pm2 an2 cd2 ct2), sl2⟩)
    (c2 : PySem.W.codeIn K cd2 "check_label" = true)
    (k2 : PySem.W.keepIn K (.ref f2) = true)
    (a3 : PySem.W.nsIn K mainGlobals "check_most" = some (some (.ref f3)))
    (l3 : K.lookup f3 = some ⟨oc3, od3, .func (PySem.W.fnOf "check_most" "check_most" (defArgs s_check_most) (defBody s_check_most) (defScope s_check_most) (.ref T3) kV3 dc3 pm3 an3 cd3 ct3), sl3⟩)
    (t3 : K.lookup T3 = some ⟨tc3, td3, .seq #[.int 16 tt3] tn3, ts3⟩)
    (c3 : PySem.W.codeIn K cd3 "check_most" = true)
    (k3 : PySem.W.keepIn K (.ref f3) = true)
    (a4 : PySem.W.nsIn K mainGlobals "check_amount" = some (some (.ref f4)))
    (l4 : K.lookup f4 = some ⟨oc4, od4, .func (PySem.W.fnOf "check_amount" "check_amount" (defArgs s_check_amount) (defBody s_check_amount) (defScope s_check_amount) (.ref T4) kV4 dc4 pm4 an4 cd4 ct4), sl4⟩)
    (t4 : K.lookup T4 = some ⟨tc4, td4, .seq #[.int 16 tt4] tn4, ts4⟩)
    (c4 : PySem.W.codeIn K cd4 "check_amount" = true)
    (k4 : PySem.W.keepIn K (.ref f4) = true)
    (a5 : PySem.W.nsIn K mainGlobals "check_plot" = some (some (.ref f5)))
    (l5 : K.lookup f5 = some ⟨oc5, od5, .func (PySem.W.fnOf "check_plot" "check_plot" (defArgs s_check_plot) (defBody s_check_plot) (defScope s_check_plot) .none kV5 dc5 pm5 an5 cd5 ct5), sl5⟩)
    (c5 : PySem.W.codeIn K cd5 "check_plot" = true)
    (k5 : PySem.W.keepIn K (.ref f5) = true)
    (a6 : PySem.W.nsIn K mainGlobals "check_counts" = some (some (.ref f6)))
    (l6 : K.lookup f6 = some ⟨oc6, od6, .func (PySem.W.fnOf "check_counts" "check_counts" (defArgs s_check_counts) (defBody s_check_counts) (defScope s_check_counts) .none kV6 dc6 pm6 an6 cd6 ct6), sl6⟩)
    (c6 : PySem.W.codeIn K cd6 "check_counts" = true)
    (k6 : PySem.W.keepIn K (.ref f6) = true)
    (a7 : PySem.W.nsIn K mainGlobals "check_alike" = some (some (.ref f7)))
    (l7 : K.lookup f7 = some ⟨oc7, od7, .func (PySem.W.fnOf "check_alike" "check_alike" (defArgs s_check_alike) (defBody s_check_alike) (defScope s_check_alike) .none kV7 dc7 pm7 an7 cd7 ct7), sl7⟩)
    (c7 : PySem.W.codeIn K cd7 "check_alike" = true)
    (k7 : PySem.W.keepIn K (.ref f7) = true)
    (a8 : PySem.W.nsIn K mainGlobals "_first_places" = some (some (.ref f8)))
    (l8 : K.lookup f8 = some ⟨oc8, od8, .func (PySem.W.fnOf "_first_places" "_first_places" (defArgs s_first_places) (defBody s_first_places) (defScope s_first_places) .none kV8 dc8 pm8 an8 cd8 ct8), sl8⟩)
    (c8 : PySem.W.codeIn K cd8 "_first_places" = true)
    (k8 : PySem.W.keepIn K (.ref f8) = true)
    (a9 : PySem.W.nsIn K mainGlobals "_lots_by_name" = some (some (.ref f9)))
    (l9 : K.lookup f9 = some ⟨oc9, od9, .func (PySem.W.fnOf "_lots_by_name" "_lots_by_name" (defArgs s_lots_by_name) (defBody s_lots_by_name) (defScope s_lots_by_name) .none kV9 dc9 pm9 an9 cd9 ct9), sl9⟩)
    (c9 : PySem.W.codeIn K cd9 "_lots_by_name" = true)
    (k9 : PySem.W.keepIn K (.ref f9) = true)
    (a10 : PySem.W.nsIn K mainGlobals "joined_names" = some (some (.ref f10)))
    (l10 : K.lookup f10 = some ⟨oc10, od10, .func (PySem.W.fnOf "joined_names" "joined_names" (defArgs s_joined_names) (defBody s_joined_names) (defScope s_joined_names) .none kV10 dc10 pm10 an10 cd10 ct10), sl10⟩)
    (c10 : PySem.W.codeIn K cd10 "joined_names" = true)
    (k10 : PySem.W.keepIn K (.ref f10) = true)
    (a11 : PySem.W.nsIn K mainGlobals "_row" = some (some (.ref f11)))
    (l11 : K.lookup f11 = some ⟨oc11, od11, .func (PySem.W.fnOf "_row" "_row" (defArgs s_row) (defBody s_row) (defScope s_row) .none kV11 dc11 pm11 an11 cd11 ct11), sl11⟩)
    (c11 : PySem.W.codeIn K cd11 "_row" = true)
    (k11 : PySem.W.keepIn K (.ref f11) = true)
    (a12 : PySem.W.nsIn K mainGlobals "meeting" = some (some (.ref f12)))
    (l12 : K.lookup f12 = some ⟨oc12, od12, .func (PySem.W.fnOf "meeting" "meeting" (defArgs s_meeting) (defBody s_meeting) (defScope s_meeting) .none kV12 dc12 pm12 an12 cd12 ct12), sl12⟩)
    (c12 : PySem.W.codeIn K cd12 "meeting" = true)
    (k12 : PySem.W.keepIn K (.ref f12) = true)
    (a13 : PySem.W.nsIn K mainGlobals "_law_mixed" = some (some (.ref f13)))
    (l13 : K.lookup f13 = some ⟨oc13, od13, .func (PySem.W.fnOf "_law_mixed" "_law_mixed" (defArgs s_law_mixed) (defBody s_law_mixed) (defScope s_law_mixed) .none kV13 dc13 pm13 an13 cd13 ct13), sl13⟩)
    (c13 : PySem.W.codeIn K cd13 "_law_mixed" = true)
    (k13 : PySem.W.keepIn K (.ref f13) = true)
    (a14 : PySem.W.nsIn K mainGlobals "_law_take" = some (some (.ref f14)))
    (l14 : K.lookup f14 = some ⟨oc14, od14, .func (PySem.W.fnOf "_law_take" "_law_take" (defArgs s_law_take) (defBody s_law_take) (defScope s_law_take) .none kV14 dc14 pm14 an14 cd14 ct14), sl14⟩)
    (c14 : PySem.W.codeIn K cd14 "_law_take" = true)
    (k14 : PySem.W.keepIn K (.ref f14) = true)
    (a15 : PySem.W.nsIn K mainGlobals "_law_once" = some (some (.ref f15)))
    (l15 : K.lookup f15 = some ⟨oc15, od15, .func (PySem.W.fnOf "_law_once" "_law_once" (defArgs s_law_once) (defBody s_law_once) (defScope s_law_once) .none kV15 dc15 pm15 an15 cd15 ct15), sl15⟩)
    (c15 : PySem.W.codeIn K cd15 "_law_once" = true)
    (k15 : PySem.W.keepIn K (.ref f15) = true)
    (a16 : PySem.W.nsIn K mainGlobals "_law_shuffle" = some (some (.ref f16)))
    (l16 : K.lookup f16 = some ⟨oc16, od16, .func (PySem.W.fnOf "_law_shuffle" "_law_shuffle" (defArgs s_law_shuffle) (defBody s_law_shuffle) (defScope s_law_shuffle) .none kV16 dc16 pm16 an16 cd16 ct16), sl16⟩)
    (c16 : PySem.W.codeIn K cd16 "_law_shuffle" = true)
    (k16 : PySem.W.keepIn K (.ref f16) = true)
    (a17 : PySem.W.nsIn K mainGlobals "_law_same" = some (some (.ref f17)))
    (l17 : K.lookup f17 = some ⟨oc17, od17, .func (PySem.W.fnOf "_law_same" "_law_same" (defArgs s_law_same) (defBody s_law_same) (defScope s_law_same) .none kV17 dc17 pm17 an17 cd17 ct17), sl17⟩)
    (c17 : PySem.W.codeIn K cd17 "_law_same" = true)
    (k17 : PySem.W.keepIn K (.ref f17) = true)
    (a18 : PySem.W.nsIn K mainGlobals "_law_canon" = some (some (.ref f18)))
    (l18 : K.lookup f18 = some ⟨oc18, od18, .func (PySem.W.fnOf "_law_canon" "_law_canon" (defArgs s_law_canon) (defBody s_law_canon) (defScope s_law_canon) .none kV18 dc18 pm18 an18 cd18 ct18), sl18⟩)
    (c18 : PySem.W.codeIn K cd18 "_law_canon" = true)
    (k18 : PySem.W.keepIn K (.ref f18) = true)
    (a19 : PySem.W.nsIn K mainGlobals "_law_parting" = some (some (.ref f19)))
    (l19 : K.lookup f19 = some ⟨oc19, od19, .func (PySem.W.fnOf "_law_parting" "_law_parting" (defArgs s_law_parting) (defBody s_law_parting) (defScope s_law_parting) .none kV19 dc19 pm19 an19 cd19 ct19), sl19⟩)
    (c19 : PySem.W.codeIn K cd19 "_law_parting" = true)
    (k19 : PySem.W.keepIn K (.ref f19) = true)
    (a20 : PySem.W.nsIn K mainGlobals "_law_nudged" = some (some (.ref f20)))
    (l20 : K.lookup f20 = some ⟨oc20, od20, .func (PySem.W.fnOf "_law_nudged" "_law_nudged" (defArgs s_law_nudged) (defBody s_law_nudged) (defScope s_law_nudged) .none kV20 dc20 pm20 an20 cd20 ct20), sl20⟩)
    (c20 : PySem.W.codeIn K cd20 "_law_nudged" = true)
    (k20 : PySem.W.keepIn K (.ref f20) = true)
    (a21 : PySem.W.nsIn K mainGlobals "_law_otherplots" = some (some (.ref f21)))
    (l21 : K.lookup f21 = some ⟨oc21, od21, .func (PySem.W.fnOf "_law_otherplots" "_law_otherplots" (defArgs s_law_otherplots) (defBody s_law_otherplots) (defScope s_law_otherplots) .none kV21 dc21 pm21 an21 cd21 ct21), sl21⟩)
    (c21 : PySem.W.codeIn K cd21 "_law_otherplots" = true)
    (k21 : PySem.W.keepIn K (.ref f21) = true)
    (a22 : PySem.W.nsIn K mainGlobals "_law_pair" = some (some (.ref f22)))
    (l22 : K.lookup f22 = some ⟨oc22, od22, .func (PySem.W.fnOf "_law_pair" "_law_pair" (defArgs s_law_pair) (defBody s_law_pair) (defScope s_law_pair) .none kV22 dc22 pm22 an22 cd22 ct22), sl22⟩)
    (c22 : PySem.W.codeIn K cd22 "_law_pair" = true)
    (k22 : PySem.W.keepIn K (.ref f22) = true)
    (a23 : PySem.W.nsIn K mainGlobals "_law_reached" = some (some (.ref f23)))
    (l23 : K.lookup f23 = some ⟨oc23, od23, .func (PySem.W.fnOf "_law_reached" "_law_reached" (defArgs s_law_reached) (defBody s_law_reached) (defScope s_law_reached) .none kV23 dc23 pm23 an23 cd23 ct23), sl23⟩)
    (c23 : PySem.W.codeIn K cd23 "_law_reached" = true)
    (k23 : PySem.W.keepIn K (.ref f23) = true)
    (a24 : PySem.W.nsIn K mainGlobals "_law_rowsdue" = some (some (.ref f24)))
    (l24 : K.lookup f24 = some ⟨oc24, od24, .func (PySem.W.fnOf "_law_rowsdue" "_law_rowsdue" (defArgs s_law_rowsdue) (defBody s_law_rowsdue) (defScope s_law_rowsdue) .none kV24 dc24 pm24 an24 cd24 ct24), sl24⟩)
    (c24 : PySem.W.codeIn K cd24 "_law_rowsdue" = true)
    (k24 : PySem.W.keepIn K (.ref f24) = true)
    (a25 : PySem.W.nsIn K mainGlobals "_law_store" = some (some (.ref f25)))
    (l25 : K.lookup f25 = some ⟨oc25, od25, .func (PySem.W.fnOf "_law_store" "_law_store" (defArgs s_law_store) (defBody s_law_store) (defScope s_law_store) .none kV25 dc25 pm25 an25 cd25 ct25), sl25⟩)
    (c25 : PySem.W.codeIn K cd25 "_law_store" = true)
    (k25 : PySem.W.keepIn K (.ref f25) = true)
    (a26 : PySem.W.nsIn K mainGlobals "_law_refused" = some (some (.ref f26)))
    (l26 : K.lookup f26 = some ⟨oc26, od26, .func (PySem.W.fnOf "_law_refused" "_law_refused" (defArgs s_law_refused) (defBody s_law_refused) (defScope s_law_refused) .none kV26 dc26 pm26 an26 cd26 ct26), sl26⟩)
    (c26 : PySem.W.codeIn K cd26 "_law_refused" = true)
    (k26 : PySem.W.keepIn K (.ref f26) = true)
    (a27 : PySem.W.nsIn K mainGlobals "law" = some (some (.ref f27)))
    (l27 : K.lookup f27 = some ⟨oc27, od27, .func (PySem.W.fnOf "law" "law" (defArgs s_law) (defBody s_law) (defScope s_law) .none kV27 dc27 pm27 an27 cd27 ct27), sl27⟩)
    (c27 : PySem.W.codeIn K cd27 "law" = true)
    (k27 : PySem.W.keepIn K (.ref f27) = true)
    (aP : PySem.W.nsIn K mainGlobals "Parting" = some (some (.ref cP)))
    (aI : PySem.W.findIn K (.ref cP) "__init__" = some (some (.ref fI)))
    (iI : PySem.W.isFn K (.ref fI) = true)
    (lI : K.lookup fI = some ⟨ocI, odI, .func (PySem.W.fnOf "__init__" "Parting.__init__" (defArgs s_Parting_init) (defBody s_Parting_init) (defScope s_Parting_init) .none kVI dcI pmI anI cdI ctI), slI⟩)
    (cI : PySem.W.codeIn K cdI "Parting.__init__" = true)
    (kI : PySem.W.keepIn K (.ref fI) = true)
    (pg : PySem.W.plainGet K cP Str.empty = true)
    (hd : PySem.W.hasDictIn K cP = true)
    (po : PySem.W.plainOver K cP = true)
    (sa : PySem.W.findIn K (.ref cP) "__setattr__" = some (some (.builtin "object.__setattr__")))
    (mk : PySem.W.makesIn K cP = true)
    (kc : PySem.W.keepIn K (.ref cP) = true)
    (n_plots : PySem.W.findIn K (.ref cP) "plots" = some none)
    (n_many : PySem.W.findIn K (.ref cP) "many" = some none)
    (n_names : PySem.W.findIn K (.ref cP) "names" = some none)
    (n_lots : PySem.W.findIn K (.ref cP) "lots" = some none)
    (n_sizes : PySem.W.findIn K (.ref cP) "sizes" = some none)
    (sfP : PySem.W.selfFirst K cP = true)
    (am0 : PySem.W.findIn K (.ref cP) "lot_of" = some (some (.ref fm0)))
    (im0 : PySem.W.isFn K (.ref fm0) = true)
    (lm0 : K.lookup fm0 = some ⟨ocm0, odm0, .func (PySem.W.fnOf "lot_of" "Parting.lot_of" (defArgs s_Parting_lot_of) (defBody s_Parting_lot_of) (defScope s_Parting_lot_of) .none kVm0 dcm0 pmm0 anm0 cdm0 ctm0), slm0⟩)
    (cm0 : PySem.W.codeIn K cdm0 "Parting.lot_of" = true)
    (km0 : PySem.W.keepIn K (.ref fm0) = true)
    (am1 : PySem.W.findIn K (.ref cP) "__or__" = some (some (.ref fm1)))
    (im1 : PySem.W.isFn K (.ref fm1) = true)
    (lm1 : K.lookup fm1 = some ⟨ocm1, odm1, .func (PySem.W.fnOf "__or__" "Parting.__or__" (defArgs s_Parting_or) (defBody s_Parting_or) (defScope s_Parting_or) .none kVm1 dcm1 pmm1 anm1 cdm1 ctm1), slm1⟩)
    (cm1 : PySem.W.codeIn K cdm1 "Parting.__or__" = true)
    (km1 : PySem.W.keepIn K (.ref fm1) = true)
    (aU : PySem.W.nsIn K mainGlobals "UnlikePlots" = some (some (.ref cU)))
    (xU : K.lookup cU = some (excClassObj nmU qU cU NU bsU bmU true snU subU abU colU ddU m0U m1U m2U m3U m5U "ValueError.__new__"))
    (vU : PySem.HandSPX.refsVE bmU = true)
    (saU : PySem.W.findIn K (.ref cU) "__setattr__" = some (some (.builtin "object.__setattr__")))
    (gaU : PySem.W.findIn K (.ref cU) "__getattribute__" = some (some (.builtin "BaseException.__getattribute__")))
    (ggU : PySem.W.findIn K (.ref cU) "__getattr__" = some none)
    (eU : PySem.W.subIn K (.ref cU) (.type "BaseException") = some true)
    (tU : PySem.W.typeIn K (.ref cU) = some (.type "type"))
    (hU : PySem.W.hasDictIn K cU = true)
    (kU : PySem.W.keepIn K (.ref cU) = true)
    (sU : PySem.W.subIn K (.ref cU) (.ref cU) = some true)
    (n_left_plots : PySem.W.findIn K (.ref cU) "left_plots" = some none)
    (n_right_plots : PySem.W.findIn K (.ref cU) "right_plots" = some none)
    (clU : PySem.W.findIn K (.ref cU) "__class__" = some (some (.builtin "object.__class__")))
    (spU : PySem.W.specialIn K (.builtin "object.__class__") "__get__" = some (some (.builtin "getset_descriptor.__get__")))
    (tkU : PySem.W.takesIn K (.builtin "object.__class__") = some true)
    (mrU : PySem.W.mroIn K cU (.type "object") = some true)
    (iU : PySem.W.findIn K (.ref cU) "__init__" = some (some (.ref fU)))
    (tfU : PySem.W.typeIn K (.ref fU) = some (.type "function"))
    (lU : K.lookup fU = some ⟨ocU, odU, .func (PySem.W.fnOf "__init__" "UnlikePlots.__init__" (defArgs s_U_init) (defBody s_U_init) (defScope s_U_init) .none kVU dcU pmU anU cdU ctU), slU⟩)
    (cU2 : PySem.W.codeIn K cdU "UnlikePlots.__init__" = true)
    (kU2 : PySem.W.keepIn K (.ref fU) = true)
    (g_AnswerError : PySem.W.nsIn K mainGlobals "AnswerError" = some (some (.ref cAnswerError)))
    (g_BadPlot : PySem.W.nsIn K mainGlobals "BadPlot" = some (some (.ref cBadPlot)))
    (g_CrossError : PySem.W.nsIn K mainGlobals "CrossError" = some (some (.ref cCrossError)))
    (g_InputError : PySem.W.nsIn K mainGlobals "InputError" = some (some (.ref cInputError)))
    (g_LimitError : PySem.W.nsIn K mainGlobals "LimitError" = some (some (.ref cLimitError)))
    (y_AnswerError : PySem.W.kitOne K (.ref cU) (.ref cAnswerError) = some false)
    (y_BadPlot : PySem.W.kitOne K (.ref cU) (.ref cBadPlot) = some false)
    (y_CrossError : PySem.W.kitOne K (.ref cU) (.ref cCrossError) = some true)
    (y_InputError : PySem.W.kitOne K (.ref cU) (.ref cInputError) = some true)
    (y_LimitError : PySem.W.kitOne K (.ref cU) (.ref cLimitError) = some false)
    (y_Va : PySem.W.kitOne K (.ref cU) (.type "ValueError") = some true)
    (z_abs : PySem.W.nsIn K mainGlobals "abs" = some none)
    (z_bool : PySem.W.nsIn K mainGlobals "bool" = some none)
    (z_enumerate : PySem.W.nsIn K mainGlobals "enumerate" = some none)
    (z_int : PySem.W.nsIn K mainGlobals "int" = some none)
    (z_isinstance : PySem.W.nsIn K mainGlobals "isinstance" = some none)
    (z_len : PySem.W.nsIn K mainGlobals "len" = some none)
    (z_list : PySem.W.nsIn K mainGlobals "list" = some none)
    (z_max : PySem.W.nsIn K mainGlobals "max" = some none)
    (z_min : PySem.W.nsIn K mainGlobals "min" = some none)
    (z_range : PySem.W.nsIn K mainGlobals "range" = some none)
    (z_set : PySem.W.nsIn K mainGlobals "set" = some none)
    (z_sorted : PySem.W.nsIn K mainGlobals "sorted" = some none)
    (z_str : PySem.W.nsIn K mainGlobals "str" = some none)
    (z_tuple : PySem.W.nsIn K mainGlobals "tuple" = some none)
    (z_VE : PySem.W.nsIn K mainGlobals "ValueError" = some none) :
    ∃ fd : FuncData, (∀ (s : Shared) (v : Value), BindsTo s fd ⟨[v], []⟩ [("script", v)]) ∧ ∀ base : Heap, K.In base → base.Ns mainGlobals mg → FnOk P w K mg base (L2N.CX P w) 9 fa fd ["script"] (spLaw K) := by
  have e := hfa.symm.trans (PySem.W.mg_of X G a27)
  obtain rfl : fa = f27 := by cases e; rfl
  have D_is_whole : Df K mg "is_whole" s_is_whole ["value"] f0 _ := df_mk X G a0 l0 c0 k0 fun _ _ _ _ _ _ us hl => match us, hl with | [_], _ => rfl
  have D_is_place : Df K mg "is_place" s_is_place ["count", "value"] f1 _ := df_mk X G a1 l1 c1 k1 fun _ _ _ _ _ _ us hl => match us, hl with | [_, _], _ => rfl
  have D_check_label : Df K mg "check_label" s_check_label ["value", "at"] f2 _ := df_mk X G a2 l2 c2 k2 fun _ _ _ _ _ _ us hl => match us, hl with | [_, _], _ => rfl
  have D_check_most : Dd K mg "check_most" s_check_most ["amount", "what", "most"] [.int 16] f3 _ := dd_mk (m := 2) X G a3 l3 t3 c3 k3 (by decide) (by decide) (fun _ _ _ _ _ _ _ us its h1 h2 => match us, h1, its, h2 with | [_, _, _], _, [_], _ => ⟨_, rfl, rfl⟩) (fun _ _ _ _ _ _ _ us its h1 h2 => match us, h1, its, h2 with | [_, _], _, [_], _ => ⟨_, rfl, rfl⟩)
  have D_check_amount : Dd K mg "check_amount" s_check_amount ["amount", "what", "most"] [.int 16] f4 _ := dd_mk (m := 2) X G a4 l4 t4 c4 k4 (by decide) (by decide) (fun _ _ _ _ _ _ _ us its h1 h2 => match us, h1, its, h2 with | [_, _, _], _, [_], _ => ⟨_, rfl, rfl⟩) (fun _ _ _ _ _ _ _ us its h1 h2 => match us, h1, its, h2 with | [_, _], _, [_], _ => ⟨_, rfl, rfl⟩)
  have D_check_plot : Df K mg "check_plot" s_check_plot ["plots", "value"] f5 _ := df_mk X G a5 l5 c5 k5 fun _ _ _ _ _ _ us hl => match us, hl with | [_, _], _ => rfl
  have D_check_counts : Df K mg "check_counts" s_check_counts ["plots", "counts"] f6 _ := df_mk X G a6 l6 c6 k6 fun _ _ _ _ _ _ us hl => match us, hl with | [_, _], _ => rfl
  have D_check_alike : Df K mg "check_alike" s_check_alike ["plots", "things"] f7 _ := df_mk X G a7 l7 c7 k7 fun _ _ _ _ _ _ us hl => match us, hl with | [_, _], _ => rfl
  have D_first_places : Df K mg "_first_places" s_first_places ["keys"] f8 _ := df_mk X G a8 l8 c8 k8 fun _ _ _ _ _ _ us hl => match us, hl with | [_], _ => rfl
  have D_lots_by_name : Df K mg "_lots_by_name" s_lots_by_name ["names"] f9 _ := df_mk X G a9 l9 c9 k9 fun _ _ _ _ _ _ us hl => match us, hl with | [_], _ => rfl
  have D_joined_names : Df K mg "joined_names" s_joined_names ["first", "mates"] f10 _ := df_mk X G a10 l10 c10 k10 fun _ _ _ _ _ _ us hl => match us, hl with | [_, _], _ => rfl
  have D_row : Df K mg "_row" s_row ["left", "right", "whole"] f11 _ := df_mk X G a11 l11 c11 k11 fun _ _ _ _ _ _ us hl => match us, hl with | [_, _, _], _ => rfl
  have D_meeting : Df K mg "meeting" s_meeting ["first", "second"] f12 _ := df_mk X G a12 l12 c12 k12 fun _ _ _ _ _ _ us hl => match us, hl with | [_, _], _ => rfl
  have D_law_mixed : Df K mg "_law_mixed" s_law_mixed ["number", "turn"] f13 _ := df_mk X G a13 l13 c13 k13 fun _ _ _ _ _ _ us hl => match us, hl with | [_, _], _ => rfl
  have D_law_take : Df K mg "_law_take" s_law_take ["store", "many"] f14 _ := df_mk X G a14 l14 c14 k14 fun _ _ _ _ _ _ us hl => match us, hl with | [_, _], _ => rfl
  have D_law_once : Df K mg "_law_once" s_law_once ["store", "many"] f15 _ := df_mk X G a15 l15 c15 k15 fun _ _ _ _ _ _ us hl => match us, hl with | [_, _], _ => rfl
  have D_law_shuffle : Df K mg "_law_shuffle" s_law_shuffle ["store", "many"] f16 _ := df_mk X G a16 l16 c16 k16 fun _ _ _ _ _ _ us hl => match us, hl with | [_, _], _ => rfl
  have D_law_same : Df K mg "_law_same" s_law_same ["left", "right"] f17 _ := df_mk X G a17 l17 c17 k17 fun _ _ _ _ _ _ us hl => match us, hl with | [_, _], _ => rfl
  have D_law_canon : Df K mg "_law_canon" s_law_canon ["labels"] f18 _ := df_mk X G a18 l18 c18 k18 fun _ _ _ _ _ _ us hl => match us, hl with | [_], _ => rfl
  have D_law_parting : Df K mg "_law_parting" s_law_parting ["store", "plots"] f19 _ := df_mk X G a19 l19 c19 k19 fun _ _ _ _ _ _ us hl => match us, hl with | [_, _], _ => rfl
  have D_law_nudged : Df K mg "_law_nudged" s_law_nudged ["store", "names"] f20 _ := df_mk X G a20 l20 c20 k20 fun _ _ _ _ _ _ us hl => match us, hl with | [_, _], _ => rfl
  have D_law_otherplots : Df K mg "_law_otherplots" s_law_otherplots ["store", "plots"] f21 _ := df_mk X G a21 l21 c21 k21 fun _ _ _ _ _ _ us hl => match us, hl with | [_, _], _ => rfl
  have D_law_pair : Df K mg "_law_pair" s_law_pair ["store", "most"] f22 _ := df_mk X G a22 l22 c22 k22 fun _ _ _ _ _ _ us hl => match us, hl with | [_, _], _ => rfl
  have D_law_reached : Df K mg "_law_reached" s_law_reached ["first", "second", "plot"] f23 _ := df_mk X G a23 l23 c23 k23 fun _ _ _ _ _ _ us hl => match us, hl with | [_, _, _], _ => rfl
  have D_law_rowsdue : Df K mg "_law_rowsdue" s_law_rowsdue ["first", "second"] f24 _ := df_mk X G a24 l24 c24 k24 fun _ _ _ _ _ _ us hl => match us, hl with | [_, _], _ => rfl
  have D_law_store : Df K mg "_law_store" s_law_store ["script"] f25 _ := df_mk X G a25 l25 c25 k25 fun _ _ _ _ _ _ us hl => match us, hl with | [_], _ => rfl
  have D_law_refused : Df K mg "_law_refused" s_law_refused ["one", "two", "left", "right"] f26 _ := df_mk X G a26 l26 c26 k26 fun _ _ _ _ _ _ us hl => match us, hl with | [_, _, _, _], _ => rfl
  have D_law : Df K mg "law" s_law ["script"] fa _ := df_mk X G a27 l27 c27 k27 fun _ _ _ _ _ _ us hl => match us, hl with | [_], _ => rfl
  have D_Parting_lot_of : Dm K "lot_of" "Parting.lot_of" s_Parting_lot_of ["self", "plot"] fm0 _ := dm_mk lm0 cm0 km0 fun _ _ _ _ _ _ us hl => match us, hl with | [_, _], _ => rfl
  have D_Parting_or : Dm K "__or__" "Parting.__or__" s_Parting_or ["self", "other"] fm1 _ := dm_mk lm1 cm1 km1 fun _ _ _ _ _ _ us hl => match us, hl with | [_, _], _ => rfl
  have D_init : Dm K "__init__" "Parting.__init__" s_Parting_init ["self", "labels"] fI _ := dm_mk lI cI kI fun _ _ _ _ _ _ us hl => match us, hl with | [_, _], _ => rfl
  have D_U : Dm K "__init__" "UnlikePlots.__init__" s_U_init ["self", "left_plots", "right_plots"] fU _ := dm_mk lU cU2 kU2 fun _ _ _ _ _ _ us hl => match us, hl with | [_, _, _], _ => rfl
  have B : Blt mg := ⟨PySem.W.mg_none_of X G z_abs, PySem.W.mg_none_of X G z_bool, PySem.W.mg_none_of X G z_enumerate, PySem.W.mg_none_of X G z_int, PySem.W.mg_none_of X G z_isinstance, PySem.W.mg_none_of X G z_len, PySem.W.mg_none_of X G z_list, PySem.W.mg_none_of X G z_max, PySem.W.mg_none_of X G z_min, PySem.W.mg_none_of X G z_range, PySem.W.mg_none_of X G z_set, PySem.W.mg_none_of X G z_sorted, PySem.W.mg_none_of X G z_str, PySem.W.mg_none_of X G z_tuple⟩
  have T_Parting : Txt_Parting K cP := ⟨⟨pg, hd, po, sa⟩, n_plots, n_many, n_names, n_lots, n_sizes⟩
  have TU : TxtU K mg cU cAnswerError cBadPlot cCrossError cInputError cLimitError :=
    { xf := ⟨gaU, ggU, eU, hU⟩, ec := ⟨gaU, ggU, eU, hU, clU, spU, tkU, mrU⟩, n_left_plots := n_left_plots, n_right_plots := n_right_plots, ex := PySem.W.exm_ref eU hU tU sU, gU := PySem.W.mg_of X G aU, g_AnswerError := PySem.W.mg_of X G g_AnswerError, g_BadPlot := PySem.W.mg_of X G g_BadPlot, g_CrossError := PySem.W.mg_of X G g_CrossError, g_InputError := PySem.W.mg_of X G g_InputError, g_LimitError := PySem.W.mg_of X G g_LimitError, gVa := PySem.W.mg_none_of X G z_VE, gis := PySem.W.mg_none_of X G z_isinstance, k_AnswerError := y_AnswerError, k_BadPlot := y_BadPlot, k_CrossError := y_CrossError, k_InputError := y_InputError, k_LimitError := y_LimitError, k_ValueError := y_Va }
  refine ⟨PySem.W.fnOf "law" "law" (defArgs s_law) (defBody s_law) (defScope s_law) .none kV27 dc27 pm27 an27 cd27 ct27, fun s v => .of_eq rfl, fun base _ _ => ?_⟩
  have X_UnlikePlots : X2 P w K mg base "UnlikePlots" cU "left_plots" "right_plots" := ⟨⟨⟨nmU, qU, NU, bsU, bmU, snU, subU, abU, colU, ddU, m0U, m1U, m2U, m3U, m5U, xU, vU⟩, saU, eU, tU, kU⟩, n_left_plots, n_right_plots, PySem.W.mg_of X G aU, fU, _, ["self", "left_plots", "right_plots"], iU, tfU, init_x2 D_U sc_U_init (fun cdv A outer s H E => pss_cons (ps_ost (pv 0) (pv 1)) (pss_one (ps_ost (pv 0) (pv 2)))), D_U.b⟩
  have C_is_whole : Cal P w K mg base "is_whole" 1 ["value"] (spD false 1 m_is_whole) := ok_is_whole B D_is_whole
  have C_is_place : Cal P w K mg base "is_place" 2 ["count", "value"] (spD false 2 m_is_place) := ok_is_place B D_is_place C_is_whole
  have C_check_label : Cal P w K mg base "check_label" 2 ["value", "at"] (spD false 2 m_check_label) := ok_check_label B D_check_label C_is_whole
  have C2_check_most := ok_check_most (P := P) (w := w) (base := base) B D_check_most
  have C_check_most := C2_check_most.1
  have C_check_most_d := C2_check_most.2
  have C2_check_amount := ok_check_amount (P := P) (w := w) (base := base) B D_check_amount C_check_most
  have C_check_amount := C2_check_amount.1
  have C_check_amount_d := C2_check_amount.2
  have C_check_plot : Cal P w K mg base "check_plot" 3 ["plots", "value"] (spD false 2 m_check_plot) := ok_check_plot B D_check_plot C_is_place
  have C_check_counts : Cal P w K mg base "check_counts" 3 ["plots", "counts"] (spD false 2 (m_check_counts cU)) := ok_check_counts B D_check_counts X_UnlikePlots
  have C_check_alike : Cal P w K mg base "check_alike" 4 ["plots", "things"] (spD false 2 (m_check_alike cP cU)) := ok_check_alike B D_check_alike T_Parting C_check_counts
  have C_first_places : Cal P w K mg base "_first_places" 1 ["keys"] (spD false 1 m_first_places) := ok_first_places B D_first_places
  have C_lots_by_name : Cal P w K mg base "_lots_by_name" 1 ["names"] (spD false 1 m_lots_by_name) := ok_lots_by_name B D_lots_by_name
  have C_joined_names : Cal P w K mg base "joined_names" 1 ["first", "mates"] (spD false 2 m_joined_names) := ok_joined_names B D_joined_names
  have FI := ok_Parting_init (P := P) (w := w) (base := base) B D_init T_Parting C_check_amount C_check_amount_d C_check_label C_first_places C_lots_by_name
  have M_Parting : Mke P w K mg base "Parting" cP 3 1 (m_Parting_init cP) := ⟨fI, _, ["self", "labels"], ⟨mk, aI, iI, kc⟩, FI, PySem.W.mg_of X G aP, D_init.b⟩
  have C_Parting_lot_of : CalM P w K mg base cP "lot_of" 4 ["self", "plot"] (spD false 2 (m_Parting_lot_of cP)) := ⟨T_Parting.cl, fm0, _, ⟨am0, im0, km0⟩, ok_Parting_lot_of B D_Parting_lot_of T_Parting C_check_plot, D_Parting_lot_of.b⟩
  have C_Parting_or : CalO P w K mg base cP .BitOr 5 ["self", "other"] (spD false 2 (m_Parting_or cP cU)) := ⟨sfP, fm1, _, am1, im1, ok_Parting_or B D_Parting_or T_Parting M_Parting C_check_alike C_joined_names, D_Parting_or.b⟩
  have C_row : Cal P w K mg base "_row" 1 ["left", "right", "whole"] (spD false 3 m_row) := ok_row B D_row
  have C_meeting : Cal P w K mg base "meeting" 6 ["first", "second"] (spD false 2 (m_meeting cP cU)) := ok_meeting B D_meeting T_Parting C_check_alike C_Parting_or C_Parting_lot_of C_row
  have C_law_mixed : Cal P w K mg base "_law_mixed" 1 ["number", "turn"] (spD false 2 m_law_mixed) := ok_law_mixed B D_law_mixed
  have C_law_take : Cal P w K mg base "_law_take" 2 ["store", "many"] (spD true 1 m_law_take) := ok_law_take B D_law_take C_law_mixed
  have C_law_once : Cal P w K mg base "_law_once" 3 ["store", "many"] (spD true 1 m_law_once) := ok_law_once B D_law_once C_law_take
  have C_law_shuffle : Cal P w K mg base "_law_shuffle" 4 ["store", "many"] (spD true 1 m_law_shuffle) := ok_law_shuffle B D_law_shuffle C_law_once C_law_take
  have H_law_same : CalH P w K mg base "_law_same" 7 ["left", "right"] (spD false 2 (m_law_same 6)) := okH_law_same B D_law_same 6
  have C_law_same : Cal P w K mg base "_law_same" 7 ["left", "right"] (spD false 2 (m_law_same 6)) := ok_law_same B D_law_same 6
  have C_law_canon : Cal P w K mg base "_law_canon" 1 ["labels"] (spD false 1 m_law_canon) := ok_law_canon B D_law_canon
  have C_law_parting : Cal P w K mg base "_law_parting" 3 ["store", "plots"] (spD true 1 m_law_parting) := ok_law_parting B D_law_parting C_law_take C_law_canon
  have C_law_nudged : Cal P w K mg base "_law_nudged" 3 ["store", "names"] (spD true 1 m_law_nudged) := ok_law_nudged B D_law_nudged C_law_take C_law_canon
  have C_law_otherplots : Cal P w K mg base "_law_otherplots" 4 ["store", "plots"] (spD true 1 m_law_otherplots) := ok_law_otherplots B D_law_otherplots C_law_take C_law_once
  have C_law_pair : Cal P w K mg base "_law_pair" 5 ["store", "most"] (spD true 1 m_law_pair) := ok_law_pair B D_law_pair C_law_take C_law_parting C_law_shuffle C_law_canon C_law_nudged
  have C_law_reached : Cal P w K mg base "_law_reached" 1 ["first", "second", "plot"] (spD false 3 m_law_reached) := ok_law_reached B D_law_reached
  have C_law_rowsdue : Cal P w K mg base "_law_rowsdue" 2 ["first", "second"] (spD false 2 m_law_rowsdue) := ok_law_rowsdue B D_law_rowsdue C_law_reached
  have C_law_store : Cal P w K mg base "_law_store" 1 ["script"] (spStore K) := ⟨f25, _, ok_law_store B D_law_store hb, D_law_store.mgf, D_law_store.fn.kp, D_law_store.b⟩
  have C_law_refused : Cal P w K mg base "_law_refused" 8 ["one", "two", "left", "right"] (spD false 4 (m_law_refused cP cU)) := ok_law_refused B D_law_refused TU C_meeting H_law_same
  exact ok_law B D_law M_Parting T_Parting C_law_pair C_law_rowsdue C_meeting C_law_same C_law_otherplots C_law_parting C_law_refused C_law_store (hm cP cU)
end K17

open PySem PySem.W PyProof.Rows
set_option Elab.async false
set_option maxRecDepth 100000
set_option maxHeartbeats 0 in
theorem PySem.Challenge.cw_crossmeans_k17_rows_of_a_meeting_holds : PySem.Challenge.rw_crossmeans_k17_rows_of_a_meeting.Holds := by
  w_on; o_law; k_head; (case hw => w_witness2)
  k_fill
  refine L2.walk_of (l := PySem.Challenge.rw_crossmeans_k17_rows_of_a_meeting) (n := 63) (k := 9) (x := "script") (CX := fun w => L2N.CX PySem.Challenge.pw_crossmeans_k17_rows_of_a_meeting w) (sp := fun w => DL.spLaw _) rfl (by decide) rfl ⟨rfl, by decide, by decide⟩ (fun w h Y => PySem.W.kIn_of Y) ?F (fun _ _ a ns hl _ hS => ⟨a, ns, rfl, hS, hl, fun _ => rfl⟩) (fun _ _ _ _ _ h => by obtain ⟨_, _, _, _, _, _, _, _, _, _, _, _, z⟩ := h; exact z.elim)
  case F =>
    intro w mg fa h KX G hmg
    refine' K17.all_mk KX G hmg K17.seed_ok K17.law_math ?a0 ?l0 ?c0 ?k0 ?a1 ?l1 ?c1 ?k1 ?a2 ?l2 ?c2 ?k2 ?a3 ?l3 ?t3 ?c3 ?k3 ?a4 ?l4 ?t4 ?c4 ?k4 ?a5 ?l5 ?c5 ?k5 ?a6 ?l6 ?c6 ?k6 ?a7 ?l7 ?c7 ?k7 ?a8 ?l8 ?c8 ?k8 ?a9 ?l9 ?c9 ?k9 ?a10 ?l10 ?c10 ?k10 ?a11 ?l11 ?c11 ?k11 ?a12 ?l12 ?c12 ?k12 ?a13 ?l13 ?c13 ?k13 ?a14 ?l14 ?c14 ?k14 ?a15 ?l15 ?c15 ?k15 ?a16 ?l16 ?c16 ?k16 ?a17 ?l17 ?c17 ?k17 ?a18 ?l18 ?c18 ?k18 ?a19 ?l19 ?c19 ?k19 ?a20 ?l20 ?c20 ?k20 ?a21 ?l21 ?c21 ?k21 ?a22 ?l22 ?c22 ?k22 ?a23 ?l23 ?c23 ?k23 ?a24 ?l24 ?c24 ?k24 ?a25 ?l25 ?c25 ?k25 ?a26 ?l26 ?c26 ?k26 ?a27 ?l27 ?c27 ?k27 ?aP ?aI ?iI ?lI ?cI ?kI ?pg ?hd ?po ?sa ?mk ?kc ?n_plots ?n_many ?n_names ?n_lots ?n_sizes ?sfP ?am0 ?im0 ?lm0 ?cm0 ?km0 ?am1 ?im1 ?lm1 ?cm1 ?km1 ?aU ?xU ?vU ?saU ?gaU ?ggU ?eU ?tU ?hU ?kU ?sU ?n_left_plots ?n_right_plots ?clU ?spU ?tkU ?mrU ?iU ?tfU ?lU ?cU2 ?kU2 ?g_AnswerError ?g_BadPlot ?g_CrossError ?g_InputError ?g_LimitError ?y_AnswerError ?y_BadPlot ?y_CrossError ?y_InputError ?y_LimitError ?y_Va ?z_abs ?z_bool ?z_enumerate ?z_int ?z_isinstance ?z_len ?z_list ?z_max ?z_min ?z_range ?z_set ?z_sorted ?z_str ?z_tuple ?z_VE
    (case a0 => k_is)
    (case l0 => k_is)
    (case c0 => k_is)
    (case k0 => k_is)
    (case a1 => k_is)
    (case l1 => k_is)
    (case c1 => k_is)
    (case k1 => k_is)
    (case a2 => k_is)
    (case l2 => k_is)
    (case c2 => k_is)
    (case k2 => k_is)
    (case a3 => k_is)
    (case l3 => k_is)
    (case t3 => k_is)
    (case c3 => k_is)
    (case k3 => k_is)
    (case a4 => k_is)
    (case l4 => k_is)
    (case t4 => k_is)
    (case c4 => k_is)
    (case k4 => k_is)
    (case a5 => k_is)
    (case l5 => k_is)
    (case c5 => k_is)
    (case k5 => k_is)
    (case a6 => k_is)
    (case l6 => k_is)
    (case c6 => k_is)
    (case k6 => k_is)
    (case a7 => k_is)
    (case l7 => k_is)
    (case c7 => k_is)
    (case k7 => k_is)
    (case a8 => k_is)
    (case l8 => k_is)
    (case c8 => k_is)
    (case k8 => k_is)
    (case a9 => k_is)
    (case l9 => k_is)
    (case c9 => k_is)
    (case k9 => k_is)
    (case a10 => k_is)
    (case l10 => k_is)
    (case c10 => k_is)
    (case k10 => k_is)
    (case a11 => k_is)
    (case l11 => k_is)
    (case c11 => k_is)
    (case k11 => k_is)
    (case a12 => k_is)
    (case l12 => k_is)
    (case c12 => k_is)
    (case k12 => k_is)
    (case a13 => k_is)
    (case l13 => k_is)
    (case c13 => k_is)
    (case k13 => k_is)
    (case a14 => k_is)
    (case l14 => k_is)
    (case c14 => k_is)
    (case k14 => k_is)
    (case a15 => k_is)
    (case l15 => k_is)
    (case c15 => k_is)
    (case k15 => k_is)
    (case a16 => k_is)
    (case l16 => k_is)
    (case c16 => k_is)
    (case k16 => k_is)
    (case a17 => k_is)
    (case l17 => k_is)
    (case c17 => k_is)
    (case k17 => k_is)
    (case a18 => k_is)
    (case l18 => k_is)
    (case c18 => k_is)
    (case k18 => k_is)
    (case a19 => k_is)
    (case l19 => k_is)
    (case c19 => k_is)
    (case k19 => k_is)
    (case a20 => k_is)
    (case l20 => k_is)
    (case c20 => k_is)
    (case k20 => k_is)
    (case a21 => k_is)
    (case l21 => k_is)
    (case c21 => k_is)
    (case k21 => k_is)
    (case a22 => k_is)
    (case l22 => k_is)
    (case c22 => k_is)
    (case k22 => k_is)
    (case a23 => k_is)
    (case l23 => k_is)
    (case c23 => k_is)
    (case k23 => k_is)
    (case a24 => k_is)
    (case l24 => k_is)
    (case c24 => k_is)
    (case k24 => k_is)
    (case a25 => k_is)
    (case l25 => k_is)
    (case c25 => k_is)
    (case k25 => k_is)
    (case a26 => k_is)
    (case l26 => k_is)
    (case c26 => k_is)
    (case k26 => k_is)
    (case a27 => k_is)
    (case l27 => k_is)
    (case c27 => k_is)
    (case k27 => k_is)
    (case aP => k_is)
    (case aI => k_is)
    (case iI => k_is)
    (case lI => k_is)
    (case cI => k_is)
    (case kI => k_is)
    (case pg => k_is)
    (case hd => k_is)
    (case po => k_is)
    (case sa => k_is)
    (case mk => k_is)
    (case kc => k_is)
    (case n_plots => k_is)
    (case n_many => k_is)
    (case n_names => k_is)
    (case n_lots => k_is)
    (case n_sizes => k_is)
    (case sfP => k_is)
    (case am0 => k_is)
    (case im0 => k_is)
    (case lm0 => k_is)
    (case cm0 => k_is)
    (case km0 => k_is)
    (case am1 => k_is)
    (case im1 => k_is)
    (case lm1 => k_is)
    (case cm1 => k_is)
    (case km1 => k_is)
    (case aU => k_is)
    (case xU => k_is)
    (case vU => first | rfl | decide +kernel | k_is)
    (case saU => k_is)
    (case gaU => k_is)
    (case ggU => k_is)
    (case eU => k_is)
    (case tU => k_is)
    (case hU => k_is)
    (case kU => k_is)
    (case sU => first | rfl | k_is)
    (case n_left_plots => k_is)
    (case n_right_plots => k_is)
    (case clU => k_is)
    (case spU => k_is)
    (case tkU => k_is)
    (case mrU => k_is)
    (case iU => k_is)
    (case tfU => k_is)
    (case lU => k_is)
    (case cU2 => k_is)
    (case kU2 => k_is)
    (case g_AnswerError => k_is)
    (case g_BadPlot => k_is)
    (case g_CrossError => k_is)
    (case g_InputError => k_is)
    (case g_LimitError => k_is)
    (case y_AnswerError => first | k_is | kit_is)
    (case y_BadPlot => first | k_is | kit_is)
    (case y_CrossError => first | k_is | kit_is)
    (case y_InputError => first | k_is | kit_is)
    (case y_LimitError => first | k_is | kit_is)
    (case y_Va => first | k_is | kit_is)
    (case z_abs => k_is)
    (case z_bool => k_is)
    (case z_enumerate => k_is)
    (case z_int => k_is)
    (case z_isinstance => k_is)
    (case z_len => k_is)
    (case z_list => k_is)
    (case z_max => k_is)
    (case z_min => k_is)
    (case z_range => k_is)
    (case z_set => k_is)
    (case z_sorted => k_is)
    (case z_str => k_is)
    (case z_tuple => k_is)
    (case z_VE => k_is)
