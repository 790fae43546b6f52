import PyProof.Rows.All
import Wide.All
import OpenK.AllK
import Wide.FinOn
import Lean
import PyProof.EqAt
import PyProof.EqKinds
import PyProof.TupleCall
import OpenK.KMore
import PyProof.ExcInit
import PyProof.ExcClass2
import PyProof.InstStoreFacts
import PyProof.ExcArgsOwn
import PyProof.ExcAttrAll.ValueError
import PySem.Challenge.RW_measurewise_k25_rounding
set_option Elab.async false
set_option linter.all false
set_option maxRecDepth 100000
/-! THE HAND LAYER, for ints, bools, texts, own classes, LISTS and tuples (index, slices, in, append, pop ..), calls, loops. Paste it whole ahead of your own text; what your proof does not reach may be deleted. -/
namespace L2
open PySem PySem.Spec PyProof.Rows

/-- a key: an int or a str -/
abbrev Key := Sum Int Str
def keyIs : Key → Value → Bool
  | .inl k, v => Value.isInt k v
  | .inr x, v => Value.isStrOf x v
def keyH (w : World) : Key → Int
  | .inl k => hashInt k
  | .inr x => hashStr w x
theorem keyIs_shape : ∀ {k : Key} {v : Value}, keyIs k v = true → (∃ i t, k = Sum.inl i ∧ v = Value.int i t) ∨ (∃ x t, k = Sum.inr x ∧ v = Value.str x t)
  | .inl i, v, h => by
    obtain ⟨t, e⟩ := Value.isInt_shape (k := i) (v := v) h
    exact .inl ⟨i, t, rfl, e⟩
  | .inr x, v, h => by
    obtain ⟨t, e⟩ := Value.isStrOf_shape (x := x) (v := v) h
    exact .inr ⟨x, t, rfl, e⟩
theorem keyIs_int (i : Int) (t : Tok) : keyIs (.inl i) (.int i t) = true := by simp [keyIs, Value.isInt]
theorem keyIs_str (x : Str) (t : Tok) : keyIs (.inr x) (.str x t) = true := by simp [keyIs, Value.isStrOf]
theorem key_ll (a b : Int) : decide ((Sum.inl a : Key) = Sum.inl b) = (a == b) := by
  by_cases e : a = b
  · subst e; simp
  · have h : ¬ (Sum.inl a : Key) = Sum.inl b := fun q => e (Sum.inl.inj q)
    rw [decide_eq_false h]
    exact (beq_eq_false_iff_ne.mpr e).symm
theorem key_rr (a b : Str) : decide ((Sum.inr a : Key) = Sum.inr b) = decide (a = b) := by
  by_cases e : a = b
  · subst e; simp
  · have h : ¬ (Sum.inr a : Key) = Sum.inr b := fun q => e (Sum.inr.inj q)
    rw [decide_eq_false h, decide_eq_false e]
theorem key_lr (a : Int) (b : Str) : decide ((Sum.inl a : Key) = Sum.inr b) = false := decide_eq_false (fun q => nomatch q)
theorem key_rl (a : Str) (b : Int) : decide ((Sum.inr a : Key) = Sum.inl b) = false := decide_eq_false (fun q => nomatch q)

def mixKind (prog : Program) (w : World) : PySem.KeyKind prog w Key where
  is := keyIs
  hash := keyH w
  inj := fun v a b ha hb => by
    rcases keyIs_shape ha with ⟨i, t, rfl, rfl⟩ | ⟨x, t, rfl, rfl⟩
    · rcases keyIs_shape hb with ⟨j, u, rfl, e⟩ | ⟨y, u, rfl, e⟩
      · injection e with e1 _; rw [e1]
      · exact nomatch e
    · rcases keyIs_shape hb with ⟨j, u, rfl, e⟩ | ⟨y, u, rfl, e⟩
      · exact nomatch e
      · injection e with e1 _; rw [e1]
  byValue := fun k v h => by
    rcases keyIs_shape h with ⟨i, t, rfl, rfl⟩ | ⟨x, t, rfl, rfl⟩ <;> rfl
  pyHash := fun hv h => by
    rcases keyIs_shape hv with ⟨i, t, rfl, rfl⟩ | ⟨x, t, rfl, rfl⟩
    · exact wpAny_pyHash_int h
    · exact wpAny_pyHash_str h
  eqBool := fun hu hv h => by
    rcases keyIs_shape hu with ⟨i, t, rfl, rfl⟩ | ⟨x, t, rfl, rfl⟩
    · rcases keyIs_shape hv with ⟨j, u, rfl, rfl⟩ | ⟨y, u, rfl, rfl⟩
      · rw [key_ll] at h; exact wpAny_eqBool_int h
      · rw [key_lr] at h; exact SeqAt.EqAt.int_str i t y u _ _ _ _ h
    · rcases keyIs_shape hv with ⟨j, u, rfl, rfl⟩ | ⟨y, u, rfl, rfl⟩
      · rw [key_rl] at h; exact SeqAt.EqAt.str_int x t j u _ _ _ _ h
      · rw [key_rr] at h; exact wpAny_eqBool_str h
  «strs» := fun k x t v h => by
    rcases keyIs_shape h with ⟨i, u, rfl, e⟩ | ⟨y, u, rfl, e⟩
    · exact nomatch e
    · injection e with e1 _
      subst e1
      cases v <;> rfl

theorem mixKind_int (prog : Program) (w : World) (i : Int) (t : Tok) : (mixKind prog w).is (.inl i) (.int i t) = true := keyIs_int i t
theorem mixKind_str (prog : Program) (w : World) (x : Str) (t : Tok) : (mixKind prog w).is (.inr x) (.str x t) = true := keyIs_str x t
end L2

namespace L2
open PySem PySem.Spec PyProof.Rows

/-- a value, without the heap -/
inductive V where
  | non | bl (b : Bool) | int (i : Int) | str (x : Str) | byt (b : Array UInt8) | flt (b : UInt64) | ref (a : Addr) | ty (n : String)
  deriving DecidableEq

def RelV : V → Value → Prop
  | .non, u => u = Value.none
  | .bl b, u => u = Value.bool b
  | .int i, u => ∃ t, u = Value.int i t
  | .str x, u => ∃ t, u = Value.str x t
  | .byt b, u => ∃ t, u = Value.bytes b t
  | .flt b, u => ∃ t, u = Value.float b t
  | .ref a, u => u = Value.ref a
  | .ty n, u => u = Value.type n

abbrev Vals : List V → List Value → Prop := Paired RelV
theorem Vals.length {xs : List V} {us : List Value} (r : Vals xs us) : xs.length = us.length := Paired.length r
theorem Vals.get : ∀ {xs : List V} {us : List Value} {i : Nat} {x : V}, Vals xs us → xs[i]? = some x → ∃ u, us[i]? = some u ∧ RelV x u
  | _, _, _, _, .nil, e => by simp at e
  | _, _, 0, _, .cons r _, e => by simp at e; subst e; exact ⟨_, rfl, r⟩
  | _, _, i + 1, x, .cons _ t, e => by
    obtain ⟨u, h1, h2⟩ := Vals.get (i := i) (x := x) t (by simpa using e)
    exact ⟨u, by simpa using h1, h2⟩
theorem Vals.append : ∀ {xs ys : List V} {us ws : List Value}, Vals xs us → Vals ys ws → Vals (xs ++ ys) (us ++ ws)
  | _, _, _, _, .nil, s => s
  | _, _, _, _, .cons r t, s => .cons r (Vals.append t s)
def RelO : Option V → Option Value → Prop
  | some v, some u => RelV v u
  | none, none => True
  | _, _ => False
def KV {κ : Type} : List (κ × V) → List (κ × Value) → Prop := Paired fun (p : κ × V) (q : κ × Value) => p.1 = q.1 ∧ RelV p.2 q.2

/-- a key of a dict (00_mix): an int or a text -/
def kV : Key → V
  | .inl i => .int i
  | .inr x => .str x

/-- what stands at a tracked address -/
inductive HO where
  /-- a list -/
  | lst (xs : List V)
  /-- a tuple (never changes) -/
  | tup (xs : List V)
  /-- a dict whose keys are ints and texts; one whose keys are tuples of ints and texts (the empty one is both) -/
  | dK (kvs : List (Key × V)) | dT (kvs : List (List Key × V))
  /-- a set of ints: its members, its size -/
  | set (S : Int → Bool) (n : Nat)
  /-- an instance of the class at C, its dict at dx, its attributes -/
  | ins (C dx : Addr) (fs : List (Str × V))
  /-- the dict of the instance at x -/
  | own (x : Addr)
  /-- the dict of an exception -/
  | xd (fs : List (Str × V))
  /-- a bound method, f of x -/
  | met (f x : Addr)
  /-- a range object lo, lo + 1, .. below hi -/
  | rng (lo hi : Int)
  /-- a thing that is known to the object (the script; a dict while a loop walks it): read, never written while it is so -/
  | frz (o : Obj) (u : HO)
  /-- a code object's table -/
  | tbl (ps : Array Value)
  /-- any other thing, by what is true of its one object (a def of one's own: SetO a S n := HO.ext fun h => ..) -/
  | ext (φ : Heap → Prop)

abbrev Hp := Addr → Option HO
def upd (H : Hp) (a : Addr) (o : HO) : Hp := fun b => if b = a then some o else H b
theorem upd_same {H : Hp} {a : Addr} {o : HO} : upd H a o a = some o := by unfold upd; rw [if_pos rfl]
theorem upd_ne {H : Hp} {a b : Addr} {o : HO} (h : b ≠ a) : upd H a o b = H b := by unfold upd; rw [if_neg h]
/-- two objects of different content stand apart -/
theorem ne_of {H : Hp} {a b : Addr} {o u : HO} (h : H a = some o) (h' : H b = some u) (d : o ≠ u) : a ≠ b := by
  intro e; subst e; rw [h] at h'; exact d (Option.some.inj h')
theorem ne_of_none {H : Hp} {a b : Addr} {o : HO} (h : H a = some o) (h' : H b = none) : a ≠ b := by
  intro e; subst e; rw [h] at h'; cases h'

section
variable (P : Program) (w : World)
def ObjOk (H : Hp) (h : Heap) (a : Addr) : HO → Prop
  | .lst xs => xs.length ≤ sizeLine ∧ ∃ (its : List Value) (n : Nat), Vals xs its ∧ h.get? a = some { cls := .type "list", data := .seq its.toArray n }
  | .tup xs => xs.length ≤ sizeLine ∧ ∃ its : List Value, Vals xs its ∧ IsTup h a its.toArray
  | .dK kvs => kvs.length ≤ sizeLine ∧ (a == sysModules) = false ∧ ∃ vs, KV kvs vs ∧ h.DictOf (mixKind P w) a vs
  | .dT kvs => kvs.length ≤ sizeLine ∧ (a == sysModules) = false ∧ ∃ xs : List (List Key × Addr × Value),
      Paired (fun (p : List Key × V) (q : List Key × Addr × Value) => p.1 = q.1 ∧ H q.2.1 = some (.tup (p.1.map kV)) ∧ RelV p.2 q.2.2) kvs xs ∧
      ∃ o es ep, h.get? a = some o ∧ o.ExactDict ∧ o.data = .dict es ep ∧ es.toList = xs.map (entryOfKey (tupleKind (mixKind P w))) ∧ (xs.map (·.1)).Nodup
  | .set S n => h.SetOf (intKind P w) a S n
  | .ins C dx fs => H dx = some (.own a) ∧ fs.length ≤ 1000 ∧ dx ≠ a ∧ h.get? a = some (PySem.W.instObj C dx) ∧
      ∃ mA, h.Ns1 dx mA ∧ (∀ f, RelO (fs.lookup f) (mA f)) ∧ PySem.Within mA (fs.map (·.1))
  | .own _ => ∃ o, h.get? a = some o
  | .xd fs => ∃ mA, h.Ns1 a mA ∧ ∀ f, RelO (fs.lookup f) (mA f)
  | .rng lo hi => ∃ t u v, h.get? a = some { cls := .type "range", data := .fields #[.int lo t, .int hi u, .int 1 v] }
  | .frz o u => h.get? a = some o ∧ ObjOk H h a u
  | .tbl ps => h.get? a = some { cls := .none, data := .fields ps }
  | .met f x => h.get? a = some (PySem.W.methodObj (.ref f) (.ref x))
  | .ext φ => φ h ∧ (∃ o, h.get? a = some o) ∧ ∀ h1 h2 : Heap, φ h1 → (∀ o, h1.get? a = some o → h2.get? a = some o) → φ h2
/-- the abstract heap is held -/
def HOk (H : Hp) (h : Heap) : Prop := ∀ a o, H a = some o → ObjOk P w H h a o
end

section
variable {P : Program} {w : World} {H H' : Hp} {h h' : Heap} {a : Addr} {o : HO}
theorem ObjOk.lt (x : ObjOk P w H h a o) : a < h.objs.size := by
  cases o with
  | lst xs => obtain ⟨_, _, _, _, e⟩ := x; exact Heap.lt_size e
  | tup xs => obtain ⟨_, _, _, p⟩ := x; exact p.lt
  | dK kvs => obtain ⟨_, _, _, _, o, _, _, e, _⟩ := x; exact Heap.lt_size e
  | dT kvs => obtain ⟨_, _, _, _, o, _, _, e, _⟩ := x; exact Heap.lt_size e
  | set S n => obtain ⟨o, _, _, _, e, _⟩ := x; exact Heap.lt_size e
  | ins C dx fs => obtain ⟨_, _, _, e, _⟩ := x; exact Heap.lt_size e
  | own y => obtain ⟨_, e⟩ := x; exact Heap.lt_size e
  | xd fs => obtain ⟨_, ⟨_, _, _, e, _⟩, _⟩ := x; exact Heap.lt_size e
  | rng lo hi => obtain ⟨_, _, _, e⟩ := x; exact Heap.lt_size e
  | frz ob u => obtain ⟨e, _⟩ := x; exact Heap.lt_size e
  | tbl ps => exact Heap.lt_size (show h.get? a = some _ from x)
  | met f y => exact Heap.lt_size (show h.get? a = some _ from x)
  | ext φ => obtain ⟨_, ⟨_, e⟩, _⟩ := x; exact Heap.lt_size e
theorem Paired.mapP {α β : Type} {F G : α → β → Prop} : ∀ {l₁ : List α} {l₂ : List β}, Paired F l₁ l₂ → (∀ a b, F a b → G a b) → Paired G l₁ l₂
  | _, _, .nil, _ => .nil
  | _, _, .cons r t, f => .cons (f _ _ r) (Paired.mapP t f)
/-- what an object's description leans on: its own object, its own dict, the tuples -/
theorem ObjOk.stay (x : ObjOk P w H h a o) (k : ∀ b u, (b = a ∨ H b = some (.own a)) → h.get? b = some u → h'.get? b = some u)
    (ho : ∀ b, H b = some (.own a) → H' b = some (.own a)) (ht : ∀ b xs, H b = some (.tup xs) → H' b = some (.tup xs)) : ObjOk P w H' h' a o := by
  induction o with
  | lst xs => obtain ⟨z, its, n, r, e⟩ := x; exact ⟨z, its, n, r, k _ _ (.inl rfl) e⟩
  | tup xs => obtain ⟨z, its, r, ob, e, c⟩ := x; exact ⟨z, its, r, ob, k _ _ (.inl rfl) e, c⟩
  | dK kvs => obtain ⟨z, y, vs, r, ob, es, ep, e, c⟩ := x; exact ⟨z, y, vs, r, ob, es, ep, k _ _ (.inl rfl) e, c⟩
  | dT kvs =>
    obtain ⟨z, y, xs, r, ob, es, ep, e, c⟩ := x
    exact ⟨z, y, xs, Paired.mapP r fun p q z => ⟨z.1, ht _ _ z.2.1, z.2.2⟩, ob, es, ep, k _ _ (.inl rfl) e, c⟩
  | set S n => obtain ⟨ob, es, ep, t, e, c⟩ := x; exact ⟨ob, es, ep, t, k _ _ (.inl rfl) e, c⟩
  | ins C dx fs =>
    obtain ⟨d, z, ne, e, mA, ⟨od, es, ep, e2, c⟩, r⟩ := x
    exact ⟨ho _ d, z, ne, k _ _ (.inl rfl) e, mA, ⟨od, es, ep, k _ _ (.inr d) e2, c⟩, r⟩
  | own y => obtain ⟨ob, e⟩ := x; exact ⟨ob, k _ _ (.inl rfl) e⟩
  | xd fs => obtain ⟨mA, ⟨od, es, ep, e, c⟩, r⟩ := x; exact ⟨mA, ⟨od, es, ep, k _ _ (.inl rfl) e, c⟩, r⟩
  | rng lo hi => obtain ⟨t, u, v, e⟩ := x; exact ⟨t, u, v, k _ _ (.inl rfl) e⟩
  | frz ob u ih => obtain ⟨e, q⟩ := x; exact ⟨k _ _ (.inl rfl) e, ih q⟩
  | tbl ps =>
    have e : h.get? a = some { cls := .none, data := .fields ps } := x
    show h'.get? a = some { cls := .none, data := .fields ps }
    exact k a _ (.inl rfl) e
  | met f y =>
    have e : h.get? a = some (PySem.W.methodObj (.ref f) (.ref y)) := x
    show h'.get? a = some (PySem.W.methodObj (.ref f) (.ref y))
    exact k a _ (.inl rfl) e
  | ext φ => obtain ⟨p, ⟨o, e⟩, st⟩ := x; exact ⟨st _ _ p fun o q => k _ _ (.inl rfl) q, ⟨o, k _ _ (.inl rfl) e⟩, st⟩
theorem HOk.lt (x : HOk P w H h) (e : H a = some o) : a < h.objs.size := (x a o e).lt
theorem HOk.fresh (x : HOk P w H h) (e : h.objs.size ≤ a) : H a = none := by
  cases q : H a with
  | none => rfl
  | some u => exact absurd (Nat.lt_of_lt_of_le (x.lt q) e) (Nat.lt_irrefl _)
/-- every object of the heap is kept -/
theorem HOk.kept (x : HOk P w H h) (k : ∀ b u, h.get? b = some u → h'.get? b = some u) : HOk P w H h' := fun a o e =>
  (x a o e).stay (fun b u _ q => k b u q) (fun _ q => q) fun _ _ q => q
/-- a new object is laid and tracked -/
theorem HOk.laid (x : HOk P w H h) (k : ∀ b u, h.get? b = some u → h'.get? b = some u) (hp : h.objs.size ≤ a) (new : ObjOk P w (upd H a o) h' a o) : HOk P w (upd H a o) h' := fun b u e => by
  have hn := x.fresh hp
  by_cases hb : b = a
  · subst hb; rw [upd_same] at e; cases e; exact new
  · rw [upd_ne hb] at e
    exact (x b u e).stay (fun c v _ q => k c v q) (fun c q => by rw [upd_ne (ne_of_none q hn)]; exact q) fun c xs q => by rw [upd_ne (ne_of_none q hn)]; exact q
end

/-- what may be read as u: it is u, or a known u -/
def Rd (H : Hp) (a : Addr) (u : HO) : Prop := H a = some u ∨ ∃ o, H a = some (.frz o u)
theorem Rd.ok {P : Program} {w : World} {H : Hp} {h : Heap} {a : Addr} {u : HO} (r : Rd H a u) (x : HOk P w H h) : ObjOk P w H h a u := by
  rcases r with r | ⟨o, r⟩
  · exact x a u r
  · obtain ⟨_, q⟩ := x a _ r
    exact q
/-- what may be written -/
def Mut : Option HO → Prop
  | some (.lst _) => True
  | some (.dK _) => True
  | some (.dT _) => True
  | some (.set _ _) => True
  | some (.ins _ _ _) => True
  | some (.ext _) => True
  | _ => False
section
variable {P : Program} {w : World} {H : Hp} {h h' : Heap} {x e : Addr} {o' : HO}
/-- the object at e is changed: x itself, or the dict of the instance x -/
theorem HOk.write (ok : HOk P w H h) (mu : Mut (H x)) (he : e = x ∨ H e = some (.own x)) (k : ∀ b u, b ≠ e → h.get? b = some u → h'.get? b = some u) (heo : ∃ u, h'.get? e = some u)
    (new : ObjOk P w (upd H x o') h' x o') : HOk P w (upd H x o') h' := fun b u q => by
  have nown : ∀ c y, H c = some (.own y) → c ≠ x := fun c y r z => by subst z; rw [r] at mu; exact mu
  have ntup : ∀ c xs, H c = some (.tup xs) → c ≠ x := fun c xs r z => by subst z; rw [r] at mu; exact mu
  by_cases hb : b = x
  · subst hb; rw [upd_same] at q; cases q; exact new
  · rw [upd_ne hb] at q
    by_cases hbe : b = e
    · have q' : H b = some (.own x) := by
        rcases he with z | z
        · exact absurd (hbe.trans z) hb
        · rw [hbe]; exact z
      rw [q] at q'; cases q'
      obtain ⟨v, hv⟩ := heo
      exact ⟨v, by rw [hbe]; exact hv⟩
    · refine (ok b u q).stay (fun c v hc r => k c v ?_ r) (fun c r => by rw [upd_ne (nown c b r)]; exact r) fun c xs r => by rw [upd_ne (ntup c xs r)]; exact r
      rcases hc with rfl | hc
      · exact hbe
      · rintro rfl
        rcases he with z | z
        · exact nown c b hc z
        · rw [hc] at z; cases z; exact hb rfl
end

/-! ### kept unless tracked; of the frames at fs (the callers') the slots may change (an exception that passes writes there); of the records at ex (iterators) nothing is said -/
structure Un (fs ex : List Addr) (H H' : Hp) (h h' : Heap) : Prop where
  keep : ∀ b o, h.get? b = some o → H b = none → b ∉ fs → b ∉ ex → h'.get? b = some o
  slot : ∀ b o, h.get? b = some o → H b = none → b ∈ fs → b ∉ ex → ∃ sl, h'.get? b = some { o with slots := sl }
  free : ∀ b o, h.get? b = some o → H b = none → b ∉ ex → H' b = none
  there : ∀ b o, h.get? b = some o → b ∉ ex → ∃ o', h'.get? b = some o'
  tups : ∀ b xs, H b = some (.tup xs) → H' b = some (.tup xs)
  frzs : ∀ b o u, H b = some (.frz o u) → H' b = some (.frz o u)
  tbls : ∀ b ps, H b = some (.tbl ps) → ∃ more, H' b = some (.tbl (ps ++ more))
section
variable {fs fs' ex ex' : List Addr} {H H1 H2 : Hp} {h h1 h2 h' : Heap} {a x e : Addr} {o : HO}
theorem Un.any (u : Un fs ex H H1 h h1) {b : Addr} {ob : Obj} (q : h.get? b = some ob) (n : H b = none) (hx : b ∉ ex) : ∃ sl, h1.get? b = some { ob with slots := sl } := by
  by_cases hb : b ∈ fs
  · exact u.slot b ob q n hb hx
  · exact ⟨ob.slots, u.keep b ob q n hb hx⟩
theorem Un.kept (k : ∀ b u, h.get? b = some u → h'.get? b = some u) : Un fs ex H H h h' :=
  ⟨fun b ob q _ _ _ => k b ob q, fun b ob q _ _ _ => ⟨ob.slots, k b ob q⟩, fun _ _ _ n _ => n, fun b ob q _ => ⟨ob, k b ob q⟩, fun _ _ q => q, fun _ _ _ q => q, fun _ ps q => ⟨#[], by rw [q]; simp⟩⟩
theorem Un.refl : Un fs ex H H h h := Un.kept fun _ _ q => q
theorem Un.laid (k : ∀ b u, h.get? b = some u → h'.get? b = some u) (hp : h.objs.size ≤ a) (hn : H a = none) : Un fs ex H (upd H a o) h h' where
  keep := fun b u q _ _ _ => k b u q
  slot := fun b u q _ _ _ => ⟨u.slots, k b u q⟩
  free := fun b u q n _ => by rw [upd_ne (Nat.ne_of_lt (Nat.lt_of_lt_of_le (Heap.lt_size q) hp))]; exact n
  there := fun b u q _ => ⟨u, k b u q⟩
  tups := fun b xs q => by rw [upd_ne (ne_of_none q hn)]; exact q
  frzs := fun b u xs q => by rw [upd_ne (ne_of_none q hn)]; exact q
  tbls := fun b ps q => ⟨#[], by rw [upd_ne (ne_of_none q hn), q]; simp⟩
theorem Un.write (mu : Mut (H x)) (he : e = x ∨ H e = some (.own x)) (k : ∀ b u, b ≠ e → h.get? b = some u → h'.get? b = some u) (heo : ∃ u, h'.get? e = some u) : Un fs ex H (upd H x o) h h' := by
  have hx : ∀ b, H b = none → b ≠ x := fun b n z => by subst z; rw [n] at mu; exact mu
  have hb : ∀ b, H b = none → b ≠ e := fun b n z => by
    subst z
    rcases he with r | r
    · exact hx b n r
    · rw [n] at r; cases r
  have hm : ∀ b u, H b = some u → ¬ Mut (some u) → b ≠ x := fun b u q nm z => by subst z; rw [q] at mu; exact nm mu
  refine ⟨fun b u q n _ _ => k b u (hb b n) q, fun b u q n _ _ => ⟨u.slots, k b u (hb b n) q⟩, fun b u q n _ => by rw [upd_ne (hx b n)]; exact n, fun b u q _ => ?_,
    fun b xs q => by rw [upd_ne (hm b _ q fun z => z)]; exact q, fun b u xs q => by rw [upd_ne (hm b _ q fun z => z)]; exact q, fun b ps q => ⟨#[], by rw [upd_ne (hm b _ q fun z => z), q]; simp⟩⟩
  by_cases hbe : b = e
  · subst hbe; exact heo
  · exact ⟨u, k b u hbe q⟩
end

/-! ### the heap without what is tracked -/
def trk (h : Heap) (H : Hp) : List Addr := (List.range h.objs.size).filter fun a => (H a).isSome
def hidT (h : Heap) (H : Hp) : Heap := PySem.W.hideAll h (trk h H)
theorem hidT_size (h : Heap) (H : Hp) : (hidT h H).objs.size = h.objs.size := PySem.W.hideAll_size _ _
theorem hidT_get {h : Heap} {H : Hp} {b : Addr} {o : Obj} (e : h.get? b = some o) (n : H b = none) : (hidT h H).get? b = some o :=
  PySem.W.hideAll_get _ e fun hm => by
    have q : (H b).isSome = true := (List.mem_filter.mp hm).2
    rw [n] at q; simp at q
theorem of_hidT {h : Heap} {H : Hp} {b : Addr} {o : Obj} (e : (hidT h H).get? b = some o) : h.get? b = some o ∧ H b = none := by
  have e' : h.get? b = some o := PySem.W.of_hideAll (trk h H) e
  refine ⟨e', ?_⟩
  cases q : H b with
  | none => rfl
  | some x =>
    have hm : b ∈ trk h H := List.mem_filter.mpr ⟨List.mem_range.mpr (Heap.lt_size e'), by simp [q]⟩
    have z : (hidT h H).get? b = none := PySem.W.hideAll_none (trk h H) hm
    rw [z] at e; cases e

/-! ### OpenK's ledger, filled with every new object but one -/
end L2

namespace L2
open PySem PySem.Spec PyProof.Rows

/-- the module's facts, over the base: the heap at the law's entry without what is tracked there -/
structure Mod (K : PySem.W.Frag) (mg : Str → Option Value) (base : Heap) : Prop where
  kin : K.In base
  glob : base.Ns mainGlobals mg
  blt : ∃ mb, base.Ns builtinsNs mb ∧ ∀ x : Str, x ≠ "__name__" → mb x = bootBuiltins x
  nolimit : base.NoLimit

/-- the context: a def's body (or a comprehension's block) running. base: fixed through the whole law; s₀, H₀: the entry; outer: the frames whose slots others may change (a def's callers); stack: all frames that run;
   ex: iterators that were made ahead of the entry and are walked here (a comprehension's); fn: the names whose cells were made at the entry (a def: all; a comprehension's block: its own); calm: not within an except suite; pn: pins that every state bears; xe: what is wanted of an exception that leaves the code -/
structure Cx where
  prog : Program
  w : World
  K : PySem.W.Frag
  mg : Str → Option Value
  base : Heap
  A : Around
  N : List Str
  s₀ : Shared
  H₀ : Hp
  env : Env
  outer : List Env
  stack : List Env
  ex : List Addr
  fn : Str → Bool
  calm : Bool
  pn : List (Addr × Obj)
  xe : Value → Shared → Prop
/-- the callers' frames -/
def frs (l : List Env) : List Addr := l.filterMap (·.frame)
abbrev Cx.fs (X : Cx) : List Addr := frs X.outer

def Vis (sc : Scope) (x : Str) : Prop := sc.names.lookup x = some .local ∨ sc.names.lookup x = some .cell ∨ sc.names.lookup x = some .free
def Loc (sc : Scope) (x : Str) : Prop := sc.names.lookup x = some .local ∨ sc.names.lookup x = some .cell
def Look (env : Env) (h : Heap) (m : Str → Option Value) (x : Str) (u : Value) : Prop :=
  (env.kindOf x = some .local ∧ m x = some u) ∨ ((env.kindOf x = some .cell ∨ env.kindOf x = some .free) ∧ ∃ c, env.cells.lookup x = some c ∧ h.IsCell c (some u))

structure Cx.Ok (X : Cx) : Prop where
  mod : Mod X.K X.mg X.base
  kind : X.env.scope.kind = .function
  glob : X.env.globals = mainGlobals
  blt : X.env.builtins = builtinsNs
  above : X.s₀.heap.objs.size ≤ X.env.locals
  inj : ∀ x y c, X.env.cells.lookup x = some c → X.env.cells.lookup y = some c → x = y
  has : ∀ x, (X.env.kindOf x = some .cell ∨ X.env.kindOf x = some .free) → ∃ c, X.env.cells.lookup x = some c
  cab : ∀ x c, X.fn x = true → X.env.cells.lookup x = some c → X.s₀.heap.objs.size ≤ c
  hd : X.calm = true → X.A.handled = none
  frames : X.A.frames = some X.stack
  stk : X.stack = X.outer ∨ (X.stack = X.env :: X.outer ∧ X.env.frame = some X.env.locals)
  exf : ∀ b ∈ X.ex, b ≠ X.env.locals ∧ ∀ x c, X.env.cells.lookup x = some c → c ≠ b
  bs : ∀ b o, X.base.get? b = some o → X.s₀.heap.get? b = some o ∧ X.H₀ b = none
  bsz : X.base.objs.size ≤ X.s₀.heap.objs.size
  noex : ∀ b o, X.base.get? b = some o → b ∉ X.ex
  exfs : ∀ b ∈ X.ex, b ∉ X.fs
  funs : X.s₀.heap.FunFrames X.base X.outer
  frf : ∀ b ∈ X.fs, X.H₀ b = none

structure Inv (X : Cx) (pins : List (Addr × Obj)) (σ : List (Option V)) (H : Hp) (s : Shared) : Prop where
  ok : X.Ok
  os : s.os = X.s₀.os
  bare : AllBare s.gens
  base : Un X.fs X.ex X.H₀ H X.s₀.heap s.heap
  loc : ∃ m, s.heap.Ns X.env.locals m ∧ ∀ (i : Nat) (x : Str) (v : V), X.N[i]? = some x → σ[i]? = some (some v) → Vis X.env.scope x → ∃ u, RelV v u ∧ Look X.env s.heap m x u
  cell : ∀ x c, X.env.cells.lookup x = some c → ∃ v, s.heap.IsCell c v
  free : H X.env.locals = none
  freeC : ∀ x c, X.env.cells.lookup x = some c → H c = none
  pin : ∀ p ∈ X.pn ++ pins, s.heap.get? p.1 = some p.2 ∧ H p.1 = none ∧ p.1 ≠ X.env.locals ∧ p.1 ∉ X.fs ∧ ∀ v, p.2.data ≠ .cell v
  hok : HOk X.prog X.w H s.heap
  len : σ.length = X.N.length

section
variable {X : Cx} {pins : List (Addr × Obj)} {σ : List (Option V)} {H H' : Hp} {s : Shared} {h' : Heap}

theorem Cx.Ok.nofr (ok : X.Ok) {b : Addr} {o : Obj} (e : X.base.get? b = some o) : b ∉ X.fs := fun hb => by
  have := (ok.funs.mem hb).1
  rw [e] at this; cases this
theorem Inv.bs (I : Inv X pins σ H s) : ∀ b o, X.base.get? b = some o → s.heap.get? b = some o ∧ H b = none := fun b o e =>
  ⟨I.base.keep b o (I.ok.bs b o e).1 (I.ok.bs b o e).2 (I.ok.nofr e) (I.ok.noex b o e), I.base.free b o (I.ok.bs b o e).1 (I.ok.bs b o e).2 (I.ok.noex b o e)⟩
theorem Inv.bk (I : Inv X pins σ H s) : ∀ b o, X.base.get? b = some o → s.heap.get? b = some o := fun b o e => (I.bs b o e).1
theorem Inv.mod (I : Inv X pins σ H s) : Mod X.K X.mg X.base := I.ok.mod
theorem Inv.kIn (I : Inv X pins σ H s) : X.K.In s.heap := I.ok.mod.kin.keeps I.bk
theorem Inv.lt (I : Inv X pins σ H s) : X.env.locals < s.heap.objs.size := let ⟨_, hn, _⟩ := I.loc; hn.lt
theorem Inv.sz (I : Inv X pins σ H s) : X.s₀.heap.objs.size ≤ s.heap.objs.size := Nat.le_trans I.ok.above (Nat.le_of_lt I.lt)
theorem Inv.nofs (I : Inv X pins σ H s) {a : Addr} (h : s.heap.objs.size ≤ a) : a ∉ X.fs := fun hb => by
  obtain ⟨_, o, ho, _⟩ := I.ok.funs.mem hb
  exact absurd (Nat.lt_of_lt_of_le (Heap.lt_size ho) (Nat.le_trans I.sz h)) (Nat.lt_irrefl _)
theorem Inv.cne (I : Inv X pins σ H s) : ∀ x c, X.env.cells.lookup x = some c → c ≠ X.env.locals := fun x c e z => by
  obtain ⟨v, o, ho, hd⟩ := I.cell x c e
  obtain ⟨m, ⟨o', es, ep, ho', hd', _⟩, _⟩ := I.loc
  rw [z, ho'] at ho; cases ho; rw [hd'] at hd; cases hd
theorem Inv.funs (I : Inv X pins σ H s) : s.heap.FunFrames X.base X.outer := by
  have all : ∀ (l : List Env), (∀ b ∈ frs l, b ∈ X.fs) → X.s₀.heap.FunFrames X.base l → s.heap.FunFrames X.base l := by
    intro l
    induction l with
    | nil => intro _ _; trivial
    | cons env r ih =>
      intro hs hl
      obtain ⟨hk, ⟨L, o, hf, hn, ho, hd⟩, hr⟩ := hl
      have hL : L ∈ X.fs := hs L (by unfold frs; rw [List.filterMap_cons, hf]; exact List.mem_cons_self)
      obtain ⟨sl, e⟩ := I.base.slot L o ho (I.ok.frf L hL) hL fun z => I.ok.exfs L z hL
      exact ⟨hk, ⟨L, _, hf, hn, e, hd⟩, ih (fun b hb => hs b (by unfold frs; rw [List.filterMap_cons, hf]; exact List.mem_cons_of_mem _ hb)) hr⟩
  exact all X.outer (fun _ hb => hb) I.ok.funs

/-- the frames that run, for a call -/
theorem Inv.stack (I : Inv X pins σ H s) : s.heap.FunFrames X.base X.stack := by
  rcases I.ok.stk with e | ⟨e, hf⟩
  · rw [e]; exact I.funs
  · rw [e]
    obtain ⟨m, hn, _⟩ := I.loc
    refine .cons (by rw [I.ok.kind]; decide) hf hn ?_ I.funs
    exact Heap.get?_none_of_le (Nat.le_trans I.ok.bsz I.ok.above)
theorem Inv.stkSub (I : Inv X pins σ H s) : ∀ b ∈ frs X.stack, b ∈ X.env.locals :: X.fs := fun b hb => by
  rcases I.ok.stk with e | ⟨e, hf⟩
  · rw [e] at hb; exact List.mem_cons_of_mem _ hb
  · rw [e] at hb
    unfold frs at hb
    rw [List.filterMap_cons, hf] at hb
    exact hb
theorem Inv.stkFree (I : Inv X pins σ H s) : ∀ b ∈ frs X.stack, H b = none := fun b hb => by
  rcases List.mem_cons.mp (I.stkSub b hb) with e | hb
  · rw [e]; exact I.free
  · obtain ⟨_, o, ho, _⟩ := I.ok.funs.mem hb
    exact I.base.free b o ho (I.ok.frf b hb) fun z => I.ok.exfs b z hb

/-- THE STEP: the untracked objects but the frame and the records at ch are kept (the callers' frames up to slots), the frame's map is kept, the new abstract heap is held -/
theorem Inv.step {g' : Array GenState} {t' : Nat} {d' : Drawn} {ch : List Addr} (I : Inv X pins σ H s)
    (hch : ∀ b ∈ ch, (b ∈ X.ex ∨ X.s₀.heap.objs.size ≤ b) ∧ b ≠ X.env.locals ∧ (∀ x c, X.env.cells.lookup x = some c → c ≠ b) ∧ ∀ p ∈ X.pn ++ pins, p.1 ≠ b)
    (keep : ∀ b o, b ≠ X.env.locals → b ∉ X.fs → b ∉ ch → s.heap.get? b = some o → H b = none → h'.get? b = some o)
    (slot : ∀ b o, b ≠ X.env.locals → b ∈ X.fs → b ∉ ch → s.heap.get? b = some o → H b = none → ∃ sl, h'.get? b = some { o with slots := sl }) (free : ∀ b o, b ∉ ch → s.heap.get? b = some o → H b = none → H' b = none)
    (there : ∀ b o, b ∉ ch → s.heap.get? b = some o → ∃ o', h'.get? b = some o')
    (tups : ∀ b xs, H b = some (.tup xs) → H' b = some (.tup xs)) (frzs : ∀ b o u, H b = some (.frz o u) → H' b = some (.frz o u)) (tbls : ∀ b ps, H b = some (.tbl ps) → ∃ more, H' b = some (.tbl (ps ++ more)))
    (ns : ∀ m, s.heap.Ns X.env.locals m → h'.Ns X.env.locals m) (hok : HOk X.prog X.w H' h') (hg : AllBare g') :
    Inv X pins σ H' { s with heap := h', gens := g', drawn := d', toks := t' } := by
  have neL : ∀ b o, X.s₀.heap.get? b = some o → b ≠ X.env.locals := fun b o e => Nat.ne_of_lt (Nat.lt_of_lt_of_le (Heap.lt_size e) I.ok.above)
  have neC : ∀ b o, X.s₀.heap.get? b = some o → b ∉ X.ex → b ∉ ch := fun b o e hx hb => by
    rcases (hch b hb).1 with z | z
    · exact hx z
    · exact absurd (Nat.lt_of_lt_of_le (Heap.lt_size e) z) (Nat.lt_irrefl _)
  have cellK : ∀ x c, X.env.cells.lookup x = some c → ∀ v, s.heap.IsCell c v → h'.IsCell c v := fun x c e v ⟨o, ho, hd⟩ => by
    have nch : c ∉ ch := fun z => (hch c z).2.2.1 x c e rfl
    by_cases hc : c ∈ X.fs
    · obtain ⟨sl, q⟩ := slot c o (I.cne x c e) hc nch ho (I.freeC x c e)
      exact ⟨_, q, hd⟩
    · exact ⟨o, keep c o (I.cne x c e) hc nch ho (I.freeC x c e), hd⟩
  refine ⟨I.ok, I.os, hg, ⟨fun b o e n hb hx => ?_, fun b o e n hb hx => ?_, fun b o e n hx => ?_, fun b o e hx => ?_, fun b xs e => tups b xs (I.base.tups b xs e), fun b o xs e => frzs b o xs (I.base.frzs b o xs e), fun b ps e => ?_⟩, ?_, fun x c e => ?_, ?_, fun x c e => ?_, fun p hp => ?_, hok, I.len⟩
  · exact keep b o (neL b o e) hb (neC b o e hx) (I.base.keep b o e n hb hx) (I.base.free b o e n hx)
  · obtain ⟨sl, e1⟩ := I.base.slot b o e n hb hx
    obtain ⟨sl', e2⟩ := slot b _ (neL b o e) hb (neC b o e hx) e1 (I.base.free b o e n hx)
    exact ⟨sl', e2⟩
  · obtain ⟨o', e1⟩ := I.base.there b o e hx
    exact free b o' (neC b o e hx) e1 (I.base.free b o e n hx)
  · obtain ⟨o', e1⟩ := I.base.there b o e hx
    exact there b o' (neC b o e hx) e1
  · obtain ⟨m1, e1⟩ := I.base.tbls b ps e
    obtain ⟨m2, e2⟩ := tbls b _ e1
    exact ⟨m1 ++ m2, by rw [e2, Array.append_assoc]⟩
  · obtain ⟨m, hn, hl⟩ := I.loc
    refine ⟨m, ns m hn, fun i x v e1 e2 e3 => ?_⟩
    obtain ⟨u, r, l⟩ := hl i x v e1 e2 e3
    refine ⟨u, r, ?_⟩
    rcases l with l | ⟨k, c, e, z⟩
    · exact .inl l
    · exact .inr ⟨k, c, e, cellK x c e _ z⟩
  · obtain ⟨v, z⟩ := I.cell x c e
    exact ⟨v, cellK x c e v z⟩
  · obtain ⟨m, ⟨o, _, _, ho, _⟩, _⟩ := I.loc
    exact free _ o (fun z => (hch _ z).2.1 rfl) ho I.free
  · obtain ⟨v, o, ho, hd⟩ := I.cell x c e
    exact free c o (fun z => (hch c z).2.2.1 x c e rfl) ho (I.freeC x c e)
  · obtain ⟨e, n, ne, nf, d⟩ := I.pin p hp
    have nch : p.1 ∉ ch := fun z => (hch p.1 z).2.2.2 p hp rfl
    exact ⟨keep p.1 p.2 ne nf nch e n, free p.1 p.2 nch e n, ne, nf, d⟩
/-- .. where the frame's own object is kept too -/
theorem Inv.un {t' : Nat} (I : Inv X pins σ H s) (u : Un X.fs [] H H' s.heap h') (hok : HOk X.prog X.w H' h') : Inv X pins σ H' { s with heap := h', toks := t' } := by
  obtain ⟨m, ⟨o, es, ep, ho, r⟩, _⟩ := id I.loc
  obtain ⟨sl, hL⟩ := u.any ho I.free (by simp)
  exact I.step (g' := s.gens) (d' := s.drawn) (ch := []) (fun _ z => nomatch z) (fun b o _ hb _ e n => u.keep b o e n hb (by simp)) (fun b o _ hb _ e n => u.slot b o e n hb (by simp)) (fun b o _ e n => u.free b o e n (by simp)) (fun b o _ e => u.there b o e (by simp)) u.tups u.frzs u.tbls (fun m' hm => by
    obtain ⟨o', es', ep', ho', r'⟩ := hm
    rw [ho] at ho'; cases ho'
    exact ⟨_, es', ep', hL, r'⟩) hok I.bare
/-- behind a call (or a comprehension's block): the slots of this frame may have changed too, the records at ch may have turned -/
theorem Inv.call {g' : Array GenState} {t' : Nat} {d' : Drawn} {ch : List Addr} (I : Inv X pins σ H s) (u : Un (frs X.stack) ch H H' s.heap h') (hok : HOk X.prog X.w H' h') (hg : AllBare g')
    (hch : ∀ b ∈ ch, (b ∈ X.ex ∨ X.s₀.heap.objs.size ≤ b) ∧ b ≠ X.env.locals ∧ (∀ x c, X.env.cells.lookup x = some c → c ≠ b) ∧ ∀ p ∈ X.pn ++ pins, p.1 ≠ b) :
    Inv X pins σ H' { s with heap := h', gens := g', drawn := d', toks := t' } := by
  obtain ⟨m, ⟨o, es, ep, ho, r⟩, _⟩ := id I.loc
  obtain ⟨sl, hL⟩ := u.any ho I.free fun z => (hch _ z).2.1 rfl
  exact I.step (ch := ch) hch (fun b o hL hb hc e n => u.keep b o e n (fun z => (List.mem_cons.mp (I.stkSub b z)).elim hL hb) hc) (fun b o _ _ hc e n => u.any e n hc) (fun b o hc e n => u.free b o e n hc) (fun b o hc e => u.there b o e hc) u.tups u.frzs u.tbls (fun m' hm => by
    obtain ⟨o', es', ep', ho', r'⟩ := hm
    rw [ho] at ho'; cases ho'
    exact ⟨_, es', ep', hL, r'⟩) hok hg
/-- an untracked record of ours (an iterator) has turned -/
theorem Inv.turned {t' : Nat} {it : Addr} (I : Inv X pins σ H s) (k : ∀ b o, b ≠ it → s.heap.get? b = some o → h'.get? b = some o) (hn : H it = none) (hL : it ≠ X.env.locals)
    (h1 : it ∈ X.ex ∨ X.s₀.heap.objs.size ≤ it) (h2 : ∀ x c, X.env.cells.lookup x = some c → c ≠ it) (h3 : ∀ p ∈ X.pn ++ pins, p.1 ≠ it) : Inv X pins σ H { s with heap := h', toks := t' } := by
  have nit : ∀ b u, H b = some u → b ≠ it := fun b u e z => by rw [z, hn] at e; cases e
  refine I.step (g' := s.gens) (d' := s.drawn) (ch := [it]) (fun b hb => ?_) (fun b o _ _ hc e _ => k b o (fun z => hc (by simp [z])) e) (fun b o _ _ hc e _ => ⟨o.slots, k b o (fun z => hc (by simp [z])) e⟩) (fun _ _ _ _ n => n)
    (fun b o hc e => ⟨o, k b o (fun z => hc (by simp [z])) e⟩) (fun _ _ e => e) (fun _ _ _ e => e) (fun b ps e => ⟨#[], by rw [e]; simp⟩) (fun m hm => ?_) (fun b u e => ?_) I.bare
  · have e : b = it := by simpa using hb
    subst e
    exact ⟨h1, hL, h2, h3⟩
  · obtain ⟨o, es, ep, ho, r⟩ := hm
    exact ⟨o, es, ep, k _ o (Ne.symm hL) ho, r⟩
  · refine (I.hok b u e).stay (fun c v hc q => k c v ?_ q) (fun _ q => q) fun _ _ q => q
    rcases hc with z | z
    · rw [z]; exact nit b u e
    · exact nit c _ z
theorem Inv.tok (I : Inv X pins σ H s) (t : Nat) : Inv X pins σ H { s with toks := t } := I.un (h' := s.heap) (t' := t) Un.refl I.hok
/-- all objects kept -/
theorem Inv.kept {t' : Nat} (I : Inv X pins σ H s) (k : ∀ b u, s.heap.get? b = some u → h'.get? b = some u) : Inv X pins σ H { s with heap := h', toks := t' } := I.un (Un.kept k) (I.hok.kept k)
/-- a new object laid and tracked -/
theorem Inv.laid {a : Addr} {o : HO} {t' : Nat} (I : Inv X pins σ H s) (k : ∀ b u, s.heap.get? b = some u → h'.get? b = some u) (hp : s.heap.objs.size ≤ a) (new : ObjOk X.prog X.w (upd H a o) h' a o) :
    Inv X pins σ (upd H a o) { s with heap := h', toks := t' } := I.un (Un.laid k hp (I.hok.fresh hp)) (I.hok.laid k hp new)
/-- an object written -/
theorem Inv.write {x e : Addr} {o : HO} {t' : Nat} (I : Inv X pins σ H s) (mu : Mut (H x)) (he : e = x ∨ H e = some (.own x)) (k : ∀ b u, b ≠ e → s.heap.get? b = some u → h'.get? b = some u) (heo : ∃ u, h'.get? e = some u)
    (new : ObjOk X.prog X.w (upd H x o) h' x o) : Inv X pins σ (upd H x o) { s with heap := h', toks := t' } := I.un (Un.write mu he k heo) (I.hok.write mu he k heo new)
theorem Inv.pins_of {pins' : List (Addr × Obj)} (I : Inv X pins σ H s) (h : ∀ p ∈ pins', s.heap.get? p.1 = some p.2 ∧ H p.1 = none ∧ p.1 ≠ X.env.locals ∧ p.1 ∉ X.fs ∧ ∀ v, p.2.data ≠ .cell v) : Inv X pins' σ H s :=
  ⟨I.ok, I.os, I.bare, I.base, I.loc, I.cell, I.free, I.freeC, fun p hp => (List.mem_append.mp hp).elim (fun z => I.pin p (List.mem_append_left _ z)) (h p), I.hok, I.len⟩

theorem nodup_ix {N : List Str} (hN : N.Nodup) {i j : Nat} {x : Str} (a : N[i]? = some x) (b : N[j]? = some x) : i = j := by
  obtain ⟨h1, e1⟩ := List.getElem?_eq_some_iff.mp a
  obtain ⟨h2, e2⟩ := List.getElem?_eq_some_iff.mp b
  exact (List.getElem_inj hN).mp (e1.trans e2.symm)

/-- a name is stored; what changed -/
theorem store_ok2 {M : Model} {A : Around} {E : Value → Shared → Prop} {i : Nat} {x : Str} {v : V} {u : Value} {Q : Unit → Shared → Prop} (I : Inv X pins σ H s) (hN : X.N.Nodup) (hi : X.N[i]? = some x) (hx : Loc X.env.scope x) (r : RelV v u)
    (h : ∀ s', Inv X pins (σ.set i (some v)) H s' → (∃ a, Heap.SameBut a s.heap s'.heap ∧ (a = X.env.locals ∨ X.env.cells.lookup x = some a)) → Q () s') (hf : X.fn x = true ∨ X.env.scope.names.lookup x = some .local := by first | exact .inl rfl | exact .inr rfl | assumption) : wpAny M A (storeName X.env x u) Q E s := by
  obtain ⟨m, hn, hl⟩ := id I.loc
  have hcls : (X.env.scope.kind == .class || (X.env.scope.kind == .module && X.env.locals != X.env.globals)) = false := by rw [I.ok.kind]; rfl
  have hiσ : i < σ.length := by rw [I.len]; exact (List.getElem?_eq_some_iff.mp hi).1
  have cne := I.cne
  have tracked : ∀ {a : Addr} {h' : Heap}, (∃ o, s.heap.get? a = some o ∧ H a = none) → Heap.SameBut a s.heap h' → HOk X.prog X.w H h' := fun {a h'} ha hs b ob e => by
    obtain ⟨_, _, hfree⟩ := ha
    refine (I.hok b ob e).stay (fun c w' hc q => (hs.2 c ?_).trans q) (fun _ q => q) fun _ _ q => q
    rintro rfl
    rcases hc with rfl | hc
    · rw [hfree] at e; cases e
    · rw [hfree] at hc; cases hc
  rcases hx with hk | hk
  · refine wpAny_storeName_local hk hn (fun h' hn' hs => ?_) hcls
    obtain ⟨oL, _, _, hoL, _⟩ := id hn
    refine h _ ⟨I.ok, I.os, I.bare, ⟨fun b o e n hb hx => ?_, fun b o e n hb hx => ?_, I.base.free, fun b o e hx => ?_, I.base.tups, I.base.frzs, I.base.tbls⟩, ⟨_, hn', fun j y v' e1 e2 e3 => ?_⟩, fun y c e => ?_, I.free, I.freeC, fun p hp => ?_, tracked ⟨oL, hoL, I.free⟩ hs, by simpa using I.len⟩ ⟨_, hs, .inl rfl⟩
    · exact (hs.2 b (Nat.ne_of_lt (Nat.lt_of_lt_of_le (Heap.lt_size e) I.ok.above))).trans (I.base.keep b o e n hb hx)
    · obtain ⟨sl, e1⟩ := I.base.slot b o e n hb hx
      exact ⟨sl, (hs.2 b (Nat.ne_of_lt (Nat.lt_of_lt_of_le (Heap.lt_size e) I.ok.above))).trans e1⟩
    · obtain ⟨o', e1⟩ := I.base.there b o e hx
      exact ⟨o', (hs.2 b (Nat.ne_of_lt (Nat.lt_of_lt_of_le (Heap.lt_size e) I.ok.above))).trans e1⟩
    · by_cases hj : j = i
      · subst hj
        rw [hi] at e1; cases e1
        rw [List.getElem?_set_self hiσ] at e2
        cases e2
        exact ⟨u, r, .inl ⟨hk, by simp⟩⟩
      · rw [List.getElem?_set_ne (Ne.symm hj)] at e2
        obtain ⟨u', r', q⟩ := hl j y v' e1 e2 e3
        refine ⟨u', r', ?_⟩
        rcases q with ⟨k, e⟩ | ⟨k, c, e, z⟩
        · refine .inl ⟨k, ?_⟩
          have : y ≠ x := fun e => hj (nodup_ix hN e1 (e ▸ hi))
          simp [this, e]
        · exact .inr ⟨k, c, e, z.sameBut hs (cne y c e)⟩
    · obtain ⟨w', z⟩ := I.cell y c e
      exact ⟨w', z.sameBut hs (cne y c e)⟩
    · obtain ⟨e, n, ne, nf, d⟩ := I.pin p hp
      exact ⟨(hs.2 p.1 ne).trans e, n, ne, nf, d⟩
  · have hfn : X.fn x = true := by
      rcases hf with z | z
      · exact z
      · rw [z] at hk; cases hk
    obtain ⟨c, hc⟩ := I.ok.has x (.inl hk)
    obtain ⟨w', z⟩ := I.cell x c hc
    refine wpAny_storeName_cell I.ok.kind hk hc z (fun h' hc' hs => ?_)
    obtain ⟨oc, hoc, hocd⟩ := id z
    refine h { s with heap := h' } ⟨I.ok, I.os, I.bare, ⟨fun b o e n hb hx => ?_, fun b o e n hb hx => ?_, I.base.free, fun b o e hx => ?_, I.base.tups, I.base.frzs, I.base.tbls⟩, ⟨m, hn.sameBut hs (Ne.symm (cne x c hc)), fun j y v' e1 e2 e3 => ?_⟩, fun y c' e => ?_, I.free, I.freeC, fun p hp => ?_, tracked ⟨oc, hoc, I.freeC x c hc⟩ hs, by simpa using I.len⟩ ⟨c, hs, .inr hc⟩
    · exact (hs.2 b (Nat.ne_of_lt (Nat.lt_of_lt_of_le (Heap.lt_size e) (I.ok.cab x c hfn hc)))).trans (I.base.keep b o e n hb hx)
    · obtain ⟨sl, e1⟩ := I.base.slot b o e n hb hx
      exact ⟨sl, (hs.2 b (Nat.ne_of_lt (Nat.lt_of_lt_of_le (Heap.lt_size e) (I.ok.cab x c hfn hc)))).trans e1⟩
    · obtain ⟨o', e1⟩ := I.base.there b o e hx
      exact ⟨o', (hs.2 b (Nat.ne_of_lt (Nat.lt_of_lt_of_le (Heap.lt_size e) (I.ok.cab x c hfn hc)))).trans e1⟩
    · by_cases hj : j = i
      · subst hj
        rw [hi] at e1; cases e1
        rw [List.getElem?_set_self hiσ] at e2
        cases e2
        exact ⟨u, r, .inr ⟨.inl hk, c, hc, hc'⟩⟩
      · rw [List.getElem?_set_ne (Ne.symm hj)] at e2
        obtain ⟨u', r', q⟩ := hl j y v' e1 e2 e3
        refine ⟨u', r', ?_⟩
        rcases q with q | ⟨k, c', e, z'⟩
        · exact .inl q
        · refine .inr ⟨k, c', e, z'.sameBut hs ?_⟩
          rintro rfl
          exact hj (nodup_ix hN e1 (I.ok.inj _ _ _ e hc ▸ hi))
    · by_cases hcc : c' = c
      · subst hcc; exact ⟨_, hc'⟩
      · obtain ⟨w2, z2⟩ := I.cell y c' e
        exact ⟨w2, z2.sameBut hs hcc⟩
    · obtain ⟨e, n, ne, nf, d⟩ := I.pin p hp
      refine ⟨(hs.2 p.1 ?_).trans e, n, ne, nf, d⟩
      intro q
      rw [q, hoc] at e
      have q' : oc = p.2 := Option.some.inj e
      exact d w' (by rw [← q']; exact hocd)
theorem store_ok {M : Model} {A : Around} {E : Value → Shared → Prop} {i : Nat} {x : Str} {v : V} {u : Value} {Q : Unit → Shared → Prop} (I : Inv X pins σ H s) (hN : X.N.Nodup) (hi : X.N[i]? = some x) (hx : Loc X.env.scope x) (r : RelV v u)
    (h : ∀ s', Inv X pins (σ.set i (some v)) H s' → Q () s') (hf : X.fn x = true ∨ X.env.scope.names.lookup x = some .local := by first | exact .inl rfl | exact .inr rfl | assumption) : wpAny M A (storeName X.env x u) Q E s :=
  store_ok2 I hN hi hx r (fun s' I' _ => h s' I') hf
/-- behind a call or a block, the state as it is -/
theorem Inv.call' {s' : Shared} {ch : List Addr} (I : Inv X pins σ H s) (ho : s'.os = s.os) (u : Un (frs X.stack) ch H H' s.heap s'.heap) (hok : HOk X.prog X.w H' s'.heap) (hg : AllBare s'.gens)
    (hch : ∀ b ∈ ch, (b ∈ X.ex ∨ X.s₀.heap.objs.size ≤ b) ∧ b ≠ X.env.locals ∧ (∀ x c, X.env.cells.lookup x = some c → c ≠ b) ∧ ∀ p ∈ X.pn ++ pins, p.1 ≠ b) : Inv X pins σ H' s' := by
  obtain ⟨h', g', d', t', o'⟩ := s'
  have e : o' = s.os := ho
  subst e
  exact I.call (g' := g') (t' := t') (d' := d') u hok hg hch
end

/-! ### the judgements -/
/-- an exception: its class, its own dict's address (where it has one), the abstract heap behind it -/
abbrev XK := Value → Option Addr → Hp → Prop
abbrev St := List (Option V)
abbrev VK := V → Hp → Prop
/-- an expression's reading; a test's; an argument list's -/
abbrev TE := St → Hp → VK → Prop
abbrev TT := St → Hp → (Bool → Hp → Prop) → Prop
abbrev TA := St → Hp → (List V → Hp → Prop) → Prop
/-- what is wanted behind a statement -/
structure Ends where
  nx : St → Hp → Prop
  rt : VK
  bk : St → Hp → Prop := fun _ _ => False
  ct : St → Hp → Prop := fun _ _ => False
abbrev TS := Ends → St → Hp → Prop

def EP (X : Cx) (pins : List (Addr × Obj)) (σ : St) (Q : VK) (u : Value) (s' : Shared) : Prop := ∃ v H', Inv X pins σ H' s' ∧ RelV v u ∧ Q v H'
def TP (X : Cx) (pins : List (Addr × Obj)) (σ : St) (Q : Bool → Hp → Prop) (b : Bool) (s' : Shared) : Prop := ∃ H', Inv X pins σ H' s' ∧ Q b H'
def AP (X : Cx) (pins : List (Addr × Obj)) (σ : St) (Q : List V → Hp → Prop) (us : List Value) (s' : Shared) : Prop := ∃ vs H', Inv X pins σ H' s' ∧ Vals vs us ∧ Q vs H'
def SP (X : Cx) (pins : List (Addr × Obj)) (D : Ends) (f : Flow) (s' : Shared) : Prop :=
  match f with
  | .next => ∃ σ' H', Inv X pins σ' H' s' ∧ D.nx σ' H'
  | .brk => ∃ σ' H', Inv X pins σ' H' s' ∧ D.bk σ' H'
  | .cont => ∃ σ' H', Inv X pins σ' H' s' ∧ D.ct σ' H'
  | .ret u => ∃ v σ' H', Inv X pins σ' H' s' ∧ RelV v u ∧ D.rt v H'

def PE (X : Cx) (e : Expr) (t : TE) : Prop :=
  ∀ (pins : List (Addr × Obj)) (s : Shared) (σ : St) (H : Hp) (Q : VK), Inv X pins σ H s → t σ H Q → wpAny (model X.prog X.w) X.A (eval e X.env) (EP X pins σ Q) X.xe s
def PT (X : Cx) (e : Expr) (t : TT) : Prop :=
  ∀ (pins : List (Addr × Obj)) (s : Shared) (σ : St) (H : Hp) (Q : Bool → Hp → Prop), Inv X pins σ H s → t σ H Q → wpAny (model X.prog X.w) X.A (isTrue e X.env (eval e X.env)) (TP X pins σ Q) X.xe s
/-- a test whatever its 'whole' is (and, or) -/
def PW (X : Cx) (e : Expr) (t : TT) : Prop :=
  ∀ (whole : Sem Value) (pins : List (Addr × Obj)) (s : Shared) (σ : St) (H : Hp) (Q : Bool → Hp → Prop), Inv X pins σ H s → t σ H Q → wpAny (model X.prog X.w) X.A (isTrue e X.env whole) (TP X pins σ Q) X.xe s
theorem PW.pt {X : Cx} {e : Expr} {t : TT} (h : PW X e t) : PT X e t := h _
/-- an argument list (no star), from the left -/
def PA (X : Cx) (es : List Expr) (t : TA) : Prop :=
  ∀ (pos : Pos) (pins : List (Addr × Obj)) (s : Shared) (σ : St) (H : Hp) (Q : List V → Hp → Prop), Inv X pins σ H s → t σ H Q → wpAny (model X.prog X.w) X.A (spliced (backTo pos (starEach es X.env))) (AP X pins σ Q) X.xe s
def PS (X : Cx) (st : Stmt) (t : TS) : Prop :=
  ∀ (pins : List (Addr × Obj)) (s : Shared) (σ : St) (H : Hp) (D : Ends), Inv X pins σ H s → t D σ H → wpAny (model X.prog X.w) X.A (exec st X.env) (SP X pins D) X.xe s
def PSs (X : Cx) (st : List Stmt) (t : TS) : Prop :=
  ∀ (pins : List (Addr × Obj)) (s : Shared) (σ : St) (H : Hp) (D : Ends), Inv X pins σ H s → t D σ H → wpAny (model X.prog X.w) X.A (execs st X.env) (SP X pins D) X.xe s
/-- weaken the end -/
theorem thn {α : Type} {t : Sem α} {Q Q' : α → Shared → Prop} {M : Model} {A : Around} {E : Value → Shared → Prop} {s : Shared} (h : wpAny M A t Q E s) (hQ : ∀ a s, Q a s → Q' a s) : wpAny M A t Q' E s := wpAny_mono h hQ fun _ _ x => x
end L2

namespace L2
open PySem PySem.Spec PyProof.Rows
section
variable {X : Cx}

/-! ### names and constants -/
def tVar (i : Nat) : TE := fun σ H Q => ∃ v, σ[i]? = some (some v) ∧ Q v H
def tC (v : V) : TE := fun _ H Q => Q v H
theorem pe_var {i : Nat} {x : Str} {pos : Pos} (hN : X.N[i]? = some x) (hv : Vis X.env.scope x) (hd : (x == ("__debug__" : Str)) = false := by decide) (hcd : (x == ("__classdict__" : Str)) = false := by decide) : PE X (.Name x pos) (tVar i) := by
  intro pins s σ H Q I h
  obtain ⟨v, e, h⟩ := h
  obtain ⟨m, hn, hl⟩ := I.loc
  obtain ⟨u, r, l⟩ := hl i x v hN e hv
  have fin : EP X pins σ Q u s := ⟨v, H, I, r, h⟩
  rcases l with ⟨hk, hm⟩ | ⟨hk, c, hc, hcell⟩
  · exact wpAny_Name (wpAny_loadName_local I.ok.kind hk hn hm fin) hd
  · rcases hk with hk | hk
    · exact wpAny_Name (wpAny_loadName_cell I.ok.kind hk hc hcell fin) hd
    · exact wpAny_Name (wpAny_loadName_free I.ok.kind hk hc hcell fin hcd) hd
theorem pe_int {i j pos} : PE X (.Constant (.int i) j pos) (tC (.int i)) := fun _ _ _ H _ I h => wpAny_Constant_int ⟨.int i, H, I.tok _, ⟨_, rfl⟩, h⟩
theorem pe_bl {b j pos} : PE X (.Constant (.bool b) j pos) (tC (.bl b)) := fun _ _ _ H _ I h => Constant_bool ⟨.bl b, H, I, rfl, h⟩
theorem pe_non {j pos} : PE X (.Constant .none j pos) (tC .non) := fun _ _ _ H _ I h => Constant_none ⟨.non, H, I, rfl, h⟩
theorem pe_str {x j pos} : PE X (.Constant (.str x) j pos) (tC (.str x)) := fun _ _ _ H _ I h => Calls.Constant_str ⟨.str x, H, I.tok _, ⟨_, rfl⟩, h⟩

/-- a global name of the def -/
def Gl (X : Cx) (x : Str) : Prop := X.env.kindOf x = some .globalImplicit
theorem ld_glob {E : Value → Shared → Prop} {pins : List (Addr × Obj)} {s : Shared} {σ : St} {H : Hp} {x : Str} {u : Value} {pos : Pos} {Q : Value → Shared → Prop} (I : Inv X pins σ H s) (hg : Gl X x) (hm : X.mg x = some u) (h : Q u s)
    (hd : (x == ("__debug__" : Str)) = false := by decide) : wpAny (model X.prog X.w) X.A (eval (.Name x pos) X.env) Q E s :=
  Calls.Name_function_global I.ok.kind hg (Calls.loadGlobal_global (by rw [I.ok.glob]; exact I.mod.glob.keeps I.bk) hm h) hd
theorem ld_blt {E : Value → Shared → Prop} {pins : List (Addr × Obj)} {s : Shared} {σ : St} {H : Hp} {x : Str} {u : Value} {pos : Pos} {Q : Value → Shared → Prop} (I : Inv X pins σ H s) (hg : Gl X x) (hm : X.mg x = none) (hv : bootBuiltins x = some u) (h : Q u s)
    (hn : x ≠ "__name__" := by decide) (hd : (x == ("__debug__" : Str)) = false := by decide) : wpAny (model X.prog X.w) X.A (eval (.Name x pos) X.env) Q E s := by
  obtain ⟨mb, h1, h2⟩ := I.mod.blt
  exact Calls.Name_function_global I.ok.kind hg (Calls.loadGlobal_builtin (by rw [I.ok.glob]; exact I.mod.glob.keeps I.bk) hm (by rw [I.ok.blt]; exact h1.keeps I.bk) ((h2 x hn).trans hv) h) hd
/-- a module's constant, a class, a function, as a value -/
theorem pe_glob {x : Str} {v : V} {u : Value} {pos : Pos} (hg : Gl X x) (hm : X.mg x = some u) (r : RelV v u) (hd : (x == ("__debug__" : Str)) = false := by decide) : PE X (.Name x pos) (tC v) :=
  fun _ _ _ H _ I h => ld_glob I hg hm ⟨v, H, I, r, h⟩ hd
theorem pe_bltn {x : Str} {v : V} {u : Value} {pos : Pos} (hg : Gl X x) (hm : X.mg x = none) (hv : bootBuiltins x = some u) (r : RelV v u) (hn : x ≠ "__name__" := by decide) (hd : (x == ("__debug__" : Str)) = false := by decide) : PE X (.Name x pos) (tC v) :=
  fun _ _ _ H _ I h => ld_blt I hg hm hv ⟨v, H, I, r, h⟩ hn hd

/-! ### arithmetic -/
variable {a b : Expr} {ta tb : TE} {pos : Pos}
/-! ### comparisons -/
def PC (X : Cx) (op : CmpOp) (a b : Expr) (t : TE) : Prop :=
  ∀ (pins : List (Addr × Obj)) (s : Shared) (σ : St) (H : Hp) (Q : VK), Inv X pins σ H s → t σ H Q →
    wpAny (model X.prog X.w) X.A (eval a X.env) (fun v s₁ => wpAny (model X.prog X.w) X.A (eval b X.env) (fun u s₂ => wpAny (model X.prog X.w) X.A (compareOp op v u) (EP X pins σ Q) X.xe s₂) X.xe s₁) X.xe s
theorem nobehind (b : Expr) {op : CmpOp} (h : op ≠ .In) (h2 : op ≠ .NotIn) : behindInMarks op b = false := by
  have e1 : (op == CmpOp.In) = false := by cases op <;> first | rfl | exact absurd rfl h
  have e2 : (op == CmpOp.NotIn) = false := by cases op <;> first | rfl | exact absurd rfl h2
  cases b <;> simp [behindInMarks, e1, e2]
def tNotN (ta : TE) : TE := fun σ H Q => ta σ H fun x H1 => Q (.bl (!decide (x = .non))) H1
theorem RelV.none_iff {x : V} {v : Value} (r : RelV x v) : (v == Value.none) = decide (x = .non) := by
  cases x with
  | non => cases r; rfl
  | bl _ => cases r; rfl
  | int _ => obtain ⟨t, rfl⟩ := r; rfl
  | str _ => obtain ⟨t, rfl⟩ := r; rfl
  | byt _ => obtain ⟨t, rfl⟩ := r; rfl
  | flt _ => obtain ⟨t, rfl⟩ := r; rfl
  | ref _ => cases r; rfl
  | ty _ => cases r; rfl
theorem pc_notN {j pos'} (ha : PE X a ta) : PC X .IsNot a (.Constant .none j pos') (tNotN ta) := by
  intro pins s σ H Q I h
  refine thn (ha pins s σ H _ I h) fun v s1 ⟨x, H1, I1, r1, q1⟩ => ?_
  exact Constant_none (isnot_none_gen ⟨.bl _, H1, I1, by rw [r1.none_iff]; rfl, q1⟩)
/-- a comparison as a value, as a test -/
def tB (t : TE) : TT := fun σ H Q => t σ H fun x H1 => ∃ c, x = .bl c ∧ Q c H1
theorem pt_cmp {op : CmpOp} {t : TE} (h : PC X op a b t) (h1 : behindInMarks op b = false := by first | exact nobehind _ (by decide) (by decide) | rfl) : PT X (.Compare a [op] [b] pos) (tB t) := by
  intro pins s σ H Q I hw
  refine wpAny_isTrue_Compare1 (thn (h pins s σ H _ I hw) fun v s1 h1 => thn h1 fun u s2 h2 => thn h2 fun c s3 ⟨x, H1, I1, r1, q1⟩ => ?_) h1
  obtain ⟨d, rfl, q⟩ := q1
  cases r1
  exact wpAny_truthy_bool ⟨H1, I1, q⟩
/-- an expression whose value is a bool, as a test -/
theorem pt_val {e : Expr} {t : TE} (h : PE X e t) (he : ∀ whole, isTrue e X.env whole = (do let v ← whole; standAt e.pos; holding [v] (truthy v)) := by intro _; rfl) : PT X e (tB t) := by
  intro pins s σ H Q I hw
  refine isTrue_plain (thn (h pins s σ H _ I hw) fun v s1 ⟨x, H1, I1, r1, q1⟩ => ?_) (he _)
  obtain ⟨d, rfl, q⟩ := q1
  cases r1
  exact wpAny_truthy_bool ⟨H1, I1, q⟩

/-! ### and, or, not -/
variable {tA tB' : TT} {rest : List Expr}
def tAnd (t u : TT) : TT := fun σ H Q => t σ H fun c H1 => if c = true then u σ H1 Q else Q false H1
def tOr (t u : TT) : TT := fun σ H Q => t σ H fun c H1 => if c = true then Q true H1 else u σ H1 Q
def tNot (t : TT) : TT := fun σ H Q => t σ H fun c H1 => Q (!c) H1
theorem pw_and1 (ha : PT X a tA) : PW X (.BoolOp .And [a] pos) tA := by
  intro wh pins s σ H Q I h
  refine isTrue_and (thn (ha pins s σ H Q I h) fun c s1 e => ?_)
  cases c with
  | true => exact isTrue_and_nil e
  | false => exact e
theorem pw_or1 (ha : PT X a tA) : PW X (.BoolOp .Or [a] pos) tA := by
  intro wh pins s σ H Q I h
  refine isTrue_or (thn (ha pins s σ H Q I h) fun c s1 e => ?_)
  cases c with
  | false => exact isTrue_or_nil e
  | true => exact e
theorem pw_and (ha : PT X a tA) (hb : PW X (.BoolOp .And (b :: rest) pos) tB') : PW X (.BoolOp .And (a :: b :: rest) pos) (tAnd tA tB') := by
  intro wh pins s σ H Q I h
  refine isTrue_and (thn (ha pins s σ H _ I h) fun c s1 ⟨H1, I1, q1⟩ => ?_)
  cases c with
  | true => exact hb wh pins s1 σ H1 Q I1 q1
  | false => exact ⟨H1, I1, q1⟩
theorem pw_or (ha : PT X a tA) (hb : PW X (.BoolOp .Or (b :: rest) pos) tB') : PW X (.BoolOp .Or (a :: b :: rest) pos) (tOr tA tB') := by
  intro wh pins s σ H Q I h
  refine isTrue_or (thn (ha pins s σ H _ I h) fun c s1 ⟨H1, I1, q1⟩ => ?_)
  cases c with
  | true => exact ⟨H1, I1, q1⟩
  | false => exact hb wh pins s1 σ H1 Q I1 q1
theorem pt_not (ha : PT X a tA) : PT X (.UnaryOp .Not a pos) (tNot tA) := by
  intro pins s σ H Q I h
  exact isTrue_not (ha pins s σ H (fun c H1 => Q (!c) H1) I h)
/-- .. as values (bools) -/
def tAndV (ta tb : TE) : TE := fun σ H Q => ta σ H fun x H1 => ∃ c, x = .bl c ∧ if c = true then tb σ H1 Q else Q (.bl false) H1
def tNotV (ta : TE) : TE := fun σ H Q => ta σ H fun x H1 => ∃ c, x = .bl c ∧ Q (.bl (!c)) H1
theorem pe_one {op} {t : TE} (h : PE X a t) : PE X (.BoolOp op [a] pos) t := fun pins s σ H Q I hw => BoolOp_one (h pins s σ H Q I hw)
theorem pe_and (ha : PE X a ta) (hb : PE X (.BoolOp .And (b :: rest) pos) tb) : PE X (.BoolOp .And (a :: b :: rest) pos) (tAndV ta tb) := by
  intro pins s σ H Q I h
  refine BoolOp_and (thn (ha pins s σ H _ I h) fun v s1 ⟨x, H1, I1, r1, q1⟩ => ?_)
  obtain ⟨c, rfl, q1⟩ := q1
  cases r1
  refine wpAny_truthy_bool ?_
  cases c with
  | true => exact hb pins s1 σ H1 Q I1 q1
  | false => exact ⟨.bl false, H1, I1, rfl, q1⟩
theorem pe_not (ha : PE X a ta) : PE X (.UnaryOp .Not a pos) (tNotV ta) := by
  intro pins s σ H Q I h
  refine UnaryOp_ (thn (ha pins s σ H _ I h) fun v s1 ⟨x, H1, I1, r1, q1⟩ => ?_)
  obtain ⟨c, rfl, q1⟩ := q1
  cases r1
  exact not_of (wpAny_truthy_bool ⟨.bl (!c), H1, I1, rfl, q1⟩)
/-- a if t else b -/
def tIf (t : TT) (ta tb : TE) : TE := fun σ H Q => t σ H fun c H1 => if c = true then ta σ H1 Q else tb σ H1 Q
theorem pe_ifExp {c : Expr} (hc : PT X c tA) (ha : PE X a ta) (hb : PE X b tb) : PE X (.IfExp c a b pos) (tIf tA ta tb) := by
  intro pins s σ H Q I h
  refine wpAny_IfExp (thn (hc pins s σ H _ I h) fun d s1 ⟨H1, I1, q1⟩ => ?_)
  cases d with
  | true => exact ha pins s1 σ H1 Q I1 q1
  | false => exact hb pins s1 σ H1 Q I1 q1
end
end L2

namespace L2
open PySem PySem.Spec PyProof.Rows

/-! ### a list, a tuple that is read: tracked, frozen, or an object of the module -/
def SqL (K : PySem.W.Frag) (H : Hp) (a : Addr) (xs : List V) : Prop :=
  Rd H a (.lst xs) ∨
    ∃ (o : Obj) (its : Array Value) (n : Nat), K.lookup a = some o ∧ o.cls = .type "list" ∧ o.dict = none ∧ o.data = .seq its n ∧ its.size ≤ sizeLine ∧ Vals xs its.toList
def SqT (K : PySem.W.Frag) (H : Hp) (a : Addr) (xs : List V) : Prop :=
  Rd H a (.tup xs) ∨
    ∃ (o : Obj) (its : Array Value) (n : Nat), K.lookup a = some o ∧ o.cls = .type "tuple" ∧ o.data = .seq its n ∧ its.size ≤ sizeLine ∧ Vals xs its.toList
def absV : Value → Option V
  | .none => some .non
  | .bool b => some (.bl b)
  | .int i _ => some (.int i)
  | .str x _ => some (.str x)
  | .bytes b _ => some (.byt b)
  | .float b _ => some (.flt b)
  | .ref a => some (.ref a)
  | .type n => some (.ty n)
  | _ => none
theorem RelV.abs {x : V} {u : Value} (r : RelV x u) : absV u = some x := by
  cases x with
  | non => cases r; rfl
  | bl _ => cases r; rfl
  | int _ => obtain ⟨t, rfl⟩ := r; rfl
  | str _ => obtain ⟨t, rfl⟩ := r; rfl
  | byt _ => obtain ⟨t, rfl⟩ := r; rfl
  | flt _ => obtain ⟨t, rfl⟩ := r; rfl
  | ref _ => cases r; rfl
  | ty _ => cases r; rfl
theorem RelV.inj {x y : V} {u : Value} (r : RelV x u) (q : RelV y u) : x = y := Option.some.inj (r.abs.symm.trans q.abs)
theorem Vals.inj : ∀ {xs ys : List V} {us : List Value}, Vals xs us → Vals ys us → xs = ys
  | _, _, _, .nil, .nil => rfl
  | _, _, _, .cons r t, .cons r' t' => by rw [r.inj r', Vals.inj t t']
section
variable {X : Cx} {pins : List (Addr × Obj)} {σ : St} {H : Hp} {s : Shared} {a : Addr} {xs ys : List V}
theorem SqL.of {K : PySem.W.Frag} (h : H a = some (.lst xs)) : SqL K H a xs := .inl (.inl h)
theorem SqT.of {K : PySem.W.Frag} (h : H a = some (.tup xs)) : SqT K H a xs := .inl (.inl h)
theorem Inv.list (I : Inv X pins σ H s) (h : SqL X.K H a xs) : ∃ its : List Value, Vals xs its ∧ PlainL s.heap a its.toArray ∧ xs.length ≤ sizeLine := by
  rcases h with h | ⟨o, its, n, hk, hc, hd, hs, hz, r⟩
  · obtain ⟨z, its, n, r, e⟩ := h.ok I.hok
    exact ⟨its, r, ⟨_, n, e, rfl, rfl, rfl⟩, z⟩
  · refine ⟨its.toList, r, ⟨o, n, I.kIn a o hk, hc, hd, by simpa using hs⟩, ?_⟩
    have e := r.length
    simp only [Array.length_toList] at e
    omega
theorem Inv.tuple (I : Inv X pins σ H s) (h : SqT X.K H a xs) : ∃ its : List Value, Vals xs its ∧ IsTup s.heap a its.toArray ∧ xs.length ≤ sizeLine := by
  rcases h with h | ⟨o, its, n, hk, hc, hs, hz, r⟩
  · obtain ⟨z, its, r, p⟩ := h.ok I.hok
    exact ⟨its, r, p, z⟩
  · refine ⟨its.toList, r, ⟨o, I.kIn a o hk, hc, n, by simpa using hs⟩, ?_⟩
    have e := r.length
    simp only [Array.length_toList] at e
    omega
theorem Inv.list_inj (I : Inv X pins σ H s) (h : SqL X.K H a xs) (h' : SqL X.K H a ys) : xs = ys := by
  obtain ⟨its, r, ⟨o, n, e, _, _, d⟩, _⟩ := I.list h
  obtain ⟨its', r', ⟨o', n', e', _, _, d'⟩, _⟩ := I.list h'
  rw [e] at e'; cases e'
  rw [d] at d'
  injection d' with d1 _
  have : its = its' := by simpa using congrArg Array.toList d1
  subst this
  exact r.inj r'
end

/-! ### another wish about exceptions -/
abbrev Cx.wish (X : Cx) (E : Value → Shared → Prop) : Cx := { X with xe := E }
/-- no exception leaves -/
abbrev Cx.nox (X : Cx) : Cx := X.wish fun _ _ => False
theorem Cx.Ok.wish {X : Cx} (ok : X.Ok) (E : Value → Shared → Prop) : (X.wish E).Ok :=
  ⟨ok.mod, ok.kind, ok.glob, ok.blt, ok.above, ok.inj, ok.has, ok.cab, ok.hd, ok.frames, ok.stk, ok.exf, ok.bs, ok.bsz, ok.noex, ok.exfs, ok.funs, ok.frf⟩
theorem Cx.Ok.unwish {X : Cx} {E : Value → Shared → Prop} (ok : (X.wish E).Ok) : X.Ok :=
  ⟨ok.mod, ok.kind, ok.glob, ok.blt, ok.above, ok.inj, ok.has, ok.cab, ok.hd, ok.frames, ok.stk, ok.exf, ok.bs, ok.bsz, ok.noex, ok.exfs, ok.funs, ok.frf⟩
section
variable {X : Cx} {pins : List (Addr × Obj)} {σ : St} {H : Hp} {s : Shared} {E : Value → Shared → Prop}
theorem Inv.wish (I : Inv X pins σ H s) (E : Value → Shared → Prop) : Inv (X.wish E) pins σ H s := ⟨I.ok.wish E, I.os, I.bare, I.base, I.loc, I.cell, I.free, I.freeC, I.pin, I.hok, I.len⟩
theorem Inv.unwish (I : Inv (X.wish E) pins σ H s) : Inv X pins σ H s := ⟨I.ok.unwish, I.os, I.bare, I.base, I.loc, I.cell, I.free, I.freeC, I.pin, I.hok, I.len⟩
theorem SP.unwish {D : Ends} {f : Flow} {s' : Shared} (h : SP (X.wish E) pins D f s') : SP X pins D f s' := by
  cases f with
  | next => obtain ⟨σ', H', I, q⟩ := h; exact ⟨σ', H', I.unwish, q⟩
  | brk => obtain ⟨σ', H', I, q⟩ := h; exact ⟨σ', H', I.unwish, q⟩
  | cont => obtain ⟨σ', H', I, q⟩ := h; exact ⟨σ', H', I.unwish, q⟩
  | ret u => obtain ⟨v, σ', H', I, r, q⟩ := h; exact ⟨v, σ', H', I.unwish, r, q⟩
theorem PSs.nox {st : List Stmt} {t : TS} (h : PSs X.nox st t) : PSs X st t := fun pins s σ H D I hw =>
  wpAny_mono (h pins s σ H D (I.wish _) hw) (fun _ _ q => q.unwish) fun _ _ z => False.elim z
end

/-! ### blocks and small statements -/
section
variable {X : Cx} {st : Stmt} {rest : List Stmt} {t u : TS} {e : Expr} {te : TE} {pos : Pos}
def tNext : TS := fun D σ H => D.nx σ H
def tSeq (t u : TS) : TS := fun D σ H => t { D with nx := u D } σ H
theorem pss_nil : PSs X [] tNext := fun _ _ σ H _ I h => wpAny_execs_nil ⟨σ, H, I, h⟩
theorem pss_cons (h1 : PS X st t) (h2 : PSs X rest u) : PSs X (st :: rest) (tSeq t u) := by
  intro pins s σ H D I h
  refine wpAny_execs_cons (thn (h1 pins s σ H { D with nx := u D } I h) fun f s1 q => ?_)
  cases f with
  | next =>
    obtain ⟨σ', H', I', q⟩ := q
    exact h2 pins s1 σ' H' D I' q
  | ret v => exact q
  | brk => exact q
  | cont => exact q
theorem pss_one (h1 : PS X st t) : PSs X [st] t := by
  intro pins s σ H D I h
  refine wpAny_execs_cons (thn (h1 pins s σ H D I h) fun f s1 q => ?_)
  cases f with
  | next => exact wpAny_execs_nil q
  | ret v => exact q
  | brk => exact q
  | cont => exact q
/-- in a def's body nothing is shown -/
theorem Inv.quiet {pins : List (Addr × Obj)} {σ : St} {H : Hp} {s : Shared} (I : Inv X pins σ H s) : interactive X.env = false := by simp [interactive, I.ok.kind]
/-- an expression whose value is dropped -/
def tDrop (te : TE) : TS := fun D σ H => te σ H fun _ H1 => D.nx σ H1
theorem ps_expr (he : PE X e te) (hs : swapsWith e none pos.line X.env = pure false := by rfl) : PS X (.Expr e pos) (tDrop te) := by
  intro pins s σ H D I h
  exact wpAny_Expr_any (thn (he pins s σ H _ I h) fun v s1 ⟨x, H1, I1, r1, q1⟩ => ⟨σ, H1, I1, q1⟩) I.quiet hs
def tRet (te : TE) : TS := fun D σ H => te σ H D.rt
theorem ps_ret (he : PE X e te) : PS X (.Return (some e) pos) (tRet te) := by
  intro pins s σ H D I h
  exact wpAny_Return_some (thn (he pins s σ H _ I h) fun v s1 ⟨x, H1, I1, r1, q1⟩ => ⟨x, σ, H1, I1, r1, q1⟩)
def tIfS (c : TT) (t u : TS) : TS := fun D σ H => c σ H fun b H1 => if b = true then t D σ H1 else u D σ H1
theorem ps_if {c : Expr} {a b : List Stmt} {tc : TT} (hc : PT X c tc) (ha : PSs X a t) (hb : PSs X b u) : PS X (.If c a b pos) (tIfS tc t u) := by
  intro pins s σ H D I h
  refine wpAny_If (thn (hc pins s σ H _ I h) fun d s1 ⟨H1, I1, q1⟩ => ?_)
  cases d with
  | true => exact ha pins s1 σ H1 D I1 q1
  | false => exact hb pins s1 σ H1 D I1 q1
end

/-! ### targets -/
abbrev TG := V → St → Hp → (St → Hp → Prop) → Prop
def PG (X : Cx) (target : Expr) (t : TG) : Prop :=
  ∀ (pins : List (Addr × Obj)) (s : Shared) (σ : St) (H : Hp) (v : V) (u : Value) (Q : St → Hp → Prop), Inv X pins σ H s → RelV v u → t v σ H Q →
    wpAny (model X.prog X.w) X.A (assign target X.env u) (fun _ s' => ∃ σ' H', Inv X pins σ' H' s' ∧ Q σ' H') X.xe s
section
variable {X : Cx} {pos : Pos}
def gName (i : Nat) : TG := fun v σ H Q => Q (σ.set i (some v)) H
theorem pg_name {i : Nat} {x : Str} (hN : X.N.Nodup) (hi : X.N[i]? = some x) (hx : Loc X.env.scope x) (hf : X.fn x = true ∨ X.env.scope.names.lookup x = some .local := by first | exact .inl rfl | exact .inr rfl | assumption) : PG X (.Name x pos) (gName i) := by
  intro pins s σ H v u Q I r h
  exact wpAny_assign_Name (store_ok I hN hi hx r (fun s' I' => ⟨_, H, I', h⟩) hf)
/-- target = value -/
def tAsg (te : TE) (g : TG) : TS := fun D σ H => te σ H fun x H1 => g x σ H1 D.nx
/-- name = value -/
theorem ps_set {i : Nat} {x : Str} {e : Expr} {te : TE} {pos' : Pos} (hN : X.N.Nodup) (hi : X.N[i]? = some x) (hx : Loc X.env.scope x) (he : PE X e te) (hs : swapsWith e (some (.Name x pos')) pos.line X.env = pure false := by rfl) (hf : X.fn x = true ∨ X.env.scope.names.lookup x = some .local := by first | exact .inl rfl | exact .inr rfl | assumption) :
    PS X (.Assign [.Name x pos'] e pos) (tAsg te (gName i)) := by
  intro pins s σ H D I h
  refine wpAny_Assign_Name (thn (he pins s σ H _ I h) fun v s1 ⟨y, H1, I1, r1, q1⟩ => ?_) hs
  exact store_ok I1 hN hi hx r1 (fun s2 I2 => ⟨_, H1, I2, q1⟩) hf
end

/-! ### while -/
section
variable {X : Cx} {pos : Pos}
/-- the invariant W with its measure -/
def tWhile (c : TT) (tb : TS) : TS := fun D σ H => ∃ W : Nat → St → Hp → Prop, (∃ m, W m σ H) ∧ ∀ m σ H, W m σ H →
  c σ H fun b H1 => if b = true then ∃ N : St → Hp → Prop, (∀ σ' H', N σ' H' → ∃ m', m' < m ∧ W m' σ' H') ∧ tb { D with nx := N, ct := N, bk := D.nx } σ H1 else D.nx σ H1
theorem ps_while {c : Expr} {body : List Stmt} {tc : TT} {tb : TS} (hp : PassesOwn (model X.prog X.w) X.A X.env X.xe) (hc : PT X c tc) (hb : PSs X body tb) : PS X (.While c body [] pos) (tWhile tc tb) := by
  intro pins s σ H D I h
  obtain ⟨W, ⟨m0, w0⟩, turn⟩ := h
  refine wpAny_While (codeAny_whileLoop (fun n s' => ∃ σ' H', Inv X pins σ' H' s' ∧ W n σ' H') ?_ m0 ⟨σ, H, I, w0⟩)
  rintro n s1 ⟨σ1, H1, I1, w1⟩
  refine wpAny_passesOwn hp (thn (hc pins s1 σ1 H1 _ I1 (turn n σ1 H1 w1)) fun b s2 ⟨H2, I2, q2⟩ => ?_)
  cases b with
  | true =>
    obtain ⟨N, hN, q2⟩ := q2
    rw [if_pos rfl]
    refine wpAny_passesOwn hp (thn (hb pins s2 σ1 H2 _ I2 q2) fun f s3 q3 => ?_)
    cases f with
    | next =>
      obtain ⟨σ3, H3, I3, n3⟩ := q3
      obtain ⟨m', hm, w3⟩ := hN σ3 H3 n3
      exact ⟨m', hm, σ3, H3, I3, w3⟩
    | cont =>
      obtain ⟨σ3, H3, I3, n3⟩ := q3
      obtain ⟨m', hm, w3⟩ := hN σ3 H3 n3
      exact ⟨m', hm, σ3, H3, I3, w3⟩
    | brk => exact q3
    | ret v => exact q3
  | false =>
    rw [if_neg Bool.false_ne_true]
    exact wpAny_execs_nil ⟨σ1, H2, I2, q2⟩
end

/-! ### what a loop or a comprehension walks -/
/-- at turn i: it yields x (the heap may grow), or it stops -/
structure It where
  go : Nat → Hp → Prop
  yld : Nat → Hp → V → Hp → Prop
  stop : Nat → Hp → Prop
/-- the iterator's own objects may turn: they are not the frame's, not pinned, younger than the entry (or a comprehension's own) -/
def FpOk (X : Cx) (pins : List (Addr × Obj)) (H : Hp) (b : Addr) : Prop :=
  H b = none ∧ b ≠ X.env.locals ∧ b ∉ X.fs ∧ (b ∈ X.ex ∨ X.s₀.heap.objs.size ≤ b) ∧ (∀ x c, X.env.cells.lookup x = some c → c ≠ b) ∧ ∀ p ∈ X.pn ++ pins, p.1 ≠ b
theorem Inv.fpOk {X : Cx} {pins : List (Addr × Obj)} {σ : St} {H H' : Hp} {s : Shared} {b : Addr} (I : Inv X pins σ H s) (hb : s.heap.objs.size ≤ b) (hn : H' b = none) : FpOk X pins H' b := by
  refine ⟨hn, Nat.ne_of_gt (Nat.lt_of_lt_of_le I.lt hb), I.nofs hb, .inr (Nat.le_trans I.sz hb), fun x c e z => ?_, fun p hp z => ?_⟩
  · obtain ⟨v, q⟩ := I.cell x c e
    exact absurd (Nat.lt_of_lt_of_le q.lt (by rw [z]; exact hb)) (Nat.lt_irrefl _)
  · exact absurd (Nat.lt_of_lt_of_le (Heap.lt_size (I.pin p hp).1) (by rw [z]; exact hb)) (Nat.lt_irrefl _)
structure Turn (P : Program) (w : World) (K : PySem.W.Frag) (tg : Expr) (J : It) (fp : List Addr) (it : Addr) (tn : Nat → Heap → Prop) : Prop where
  mem : it ∈ fp
  obj : ∀ i h, tn i h → ∀ b ∈ fp, ∃ o, h.get? b = some o ∧ ∀ v, o.data ≠ .cell v
  keep : ∀ i h h', tn i h → (∀ b ∈ fp, ∀ o, h.get? b = some o → h'.get? b = some o) → tn i h'
  item : ∀ (X : Cx), X.prog = P → X.w = w → X.K = K → X.calm = true → ∀ (i : Nat) (pins : List (Addr × Obj)) (s : Shared) (σ : St) (H : Hp) (E : Value → Shared → Prop), Inv X pins σ H s → (∀ b ∈ fp, FpOk X pins H b) → tn i s.heap → J.go i H →
    wpAny (model P w) X.A (pyNext (.ref it)) (fun r s1 => ∃ u, r = some u ∧
      wpAny (model P w) X.A (letOwnedTupleGo tg (.ref it) u) (fun _ s2 => ∃ x H', Inv X pins σ H' s2 ∧ RelV x u ∧ J.yld i H x H' ∧ tn (i + 1) s2.heap ∧ ∀ b ∈ fp, H' b = none) E s1) E s
  done : ∀ (X : Cx), X.prog = P → X.w = w → X.K = K → X.calm = true → ∀ (i : Nat) (pins : List (Addr × Obj)) (s : Shared) (σ : St) (H : Hp) (E : Value → Shared → Prop), Inv X pins σ H s → (∀ b ∈ fp, FpOk X pins H b) → tn i s.heap → J.stop i H →
    wpAny (model P w) X.A (pyNext (.ref it)) (fun r s1 => r = none ∧ Inv X pins σ H s1) E s
  self : ∀ (A : Around) (i : Nat) (s : Shared) (Q : Value → Shared → Prop) (E : Value → Shared → Prop), tn i s.heap → Q (.ref it) s → wpAny (model P w) A (pyIter (.ref it)) Q E s
abbrev TI := St → Hp → (It → Hp → Prop) → Prop
/-- an iterator has come -/
def PIE (X : Cx) (pins : List (Addr × Obj)) (σ : St) (tg : Expr) (R : It → Hp → Prop) (itv : Value) (s2 : Shared) : Prop :=
  ∃ (it : Addr) (fp : List Addr) (tn : Nat → Heap → Prop) (J : It) (H' : Hp), itv = .ref it ∧ Inv X pins σ H' s2 ∧ Turn X.prog X.w X.K tg J fp it tn ∧ tn 0 s2.heap ∧ (∀ b ∈ fp, FpOk X pins H' b) ∧ R J H'
def PI (X : Cx) (tg iter : Expr) (wi : TI) : Prop :=
  ∀ (pins : List (Addr × Obj)) (s : Shared) (σ : St) (H : Hp) (R : It → Hp → Prop), Inv X pins σ H s → wi σ H R →
    wpAny (model X.prog X.w) X.A (eval iter X.env) (fun v s1 => wpAny (model X.prog X.w) X.A (pyIter v) (PIE X pins σ tg R) X.xe s1) X.xe s

/-- the step ahead of the store is nothing for an iterator that keeps no tuple -/
theorem go_of {M : Model} {A : Around} {E : Value → Shared → Prop} {s : Shared} {tg : Expr} {it : Addr} {u : Value} {o : Obj} {n : String} {vs : Array Value} {Q : Unit → Shared → Prop} (ho : s.heap.get? it = some o) (hc : o.cls = .type n) (hd : o.data = .fields vs)
    (hn : ["enumerate", "zip", "dict_itemiterator", "dict_reverseitemiterator", "odict_iterator", "itertools.zip_longest", "itertools.pairwise"].contains n = false) (hQ : Q () s) : wpAny M A (letOwnedTupleGo tg (.ref it) u) Q E s := by
  unfold letOwnedTupleGo
  cases tg <;> first
    | exact wpAny_pure hQ
    | (cases u <;> first
        | exact wpAny_pure hQ
        | (refine wpAny_bind (wpAny_load ho ?_)
           rw [hc, hd]
           show wpAny M A (if (["enumerate", "zip", "dict_itemiterator", "dict_reverseitemiterator", "odict_iterator", "itertools.zip_longest", "itertools.pairwise"].contains n && vs[0]? == some (rawInt _)) = true then _ else _) Q E s
           rw [if_neg (by intro h; rw [hn, Bool.false_and] at h; cases h)]
           exact wpAny_pure hQ))

/-- the list at a, as it stands at each turn (a loop may append to it) -/
def Itl (K : PySem.W.Frag) (a : Addr) : It :=
  ⟨fun i H => ∃ xs x, SqL K H a xs ∧ xs[i]? = some x, fun i H x H' => H' = H ∧ ∀ xs, SqL K H a xs → xs[i]? = some x, fun i H => ∃ xs, SqL K H a xs ∧ xs.length ≤ i⟩
/-- lo, lo + 1, .. (n of them) -/
def Itr (lo : Int) (n : Nat) : It := ⟨fun i _ => i < n, fun i H x H' => H' = H ∧ x = .int (lo + i), fun i _ => n ≤ i⟩
theorem turn_list {P : Program} {w : World} {K : PySem.W.Frag} {tg : Expr} (a it : Addr) : Turn P w K tg (Itl K a) [it] it (fun i h => h.IsListIter it a i) where
  mem := by simp
  obj := fun i h st b hb => by
    have e : b = it := by simpa using hb
    subst e
    obtain ⟨o, e, c, d⟩ := st
    exact ⟨o, e, fun v z => by rw [d] at z; cases z⟩
  keep := fun i h h' st k => st.at fun o e => k it (by simp) o e
  item := by
    intro X hP hw hK hc i pins s σ H E I hf st hg
    subst hP hw hK
    obtain ⟨xs, x, hq, hx⟩ := hg
    obtain ⟨its, rv, p, hz⟩ := I.list hq
    obtain ⟨u, hu, ru⟩ := rv.get hx
    obtain ⟨f0, f1, f2, f3, f4, f5⟩ := hf it (by simp)
    refine wpAny_pyNext_list_item st p.isList (x := u) (by simpa using hu) fun h' st' sb => ?_
    have I1 : Inv X pins σ H { s with heap := h' } := I.turned (t' := s.toks) (fun b o hb e => (sb.2 b hb).trans e) f0 f1 f3 f4 f5
    obtain ⟨o, e, c, d⟩ := id st'
    exact ⟨u, rfl, go_of (s := { s with heap := h' }) e c d (by decide) ⟨x, H, I1, ru, ⟨rfl, fun ys hy => by rw [I.list_inj hy hq]; exact hx⟩, st', fun b hb => (hf b hb).1⟩⟩
  done := by
    intro X hP hw hK hc i pins s σ H E I hf st hg
    subst hP hw hK
    obtain ⟨xs, hq, hx⟩ := hg
    obtain ⟨its, rv, p, hz⟩ := I.list hq
    obtain ⟨f0, f1, f2, f3, f4, f5⟩ := hf it (by simp)
    have hl := rv.length
    exact wpAny_pyNext_list_end (I.ok.hd hc) st p.isList (by simp; omega) fun h' eb => ⟨rfl, I.turned (t' := s.toks) (fun b o hb e => eb b o hb e) f0 f1 f3 f4 f5⟩
  self := fun _ _ _ _ _ st h => wpAny_pyIter_listiter st h
theorem turn_range {P : Program} {w : World} {K : PySem.W.Frag} {tg : Expr} (it : Addr) (lo : Int) (n : Nat) : Turn P w K tg (Itr lo n) [it] it (fun i h => IsRangeIter h it (lo + (i : Nat) * 1) ((n : Int) - (i : Nat)) 1) where
  mem := by simp
  obj := fun i h st b hb => by
    have e : b = it := by simpa using hb
    subst e
    exact ⟨_, st, fun v z => by
      have z' : Data.fields _ = Data.cell v := z
      cases z'⟩
  keep := fun i h h' st k => k it (by simp) _ st
  item := by
    intro X hP hw hK hc i pins s σ H E I hf st hg
    subst hP hw hK
    obtain ⟨f0, f1, f2, f3, f4, f5⟩ := hf it (by simp)
    have W := Walks.range (prog := X.prog) (w := X.w) (I.ok.hd hc) it lo 1 n
    refine W.item i s _ _ hg st fun v h' tk hv st' kk => ?_
    obtain ⟨t, rfl⟩ := hv
    have I1 : Inv X pins σ H { s with heap := h', toks := tk } := I.turned (fun b o hb e => kk b o (by simpa using hb) e) f0 f1 f3 f4 f5
    refine ⟨_, rfl, go_of (s := { s with heap := h', toks := tk }) (n := "range_iterator") st' rfl rfl (by decide) ⟨.int (lo + i), H, I1, ⟨t, ?_⟩, ⟨rfl, rfl⟩, st', fun b hb => (hf b hb).1⟩⟩
    rw [Int.mul_one]
  done := by
    intro X hP hw hK hc i pins s σ H E I hf st hg
    subst hP hw hK
    obtain ⟨f0, f1, f2, f3, f4, f5⟩ := hf it (by simp)
    exact wpAny_pyNext_range_end (I.ok.hd hc) st (by have : n ≤ i := hg; omega) fun h' eb => ⟨rfl, I.turned (t' := s.toks) (fun b o hb e => eb b o hb e) f0 f1 f3 f4 f5⟩
  self := fun _ _ _ _ _ st h => wpAny_pyIter_rangeiter st h
end L2

namespace L2
open PySem PySem.Spec PyProof.Rows
section
variable {X : Cx} {tg : Expr}
def iList (K : PySem.W.Frag) (tl : TE) : TI := fun σ H R => tl σ H fun x H1 => ∃ a, x = .ref a ∧ (∃ xs, SqL K H1 a xs) ∧ R (Itl K a) H1
theorem pi_list {l : Expr} {tl : TE} (hl : PE X l tl) : PI X tg l (iList X.K tl) := by
  intro pins s σ H R I h
  refine thn (hl pins s σ H _ I h) fun v s1 ⟨x, H1, I1, r1, q1⟩ => ?_
  obtain ⟨a, e, ⟨xs, hq⟩, q⟩ := q1
  subst e
  cases r1
  obtain ⟨its, rv, p, hz⟩ := I1.list hq
  refine wpAny_pyIter_list p.isList ?_
  refine ⟨s1.heap.objs.size, [s1.heap.objs.size], _, _, H1, rfl, I1.kept (t' := s1.toks) fun b o e => Heap.get?_push_of_some _ e, turn_list a _, ⟨_, Heap.get?_push_size _ rfl, rfl, rfl⟩, fun b hb => ?_, q⟩
  have e : b = s1.heap.objs.size := by simpa using hb
  subst e
  exact I1.fpOk (Nat.le_refl _) (I1.hok.fresh (Nat.le_refl _))
/-- a range object just made, walked -/
theorem range_it {pins : List (Addr × Obj)} {σ : St} {H : Hp} {s : Shared} {R : It → Hp → Prop} {E : Value → Shared → Prop} {lo hi : Int} {t u v : Tok} {tk : Nat} (I : Inv X pins σ H s) (h1 : -(2 ^ 62) ≤ lo) (h2 : lo < 2 ^ 62) (h3 : -(2 ^ 62) ≤ hi) (h4 : hi < 2 ^ 62)
    (q : R (Itr lo (hi - lo).toNat) H) : wpAny (model X.prog X.w) X.A (pyIter (.ref s.heap.objs.size)) (PIE X pins σ tg R) E { s with heap := s.heap.push { cls := .type "range", data := .fields #[.int lo t, .int hi u, .int 1 v] }, toks := tk } := by
  refine wpAny_pyIter_range (IsRange.new ..) (small_one h1 h2 h3 h4) ?_
  have I1 : Inv X pins σ H { s with heap := s.heap.push { cls := .type "range", data := .fields #[.int lo t, .int hi u, .int 1 v] }, toks := tk } := I.kept fun b o e => Heap.get?_push_of_some _ e
  refine ⟨(s.heap.push { cls := .type "range", data := .fields #[.int lo t, .int hi u, .int 1 v] }).objs.size, [(s.heap.push { cls := .type "range", data := .fields #[.int lo t, .int hi u, .int 1 v] }).objs.size], _, _, H, rfl,
    I1.kept (t' := tk) fun b o e => Heap.get?_push_of_some _ e, turn_range _ lo (hi - lo).toNat, ?_, fun b hb => ?_, q⟩
  · have e1 : lo + ((0 : Nat) : Int) * 1 = lo := by simp
    have e2 : (((hi - lo).toNat : Nat) : Int) - ((0 : Nat) : Int) = Builtin.Range.rangeSize lo hi 1 := by rw [rangeSize_one]; split <;> omega
    show IsRangeIter _ _ (lo + ((0 : Nat) : Int) * 1) ((((hi - lo).toNat : Nat) : Int) - ((0 : Nat) : Int)) 1
    rw [e1, e2]
    exact Heap.get?_push_size _ rfl
  · have e : b = (s.heap.push { cls := .type "range", data := .fields #[.int lo t, .int hi u, .int 1 v] }).objs.size := by simpa using hb
    subst e
    exact I1.fpOk (Nat.le_refl _) (I1.hok.fresh (Nat.le_refl _))
def iRng1 (ta : TA) : TI := fun σ H R => ta σ H fun vs H1 => ∃ j : Int, vs = [.int j] ∧ -(2 ^ 62) ≤ j ∧ j < 2 ^ 62 ∧ R (Itr 0 j.toNat) H1
theorem pi_range1 {a : Expr} {ta : TA} {p pos : Pos} (hg : Gl X "range") (hm : X.mg "range" = none) (ha : PA X [a] ta) (hs : starEach [a] X.env = [(false, eval a X.env)] := by rfl) : PI X tg (.Call (.Name "range" p) [a] [] pos) (iRng1 ta) := by
  intro pins s σ H R I h
  refine Call_ (ld_blt I hg hm boot_range (PyProof.Rows.callWith_type1 (thn (ha pos pins s σ H _ I h) fun us s1 ⟨vs, H1, I1, r1, q1⟩ => ?_) hs rfl))
  obtain ⟨j, e, q1, q2, q⟩ := q1
  subst e
  cases r1 with
  | cons r rr =>
    cases rr
    obtain ⟨t, rfl⟩ := r
    exact call_range_1 (range_it I1 (by omega) (by omega) q1 q2 (by simpa using q))
/-! ### for -/
/-- W: the invariant by the turn and a measure; N: what the body is to reach -/
def tFor (wi : TI) (g : TG) (tb : TS) : TS := fun D σ H => wi σ H fun J H1 => ∃ W : Nat → Nat → St → Hp → Prop, (∃ m, W 0 m σ H1) ∧ ∀ i m σ H, W i m σ H →
  (J.stop i H ∧ D.nx σ H) ∨ (J.go i H ∧ ∃ N : St → Hp → Prop, (∀ σ' H', N σ' H' → ∃ m', m' < m ∧ W (i + 1) m' σ' H') ∧ ∀ x H', J.yld i H x H' → g x σ H' fun σ2 H2 => tb { D with nx := N, ct := N, bk := D.nx } σ2 H2)
/-- the records at fp as they stand -/
def pinsAt (fp : List Addr) (h : Heap) : List (Addr × Obj) := fp.filterMap fun b => (h.get? b).map fun o => (b, o)
theorem mem_pinsAt {fp : List Addr} {h : Heap} {b : Addr} {o : Obj} (hb : b ∈ fp) (e : h.get? b = some o) : (b, o) ∈ pinsAt fp h := List.mem_filterMap.mpr ⟨b, hb, by rw [e]; rfl⟩
theorem of_pinsAt {fp : List Addr} {h : Heap} {p : Addr × Obj} (hp : p ∈ pinsAt fp h) : p.1 ∈ fp ∧ h.get? p.1 = some p.2 := by
  obtain ⟨b, hb, e⟩ := List.mem_filterMap.mp hp
  cases q : h.get? b with
  | none => rw [q] at e; cases e
  | some o =>
    rw [q] at e
    have e' : (b, o) = p := Option.some.inj e
    subst e'
    exact ⟨hb, q⟩
theorem Inv.pinned {pins : List (Addr × Obj)} {σ : St} {H : Hp} {s : Shared} {fp : List Addr} (I : Inv X pins σ H s) (hf : ∀ b ∈ fp, FpOk X pins H b) (ho : ∀ b ∈ fp, ∃ o, s.heap.get? b = some o ∧ ∀ v, o.data ≠ .cell v) : Inv X (pins ++ pinsAt fp s.heap) σ H s :=
  I.pins_of fun p hp => (List.mem_append.mp hp).elim (fun z => I.pin p (List.mem_append_right _ z)) fun z => by
    obtain ⟨hb, e⟩ := of_pinsAt z
    obtain ⟨f0, f1, f2, _⟩ := hf p.1 hb
    obtain ⟨o, e', d⟩ := ho p.1 hb
    rw [e] at e'; cases e'
    exact ⟨e, f0, f1, f2, d⟩
theorem Inv.unpinned {pins pl : List (Addr × Obj)} {σ : St} {H : Hp} {s : Shared} (I : Inv X (pins ++ pl) σ H s) : Inv X pins σ H s := I.pins_of fun p hp => I.pin p (List.mem_append_right _ (List.mem_append_left _ hp))
theorem ps_for {iter : Expr} {body : List Stmt} {wi : TI} {g : TG} {tb : TS} {pos : Pos} (hp : PassesOwn (model X.prog X.w) X.A X.env X.xe) (hc : X.calm = true) (hi : PI X tg iter wi) (hg : PG X tg g) (hb : PSs X body tb)
    (hs : ∀ x, foldedSetIterable iter X.env x = pure x := by intro _; rfl) : PS X (.For tg iter body [] pos) (tFor wi g tb) := by
  intro pins s σ H D I h
  refine wpAny_For (thn (hi pins s σ H _ I h) fun v s1 h1 => thn h1 fun itv s2 h2 => ?_) hs
  obtain ⟨it, fp, tn, J, H2, e, I2, T, st2, f2, W, ⟨m0, w0⟩, turn⟩ := h2
  subst e
  -- what stays true of the iterator's objects through the loop
  have stat : ∀ {H' : Hp}, (∀ b ∈ fp, H' b = none) → ∀ b ∈ fp, FpOk X pins H' b := fun hn b hb => ⟨hn b hb, (f2 b hb).2⟩
  refine codeAny_forLoop_any (fun n s' => ∃ i σ' H', Inv X pins σ' H' s' ∧ tn i s'.heap ∧ (∀ b ∈ fp, H' b = none) ∧ W i n σ' H') ?_ m0 ⟨0, σ, H2, I2, st2, fun b hb => (f2 b hb).1, w0⟩
  rintro n s3 ⟨i, σ3, H3, I3, st3, fr3, w3⟩
  rcases turn i n σ3 H3 w3 with ⟨stop, qn⟩ | ⟨go, N, hN, step⟩
  · refine wpAny_passesOwn hp (thn (T.done X rfl rfl rfl hc i pins s3 σ3 H3 X.xe I3 (stat fr3) st3 stop) fun r s4 ⟨hr, I4⟩ => ?_)
    subst hr
    exact wpAny_execs_nil ⟨σ3, H3, I4, qn⟩
  · refine wpAny_passesOwn hp (thn (T.item X rfl rfl rfl hc i pins s3 σ3 H3 X.xe I3 (stat fr3) st3 go) fun r s4 ⟨u, hr, h4⟩ => ?_)
    subst hr
    refine wpAny_passesOwn hp (thn h4 fun _ s5 ⟨x, H5, I5, r5, y5, st5, fr5⟩ => ?_)
    have I5' := I5.pinned (stat fr5) (T.obj _ _ st5)
    refine wpAny_passesOwn hp (thn (hg _ s5 σ3 H5 x u _ I5' r5 (step x H5 y5)) fun _ s6 ⟨σ6, H6, I6, q6⟩ => ?_)
    refine wpAny_passesOwn hp (thn (hb _ s6 σ6 H6 _ I6 q6) fun f s7 q7 => ?_)
    have again : ∀ {σ7 : St} {H7 : Hp}, Inv X (pins ++ pinsAt fp s5.heap) σ7 H7 s7 → N σ7 H7 → ∃ m, m < n ∧ ∃ i σ' H', Inv X pins σ' H' s7 ∧ tn i s7.heap ∧ (∀ b ∈ fp, H' b = none) ∧ W i m σ' H' := fun {σ7 H7} I7 n7 => by
      obtain ⟨m', hm, w7⟩ := hN σ7 H7 n7
      refine ⟨m', hm, i + 1, σ7, H7, I7.unpinned, T.keep _ _ _ st5 fun b hb o e => (I7.pin (b, o) (List.mem_append_right _ (List.mem_append_right _ (mem_pinsAt hb e)))).1, fun b hb => ?_, w7⟩
      obtain ⟨o, e, d⟩ := T.obj _ _ st5 b hb
      exact (I7.pin (b, o) (List.mem_append_right _ (List.mem_append_right _ (mem_pinsAt hb e)))).2.1
    cases f with
    | next => obtain ⟨σ7, H7, I7, n7⟩ := q7; exact again I7 n7
    | cont => obtain ⟨σ7, H7, I7, n7⟩ := q7; exact again I7 n7
    | brk => obtain ⟨σ7, H7, I7, q7⟩ := q7; exact ⟨σ7, H7, I7.unpinned, q7⟩
    | ret v => obtain ⟨x7, σ7, H7, I7, r7, q7⟩ := q7; exact ⟨x7, σ7, H7, I7.unpinned, r7, q7⟩
end

/-! ### the forms one uses -/
/-- while, by a word and a measure of the state -/
theorem while_by {c : TT} {tb : TS} {D : Ends} {σ : St} {H : Hp} (Pv : St → Hp → Prop) (μ : St → Hp → Nat) (h0 : Pv σ H)
    (hs : ∀ σ H, Pv σ H → c σ H fun b H1 => if b = true then tb { D with nx := fun σ' H' => Pv σ' H' ∧ μ σ' H' < μ σ H, ct := fun σ' H' => Pv σ' H' ∧ μ σ' H' < μ σ H, bk := D.nx } σ H1 else D.nx σ H1)
    (mono : ∀ σ H Q Q', (∀ b H1, Q b H1 → Q' b H1) → c σ H Q → c σ H Q') : tWhile c tb D σ H := by
  refine ⟨fun m σ H => m = μ σ H ∧ Pv σ H, ⟨_, rfl, h0⟩, ?_⟩
  rintro m σ H ⟨rfl, p⟩
  refine mono σ H _ _ (fun b H1 q => ?_) (hs σ H p)
  cases b with
  | true => exact ⟨_, fun σ' H' ⟨p', l⟩ => ⟨_, l, rfl, p'⟩, q⟩
  | false => exact q
end L2

namespace L2
open PySem PySem.Spec PyProof.Rows

abbrev R2 := V → V → Hp → VK → Prop
/-- a two-place operation on values: f is binaryOp op, inplaceOp op or compareOp op -/
def OpR (X : Cx) (f : Value → Value → Sem Value) (r : R2) : Prop :=
  ∀ (pins : List (Addr × Obj)) (s : Shared) (σ : St) (H : Hp) (x y : V) (v u : Value) (Q : VK), Inv X pins σ H s → RelV x v → RelV y u → r x y H Q →
    wpAny (model X.prog X.w) X.A (f v u) (EP X pins σ Q) X.xe s
/-- a one-place operation -/
def UnR (X : Cx) (f : Value → Sem Value) (r : V → Hp → VK → Prop) : Prop :=
  ∀ (pins : List (Addr × Obj)) (s : Shared) (σ : St) (H : Hp) (x : V) (v : Value) (Q : VK), Inv X pins σ H s → RelV x v → r x H Q →
    wpAny (model X.prog X.w) X.A (f v) (EP X pins σ Q) X.xe s
/-- a call of a value that is known (a builtin, a type) with values -/
def CallR (X : Cx) (f : Value) (r : List V → Hp → VK → Prop) : Prop :=
  ∀ (pins : List (Addr × Obj)) (s : Shared) (σ : St) (H : Hp) (xs : List V) (us : List Value) (Q : VK), Inv X pins σ H s → Vals xs us → r xs H Q →
    wpAny (model X.prog X.w) X.A (call f us) (EP X pins σ Q) X.xe s
def tOp (r : R2) (ta tb : TE) : TE := fun σ H Q => ta σ H fun x H1 => tb σ H1 fun y H2 => r x y H2 Q
def tUn (r : V → Hp → VK → Prop) (ta : TE) : TE := fun σ H Q => ta σ H fun x H1 => r x H1 Q
/-- ints in, under C, and a value out -/
def rI (C : Int → Int → Prop) (g : Int → Int → V) : R2 := fun x y H Q => ∃ i j, x = .int i ∧ y = .int j ∧ C i j ∧ Q (g i j) H
def rI0 (g : Int → Int → V) : R2 := fun x y H Q => ∃ i j, x = .int i ∧ y = .int j ∧ Q (g i j) H
def rU (g : Int → V) : V → Hp → VK → Prop := fun x H Q => ∃ i, x = .int i ∧ Q (g i) H

section
variable {X : Cx} {a b c : Expr} {ta tb tc : TE} {pos : Pos}

theorem binT (ha : PE X a ta) (hb : PE X b tb) {pins : List (Addr × Obj)} {s : Shared} {σ : St} {H : Hp} {R : V → V → Hp → Prop} (I : Inv X pins σ H s)
    (h : ta σ H fun x H1 => tb σ H1 fun y H2 => R x y H2) {Q : Value → Shared → Prop} {f : Value → Value → Sem Value}
    (hf : ∀ v u s2 x y H2, Inv X pins σ H2 s2 → RelV x v → RelV y u → R x y H2 → wpAny (model X.prog X.w) X.A (f v u) Q X.xe s2) :
    wpAny (model X.prog X.w) X.A (eval a X.env) (fun v s₁ => wpAny (model X.prog X.w) X.A (eval b X.env) (fun u s₂ => wpAny (model X.prog X.w) X.A (f v u) Q X.xe s₂) X.xe s₁) X.xe s := by
  refine thn (ha pins s σ H _ I h) fun v s1 ⟨x, H1, I1, r1, q1⟩ => ?_
  refine thn (hb pins s1 σ H1 _ I1 q1) fun u s2 ⟨y, H2, I2, r2, q2⟩ => ?_
  exact hf v u s2 x y H2 I2 r1 r2 q2

theorem pe_op {op : Operator} {r : R2} (ho : OpR X (binaryOp op) r) (ha : PE X a ta) (hb : PE X b tb) : PE X (.BinOp a op b pos) (tOp r ta tb) := by
  intro pins s σ H Q I h
  exact wpAny_BinOp (binT ha hb I h fun v u s2 x y H2 I2 rx ry q => ho pins s2 σ H2 x y v u Q I2 rx ry q)
theorem pe_un {op : UnaryOp} {r : V → Hp → VK → Prop} (ho : UnR X (unaryOp op) r) (ha : PE X a ta) : PE X (.UnaryOp op a pos) (tUn r ta) := by
  intro pins s σ H Q I h
  exact UnaryOp_ (thn (ha pins s σ H _ I h) fun v s1 ⟨x, H1, I1, r1, q1⟩ => ho pins s1 σ H1 x v Q I1 r1 q1)
/-! ### ints -/
theorem opI {f : Value → Value → Sem Value} {C : Int → Int → Prop} {g : Int → Int → Int}
    (rule : ∀ (i j : Int) (t u : Tok) (s : Shared) (Q : Value → Shared → Prop) (E : Value → Shared → Prop), C i j → Q (.int (g i j) s.toks) { s with toks := s.toks + 1 } → wpAny (model X.prog X.w) X.A (f (.int i t) (.int j u)) Q E s) :
    OpR X f (rI C fun i j => .int (g i j)) := by
  intro pins s σ H x y v u Q I rx ry h
  obtain ⟨i, j, rfl, rfl, hc, q⟩ := h
  obtain ⟨t, rfl⟩ := rx
  obtain ⟨t', rfl⟩ := ry
  exact rule i j t t' s _ _ hc ⟨.int (g i j), H, I.tok _, ⟨_, rfl⟩, q⟩
theorem opI0 {f : Value → Value → Sem Value} {g : Int → Int → Int}
    (rule : ∀ (i j : Int) (t u : Tok) (s : Shared) (Q : Value → Shared → Prop) (E : Value → Shared → Prop), Q (.int (g i j) s.toks) { s with toks := s.toks + 1 } → wpAny (model X.prog X.w) X.A (f (.int i t) (.int j u)) Q E s) :
    OpR X f (rI0 fun i j => .int (g i j)) := by
  intro pins s σ H x y v u Q I rx ry h
  obtain ⟨i, j, rfl, rfl, q⟩ := h
  obtain ⟨t, rfl⟩ := rx
  obtain ⟨t', rfl⟩ := ry
  exact rule i j t t' s _ _ ⟨.int (g i j), H, I.tok _, ⟨_, rfl⟩, q⟩
theorem opB0 {f : Value → Value → Sem Value} {g : Int → Int → Bool}
    (rule : ∀ (i j : Int) (t u : Tok) (s : Shared) (Q : Value → Shared → Prop) (E : Value → Shared → Prop), Q (.bool (g i j)) s → wpAny (model X.prog X.w) X.A (f (.int i t) (.int j u)) Q E s) :
    OpR X f (rI0 fun i j => .bl (g i j)) := by
  intro pins s σ H x y v u Q I rx ry h
  obtain ⟨i, j, rfl, rfl, q⟩ := h
  obtain ⟨t, rfl⟩ := rx
  obtain ⟨t', rfl⟩ := ry
  exact rule i j t t' s _ _ ⟨.bl (g i j), H, I, rfl, q⟩

def CDiv (i j : Int) : Prop := 0 < j ∧ j < 1073741824
def CPow (i j : Int) : Prop := 0 ≤ j ∧ j ≤ 1000000 ∧ i.natAbs < 2 ^ 64
def CMul (i j : Int) : Prop := (-(2 ^ 64) < i ∧ i < 2 ^ 64) ∨ (-(2 ^ 64) < j ∧ j < 2 ^ 64)
theorem CMul.ok {i j : Int} (h : CMul i j) : IntMulOk i j := by
  rcases h with ⟨h1, h2⟩ | ⟨h1, h2⟩
  · exact .of_left (intBits_le_64 h1 h2)
  · exact .of_right (intBits_le_64 h1 h2)
theorem op_add : OpR X (binaryOp .Add) (rI0 fun i j => .int (i + j)) := opI0 fun _ _ _ _ _ _ _ q => add_int q
theorem op_sub : OpR X (binaryOp .Sub) (rI0 fun i j => .int (i - j)) := opI0 fun _ _ _ _ _ _ _ q => sub_int q
theorem op_mul : OpR X (binaryOp .Mult) (rI CMul fun i j => .int (i * j)) := opI fun _ _ _ _ _ _ _ hc q => mul_int q hc.ok
/-- // by a positive divisor -/
theorem op_fdiv : OpR X (binaryOp .FloorDiv) (rI CDiv fun i j => .int (i / j)) := opI fun i j _ _ _ _ _ hc q => by
  have h1 : (0 : Int) < j := hc.1
  have h2 : j < 1073741824 := hc.2
  exact floordiv_int (by omega) (by rw [Int.fdiv_eq_ediv_of_nonneg i (by omega)]; exact q) (.inl (PyProof.noPylong_small (by omega)))
/-- % by a positive divisor of any size -/
theorem op_mod : OpR X (binaryOp .Mod) (rI (fun _ j => 0 < j) fun i j => .int (i % j)) := opI fun i j _ _ _ _ _ hc q => by
  have h1 : (0 : Int) < j := hc
  exact mod_int' (by omega) (by rw [Int.fmod_eq_emod_of_nonneg i (by omega)]; exact q)
theorem op_pow : OpR X (binaryOp .Pow) (rI CPow fun i j => .int (i ^ j.toNat)) := opI fun _ _ _ _ _ _ _ hc q => pow_int_small hc.1 hc.2.1 hc.2.2 q
theorem unI {f : Value → Sem Value} {g : Int → Int}
    (rule : ∀ (i : Int) (t : Tok) (s : Shared) (Q : Value → Shared → Prop) (E : Value → Shared → Prop), Q (.int (g i) s.toks) { s with toks := s.toks + 1 } → wpAny (model X.prog X.w) X.A (f (.int i t)) Q E s) :
    UnR X f (rU fun i => .int (g i)) := by
  intro pins s σ H x v Q I rx h
  obtain ⟨i, rfl, q⟩ := h
  obtain ⟨t, rfl⟩ := rx
  exact rule i t s _ _ ⟨.int (g i), H, I.tok _, ⟨_, rfl⟩, q⟩
theorem un_neg : UnR X (unaryOp .USub) (rU fun i => .int (-i)) := unI fun _ _ _ _ _ q => neg_int q
/-! ### bools among ints: n += (a < b) -/
end

/-! ### comparisons -/
/-- the scalars that == tells apart as data does -/
def scal : V → V → Bool
  | .non, .non => true | .non, .int _ => true | .int _, .non => true | .non, .bl _ => true | .bl _, .non => true | .non, .str _ => true | .str _, .non => true
  | .int _, .int _ => true | .bl _, .bl _ => true | .str _, .str _ => true | .byt _, .byt _ => true
  | .int _, .str _ => true | .str _, .int _ => true | .bl _, .str _ => true | .str _, .bl _ => true
  | _, _ => false
def rEq : R2 := fun x y H Q => scal x y = true ∧ Q (.bl (decide (x = y))) H
def rNe : R2 := fun x y H Q => scal x y = true ∧ Q (.bl (!decide (x = y))) H

theorem dec_int {i j : Int} : decide (V.int i = V.int j) = (i == j) := by
  rw [Bool.eq_iff_iff]
  simp
theorem dec_bl {i j : Bool} : decide (V.bl i = V.bl j) = (i == j) := by
  rw [Bool.eq_iff_iff]
  simp
theorem dec_str {i j : Str} : decide (V.str i = V.str j) = (i == j) := by
  rw [Bool.eq_iff_iff]
  simp
theorem dec_byt {i j : Array UInt8} : decide (V.byt i = V.byt j) = (i.toList == j.toList) := by
  rw [Bool.eq_iff_iff]
  cases i
  cases j
  simp

section
variable {X : Cx} {a b c : Expr} {ta tb tc : TE} {pos : Pos}
theorem fin_bl {pins : List (Addr × Obj)} {σ : St} {H : Hp} {s : Shared} {Q : VK} {k k' : Bool} (I : Inv X pins σ H s) (q : Q (.bl k) H) (e : k = k') : EP X pins σ Q (.bool k') s := by
  subst e
  exact ⟨.bl k, H, I, rfl, q⟩
theorem op_eq : OpR X (compareOp .Eq) rEq := by
  intro pins s σ H x y v u Q I rx ry h
  obtain ⟨hs, q⟩ := h
  cases x with
  | non =>
    cases rx
    cases y with
    | non => cases ry; exact PySem.EqNone.eq_none_none (fin_bl I q (by simp))
    | bl j => cases ry; exact PySem.EqNone.eq_none_bool (fin_bl I q (by simp))
    | int j => obtain ⟨t', rfl⟩ := ry; exact PySem.EqNone.eq_none_int (fin_bl I q (by simp))
    | str j => obtain ⟨t', rfl⟩ := ry; exact PySem.EqNone.eq_none_str (fin_bl I q (by simp))
    | _ => exact absurd (show false = true from hs) Bool.false_ne_true
  | bl i =>
    cases rx
    cases y with
    | non => cases ry; exact PySem.EqNone.eq_bool_none (fin_bl I q (by simp))
    | bl j => cases ry; exact eq_bool (fin_bl I q dec_bl)
    | str j => obtain ⟨t', rfl⟩ := ry; exact PySem.EqMixed.eq_bool_str (fin_bl I q (by simp))
    | _ => exact absurd (show false = true from hs) Bool.false_ne_true
  | int i =>
    obtain ⟨t, rfl⟩ := rx
    cases y with
    | non => cases ry; exact PySem.EqNone.eq_int_none (fin_bl I q (by simp))
    | int j => obtain ⟨t', rfl⟩ := ry; exact eq_int (fin_bl I q dec_int)
    | str j => obtain ⟨t', rfl⟩ := ry; exact PySem.EqMixed.eq_int_str (fin_bl I q (by simp))
    | _ => exact absurd (show false = true from hs) Bool.false_ne_true
  | str i =>
    obtain ⟨t, rfl⟩ := rx
    cases y with
    | non => cases ry; exact PySem.EqNone.eq_str_none (fin_bl I q (by simp))
    | bl j => cases ry; exact PySem.EqMixed.eq_str_bool (fin_bl I q (by simp))
    | int j => obtain ⟨t', rfl⟩ := ry; exact PySem.EqMixed.eq_str_int (fin_bl I q (by simp))
    | str j => obtain ⟨t', rfl⟩ := ry; exact eq_str (fin_bl I q dec_str)
    | _ => exact absurd (show false = true from hs) Bool.false_ne_true
  | byt i =>
    obtain ⟨t, rfl⟩ := rx
    cases y with
    | byt j => obtain ⟨t', rfl⟩ := ry; exact PySem.W.eq_bytes (fin_bl I q dec_byt)
    | _ => exact absurd (show false = true from hs) Bool.false_ne_true
  | _ => cases y <;> exact absurd (show false = true from hs) Bool.false_ne_true
theorem op_ne : OpR X (compareOp .NotEq) rNe := by
  intro pins s σ H x y v u Q I rx ry h
  obtain ⟨hs, q⟩ := h
  cases x with
  | non =>
    cases rx
    cases y with
    | non => cases ry; exact PySem.EqNone.ne_none_none (fin_bl I q (by simp))
    | bl j => cases ry; exact PySem.EqNone.ne_none_bool (fin_bl I q (by simp))
    | int j => obtain ⟨t', rfl⟩ := ry; exact PySem.EqNone.ne_none_int (fin_bl I q (by simp))
    | str j => obtain ⟨t', rfl⟩ := ry; exact PySem.EqNone.ne_none_str (fin_bl I q (by simp))
    | _ => exact absurd (show false = true from hs) Bool.false_ne_true
  | bl i =>
    cases rx
    cases y with
    | non => cases ry; exact PySem.EqNone.ne_bool_none (fin_bl I q (by simp))
    | bl j => cases ry; exact ne_bool (fin_bl I q (congrArg not dec_bl))
    | str j => obtain ⟨t', rfl⟩ := ry; exact PySem.EqMixed.ne_bool_str (fin_bl I q (by simp))
    | _ => exact absurd (show false = true from hs) Bool.false_ne_true
  | int i =>
    obtain ⟨t, rfl⟩ := rx
    cases y with
    | non => cases ry; exact PySem.EqNone.ne_int_none (fin_bl I q (by simp))
    | int j => obtain ⟨t', rfl⟩ := ry; exact ne_int (fin_bl I q (congrArg not dec_int))
    | str j => obtain ⟨t', rfl⟩ := ry; exact PySem.EqMixed.ne_int_str (fin_bl I q (by simp))
    | _ => exact absurd (show false = true from hs) Bool.false_ne_true
  | str i =>
    obtain ⟨t, rfl⟩ := rx
    cases y with
    | non => cases ry; exact PySem.EqNone.ne_str_none (fin_bl I q (by simp))
    | bl j => cases ry; exact PySem.EqMixed.ne_str_bool (fin_bl I q (by simp))
    | int j => obtain ⟨t', rfl⟩ := ry; exact PySem.EqMixed.ne_str_int (fin_bl I q (by simp))
    | str j => obtain ⟨t', rfl⟩ := ry; exact ne_str (fin_bl I q (congrArg not dec_str))
    | _ => exact absurd (show false = true from hs) Bool.false_ne_true
  | byt i =>
    obtain ⟨t, rfl⟩ := rx
    cases y with
    | byt j => obtain ⟨t', rfl⟩ := ry; exact PySem.W.ne_bytes (fin_bl I q (congrArg not dec_byt))
    | _ => exact absurd (show false = true from hs) Bool.false_ne_true
  | _ => cases y <;> exact absurd (show false = true from hs) Bool.false_ne_true

theorem op_lt : OpR X (compareOp .Lt) (rI0 fun i j => .bl (decide (i < j))) := opB0 fun _ _ _ _ _ _ _ q => lt_int q
theorem op_gt : OpR X (compareOp .Gt) (rI0 fun i j => .bl (decide (j < i))) := opB0 fun _ _ _ _ _ _ _ q => gt_int q
theorem op_ge : OpR X (compareOp .GtE) (rI0 fun i j => .bl (decide (j ≤ i))) := opB0 fun _ _ _ _ _ _ _ q => ge_int q
theorem nomark (b : Expr) {op : CmpOp} (h : op ≠ .In := by decide) (h2 : op ≠ .NotIn := by decide) : behindInMarks op b = false := by
  have e1 : (op == CmpOp.In) = false := by cases op <;> first | rfl | exact absurd rfl h
  have e2 : (op == CmpOp.NotIn) = false := by cases op <;> first | rfl | exact absurd rfl h2
  cases b <;> simp [behindInMarks, e1, e2]
/-- a comparison as a value; hm: nomark b, or (for in, not in) by with_unfolding_all rfl -/
theorem pe_cmpR {op : CmpOp} {r : R2} (ho : OpR X (compareOp op) r) (ha : PE X a ta) (hb : PE X b tb) (hm : behindInMarks op b = false) : PE X (.Compare a [op] [b] pos) (tOp r ta tb) := by
  intro pins s σ H Q I h
  exact wpAny_Compare1 (binT ha hb I h fun v u s2 x y H2 I2 rx ry q => ho pins s2 σ H2 x y v u Q I2 rx ry q) hm
/-- a reading of a value as a test -/
def tTest (t : TE) : TT := fun σ H Q => t σ H fun x H' => ∃ k, x = .bl k ∧ Q k H'
theorem pt_cmpR {op : CmpOp} {r : R2} (ho : OpR X (compareOp op) r) (ha : PE X a ta) (hb : PE X b tb) (hm : behindInMarks op b = false) : PT X (.Compare a [op] [b] pos) (tTest (tOp r ta tb)) := by
  intro pins s σ H Q I h
  refine wpAny_isTrue_Compare1 (thn (ha pins s σ H _ I h) fun v s1 ⟨x, H1, I1, r1, q1⟩ => thn (hb pins s1 σ H1 _ I1 q1) fun u s2 ⟨y, H2, I2, r2, q2⟩ =>
    thn (ho pins s2 σ H2 x y v u _ I2 r1 r2 q2) fun c s3 ⟨z, H3, I3, r3, k, e, q3⟩ => ?_) hm
  subst e
  cases r3
  exact wpAny_truthy_bool ⟨H3, I3, q3⟩
/-! ### truth -/
theorem line63 : (sizeLine : Nat) < 2 ^ 63 := by rw [sizeLine_eq]; decide
/-! ### strs and bytes -/
theorem op_add_str : OpR X (binaryOp .Add) (fun x y H Q => ∃ i j, x = .str i ∧ y = .str j ∧ i.length + j.length ≤ sizeLine ∧ Q (.str (i ++ j)) H) := by
  intro pins s σ H x y v u Q I rx ry h
  obtain ⟨i, j, rfl, rfl, hz, q⟩ := h
  obtain ⟨t, rfl⟩ := rx
  obtain ⟨t', rfl⟩ := ry
  exact add_str (fun t' tk => ⟨.str (i ++ j), H, I.tok _, ⟨_, rfl⟩, q⟩) hz
/-! ### scalar builtins, by CallR -/
theorem vals1 {x : V} {us : List Value} (r : Vals [x] us) : ∃ u, us = [u] ∧ RelV x u := by
  cases r with
  | cons r1 r2 => cases r2; exact ⟨_, rfl, r1⟩
theorem call_abs : CallR X (.builtin "abs") (fun xs H Q => ∃ i, xs = [.int i] ∧ Q (.int (if i < 0 then -i else i)) H) := by
  intro pins s σ H xs us Q I r h
  obtain ⟨i, rfl, q⟩ := h
  obtain ⟨u, rfl, t, rfl⟩ := vals1 r
  exact call_abs_int fun u tk => ⟨.int (if i < 0 then -i else i), H, I.tok _, ⟨_, rfl⟩, q⟩
theorem call_int1 : CallR X (.type "int") (fun xs H Q => (∃ i, xs = [.int i] ∧ Q (.int i) H) ∨ ∃ k, xs = [.bl k] ∧ Q (.int (if k then 1 else 0)) H) := by
  intro pins s σ H xs us Q I r h
  rcases h with ⟨i, rfl, q⟩ | ⟨k, rfl, q⟩
  · obtain ⟨u, rfl, t, rfl⟩ := vals1 r
    exact call_int_int ⟨.int i, H, I, ⟨_, rfl⟩, q⟩
  · obtain ⟨u, rfl, r1⟩ := vals1 r
    cases r1
    exact call_int_bool ⟨.int (if k then 1 else 0), H, I.tok _, ⟨_, rfl⟩, q⟩
theorem call_str_int : CallR X (.type "str") (fun xs H Q => ∃ i, xs = [.int i] ∧ i.natAbs.log2 < 1920 ∧ Q (.str (toString i)) H) := by
  intro pins s σ H xs us Q I r h
  obtain ⟨i, rfl, hz, q⟩ := h
  obtain ⟨u, rfl, t, rfl⟩ := vals1 r
  exact PySem.P.str_of_int hz ⟨.str _, H, I.tok _, ⟨_, rfl⟩, q⟩
end
end L2

namespace L2
open PySem PySem.Spec PyProof.Rows

/-! ### an instance, its attributes a map -/
structure ObjM (h : Heap) (x dx C : Addr) (mA : Str → Option Value) : Prop where
  obj : h.get? x = some (PySem.W.instObj C dx)
  ns : h.Ns1 dx mA
  ne : dx ≠ x

theorem lookIn_ns {h : Heap} {dx : Addr} {mA : Str → Option Value} (n : h.Ns1 dx mA) : ∃ od, h.get? dx = some od ∧ ∀ name, PySem.W.lookIn name od = some (mA name) := by
  obtain ⟨o, es, ep, ho, hd, hk, _, hm⟩ := n
  refine ⟨o, ho, fun name => ?_⟩
  have e := hm name
  unfold nsFind findBy at e
  rw [← Array.find?_toList] at e
  unfold PySem.W.lookIn
  rw [hd]
  dsimp only
  split
  · rename_i y q
    rw [q] at e
    exact congrArg some e
  · rename_i q
    rw [q] at e
    have a : es.toList.any (·.refKey) = false := by
      rw [List.any_eq_false]
      intro y hy
      obtain ⟨z, t, hkey⟩ := hk y (Array.mem_toList_iff.mp hy)
      simp [DictEntry.refKey, hkey]
    have a' : ¬ es.toList.any (·.refKey) = true := by rw [a]; exact Bool.false_ne_true
    rw [if_neg a']
    exact congrArg some e

theorem ObjM.look {h : Heap} {x dx C : Addr} {mA : Str → Option Value} (I : ObjM h x dx C mA) : ∃ od, PySem.W.InstAt h x (PySem.W.instObj C dx) C (some od) ∧ ∀ name, PySem.W.lookIn name od = some (mA name) :=
  let ⟨od, ho, hl⟩ := lookIn_ns I.ns
  ⟨od, ⟨I.obj, rfl, rfl, ho⟩, hl⟩

section
variable {prog : Program} {w : World} {A : Around} {E : Value → Shared → Prop} {s : Shared} {K : PySem.W.Frag} {x dx C f : Addr} {mA : Str → Option Value} {name : Str} {v : Value}

theorem get_meth {pl : Sem Bool} {Q : Value × List Value → Shared → Prop} (X : K.In s.heap) (I : ObjM s.heap x dx C mA) (hg : PySem.W.plainGet K C name = true)
    (hf : PySem.W.findIn K (.ref C) name = some (some (.ref f))) (ht : PySem.W.isFn K (.ref f) = true) (hv : mA name = none) (h : Q (.ref f, [.ref x]) s) :
    wpAny (model prog w) A (getMethod (.ref x) name pl) Q E s := by
  obtain ⟨od, J, hl⟩ := I.look
  exact PySem.W.method_fn X J (PySem.W.plainGet_of hg).1 (PySem.W.plainGet_of hg).2 hf (beq_iff_eq.mp ht) (by show (PySem.W.lookIn name od).map (·.isSome) = some false; rw [hl, hv]; rfl) h

/-- C() where there is no __init__ but object's -/
theorem make_map0 {R : Result → Shared → Prop} (X : K.In s.heap) (hm : PySem.W.makesIn K C = true)
    (hi : PySem.W.findIn K (.ref C) "__init__" = some (some (.builtin "object.__init__")))
    (hb : ∀ self, PySem.W.Looks (model prog w) s.heap (bindSpecial (.builtin "object.__init__") self) (.builtin "object.__init__", [self]))
    (h : codeAny (model prog w) (A.under (.builtin "type.__call__" ⟨[.ref C], []⟩)) (.call (.builtin "object.__init__") ⟨[.ref (s.heap.objs.size + 1)], []⟩) (PySem.W.InitBack (s.heap.objs.size + 1) R)
      { s with heap := (s.heap.push PySem.W.emptyDict).push (PySem.W.instObj C s.heap.objs.size) }) :
    codeAny (model prog w) A (.call (.ref C) ⟨[], []⟩) R s := by
  obtain ⟨hh, g, d, t, os⟩ := s
  exact PySem.W.make_core (PySem.W.makes_of X hm) (PySem.W.looks_findIn X hi) hb (.inr ⟨rfl, rfl⟩) h
end

/-! ### the attributes as a list of pairs -/
theorem RelO.some_of {v : V} {o : Option Value} (r : RelO (some v) o) : ∃ u, o = some u ∧ RelV v u := by
  cases o with
  | none => exact (show False from r).elim
  | some u => exact ⟨u, rfl, r⟩
theorem RelO.none_of {o : Option Value} (r : RelO none o) : o = none := by
  cases o with
  | none => rfl
  | some u => exact (show False from r).elim
section
variable {P : Program} {w : World} {H H' : Hp} {h h' : Heap} {a C dx : Addr} {fs fs' : List (Str × V)}
theorem ins_get (hok : HOk P w H h) (e : H a = some (.ins C dx fs)) : ∃ mA, ObjM h a dx C mA ∧ (∀ f, RelO (fs.lookup f) (mA f)) ∧ PySem.Within mA (fs.map (·.1)) ∧ fs.length ≤ 1000 ∧ H dx = some (.own a) := by
  obtain ⟨d, z, ne, ob, mA, n, r, q⟩ := (show ObjOk P w H h a (.ins C dx fs) from hok a _ e)
  exact ⟨mA, ⟨ob, n, ne⟩, r, q, z, d⟩
end

/-! ### what of the text a class must have -/
structure Cls (K : PySem.W.Frag) (C : Addr) : Prop where
  pg : PySem.W.plainGet K C Str.empty = true
  hd : PySem.W.hasDictIn K C = true
  po : PySem.W.plainOver K C = true
  sa : PySem.W.findIn K (.ref C) "__setattr__" = some (some (.builtin "object.__setattr__"))
theorem Cls.get {K : PySem.W.Frag} {C : Addr} (c : Cls K C) (f : Str) : PySem.W.plainGet K C f = true := c.pg
/-- a method: a plain def of the class or of one above it -/
structure Meth (K : PySem.W.Frag) (C : Addr) (m : Str) (f : Addr) : Prop where
  at_ : PySem.W.findIn K (.ref C) m = some (some (.ref f))
  fn : PySem.W.isFn K (.ref f) = true
  kp : PySem.W.keepIn K (.ref f) = true

section
variable {X : Cx} {pins : List (Addr × Obj)} {σ : St} {H : Hp} {s : Shared} {a C dx : Addr} {fs : List (Str × V)} {f : Str} {v : V} {A : Around} {E : Value → Shared → Prop}

theorem getmeth_ok {m : Str} {g : Addr} {pl : Sem Bool} {Q : Value × List Value → Shared → Prop} (I : Inv X pins σ H s) (e : H a = some (.ins C dx fs)) (c : Cls X.K C) (k : Meth X.K C m g) (l : fs.lookup m = none)
    (h : Q (.ref g, [.ref a]) s) : wpAny (model X.prog X.w) A (getMethod (.ref a) m pl) Q E s := by
  obtain ⟨mA, O, r, _, _, _⟩ := ins_get I.hok e
  have hn : mA m = none := RelO.none_of (by rw [← l]; exact r m)
  exact get_meth I.kIn O (c.get m) k.at_ k.fn hn h

/-- a new instance, tracked, without attributes -/
theorem Inv.made (I : Inv X pins σ H s) : Inv X pins σ (upd (upd H s.heap.objs.size (.own (s.heap.objs.size + 1))) (s.heap.objs.size + 1) (.ins C s.heap.objs.size []))
    { s with heap := (s.heap.push PySem.W.emptyDict).push (PySem.W.instObj C s.heap.objs.size) } := by
  have e1 : (s.heap.push PySem.W.emptyDict).get? s.heap.objs.size = some PySem.W.emptyDict := Heap.get?_push_size s.heap rfl
  have e2 : ((s.heap.push PySem.W.emptyDict).push (PySem.W.instObj C s.heap.objs.size)).get? (s.heap.objs.size + 1) = some (PySem.W.instObj C s.heap.objs.size) := by
    have := Heap.get?_push_size (s.heap.push PySem.W.emptyDict) (o := PySem.W.instObj C s.heap.objs.size) rfl
    rwa [Heap.size_push] at this
  have e3 : (s.heap.push PySem.W.emptyDict).Ns s.heap.objs.size (fun _ => none) := ⟨PySem.W.emptyDict, #[], _, e1, rfl, (fun e he => absurd he (by simp)), fun _ => rfl⟩
  have I1 := I.laid (a := s.heap.objs.size) (o := .own (s.heap.objs.size + 1)) (h' := s.heap.push PySem.W.emptyDict) (t' := s.toks) (fun b u q => Heap.get?_push_of_some _ q) (Nat.le_refl _) ⟨_, e1⟩
  refine I1.laid (a := s.heap.objs.size + 1) (o := .ins C s.heap.objs.size []) (t' := s.toks) (fun b u q => Heap.get?_push_of_some _ q) (Nat.le_of_eq (Heap.size_push _ _)) ?_
  have ne : s.heap.objs.size ≠ s.heap.objs.size + 1 := Nat.ne_of_lt (Nat.lt_succ_self _)
  refine ⟨by rw [upd_ne ne, upd_same], Nat.zero_le _, ne, e2, fun _ => none, (Heap.Ns1.of_empty e3).at fun o q => Heap.get?_push_of_some _ q, fun _ => True.intro, fun y hy => absurd rfl hy⟩

end

/-! ### readings and rules -/
section
variable {X : Cx} {o e value : Expr} {f : Str} {pos pos' tpos : Pos} {ta tv : TE}
end

/-! ### isinstance -/
section
variable {X : Cx} {pins : List (Addr × Obj)} {σ : St} {H : Hp} {s : Shared} {A : Around} {E : Value → Shared → Prop} {Q : Value → Shared → Prop} {c : Value} {b : Bool}
/-- the type of a value, as the fragment's deciders take it; for an instance its class -/
inductive TyOf (K : PySem.W.Frag) (H : Hp) : V → Value → Prop where
  | non : TyOf K H .non (.type "NoneType")
  | bl (x : Bool) : TyOf K H (.bl x) (.type "bool")
  | int (i : Int) : TyOf K H (.int i) (.type "int")
  | str (x : Str) : TyOf K H (.str x) (.type "str")
  | flt (x : UInt64) : TyOf K H (.flt x) (.type "float")
  | lst {a : Addr} {xs : List V} (e : H a = some (.lst xs)) : TyOf K H (.ref a) (.type "list")
  | frz {a : Addr} {o : Obj} {xs : List V} (e : H a = some (.frz o (.lst xs))) : TyOf K H (.ref a) (.type "list")
  | tup {a : Addr} {xs : List V} (e : H a = some (.tup xs)) : TyOf K H (.ref a) (.type "tuple")
  | dK {a : Addr} {kvs : List (Key × V)} (e : H a = some (.dK kvs)) : TyOf K H (.ref a) (.type "dict")
  | dT {a : Addr} {kvs : List (List Key × V)} (e : H a = some (.dT kvs)) : TyOf K H (.ref a) (.type "dict")
  | ins {a C dx : Addr} {fs : List (Str × V)} (e : H a = some (.ins C dx fs)) (cl : Cls K C) (ha : PySem.W.findIn K (.ref C) "__class__" = some (some (.builtin "object.__class__")))
      (hn : PySem.W.specialIn K (.builtin "object.__class__") "__get__" = some (some (.builtin "getset_descriptor.__get__"))) (htk : PySem.W.takesIn K (.builtin "object.__class__") = some true)
      (hm : PySem.W.mroIn K C (.type "object") = some true) : TyOf K H (.ref a) (.ref C)
/-- isinstance(x, c) for one class c, a built-in or an own one: kitOne's answer -/
theorem isinst_ok {x : V} {u t : Value} (I : Inv X pins σ H s) (rx : RelV x u) (ty : TyOf X.K H x t) (e : PySem.W.kitOne X.K t c = some b) (h : ∀ tk, Q (.bool b) { s with toks := tk }) :
    wpAny (model X.prog X.w) A (call (.builtin "isinstance") [u, c]) Q E s := by
  cases ty with
  | non => cases (show u = Value.none from rx); exact PySem.W.kia_one PySem.W.kitx_none I.kIn True.intro e (fun z => nomatch z) h
  | bl y => cases (show u = Value.bool y from rx); exact PySem.W.kia_one PySem.W.kitx_bool I.kIn True.intro e (fun z => nomatch z) h
  | int i => obtain ⟨t, q⟩ := (show ∃ t, u = Value.int i t from rx); cases q; exact PySem.W.kia_one PySem.W.kitx_int I.kIn True.intro e (fun z => nomatch z) h
  | str y => obtain ⟨t, q⟩ := (show ∃ t, u = Value.str y t from rx); cases q; exact PySem.W.kia_one PySem.W.kitx_str I.kIn True.intro e (fun z => nomatch z) h
  | flt y => obtain ⟨t, q⟩ := (show ∃ t, u = Value.float y t from rx); cases q; exact PySem.W.kia_one PySem.W.kitx_float I.kIn True.intro e (fun z => nomatch z) h
  | @lst a xs ea =>
    cases (show u = Value.ref a from rx)
    obtain ⟨_, _, n, _, h1⟩ := (show ObjOk X.prog X.w H s.heap a (.lst xs) from I.hok a _ ea)
    exact PySem.W.kia_one PySem.W.kitx_list I.kIn ⟨_, h1, rfl⟩ e (fun z => nomatch z) h
  | @frz a ob xs ea =>
    cases (show u = Value.ref a from rx)
    obtain ⟨_, _, _, n, _, h1⟩ := (show ObjOk X.prog X.w H s.heap a (.frz ob (.lst xs)) from I.hok a _ ea)
    exact PySem.W.kia_one PySem.W.kitx_list I.kIn ⟨_, h1, rfl⟩ e (fun z => nomatch z) h
  | @tup a xs ea =>
    cases (show u = Value.ref a from rx)
    obtain ⟨_, _, _, p⟩ := (show ObjOk X.prog X.w H s.heap a (.tup xs) from I.hok a _ ea)
    obtain ⟨o, h1, h2, _⟩ := p
    exact PySem.W.kia_one PySem.W.kitx_tuple I.kIn ⟨o, h1, h2⟩ e (fun z => nomatch z) h
  | @dK a kvs ea =>
    cases (show u = Value.ref a from rx)
    obtain ⟨_, _, vs, _, p⟩ := (show ObjOk X.prog X.w H s.heap a (.dK kvs) from I.hok a _ ea)
    obtain ⟨o, es, ep, h1, h2, _⟩ := p
    exact PySem.W.kia_one PySem.W.kitx_dict I.kIn ⟨o, h1, h2.1⟩ e (fun z => nomatch z) h
  | @dT a kvs ea =>
    cases (show u = Value.ref a from rx)
    obtain ⟨_, _, xs, _, o, es, ep, h1, h2, _⟩ := (show ObjOk X.prog X.w H s.heap a (.dT kvs) from I.hok a _ ea)
    exact PySem.W.kia_one PySem.W.kitx_dict I.kIn ⟨o, h1, h2.1⟩ e (fun z => nomatch z) h
  | @ins a C dx fs ea cl ha hn htk hm =>
    cases (show u = Value.ref a from rx)
    obtain ⟨mA, O, _⟩ := ins_get I.hok ea
    obtain ⟨od, J, _⟩ := O.look
    exact PySem.W.kia_one (PySem.W.kitx_own (cl.get _) cl.hd ha hn htk hm) I.kIn J e (fun z => nomatch z) h
end
end L2

namespace L2
open PySem PySem.Spec PyProof.Rows

/-! ### room -/
structure Room (k : Nat) (A : Around) : Prop where
  hd : A.handled = none
  dp : A.depth + 3 * k + 5 < recursionLimit
  un : A.units + 16 * k + 200 < cLine
  gd : A.guards = some []
theorem Room.mono {j k : Nat} {A : Around} (r : Room k A) (h : j ≤ k) : Room j A := ⟨r.hd, by have := r.dp; omega, by have := r.un; omega, r.gd⟩
theorem Room.deeper {k : Nat} {A : Around} (r : Room (k + 1) A) (env : Env) : Room k (A.deeper env) :=
  ⟨r.hd, by have := r.dp; show A.depth + 1 + 3 * k + 5 < _; omega, by have := r.un; show A.units + 3 + 16 * k + 200 < _; omega, r.gd⟩
theorem Room.depth {k : Nat} {A : Around} (r : Room k A) : A.depth < recursionLimit := by have := r.dp; omega
theorem Room.units {k : Nat} {A : Around} (r : Room k A) : A.units + 64 < cLine := by have := r.un; omega
/-! ### argument lists and displays -/
def tNil : TA := fun _ H Q => Q [] H
def tCons (ta : TE) (tr : TA) : TA := fun σ H Q => ta σ H fun x H1 => tr σ H1 fun xs H2 => Q (x :: xs) H2
section
variable {X : Cx} {e : Expr} {es : List Expr} {te : TE} {t : TA} {pos : Pos}
theorem pa_nil : PA X [] tNil := fun _ _ _ _ H Q I h => Calls.spliced_nil ⟨[], H, I, .nil, h⟩
theorem pa_cons (ha : PE X e te) (hr : PA X es t) (hs : starEach (e :: es) X.env = (false, eval e X.env) :: starEach es X.env := by rfl) : PA X (e :: es) (tCons te t) := by
  intro pos pins s σ H Q I h
  rw [hs]
  show wpAny _ _ (spliced ((false, eval e X.env) :: backTo pos (starEach es X.env))) _ _ s
  refine Calls.spliced_cons (thn (ha pins s σ H _ I h) fun u s1 ⟨x, H1, I1, r1, q1⟩ => ?_)
  exact thn (hr pos pins s1 σ H1 _ I1 q1) fun us s2 ⟨xs, H2, I2, r2, q2⟩ => ⟨x :: xs, H2, I2, .cons r1 r2, q2⟩

/-- a tuple, a list of written items -/
def tTup (t : TA) : TE := fun σ H Q => t σ H fun xs H1 => xs.length ≤ sizeLine ∧ ∀ p, H1 p = none → Q (.ref p) (upd H1 p (.tup xs))
def tLst (t : TA) : TE := fun σ H Q => t σ H fun xs H1 => xs.length ≤ sizeLine ∧ ∀ p, H1 p = none → Q (.ref p) (upd H1 p (.lst xs))
theorem pe_tup {x1} (h : PA X es t) : PE X (.Tuple es x1 pos) (tTup t) := by
  intro pins s σ H Q I hq
  refine wpAny_Tuple_spliced (thn (h pos pins s σ H _ I hq) fun us s1 ⟨xs, H1, I1, r, z, q⟩ => ⟨by rw [← r.length]; exact z, ?_⟩)
  have hf : H1 s1.heap.objs.size = none := I1.hok.fresh (Nat.le_refl _)
  refine ⟨.ref s1.heap.objs.size, upd H1 s1.heap.objs.size (.tup xs), I1.laid (t' := s1.toks) (fun b u e => Heap.get?_push_of_some _ e) (Nat.le_refl _) ?_, rfl, q _ hf⟩
  exact ⟨z, us, r, ⟨_, Heap.get?_push_size _ rfl, rfl, _, rfl⟩⟩
theorem pe_lst (h : PA X es t) : PE X (.List es pos) (tLst t) := by
  intro pins s σ H Q I hq
  refine wpAny_List_spliced (thn (h pos pins s σ H _ I hq) fun us s1 ⟨xs, H1, I1, r, z, q⟩ => ⟨by rw [← r.length]; exact z, ?_⟩)
  have hf : H1 s1.heap.objs.size = none := I1.hok.fresh (Nat.le_refl _)
  refine ⟨.ref s1.heap.objs.size, upd H1 s1.heap.objs.size (.lst xs), I1.laid (t' := s1.toks) (fun b u e => Heap.get?_push_of_some _ e) (Nat.le_refl _) ?_, rfl, q _ hf⟩
  exact ⟨z, us, 0, r, Heap.get?_push_size _ rfl⟩
end

/-! ### what a def promises -/
/-- a def's promise: the bound arguments in the parameters' order, the heap, the wanted end, the wanted exception -/
abbrev Sp := List V → Hp → VK → XK → Prop
/-- how an exception lies behind a call (file 08 gives it): the callers' frames, abstract heap and state ahead of the call, the wish, the exception, the state -/
abbrev CXT := List Env → Hp → Shared → XK → Value → Shared → Prop

/-- the state at a call -/
structure Env0 (P : Program) (w : World) (K : PySem.W.Frag) (mg : Str → Option Value) (base : Heap) (A : Around) (outer : List Env) (s : Shared) (H : Hp) : Prop where
  frames : A.frames = some outer
  mod : Mod K mg base
  bs : ∀ b o, base.get? b = some o → s.heap.get? b = some o ∧ H b = none
  bsz : base.objs.size ≤ s.heap.objs.size
  funs : s.heap.FunFrames base outer
  frf : ∀ b ∈ frs outer, H b = none
  hok : HOk P w H s.heap
  bare : AllBare s.gens
/-- a call's end -/
def CE (outer : List Env) (P : Program) (w : World) (H : Hp) (s : Shared) (Q : VK) (u : Value) (s' : Shared) : Prop :=
  ∃ v H', s'.os = s.os ∧ AllBare s'.gens ∧ Un (frs outer) [] H H' s.heap s'.heap ∧ HOk P w H' s'.heap ∧ RelV v u ∧ Q v H'
def CR (CX : CXT) (outer : List Env) (P : Program) (w : World) (H : Hp) (s : Shared) (Q : VK) (E : XK) (r : Result) (s' : Shared) : Prop :=
  match r with
  | .ok (.ret u) => CE outer P w H s Q u s'
  | .ok _ => False
  | .error e => CX outer H s E e s'
structure FnOk (P : Program) (w : World) (K : PySem.W.Frag) (mg : Str → Option Value) (base : Heap) (CX : CXT) (k : Nat) (f : Addr) (fd : FuncData) (ps : List Str) (sp : Sp) : Prop where
  len : ∀ vs H Q E, sp vs H Q E → vs.length = ps.length
  run : ∀ (A : Around) (outer : List Env) (s : Shared) (H : Hp) (args : Args) (us : List Value) (vs : List V) (Q : VK) (E : XK), Room k A → Env0 P w K mg base A outer s H → BindsTo s fd args (ps.zip us) → Vals vs us → sp vs H Q E →
    codeAny (model P w) A (.call (.ref f) args) (CR CX outer P w H s Q E) s
section
variable {X : Cx} {pins : List (Addr × Obj)} {σ : St} {H : Hp} {s s' : Shared}
/-- from a body: what a callee wants -/
theorem Inv.env0 (I : Inv X pins σ H s) : Env0 X.prog X.w X.K X.mg X.base X.A X.stack s H :=
  ⟨I.ok.frames, I.ok.mod, I.bs, Nat.le_trans I.ok.bsz I.sz, I.stack, I.stkFree, I.hok, I.bare⟩
/-- behind a call -/
theorem Inv.after {Q : VK} {u : Value} (I : Inv X pins σ H s) (h : CE X.stack X.prog X.w H s Q u s') : EP X pins σ Q u s' := by
  obtain ⟨v, H', os, bare, un, hok, r, q⟩ := h
  obtain ⟨hh, g, d, t, os'⟩ := s'
  obtain rfl : os' = s.os := os
  exact ⟨v, H', I.call (h' := hh) (g' := g) (d' := d) (t' := t) (ch := []) un hok bare (fun b z => absurd z (by simp)), r, q⟩
end

/-! ### calls -/
/-- f(..): the written arguments, then the defaults dvs; E: what is wanted of an exception -/
def tCall (sp : Sp) (dvs : List V) (E : XK) (t : TA) : TE := fun σ H Q => t σ H fun vs H1 => sp (vs ++ dvs) H1 Q E
/-- o.m(..) of an instance of the class at C -/
def tMeth (C : Addr) (m : Str) (sp : Sp) (dvs : List V) (E : XK) (ta : TE) (t : TA) : TE := fun σ H Q => ta σ H fun x H1 => ∃ a dx fs, x = .ref a ∧ H1 a = some (.ins C dx fs) ∧ fs.lookup m = none ∧
  t σ H1 fun vs H2 => sp (x :: (vs ++ dvs)) H2 Q E
/-- how the parameters are bound: us the positional arguments, kw the keywords' values by name, ds the defaults that fill up -/
def Binds (K : PySem.W.Frag) (fd : FuncData) (ps : List Str) (ds : List Value) : Prop :=
  ∀ (s : Shared) (us : List Value), K.In s.heap → (us ++ ds).length = ps.length → BindsTo s fd ⟨us, []⟩ (ps.zip (us ++ ds))
/-- every parameter is given -/
theorem Binds.all {K : PySem.W.Frag} {fd : FuncData} {ps : List Str} (h : ∀ us : List Value, us.length = ps.length → bindArgs fd ⟨us, []⟩ = pure (ps.zip us)) : Binds K fd ps [] := fun s us _ hl => by
  rw [List.append_nil] at hl ⊢
  exact .of_eq (h us hl)

/-- an exception of a callee reaches what this body wants of exceptions -/
def Passes (CX : CXT) (X : Cx) (E : XK) : Prop := ∀ (pins : List (Addr × Obj)) (σ : St) (H : Hp) (s : Shared) (e : Value) (s' : Shared), Inv X pins σ H s → CX X.stack H s E e s' → X.xe e s'

section
variable {X : Cx} {CX : CXT} {k : Nat} {f C : Addr} {fd : FuncData} {ps : List Str} {sp : Sp} {dvs : List V} {ds : List Value} {E : XK} {x m : Str} {p pos apos : Pos} {e o : Expr} {es : List Expr} {ta : TE} {t : TA}

/-- the callee runs -/
theorem run_fn {pins : List (Addr × Obj)} {σ : St} {H : Hp} {s : Shared} {Q : VK} {us : List Value} {vs : List V} (F : FnOk X.prog X.w X.K X.mg X.base CX k f fd ps sp) (hr : Room k X.A) (hb : Binds X.K fd ps ds) (hd : Vals dvs ds) (hx : Passes CX X E)
    (I : Inv X pins σ H s) (r : Vals vs us) (h : sp (vs ++ dvs) H Q E) : wpAny (model X.prog X.w) X.A (call (.ref f) us) (EP X pins σ Q) X.xe s := by
  have r2 : Vals (vs ++ dvs) (us ++ ds) := r.append hd
  have hl : (us ++ ds).length = ps.length := by rw [← r2.length]; exact F.len _ _ _ _ h
  refine wpAny_call (codeAny_mono (F.run X.A X.stack s H ⟨us, []⟩ (us ++ ds) (vs ++ dvs) Q E hr I.env0 (hb s us I.kIn hl) r2 h) fun r s' hq => ?_)
  cases r with
  | error e => exact hx pins σ H s e s' I hq
  | ok fl =>
    cases fl with
    | ret u => exact I.after hq
    | next => exact False.elim hq
    | brk => exact False.elim hq
    | cont => exact False.elim hq

theorem pe_call (F : FnOk X.prog X.w X.K X.mg X.base CX k f fd ps sp) (hr : Room k X.A) (hg : Gl X x) (hm : X.mg x = some (.ref f)) (hk : PySem.W.keepIn X.K (.ref f) = true) (hb : Binds X.K fd ps ds) (hd : Vals dvs ds) (hx : Passes CX X E)
    (ha : PA X (e :: es) t) (hdb : (x == ("__debug__" : Str)) = false := by decide) (he : starEach (e :: es) X.env = (false, eval e X.env) :: starEach es X.env := by rfl) (hpl : (backTo pos (starEach es X.env)).any (·.1) = false := by rfl) :
    PE X (.Call (.Name x p) (e :: es) [] pos) (tCall sp dvs E t) := by
  intro pins s σ H Q I h
  refine wpAny_Call_Name_kw (ld_glob I hg hm ?_ hdb)
  refine PySem.W.callWith_K (h₀ := X.base) I.ok.mod.kin hk (thn (ha pos pins s σ H _ I h) fun us s1 ⟨vs, H1, I1, r, q⟩ => ⟨I1.kIn, ?_⟩) he hpl
  exact run_fn F hr hb hd hx I1 r q
/-- o.m(e, ..) -/
theorem pe_meth {pl : Sem Bool} (he : PE X o ta) (c : Cls X.K C) (hm : Meth X.K C m f) (F : FnOk X.prog X.w X.K X.mg X.base CX k f fd ps sp) (hr : Room k X.A) (hb : Binds X.K fd ps ds) (hd : Vals dvs ds) (hx : Passes CX X E) (ha : PA X (e :: es) t)
    (hst : starEach (e :: es) X.env = (false, eval e X.env) :: starEach es X.env := by rfl) (hpl : (backTo pos (starEach es X.env)).any (·.1) = false := by rfl)
    (ht : eval (.Call (.Attribute o m apos) (e :: es) [] pos) X.env = (do
      let ov ← eval o X.env
      standAt apos.atName
      let (f, first) ← holding [ov] (getMethod ov m pl)
      callWith pos f first (backTo pos (starEach (e :: es) X.env)) (backToKw pos (keywordEach [] X.env))) := by rfl) :
    PE X (.Call (.Attribute o m apos) (e :: es) [] pos) (tMeth C m sp dvs E ta t) := by
  intro pins s σ H Q I h
  refine PySem.W.methodCall_KW (pl := pl) (thn (he pins s σ H _ I h) fun u s1 ⟨x, H1, I1, rx, a, dx, fs, ex, ea, l, q⟩ => ?_) ht
  subst ex
  obtain rfl : u = Value.ref a := rx
  refine getmeth_ok I1 ea c hm l ?_
  refine PySem.W.callWith_K (first := [.ref a]) (h₀ := X.base) I.ok.mod.kin hm.kp (thn (ha pos pins s1 σ H1 _ I1 q) fun us s2 ⟨vs, H2, I2, r, q2⟩ => ⟨I2.kIn, ?_⟩) hst hpl
  exact run_fn (us := .ref a :: us) (vs := .ref a :: vs) F hr hb hd hx I2 (.cons rfl r) q2
end

/-! ### keywords -/
section
variable {X : Cx} {CX : CXT} {k : Nat} {f C : Addr} {fd : FuncData} {ps ks : List Str} {sp : Sp} {E : XK} {x m : Str} {p pos apos kpos : Pos} {e o : Expr} {es : List Expr} {kws : List Keyword} {te ta : TE} {t tk : TA} {nm : Option Str}
variable {g : List Value → List Value → List Value} {gV : List V → List V → List V}
end

/-! ### a def's body keeps its promise -/
/-- names: the parameters first -/
structure FnScope (N P : List Str) (sc : Scope) : Prop where
  kind : sc.kind = .function
  co : sc.isCoroutine = false
  gen : sc.isGenerator = false
  nd : N.Nodup
  pre : N.take P.length = P
  par : ∀ x ∈ P, sc.names.lookup x = some .local ∨ sc.names.lookup x = some .cell
  nofree : ∀ y ∈ sc.names, y.2 ≠ .free

theorem bindL_out {kindOf : Str → Option NameKind} {x : Str} : ∀ {binds : List (Str × Value)} {m : Str → Option Value}, (∀ v, (x, v) ∉ binds) → bindL kindOf binds m x = m x
  | [], _, _ => rfl
  | (n, v) :: r, m, h => by
    unfold bindL
    rw [bindL_out fun w hw => h w (List.mem_cons_of_mem _ hw)]
    split
    · have : x ≠ n := by rintro rfl; exact h v List.mem_cons_self
      simp [this]
    · rfl
theorem bindC_out {kindOf : Str → Option NameKind} {x : Str} : ∀ {binds : List (Str × Value)} {m : Str → Option Value}, (∀ v, (x, v) ∉ binds) → bindC kindOf binds m x = m x
  | [], _, _ => rfl
  | (n, v) :: r, m, h => by
    unfold bindC
    rw [bindC_out fun w hw => h w (List.mem_cons_of_mem _ hw)]
    split
    · rfl
    · have : x ≠ n := by rintro rfl; exact h v List.mem_cons_self
      simp [this]
theorem bindL_get {kindOf : Str → Option NameKind} {x : Str} {v : Value} : ∀ {P : List Str} {vs : List Value} {i : Nat} {m : Str → Option Value}, P.Nodup → P[i]? = some x → vs[i]? = some v → kindOf x = some .local →
    bindL kindOf (P.zip vs) m x = some v
  | [], _, _, _, _, h, _, _ => by simp at h
  | _ :: _, [], _, _, _, _, h, _ => by simp at h
  | p :: P, w :: vs, 0, m, nd, h1, h2, hk => by
    simp at h1 h2; subst h1; subst h2
    show bindL kindOf ((p, w) :: P.zip vs) m p = _
    unfold bindL
    rw [bindL_out fun v hv => (List.nodup_cons.mp nd).1 (List.of_mem_zip hv).1, if_pos hk]
    simp
  | p :: P, w :: vs, i + 1, m, nd, h1, h2, hk => by
    show bindL kindOf ((p, w) :: P.zip vs) m x = _
    unfold bindL
    exact bindL_get (i := i) (List.nodup_cons.mp nd).2 (by simpa using h1) (by simpa using h2) hk
theorem bindC_get {kindOf : Str → Option NameKind} {x : Str} {v : Value} : ∀ {P : List Str} {vs : List Value} {i : Nat} {m : Str → Option Value}, P.Nodup → P[i]? = some x → vs[i]? = some v → kindOf x ≠ some .local →
    bindC kindOf (P.zip vs) m x = some v
  | [], _, _, _, _, h, _, _ => by simp at h
  | _ :: _, [], _, _, _, _, h, _ => by simp at h
  | p :: P, w :: vs, 0, m, nd, h1, h2, hk => by
    simp at h1 h2; subst h1; subst h2
    show bindC kindOf ((p, w) :: P.zip vs) m p = _
    unfold bindC
    rw [bindC_out fun v hv => (List.nodup_cons.mp nd).1 (List.of_mem_zip hv).1, if_neg hk]
    simp
  | p :: P, w :: vs, i + 1, m, nd, h1, h2, hk => by
    show bindC kindOf ((p, w) :: P.zip vs) m x = _
    unfold bindC
    exact bindC_get (i := i) (List.nodup_cons.mp nd).2 (by simpa using h1) (by simpa using h2) hk

/-- the names' values at the entry -/
def start (N : List Str) (vs : List V) : St := vs.map some ++ List.replicate (N.length - vs.length) none

/-- the context of a def's body, at its entry; an exception leaves the frame, then lies as CX says -/
def cxOf (CX : CXT) (P : Program) (w : World) (K : PySem.W.Frag) (mg : Str → Option Value) (base : Heap) (N : List Str) (qual : Str) (scope : Scope) (f : Addr) (cd : Value) (A : Around) (outer : List Env) (s : Shared) (H : Hp) (E : XK) : Cx where
  prog := P
  w := w
  K := K
  mg := mg
  base := base
  A := A.deeper (envOfC qual scope s.heap.objs.size f cd)
  N := N
  s₀ := s
  H₀ := H
  env := envOfC qual scope s.heap.objs.size f cd
  outer := outer
  stack := envOfC qual scope s.heap.objs.size f cd :: outer
  ex := []
  calm := true
  fn := fun _ => true
  pn := []
  xe := fun e s' => wpAny (model P w) (A.deeper (envOfC qual scope s.heap.objs.size f cd)) (leaving (envOfC qual scope s.heap.objs.size f cd) e) (fun _ s'' => CX outer H s E e s'') (fun e' s'' => CX outer H s E e' s'') s'

theorem cell_has {sc : Scope} {n : Nat} {x : Str} (h : sc.names.lookup x = some .cell) : ∃ c, (cellsFrom n sc.names []).lookup x = some c := by
  have q := PySem.W.cellsFrom_some sc.names n [] (.inl h)
  exact Option.isSome_iff_exists.mp q

theorem inv_start {CX : CXT} {P : Program} {w : World} {K : PySem.W.Frag} {mg : Str → Option Value} {base : Heap} {N ps : List Str} {qual : Str} {scope : Scope} {f : Addr} {cd : Value} {A : Around} {outer : List Env} {s s1 : Shared} {H : Hp} {E : XK} {us : List Value} {vs : List V}
    (S : FnScope N ps scope) (hd : A.handled = none) (e0 : Env0 P w K mg base A outer s H) (hl : vs.length = ps.length) (r : Vals vs us)
    (x : InCallC s s.heap.objs.size (bindL (envOfC qual scope s.heap.objs.size f cd).kindOf (ps.zip us) fun _ => none) (cellsFrom (s.heap.objs.size + 1) scope.names []) (bindC (envOfC qual scope s.heap.objs.size f cd).kindOf (ps.zip us) fun _ => none) s1) :
    Inv (cxOf CX P w K mg base N qual scope f cd A outer s H E) [] (start N vs) H s1 := by
  have hpl : ps.length ≤ N.length := by have := congrArg List.length S.pre; rw [List.length_take] at this; omega
  obtain ⟨h1, tk, rfl, hk⟩ := x.done
  have noA : ∀ b : Addr, b ∉ (cxOf CX P w K mg base N qual scope f cd A outer s H E).ex := fun b z => absurd (show b ∈ ([] : List Addr) from z) (by simp)
  refine ⟨⟨e0.mod, S.kind, rfl, rfl, Nat.le_refl _, fun y z c h1 h2 => ?_, fun y hy => ?_, fun y c _ h => ?_, fun _ => hd, Around.frames_deeper e0.frames, .inr ⟨rfl, rfl⟩, fun b z => absurd z (noA b), e0.bs, e0.bsz, fun b _ _ => noA b, fun b z => absurd z (noA b), e0.funs, e0.frf⟩,
    rfl, e0.bare, Un.kept hk, ⟨_, x.toInCall.ns, fun i y v h1 h2 h3 => ?_⟩, fun y c h => ⟨_, x.cell y c h⟩, e0.hok.fresh (Nat.le_refl _), fun y c h => ?_, fun p hp => absurd (show p ∈ ([] : List (Addr × Obj)) from hp) (by simp), e0.hok.kept hk, ?_⟩
  · exact name_of_addr x.apart (PySem.mem_of_lookup h1) (PySem.mem_of_lookup h2)
  · have hy : scope.names.lookup y = some .cell ∨ scope.names.lookup y = some .free := hy
    rcases hy with hy | hy
    · exact cell_has hy
    · exact absurd rfl (S.nofree _ (PySem.mem_of_lookup hy))
  · exact Nat.le_of_lt (x.above y c (PySem.mem_of_lookup h))
  · have hi : i < vs.length := by
      unfold start at h2
      by_cases hi : i < vs.length
      · exact hi
      · rw [List.getElem?_append_right (by simpa using hi)] at h2
        rw [List.getElem?_replicate] at h2
        split at h2 <;> cases h2
    have ha : vs[i]? = some v := by
      unfold start at h2
      rw [List.getElem?_append_left (by simpa using hi), List.getElem?_map] at h2
      cases e : vs[i]? with
      | none => rw [e] at h2; cases h2
      | some a => rw [e] at h2; cases h2; rfl
    obtain ⟨u, hu, rv⟩ := r.get ha
    have hp : ps[i]? = some y := by
      rw [← S.pre, List.getElem?_take_of_lt (by omega)]; exact h1
    have ndP : ps.Nodup := by rw [← S.pre]; exact S.nd.sublist (List.take_sublist _ _)
    refine ⟨u, rv, ?_⟩
    rcases S.par y (List.mem_of_getElem? hp) with k | k
    · exact .inl ⟨k, bindL_get ndP hp hu k⟩
    · obtain ⟨c, e⟩ := cell_has (n := s.heap.objs.size + 1) k
      refine .inr ⟨.inl k, c, e, ?_⟩
      have q := x.cell y c e
      rw [bindC_get ndP hp hu (by show scope.names.lookup y ≠ _; rw [k]; decide)] at q
      exact q
  · exact e0.hok.fresh (Nat.le_of_lt (x.above y c (PySem.mem_of_lookup h)))
  · unfold start
    show _ = N.length
    rw [List.length_append, List.length_map, List.length_replicate]
    omega

/-- THE RULE: a def (or a method) of the text, by its body. The body's reading t is chosen for each entry; it is run at the parameters' values -/
theorem fn_of {CX : CXT} {P : Program} {w : World} {K : PySem.W.Frag} {mg : Str → Option Value} {base : Heap} {k : Nat} {f : Addr} {name qual : Str} {params : Arguments} {body : List Stmt} {scope : Scope} {dV kV doc pm cdv ct oc : Value} {an od : Option Addr}
    {osl : Array (Option Value)} {N ps : List Str} {sp : Sp} (lk : K.lookup f = some ⟨oc, od, .func (PySem.W.fnOf name qual params body scope dV kV doc pm an cdv ct), osl⟩) (hcd : PySem.W.codeIn K cdv qual = true) (S : FnScope N ps scope)
    (len : ∀ vs H Q E, sp vs H Q E → vs.length = ps.length)
    (hbody : ∀ (A : Around) (outer : List Env) (s : Shared) (H : Hp) (vs : List V) (Q : VK) (E : XK), Room k (A.deeper (envOfC qual scope s.heap.objs.size f cdv)) → sp vs H Q E →
      ∃ t, PSs (cxOf CX P w K mg base N qual scope f cdv A outer s H E) body t ∧ t { nx := fun _ H' => Q .non H', rt := Q } (start N vs) H) :
    FnOk P w K mg base CX (k + 1) f (PySem.W.fnOf name qual params body scope dV kV doc pm an cdv ct) ps sp := by
  refine ⟨len, fun A outer s H args us vs Q E hr e0 hb r hsp => ?_⟩
  have hl := len _ _ _ _ hsp
  have KX : K.In s.heap := e0.mod.kin.keeps fun b o e => (e0.bs b o e).1
  have lim : s.heap.NoLimit := e0.mod.nolimit.keeps fun b o e => (e0.bs b o e).1
  have hkind : ∀ y ∈ ps.zip us, scope.names.lookup y.1 = some .local ∨ (scope.names.lookup y.1 = some .cell ∧ ((cellsFrom (s.heap.objs.size + 1) scope.names []).lookup y.1).isSome = true) := fun ⟨n, v⟩ hy => by
    rcases S.par n (List.of_mem_zip hy).1 with q | q
    · exact .inl q
    · exact .inr ⟨q, PySem.W.cellsFrom_some _ _ _ (.inl q)⟩
  refine codeAny_call_function hr.depth (KX _ _ lk) rfl S.co S.gen rfl (PySem.W.codeRec_of KX hcd) (hb _ _ _ _ ?_)
  refine wpAny_newFunctionEnv_cells S.kind hkind fun env he s1 x => ?_
  subst he
  refine ⟨lim.keeps x.toInCall.keep, codeAny_func ?_⟩
  obtain ⟨t, ht, hq⟩ := hbody A outer s H vs Q E (hr.deeper _) hsp
  have I : Inv (cxOf CX P w K mg base N qual scope f cdv A outer s H E) [] (start N vs) H s1 := inv_start S hr.hd e0 hl r x
  refine wpAny_mono (ht [] s1 (start N vs) H _ I hq) (fun fl s' hs => ?_) fun e s' hs => hs
  have fin : ∀ {σ' : St} {H' : Hp} {v : V} {u : Value}, Inv (cxOf CX P w K mg base N qual scope f cdv A outer s H E) [] σ' H' s' → RelV v u → Q v H' → CE outer P w H s Q u s' :=
    fun {σ' H' v u} J rv q => ⟨v, H', J.os, J.bare, J.base, J.hok, rv, q⟩
  cases fl with
  | ret u =>
    obtain ⟨v, σ', H', J, rv, q⟩ := hs
    exact fin J rv q
  | next =>
    obtain ⟨σ', H', J, q⟩ := hs
    exact fin (v := V.non) (u := Value.none) J rfl q
  | brk =>
    obtain ⟨_, _, _, q⟩ := hs
    exact False.elim q
  | cont =>
    obtain ⟨_, _, _, q⟩ := hs
    exact False.elim q
end L2

namespace L2
open PySem PySem.Spec PyProof.Rows
section
variable {X : Cx} {x : Str} {p pos : Pos} {e : Expr} {es : List Expr} {t : TA} {id T : String} {r : List V → Hp → VK → Prop}

def tCB (r : List V → Hp → VK → Prop) (t : TA) : TE := fun σ H Q => t σ H fun vs H1 => r vs H1 Q
/-- f(e, ..), f a built-in function -/
theorem pe_callB (hc : CallR X (.builtin id) r) (hg : Gl X x) (hm : X.mg x = none) (hv : bootBuiltins x = some (.builtin id)) (ha : PA X (e :: es) t) (hn : x ≠ "__name__" := by decide) (hdb : (x == ("__debug__" : Str)) = false := by decide)
    (he : starEach (e :: es) X.env = (false, eval e X.env) :: starEach es X.env := by rfl) (hpl : (backTo pos (starEach es X.env)).any (·.1) = false := by rfl) : PE X (.Call (.Name x p) (e :: es) [] pos) (tCB r t) := by
  intro pins s σ H Q I h
  refine wpAny_Call_Name_kw (ld_blt I hg hm hv ?_ hn hdb)
  exact PyProof.Rows.callWith_builtin1 (thn (ha pos pins s σ H _ I h) fun us s1 ⟨vs, H1, I1, r1, q1⟩ => hc pins s1 σ H1 vs us Q I1 r1 q1) he hpl
/-- T(e, ..), T a built-in type -/
theorem pe_callTy (hc : CallR X (.type T) r) (hg : Gl X x) (hm : X.mg x = none) (hv : bootBuiltins x = some (.type T)) (ha : PA X (e :: es) t) (hn : x ≠ "__name__" := by decide) (hdb : (x == ("__debug__" : Str)) = false := by decide)
    (he : starEach (e :: es) X.env = (false, eval e X.env) :: starEach es X.env := by rfl) (hpl : (backTo pos (starEach es X.env)).any (·.1) = false := by rfl) : PE X (.Call (.Name x p) (e :: es) [] pos) (tCB r t) := by
  intro pins s σ H Q I h
  refine wpAny_Call_Name_kw (ld_blt I hg hm hv ?_ hn hdb)
  exact PyProof.Rows.callWith_type1 (thn (ha pos pins s σ H _ I h) fun us s1 ⟨vs, H1, I1, r1, q1⟩ => hc pins s1 σ H1 vs us Q I1 r1 q1) he hpl
end
end L2

namespace HT
open PySem PyProof.Rows

section
open PySem.SeqAt
open PySem.AutoSeq1 (wpAny_loadPart')
open PySem.MeetsSeq PySem.MeetsSeq2 PySem.MeetsSeq3

end

section
variable {prog : Program} {w : World} {A : Around} {E : Value → Shared → Prop} {s : Shared}

/-! ### t[a:b], not the whole -/
end
end HT

namespace L2
open PySem PySem.Spec PyProof.Rows

/-! ### the parts of a slice -/
abbrev TO := St → Hp → (Option Int → Hp → Prop) → Prop
/-- a slice's part (left out, or an int) -/
def PO (X : Cx) (e : Option Expr) (t : TO) : Prop :=
  ∀ (pins : List (Addr × Obj)) (s : Shared) (σ : St) (H : Hp) (Q : Option Int → Hp → Prop), Inv X pins σ H s → t σ H Q →
    wpAny (model X.prog X.w) X.A (evalPart e X.env) (fun u s' => ∃ o H', Inv X pins σ H' s' ∧ IsPart u o ∧ Q o H') X.xe s
def tNoPart : TO := fun _ H Q => Q none H
def tPart (t : TE) : TO := fun σ H Q => t σ H fun x H1 => ∃ i, x = .int i ∧ Q (some i) H1

section
variable {X : Cx} {e : Expr} {te : TE} {lo hi : Option Expr} {tl th : TO} {pos p2 : Pos}

theorem po_none : PO X none tNoPart := by
  intro pins s σ H Q I h
  rw [evalPart_none]
  exact wpAny_pure ⟨none, H, I, .none, h⟩
theorem po_some (h : PE X e te) : PO X (some e) (tPart te) := by
  intro pins s σ H Q I hw
  rw [evalPart_some]
  refine thn (h pins s σ H _ I hw) fun u s1 ⟨x, H1, I1, r1, q1⟩ => ?_
  obtain ⟨i, rfl, q⟩ := q1
  obtain ⟨t, rfl⟩ := r1
  exact ⟨some i, H1, I1, .int i t, q⟩

/-- what a slice of a value is, by values: the slice object stands at sl -/
def SlR (X : Cx) (r : V → Option Int → Option Int → Hp → VK → Prop) : Prop :=
  ∀ (pins : List (Addr × Obj)) (s : Shared) (σ : St) (H : Hp) (x : V) (v vl vu : Value) (lo hi : Option Int) (sl : Addr) (Q : VK), Inv X pins σ H s → RelV x v → s.heap.IsSliceOf sl vl vu .none → IsPart vl lo → IsPart vu hi → r x lo hi H Q →
    ∃ T id, typeLookup (.type T) "__getitem__" = pure (some (.builtin id)) ∧ s.TypeIs v T ∧ wpAny (model X.prog X.w) X.A (getItem v (.ref sl)) (EP X pins σ Q) X.xe s
def tSl (r : V → Option Int → Option Int → Hp → VK → Prop) (te : TE) (tl th : TO) : TE := fun σ H Q => te σ H fun x H1 => tl σ H1 fun l H2 => th σ H2 fun u H3 => r x l u H3 Q
/-- a[lo:hi], any a -/
theorem pe_slice {r : V → Option Int → Option Int → Hp → VK → Prop} (hr : SlR X r) (he : PE X e te) (hl : PO X lo tl) (hu : PO X hi th) : PE X (.Subscript e (.Slice lo hi none p2) pos) (tSl r te tl th) := by
  intro pins s σ H Q I h
  refine Subscript_ (thn (he pins s σ H _ I h) fun v s1 ⟨x, H1, I1, r1, q1⟩ => ?_)
  refine wpAny_Slice (thn (hl pins s1 σ H1 _ I1 q1) fun vl s2 ⟨l, H2, I2, pl, q2⟩ => thn (hu pins s2 σ H2 _ I2 q2) fun vu s3 ⟨u, H3, I3, pu, q3⟩ => ?_)
  rw [evalPart_none]
  refine wpAny_pure ?_
  have I4 : Inv X pins σ H3 { s3 with heap := s3.heap.push { cls := .type "slice", data := .fields #[vl, vu, .none] } } := I3.kept (t' := s3.toks) fun b ob q => Heap.get?_push_of_some _ q
  obtain ⟨T, id, hT, ht, hg⟩ := hr pins { s3 with heap := s3.heap.push { cls := .type "slice", data := .fields #[vl, vu, .none] } } σ H3 x v vl vu l u s3.heap.objs.size Q I4 r1 (Heap.IsSliceOf.new ..) pl pu q3
  show wpAny (model X.prog X.w) X.A (subscriptTail e (.Slice lo hi none p2) v (.ref s3.heap.objs.size)) (EP X pins σ Q) X.xe { s3 with heap := s3.heap.push { cls := .type "slice", data := .fields #[vl, vu, .none] } }
  exact tail_any (ops := [.ref s3.heap.objs.size, v]) ht hT hg (by with_unfolding_all rfl)

/-! ### t < u, t + u -/
end
end L2

namespace L2
open PySem PySem.Spec PyProof.Rows

/-! ### places -/
/-- the place that an index of any sign means -/
def ixN (n : Nat) (i : Int) : Option Nat := if 0 ≤ i then (if i < n then some i.toNat else none) else if -(n : Int) ≤ i then some (i + n).toNat else none
def atI {α : Type} (xs : List α) (i : Int) : Option α := (ixN xs.length i).bind fun j => xs[j]?
theorem ixN_seq {n : Nat} {i : Int} {j : Nat} (h : ixN n i = some j) : seqIndex? i n = some j ∧ j < n ∧ -(n : Int) ≤ i ∧ i < n := by
  unfold ixN at h
  by_cases h0 : 0 ≤ i
  · rw [if_pos h0] at h
    by_cases h1 : i < n
    · rw [if_pos h1] at h
      have e : i.toNat = j := Option.some.inj h
      exact ⟨by rw [seqIndex_of h0 h1, e], by omega, by omega, h1⟩
    · rw [if_neg h1] at h; cases h
  · rw [if_neg h0] at h
    by_cases h1 : -(n : Int) ≤ i
    · rw [if_pos h1] at h
      have e : (i + n).toNat = j := Option.some.inj h
      exact ⟨by rw [seqIndex_neg (by omega) h1, e], by omega, h1, by omega⟩
    · rw [if_neg h1] at h; cases h
theorem atI_get {α : Type} {xs : List α} {i : Int} {v : α} (h : atI xs i = some v) : ∃ j, seqIndex? i xs.length = some j ∧ xs[j]? = some v ∧ j < xs.length ∧ -(xs.length : Int) ≤ i ∧ i < xs.length := by
  unfold atI at h
  cases e : ixN xs.length i with
  | none => rw [e] at h; cases h
  | some j =>
    rw [e] at h
    obtain ⟨h1, h2, h3, h4⟩ := ixN_seq e
    exact ⟨j, h1, h, h2, h3, h4⟩
theorem atI_nat {α : Type} {xs : List α} {j : Nat} {v : α} (h : xs[j]? = some v) : atI xs (j : Int) = some v := by
  have hj : j < xs.length := (List.getElem?_eq_some_iff.mp h).1
  have e : ixN xs.length (j : Int) = some j := by
    unfold ixN
    rw [if_pos (by omega), if_pos (by omega)]; simp
  unfold atI; rw [e]; exact h
/-! ### what may be subscripted -/
/-- what stands as an index of a plain subscript -/
def PlainIx (b : Expr) : Prop := ∀ o i, subscripted b false o i = operate [o, i] (getItem o i)
/-- a subscript by values -/
def IxR (X : Cx) (r : R2) : Prop :=
  ∀ (value slice : Expr) (pins : List (Addr × Obj)) (s : Shared) (σ : St) (H : Hp) (x y : V) (v u : Value) (Q : VK), Inv X pins σ H s → RelV x v → RelV y u → r x y H Q →
    subscripted slice false v u = operate [v, u] (getItem v u) → wpAny (model X.prog X.w) X.A (subscriptTail value slice v u) (EP X pins σ Q) X.xe s
/-- a call of a builtin's method by values: the receiver, the arguments -/
def MtR (X : Cx) (id : String) (r : V → List V → Hp → VK → Prop) : Prop :=
  ∀ (pins : List (Addr × Obj)) (s : Shared) (σ : St) (H : Hp) (x : V) (xs : List V) (v : Value) (us : List Value) (Q : VK), Inv X pins σ H s → RelV x v → Vals xs us → r x xs H Q →
    wpAny (model X.prog X.w) X.A (call (.builtin id) (v :: us)) (EP X pins σ Q) X.xe s
section
variable {X : Cx} {a b : Expr} {ta tb : TE} {pos : Pos}
/-- a[b] -/
theorem pe_ix {r : R2} (hr : IxR X r) (ha : PE X a ta) (hb : PE X b tb) (hs : PlainIx b) : PE X (.Subscript a b pos) (tOp r ta tb) := by
  intro pins s σ H Q I h
  exact Subscript_ (binT ha hb I h fun v u s2 x y H2 I2 rx ry q => hr a b pins s2 σ H2 x y v u Q I2 rx ry q (hs _ _))

def rIxL (K : PySem.W.Frag) : R2 := fun x y H Q => ∃ p xs i v, x = .ref p ∧ y = .int i ∧ SqL K H p xs ∧ atI xs i = some v ∧ Q v H
def rIxT (K : PySem.W.Frag) : R2 := fun x y H Q => ∃ p xs i v, x = .ref p ∧ y = .int i ∧ SqT K H p xs ∧ atI xs i = some v ∧ Q v H
theorem ix_list : IxR X (rIxL X.K) := by
  intro value slice pins s σ H x y v u Q I rx ry h hs
  obtain ⟨p, xs, i, z, rfl, rfl, hq, he, q⟩ := h
  cases rx
  obtain ⟨t, rfl⟩ := ry
  obtain ⟨its, r, pl, hz⟩ := I.list hq
  obtain ⟨j, h1, h2, h3, h4, h5⟩ := atI_get he
  obtain ⟨w, ew, rw'⟩ := r.get h2
  have hl := r.length
  have hn := line63
  have fin : EP X pins σ Q w s := ⟨z, H, I, rw', q⟩
  by_cases h0 : 0 ≤ i
  · have hj : i.toNat = j := by
      rw [seqIndex_of h0 h5] at h1
      exact Option.some.inj h1
    exact item_listR pl.isList h0 (by omega) (by rw [hj]; simpa using ew) fin hs
  · have hj : (i + (its.toArray.size : Int)).toNat = j := by
      rw [seqIndex_neg (by omega) h4] at h1
      rw [List.size_toArray, ← hl]
      exact Option.some.inj h1
    exact subscriptTail_builtinR (x := w) pl.isList.typeIs slot_list_getitem.lookup
      (wpAny_getItem_list_neg (Q := fun r s' => r = w ∧ EP X pins σ Q r s') pl.isList (by omega) (by rw [List.size_toArray] <;> omega) (by omega) (by rw [hj]; simpa using ew) ⟨rfl, fin⟩) hs
theorem ix_tup : IxR X (rIxT X.K) := by
  intro value slice pins s σ H x y v u Q I rx ry h hs
  obtain ⟨p, xs, i, z, rfl, rfl, hq, he, q⟩ := h
  cases rx
  obtain ⟨t, rfl⟩ := ry
  obtain ⟨its, r, pl, hz⟩ := I.tuple hq
  obtain ⟨j, h1, h2, h3, h4, h5⟩ := atI_get he
  obtain ⟨w, ew, rw'⟩ := r.get h2
  have hl := r.length
  have hn := line63
  have fin : EP X pins σ Q w s := ⟨z, H, I, rw', q⟩
  exact subscriptTail_builtinR (x := w) pl.typeIs slot_tuple_getitem.lookup
    (getItem_tuple (j := j) (Q := fun r s' => r = w ∧ EP X pins σ Q r s') pl (by omega) (by omega) (by rw [List.size_toArray, ← hl]; exact h1) (by simpa using ew) ⟨rfl, fin⟩) hs
/-! ### xs[i] = v, any sign -/
/-! ### slices -/
/-! ### in, not in: flat items -/
def flatV : V → Bool
  | .non => true
  | .bl _ => true
  | .int _ => true
  | .str _ => true
  | _ => false
/-- == of flat values -/
def eqV : V → V → Bool
  | .non, .non => true
  | .bl a, .bl b => a == b
  | .bl a, .int b => (if a then 1 else 0) == b
  | .int a, .bl b => a == (if b then 1 else 0)
  | .int a, .int b => a == b
  | .str a, .str b => a == b
  | _, _ => false
theorem eqAt_V {A : Around} {s : Shared} {y x : V} {u v : Value} (ry : RelV y u) (rx : RelV x v) (fy : flatV y = true) (fx : flatV x = true) : SeqAt.EqAt A s u v (eqV y x) := by
  cases y with
  | non =>
    cases ry
    cases x with
    | non => cases rx; exact SeqAt.EqAt.same _
    | bl b => cases rx; exact SeqAt.EqAt.none_bool b
    | int b => obtain ⟨t, rfl⟩ := rx; exact SeqAt.EqAt.none_int b t
    | str b => obtain ⟨t, rfl⟩ := rx; exact SeqAt.EqAt.none_str b t
    | _ => exact absurd (show false = true from fx) Bool.false_ne_true
  | bl a =>
    cases ry
    cases x with
    | non => cases rx; exact SeqAt.EqAt.bool_none a
    | bl b => cases rx; exact SeqAt.EqAt.bool_bool a b
    | int b => obtain ⟨t, rfl⟩ := rx; exact SeqAt.EqAt.bool_int a b t
    | str b => obtain ⟨t, rfl⟩ := rx; exact SeqAt.EqAt.bool_str a b t
    | _ => exact absurd (show false = true from fx) Bool.false_ne_true
  | int a =>
    obtain ⟨t', rfl⟩ := ry
    cases x with
    | non => cases rx; exact SeqAt.EqAt.int_none a t'
    | bl b => cases rx; exact SeqAt.EqAt.int_bool a t' b
    | int b => obtain ⟨t, rfl⟩ := rx; exact SeqAt.EqAt.int_int a t' b t
    | str b => obtain ⟨t, rfl⟩ := rx; exact SeqAt.EqAt.int_str a t' b t
    | _ => exact absurd (show false = true from fx) Bool.false_ne_true
  | str a =>
    obtain ⟨t', rfl⟩ := ry
    cases x with
    | non => cases rx; exact SeqAt.EqAt.str_none a t'
    | bl b => cases rx; exact SeqAt.EqAt.str_bool a t' b
    | int b => obtain ⟨t, rfl⟩ := rx; exact SeqAt.EqAt.str_int a t' b t
    | str b => obtain ⟨t, rfl⟩ := rx; exact SeqAt.EqAt.str_str a t' b t
    | _ => exact absurd (show false = true from fx) Bool.false_ne_true
  | _ => exact absurd (show false = true from fy) Bool.false_ne_true
/-- the items' answers, read off the values (a value's own answer does not lean on its token) -/
def eqU (x : V) (u : Value) : Bool := match u with
  | .none => eqV .non x
  | .bool b => eqV (.bl b) x
  | .int i _ => eqV (.int i) x
  | .str z _ => eqV (.str z) x
  | _ => false
theorem eqU_of {x y : V} {u : Value} (r : RelV y u) (f : flatV y = true) : eqU x u = eqV y x := by
  cases y with
  | non => cases r; rfl
  | bl b => cases r; rfl
  | int i => obtain ⟨t, rfl⟩ := r; rfl
  | str z => obtain ⟨t, rfl⟩ := r; rfl
  | _ => exact absurd (show false = true from f) Bool.false_ne_true
theorem any_eqU {x : V} : ∀ {xs : List V} {us : List Value}, Vals xs us → xs.all flatV = true → us.any (eqU x) = xs.any fun y => eqV y x
  | _, _, .nil, _ => rfl
  | y :: xs, u :: us, .cons r t, f => by
    rw [List.all_cons, Bool.and_eq_true] at f
    rw [List.any_cons, List.any_cons, eqU_of r f.1, any_eqU t f.2]
theorem mem_eqAt {A : Around} {s : Shared} {x : V} {v : Value} (rx : RelV x v) (fx : flatV x = true) : ∀ {xs : List V} {us : List Value}, Vals xs us → xs.all flatV = true → ∀ u ∈ us, SeqAt.EqAt A s u v (eqU x u)
  | _, _, .nil, _ => fun u hu => by cases hu
  | y :: xs, u :: us, .cons r t, f => fun u' hu => by
    rw [List.all_cons, Bool.and_eq_true] at f
    rcases List.mem_cons.mp hu with rfl | hu
    · rw [eqU_of r f.1]; exact eqAt_V r rx f.1 fx
    · exact mem_eqAt rx fx t f.2 u' hu
def inV (x : V) (xs : List V) : Bool := xs.any fun y => eqV y x
/-- x in a list or tuple of flat items -/
def rIn (K : PySem.W.Frag) (neg : Bool) : R2 := fun x y H Q => ∃ p xs, y = .ref p ∧ (SqL K H p xs ∨ SqT K H p xs) ∧ flatV x = true ∧ xs.all flatV = true ∧ Q (.bl (if neg then !inV x xs else inV x xs)) H
theorem op_in_seq : OpR X (compareOp .In) (rIn X.K false) := by
  intro pins s σ H x y v u Q I rx ry h
  obtain ⟨p, xs, rfl, hq, fx, fs, q⟩ := h
  cases ry
  rcases hq with hq | hq
  · obtain ⟨its, r, pl, hz⟩ := I.list hq
    refine SeqAt.in_listAt (eqU x) pl.isList (fun w hw => mem_eqAt rx fx r fs w (by simpa using hw)) ⟨.bl _, H, I, rfl, ?_⟩
    rw [show its.toArray.any (eqU x) = its.any (eqU x) by simp, any_eqU r fs]
    exact q
  · obtain ⟨its, r, pl, hz⟩ := I.tuple hq
    refine SeqAt.in_tupleAt (eqU x) pl (fun w hw => mem_eqAt rx fx r fs w (by simpa using hw)) ⟨.bl _, H, I, rfl, ?_⟩
    rw [show its.toArray.any (eqU x) = its.any (eqU x) by simp, any_eqU r fs]
    exact q
/-! ### len, list(x), tuple(x) of any list or tuple that is read -/
theorem call_len_seq : CallR X (.builtin "len") (fun xs H Q => ∃ p ys, xs = [.ref p] ∧ (SqL X.K H p ys ∨ SqT X.K H p ys) ∧ Q (.int ys.length) H) := by
  intro pins s σ H xs us Q I r h
  obtain ⟨p, ys, rfl, hq, q⟩ := h
  obtain ⟨u, rfl, rx⟩ := vals1 r
  cases rx
  have hn := line63
  rcases hq with hq | hq
  · obtain ⟨its, r', pl, hz⟩ := I.list hq
    have hlen := r'.length
    exact Calls.call_len_list pl.isList (by simp only [List.size_toArray] <;> omega) ⟨.int ys.length, H, I.tok _, ⟨s.toks + 1, by rw [List.size_toArray, hlen]⟩, q⟩
  · obtain ⟨its, r', pl, hz⟩ := I.tuple hq
    have hlen := r'.length
    exact len_tuple pl (by simp only [List.size_toArray] <;> omega) ⟨.int ys.length, H, I.tok _, ⟨s.toks + 1, by rw [List.size_toArray, hlen]⟩, q⟩
theorem call_len_str : CallR X (.builtin "len") (fun xs H Q => ∃ z, xs = [.str z] ∧ z.length ≤ sizeLine ∧ Q (.int z.length) H) := by
  intro pins s σ H xs us Q I r h
  obtain ⟨z, rfl, hz, q⟩ := h
  obtain ⟨u, rfl, t, rfl⟩ := vals1 r
  have hn := line63
  exact len_str (by omega) ⟨.int z.length, H, I.tok _, ⟨_, rfl⟩, q⟩
/-! ### the call of a builtin's method: o.m(..) -/
/-- the value is of that builtin type -/
def tyV (K : PySem.W.Frag) (T : String) (x : V) (H : Hp) : Prop := match x with
  | .str _ => T = "str"
  | .int _ => T = "int"
  | .ref p => (T = "list" ∧ ∃ xs, SqL K H p xs) ∨ (T = "tuple" ∧ ∃ o, K.lookup p = some o ∧ o.cls = .type "tuple" ∧ o.dict = none) ∨
      (T = "dict" ∧ ((∃ kvs, H p = some (.dK kvs)) ∨ ∃ kvs, H p = some (.dT kvs))) ∨ (T = "set" ∧ ∃ S n, H p = some (.set S n))
  | _ => False
theorem tyV_is {pins : List (Addr × Obj)} {σ : St} {H : Hp} {s : Shared} {T : String} {x : V} {v : Value} (I : Inv X pins σ H s) (r : RelV x v) (ty : tyV X.K T x H) :
    s.TypeIs v T ∧ ∀ a, v = .ref a → ∃ ob, s.heap.get? a = some ob ∧ ob.dict = none := by
  cases x with
  | str z =>
    obtain ⟨t, rfl⟩ := r
    cases (show T = "str" from ty)
    exact ⟨typeIs_str s z t, fun _ e => nomatch e⟩
  | int i =>
    obtain ⟨t, rfl⟩ := r
    cases (show T = "int" from ty)
    exact ⟨typeIs_int s i t, fun _ e => nomatch e⟩
  | ref p =>
    cases r
    rcases ty with ⟨rfl, xs, hq⟩ | ⟨rfl, o, hk, hc, hd⟩ | ⟨rfl, hk⟩ | ⟨rfl, S, n, hk⟩
    · obtain ⟨its, _, pl, _⟩ := I.list hq
      refine ⟨pl.isList.typeIs, fun a e => ?_⟩
      cases e
      obtain ⟨o, n, e, c, hd, _⟩ := pl
      exact ⟨o, e, hd⟩
    · refine ⟨⟨o, I.kIn p o hk, hc⟩, fun a e => ?_⟩
      cases e
      exact ⟨o, I.kIn _ o hk, hd⟩
    · have z : ∃ o, s.heap.get? p = some o ∧ o.ExactDict := by
        rcases hk with ⟨kvs, hk⟩ | ⟨kvs, hk⟩
        · obtain ⟨_, _, _, _, o, _, _, e, ex, _⟩ := I.hok p _ hk
          exact ⟨o, e, ex⟩
        · obtain ⟨_, _, _, _, o, _, _, e, ex, _⟩ := I.hok p _ hk
          exact ⟨o, e, ex⟩
      obtain ⟨o, e, ex⟩ := z
      refine ⟨⟨o, e, ex.1⟩, fun a e2 => ?_⟩
      cases e2
      exact ⟨o, e, ex.2.1⟩
    · obtain ⟨o, _, _, _, e, ex, _⟩ := I.hok p _ hk
      refine ⟨⟨o, e, ex.1⟩, fun a e2 => ?_⟩
      cases e2
      exact ⟨o, e, ex.2.1⟩
  | _ => exact False.elim ty
def tBM (K : PySem.W.Frag) (T : String) (r : V → List V → Hp → VK → Prop) (to : TE) (t : TA) : TE := fun σ H Q => to σ H fun x H1 => tyV K T x H1 ∧ t σ H1 fun xs H2 => r x xs H2 Q
variable {o e : Expr} {es : List Expr} {to : TE} {t : TA} {name : Str} {apos cpos : Pos} {T id : String} {r : V → List V → Hp → VK → Prop}
theorem pe_bm (pa : PlainAttrs T) (slot : Slot T name id) (hty : typeOf (.builtin id) = pure (.type "method_descriptor")) (hm : MtR X id r) (ho : PE X o to) (ha : PA X (e :: es) t)
    (hbase : attributeBase o name X.env (eval o X.env) = eval o X.env := by rfl)
    (hfew : ((backTo cpos (starEach (e :: es) X.env)).all (fun x => !x.1) && (backToKw cpos (keywordEach [] X.env)).all (fun x => x.1.isSome)
      && decide ((e :: es).length + ([] : List Keyword).length + (if ([] : List Keyword).isEmpty then 0 else 1) < 30)) = true := by rfl)
    (hline : (apos.endLine == cpos.line) = true := by rfl) (hs : starEach (e :: es) X.env = (false, eval e X.env) :: starEach es X.env := by rfl) (hplain : (backTo cpos (starEach es X.env)).any (·.1) = false := by rfl) :
    PE X (.Call (.Attribute o name apos) (e :: es) [] cpos) (tBM X.K T r to t) := by
  intro pins s σ H Q I h
  refine wpAny_Call_method_late hbase hfew hline rfl (thn (ho pins s σ H _ I h) fun v s1 ⟨x, H1, I1, r1, ty, q1⟩ => ?_)
  obtain ⟨h1, h2⟩ := tyV_is I1 r1 ty
  refine ⟨T, id, pa, slot, hty, h1, h2, ?_⟩
  have hA := ha cpos pins s1 σ H1 _ I1 q1
  rw [hs] at hA ⊢
  refine Calls.callWith_builtin (by show (false || (backTo cpos (starEach es X.env)).any (·.1)) = false; rw [hplain] <;> rfl) (Calls.evalArgs_plain ?_)
  exact thn hA fun us s2 ⟨vs, H2, I2, r2, q2⟩ => hm pins s2 σ H2 x vs v us Q I2 r1 r2 q2
/- xs.append(e), list.index on a module's tuple .. are MtR facts of 06m -/
end
end L2

namespace L2
open PySem PySem.Spec PyProof.Rows

/-! ### lists of values -/
theorem Vals.two : ∀ {x y : V} {us : List Value}, Vals [x, y] us → ∃ u v, us = [u, v] ∧ RelV x u ∧ RelV y v
  | _, _, _, .cons r (.cons q .nil) => ⟨_, _, rfl, r, q⟩
section
variable {X : Cx} {pins : List (Addr × Obj)} {σ : St} {H : Hp} {s : Shared} {l b : Addr} {xs ys zs : List V}

/-! ### the two steps: a tracked list is rewritten, a new list is laid -/
theorem Inv.lnew {its : List Value} {t' : Nat} (I : Inv X pins σ H s) (hv : Vals ys its) (hz : ys.length ≤ sizeLine) :
    Inv X pins σ (upd H s.heap.objs.size (.lst ys)) { s with heap := s.heap.push { cls := .type "list", data := .seq its.toArray }, toks := t' } :=
  I.laid (fun _ _ q => Heap.get?_push_of_some _ q) (Nat.le_refl _) ⟨hz, its, 0, hv, Heap.get?_push_size _ rfl⟩
theorem Inv.fresh (I : Inv X pins σ H s) : H s.heap.objs.size = none := I.hok.fresh (Nat.le_refl _)
theorem Inv.lstM (I : Inv X pins σ H s) (hH : H l = some (.lst xs)) : xs.length ≤ sizeLine ∧ ∃ (its : List Value) (n : Nat), Vals xs its ∧ xs.length = its.length ∧ s.heap.get? l = some { cls := .type "list", data := .seq its.toArray n } := by
  obtain ⟨z, its, n, r, e⟩ := I.hok l _ hH
  exact ⟨z, its, n, r, r.length, e⟩

end

section
variable {X : Cx}

/-! ### methods -/
/-! ### list + list, list += list, list * int -/
def rCat : R2 := fun x y H Q => ∃ l b xs zs, x = .ref l ∧ y = .ref b ∧ H l = some (.lst xs) ∧ H b = some (.lst zs) ∧ xs.length + zs.length ≤ sizeLine ∧ ∀ p, H p = none → Q (.ref p) (upd H p (.lst (xs ++ zs)))
theorem op_cat : OpR X (binaryOp .Add) rCat := by
  intro pins s σ H x y v u Q I rx ry h
  obtain ⟨l, b, xs, zs, rfl, rfl, hH, hB, hz, q⟩ := h
  cases rx
  cases ry
  obtain ⟨z, its, n, r, hl, e⟩ := I.lstM hH
  obtain ⟨z2, its2, n2, r2, hl2, e2⟩ := I.lstM hB
  refine PySem.P.add_list e e2 ?_ (by rw [List.size_toArray, List.size_toArray]; omega)
  have ea : its.toArray ++ its2.toArray = (its ++ its2).toArray := by simp
  rw [ea]
  exact ⟨.ref _, _, I.lnew (t' := s.toks) (r.append r2) (by rw [List.length_append]; omega), rfl, q _ I.fresh⟩
/-! ### del xs[i] -/
end

/-! ### xs[a:b] = ys -/
section
variable {prog : Program} {w : World} {A : Around} {E : Value → Shared → Prop} {s : Shared}
set_option maxRecDepth 100000 in
end

section
variable {X : Cx}
end
end L2

namespace Att
open PySem PySem.W PySem.Calls PyProof.Rows

/-! ### the script -/
theorem ints_of_wellAll {P : Params} {h : Heap} : ∀ (ns : List Int) (vs : List Value), WellAll P h vs (ns.map WData.int) → IntsAre vs ns := by
  intro ns
  induction ns with
  | nil =>
    intro vs w
    rw [List.map_nil] at w
    cases w
    exact .nil
  | cons n ns ih =>
    intro vs w
    rw [List.map_cons] at w
    cases w with
    | cons a b =>
      cases a
      exact .cons _ _ (ih _ b)

theorem script_of {l : OpenLaw} {n : Nat} (hn : l.most = some n) {P : Params} {h : Heap} {args : List WData} {vals : List Value}
    (hpre : l.row.toRowW.claim.pre args = true) (hwl : WellAll P h vals args) :
    ∃ a vs ns, vals = [Value.ref a] ∧ args = [WData.list (ns.map WData.int)] ∧ h.get? a = some { cls := .type "list", data := .seq vs.toArray } ∧ IntsAre vs ns ∧ ns.length ≤ n := by
  have hsh : WShape.hasAll [] args [.list .int] = true := (pre_splitW hpre).1
  have hc : l.pre.holds [] { args := args } = true := (pre_splitW hpre).2
  obtain ⟨d, r, rfl, h1, h2⟩ := hasAllW_cons hsh
  obtain rfl := hasAllW_nil h2
  obtain ⟨xs, rfl, h3⟩ := hasW_list h1
  obtain ⟨ns, rfl⟩ := items_int h3
  have hlen : ns.length ≤ n := by
    unfold OpenLaw.pre at hc
    have h4 : (WTm.not (.lt (.lit (.int (n : Int))) (.len (.arg 0)))).holds [] { args := [.list (ns.map .int)] } = true := by
      have h4 := (holds_andW hc).1
      rw [hn] at h4
      exact h4
    have h5 := condW_of h4 (w_not (w_lt w_lit (w_len_list (w_arg rfl))))
    rw [List.length_map] at h5
    refine Nat.le_of_not_lt fun q => ?_
    have q' : (n : Int) < ((ns.length : Nat) : Int) := by omega
    first
      | (rw [decide_eq_true q'] at h5; exact absurd h5 (by decide))
      | (simp at h5; omega)
  cases hwl with
  | cons w1 w2 =>
    cases w2
    cases w1 with
    | list ho hall => exact ⟨_, _, ns, rfl, rfl, ho, ints_of_wellAll ns _ hall, hlen⟩

theorem post_true (l : OpenLaw) (args : List WData) : l.row.toRowW.claim.post args (.bool true) args = true :=
  postW_of (r := l.row.toRowW) (X := (true == true))
    (show WShape.has [] (.bool true) .bool = true by first | rfl | decide | simp [WShape.has, WShape.arms, WShape.armsAll])
    (show (WTm.eq .res (.lit (.bool true))).value [] { args := args, res := some (.bool true), after := args } = some (.bool (true == true)) from w_eq_bool (w_res rfl) w_lit) rfl

/-! ### the attachment: holds_open's last premise (the goal 'hc' behind k_head) from a wpAny of the law's body -/
/-- the same from a codeAny of the CALL (for a layer whose function contracts speak of calls) -/
theorem attach_call {l : OpenLaw} {n : Nat} {q : Program} {loose : List Str} {XP : (Str → Option Value) → Heap → Prop} {YP : World → Heap → Prop} {d : DefRec}
    (hn : l.most = some n) (hdf : d.params.defaults = [])
    (call : ∀ (w : World) (s₀ s₁ : Shared) (mg mb : Str → Option Value) (fa : Addr) (o : Obj) (pm cd doc : Value) (a : Addr) (vs : List Value) (ns : List Int),
      Ground q loose [] XP w s₀ mg mb s₁.heap → YP w s₁.heap →
      s₁.heap.get? fa = some o → o.data = .func (docDef d.name d.params d.body d.scope pm cd doc) → s₁.heap.CodeRec cd d.name → mg d.name = some (.ref fa) →
      s₁.heap.get? a = some { cls := .type "list", data := .seq vs.toArray } → IntsAre vs ns → ns.length ≤ n → s₁.gens = #[] →
      codeAny (model l.prog w) callerA (.call (.ref fa) ⟨[.ref a], []⟩) (fun r s' => r = .ok (.ret (.bool true)) ∧ OldK s₁.heap s'.heap ∧ s'.os = s₁.os ∧ AllBare s'.gens) s₁) :
    WalkO q loose XP YP l.row.toRowW d [] (fun f vs => PySem.call f vs) := by
  intro w s₀ s₁ mg mb G Y fa o pm cd doc dV kV ho hd hcd hD hmg hg args vals as hpre hlay hrd hwl hlo
  obtain rfl : dV = .none := Dflts.none hD hdf
  obtain rfl : kV = .none := Dflts.noKw hD
  obtain ⟨a, vs, ns, rfl, rfl, hobj, hints, hlen⟩ := script_of hn hpre hwl
  refine enter_call (codeAny_mono (call w s₀ s₁ mg mb fa o pm cd doc a vs ns G Y ho (fd_plain hd) hcd hmg hobj hints hlen hg) fun r s' hq => ?_)
  obtain ⟨rfl, h2, h3, h4⟩ := hq
  exact ⟨.inl ⟨.bool true, .bool true, [], rfl, fun _ => rfl, .bool true, post_true l _, fun _ => ⟨List.Pairwise.nil, fun _ hm => (nomatch hm)⟩⟩, h2, h3, h4⟩

/-! ### rules over ANY heap (no ledger) from facts about the written part K: the library's own take a ledger (News) for what they write -/
section
variable {prog : Program} {w : World} {A : Around} {E : Value → Shared → Prop} {s : Shared} {K : Frag}

/-! the whole heap as the ledger: makes every rule that writes through a ledger a rule over any heap -/
end
end Att

namespace L2
open PySem PySem.Spec PyProof.Rows

theorem vals_ints : ∀ {vs : List Value} {ns : List Int}, IntsAre vs ns → Vals (ns.map V.int) vs
  | _, _, .nil => .nil
  | _, _, .cons n t h => .cons ⟨t, rfl⟩ (vals_ints h)

/-- nothing is tracked but the script, known to the object (or it is an object of the module) -/
def Only (H : Hp) : Prop := ∀ b, H b = none ∨ ∃ o xs, H b = some (.frz o (.lst xs))

/-- THE HEAD: the law's promise, at the heap behind the top. F, the promise of the law's def, may use that base is part of the heap (so K.In base, base.Ns mainGlobals mg stand in Mod) -/
theorem law_call {P : Program} {w : World} {K : PySem.W.Frag} {mg mb : Str → Option Value} {CX : CXT} {k : Nat} {fa a : Addr} {fd : FuncData} {x : Str} {sp : Sp} {s₁ : Shared} {vs : List Value} {ns : List Int}
    (KX : K.In s₁.heap) (hns : s₁.heap.Ns mainGlobals mg) (hb : s₁.heap.Ns builtinsNs mb) (hbb : ∀ x : Str, x ≠ "__name__" → mb x = bootBuiltins x) (hlim : s₁.heap.NoLimit) (hg : s₁.gens = #[])
    (ha : s₁.heap.get? a = some { cls := .type "list", data := .seq vs.toArray }) (hi : IntsAre vs ns) (hl : ns.length ≤ sizeLine) (hr : Room k callerA)
    (F : ∀ base : Heap, K.In base → base.Ns mainGlobals mg → FnOk P w K mg base CX k fa fd [x] sp) (hbind : ∀ (s : Shared) (u : Value), BindsTo s fd ⟨[u], []⟩ [(x, u)])
    (hsp : ∀ H : Hp, Only H → SqL K H a (ns.map V.int) → sp [.ref a] H (fun v _ => v = .bl true) fun _ _ _ => False)
    (hCX : ∀ H e s', CX [] H s₁ (fun _ _ _ => False) e s' → False) :
    codeAny (model P w) callerA (.call (.ref fa) ⟨[.ref a], []⟩) (fun r s' => r = .ok (.ret (.bool true)) ∧ OldK s₁.heap s'.heap ∧ s'.os = s₁.os ∧ AllBare s'.gens) s₁ := by
  have rv := vals_ints hi
  have lenV := hi.length
  -- from an abstract heap in which nothing but the script may be tracked
  have core : ∀ H : Hp, Only H → SqL K H a (ns.map V.int) → HOk P w H s₁.heap → (∀ b, H b ≠ none → b = a) → (H a ≠ none → K.lookup a = none) →
      codeAny (model P w) callerA (.call (.ref fa) ⟨[.ref a], []⟩) (fun r s' => r = .ok (.ret (.bool true)) ∧ OldK s₁.heap s'.heap ∧ s'.os = s₁.os ∧ AllBare s'.gens) s₁ := by
    intro H hO hS hok hA hK
    have base_of : ∀ {b : Addr} {o : Obj}, s₁.heap.get? b = some o → H b = none → (hidT s₁.heap H).get? b = some o := fun e n => hidT_get e n
    have noA : ∀ {b : Addr} {o : Obj} {es : Array DictEntry} {ep : Nat}, s₁.heap.get? b = some o → o.data = .dict es ep → H b = none := fun {b o es ep} e d => by
      cases q : H b with
      | none => rfl
      | some u =>
        have e' : b = a := hA b (by rw [q]; simp)
        subst e'
        rw [ha] at e; cases e
        have d' : Data.seq vs.toArray _ = Data.dict es ep := d
        cases d'
    have nsK : ∀ {b : Addr} {m : Str → Option Value}, s₁.heap.Ns b m → (hidT s₁.heap H).Ns b m := fun {b m} ⟨o, es, ep, e, d, r⟩ => ⟨o, es, ep, base_of e (noA e d), d, r⟩
    have hKb : K.In (hidT s₁.heap H) := fun b o e => base_of (KX b o e) (by
      cases q : H b with
      | none => rfl
      | some u =>
        have e' : b = a := hA b (by rw [q]; simp)
        subst e'
        rw [hK (by rw [q]; simp)] at e; cases e)
    have hM : Mod K mg (hidT s₁.heap H) := ⟨hKb, nsK hns, ⟨mb, nsK hb, hbb⟩, let ⟨mc, h1, h2⟩ := hlim; ⟨mc, nsK h1, h2⟩⟩
    have e0 : Env0 P w K mg (hidT s₁.heap H) callerA [] s₁ H := ⟨rfl, hM, fun b o e => of_hidT e, Nat.le_of_eq (hidT_size _ _), trivial, fun b hb => absurd (show b ∈ ([] : List Addr) from hb) (by simp), hok, .of_eq hg⟩
    refine codeAny_mono ((F _ hKb (nsK hns)).run callerA [] s₁ H ⟨[.ref a], []⟩ [.ref a] [.ref a] _ _ hr e0 (hbind s₁ (.ref a)) (.cons rfl .nil) (hsp H hO hS)) fun r s' h => ?_
    cases r with
    | error e => exact (hCX H e s' h).elim
    | ok fl =>
      cases fl with
      | next => exact False.elim h
      | brk => exact False.elim h
      | cont => exact False.elim h
      | ret u =>
        obtain ⟨v, H', os, bare, un, hok', r', q⟩ := h
        have q' : v = .bl true := q
        subst q'
        obtain rfl : u = Value.bool true := r'
        refine ⟨rfl, OldK.of_keep fun b o e => ?_, os, bare⟩
        cases q : H b with
        | none => exact un.keep b o e q (by intro z; exact absurd (show b ∈ ([] : List Addr) from z) (by simp)) (by simp)
        | some u =>
          rcases hO b with z | ⟨ob, xs, z⟩
          · rw [q] at z; cases z
          · have z2 := un.frzs b ob _ z
            obtain ⟨e1, _⟩ := hok b _ z
            obtain ⟨e2, _⟩ := hok' b _ z2
            rw [e] at e1; cases e1
            exact e2
  cases hk : K.lookup a with
  | some o =>
    -- the script is one of the module's own objects
    have e := KX a o hk
    rw [ha] at e
    cases e
    refine core (fun _ => none) (fun _ => .inl rfl) (.inr ⟨_, vs.toArray, _, hk, rfl, rfl, rfl, by rw [List.size_toArray, lenV]; exact hl, by simpa using rv⟩) (fun b u z => by have z' : (none : Option HO) = some u := z; cases z') (fun b z => absurd rfl z) fun z => absurd rfl z
  | none =>
    refine core (fun b => if b = a then some (.frz { cls := .type "list", data := .seq vs.toArray } (.lst (ns.map V.int))) else none) (fun b => ?_) (.inl (.inr ⟨{ cls := .type "list", data := .seq vs.toArray }, if_pos rfl⟩)) (fun b u z => ?_) (fun b z => ?_) fun _ => hk
    · by_cases hb : b = a
      · exact .inr ⟨_, _, if_pos hb⟩
      · exact .inl (if_neg hb)
    · by_cases hb : b = a
      · have z' := (if_pos hb).symm.trans z
        cases z'
        subst hb
        exact ⟨ha, by rw [List.length_map]; exact hl, vs, _, rv, ha⟩
      · have z' := (if_neg hb).symm.trans z
        cases z'
    · by_cases hb : b = a
      · exact hb
      · exact absurd (if_neg hb) z
end L2

namespace L2
open PySem PySem.Spec PyProof.Rows

/-- the goal that k_head leaves (case hc), from the law's promise. F gives the function object fd (K's own) once, then the promise over every base -/
theorem walk_of {l : PySem.W.OpenLaw} {n k : Nat} {q : Program} {loose : List Str} {XP : (Str → Option Value) → Heap → Prop} {YP : World → Heap → Prop} {d : DefRec} {K : Params → PySem.W.Frag} {CX : World → CXT} {sp : World → Sp} {x : Str}
    (hn : l.most = some n) (hn2 : n ≤ sizeLine) (hdf : d.params.defaults = []) (hr : Room k callerA)
    (hY : ∀ (w : World) (h : Heap), YP w h → (K w.params).In h)
    (F : ∀ (w : World) (mg : Str → Option Value) (fa : Addr) (h : Heap), (K w.params).In h → h.Ns mainGlobals mg → mg d.name = some (.ref fa) →
      ∃ fd : FuncData, (∀ (s : Shared) (u : Value), BindsTo s fd ⟨[u], []⟩ [(x, u)]) ∧
        ∀ base : Heap, (K w.params).In base → base.Ns mainGlobals mg → FnOk l.prog w (K w.params) mg base (CX w) k fa fd [x] (sp w))
    (hsp : ∀ (w : World) (H : Hp) (a : Addr) (ns : List Int), ns.length ≤ n → Only H → SqL (K w.params) H a (ns.map V.int) → sp w [.ref a] H (fun v _ => v = .bl true) fun _ _ _ => False)
    (hCX : ∀ (w : World) (H : Hp) (s : Shared) (e : Value) (s' : Shared), CX w [] H s (fun _ _ _ => False) e s' → False) :
    PySem.W.WalkO q loose XP YP l.row.toRowW d [] (fun f vs => PySem.call f vs) := by
  refine Att.attach_call hn hdf fun w s₀ s₁ mg mb fa o pm cd doc a vs ns G Y ho hd hcd hmg hobj hints hlen hg => ?_
  have KX := hY w _ Y
  obtain ⟨fd, hb, hF⟩ := F w mg fa _ KX G.T.g hmg
  exact law_call KX G.T.g G.T.b G.T.builtins G.T.nolimit hg hobj hints (Nat.le_trans hlen hn2) hr hF hb (fun H hO hS => hsp w H a ns hlen hO hS) fun H e s' => hCX w H s₁ e s'
end L2

/- THE LAST THEOREM (shape; LID, My.* are yours):
   My.Adr: a structure of the addresses that your layer names (classes, functions); My.Txt K t: a structure (Prop) of the equations over K;
   My.txt_mk : {K} {implicit addresses ..} (e1 : nsIn K mainGlobals "law" = some (some (.ref f))) (e2 : K.lookup f = some ⟨oc, od, .func (fnOf "law" "law" params body scope dV kV doc pm an cdv ct), sl⟩) (e3 : codeIn K cdv "law" = true) .. : ∃ t, My.Txt K t

set_option maxRecDepth 100000 in
set_option maxHeartbeats 0 in
theorem PySem.Challenge.cw_LID_holds : PySem.Challenge.rw_LID.Holds := by
  w_on; o_law; k_head; (case hw => w_witness2)
  k_fill
  refine L2.walk_of (l := PySem.Challenge.rw_LID) (n := 63) (k := 40) (x := "script") (CX := fun w => ..) (sp := fun _ => My.sp_law) rfl (by decide) rfl ⟨rfl, by decide, by decide⟩ (fun w h Y => PySem.W.kIn_of Y) ?F ?S ?C
  case F =>
    intro w mg fa h KX G hmg
    have T : ∃ t, My.Txt (L2.KOf KX) t := by
      dsimp only [L2.KOf]                          -- K must stand as «<heap const> w.params» for k_is
      refine' My.txt_mk ?e1 ?e2 ?e3 ..
      (case e1 => PySem.W.k_is)                    -- in the order: a name -> its address -> its object -> its parts
      (case e2 => PySem.W.k_is)
      ..
    obtain ⟨t, T⟩ := T
    have e0 := hmg.symm.trans (PySem.W.mg_of KX G T.law)
    cases e0                                       -- fa is the law's own address
    exact ⟨_, fun s u => .of_eq rfl, fun base kb nb => My.law_fn T kb nb⟩     -- if «.of_eq rfl» comes too early: refine' ⟨_, ?b, fun base kb nb => My.law_fn T kb nb⟩; exact fun s u => .of_eq rfl
  case S => exact fun w H a ns hl hO hS => ..
  case C => exact ..
(the tactic k_is has no namespace: write k_is) -/

/-! SHORT WORDS over the layer: a def of the text, its body, what a loop and a test want. -/
namespace L2
open PySem PySem.Spec PyProof.Rows

/-! ### the text by places -/
/-- the j-th statement of a class's body -/
def inClass (s : Stmt) (j : Nat) : Stmt := match s with
  | .ClassDef _ _ _ body _ _ _ _ _ _ _ => body.getD j (.Pass ⟨0, 0, 0, 0⟩)
  | _ => .Pass ⟨0, 0, 0, 0⟩
def defArgs (s : Stmt) : Arguments := match s with
  | .FunctionDef _ a _ _ _ _ _ _ _ _ => a
  | _ => { posonlyargs := [], args := [], vararg := none, kwonlyargs := [], kw_defaults := [], kwarg := none, defaults := [] }
def defBody (s : Stmt) : List Stmt := match s with
  | .FunctionDef _ _ b _ _ _ _ _ _ _ => b
  | _ => []
def defScope (s : Stmt) : Scope := match s with
  | .FunctionDef _ _ _ _ _ _ sc _ _ _ => sc
  | _ => { kind := .function, names := [], isGenerator := false, isCoroutine := false }

/-! ### no exception leaves a def -/
abbrev CX0 : CXT := fun _ _ _ _ _ _ => False
abbrev E0 : XK := fun _ _ _ => False
theorem pass0 {X : Cx} : Passes CX0 X E0 := fun _ _ _ _ _ _ _ h => h.elim

/-! ### a def (or method) of the text as it stands behind the top -/
structure Fun (K : PySem.W.Frag) (x qual : Str) (st : Stmt) (f : Addr) (fd : FuncData) : Prop where
  ex : ∃ (oc : Value) (od : Option Addr) (kV doc pm : Value) (an : Option Addr) (cdv ct : Value) (osl : Array (Option Value)),
    fd = PySem.W.fnOf x qual (defArgs st) (defBody st) (defScope st) .none kV doc pm an cdv ct ∧ K.lookup f = some ⟨oc, od, .func fd, osl⟩ ∧ PySem.W.codeIn K cdv qual = true
  kp : PySem.W.keepIn K (.ref f) = true
section
variable {P : Program} {w : World} {K : PySem.W.Frag} {mg : Str → Option Value} {base : Heap}
/-- THE RULE for a def: its body as a term of rules, and the reading of that term -/
theorem Fun.ok {x qual : Str} {st : Stmt} {f : Addr} {fd : FuncData} {N ps : List Str} {k : Nat} {sp : Sp} (F : Fun K x qual st f fd) (S : FnScope N ps (defScope st)) (len : ∀ vs H Q E, sp vs H Q E → vs.length = ps.length)
    (hbody : ∀ (cdv : Value) (A : Around) (outer : List Env) (s : Shared) (H : Hp) (vs : List V) (Q : VK) (E : XK), Room k (A.deeper (envOfC qual (defScope st) s.heap.objs.size f cdv)) → sp vs H Q E →
      ∃ t, PSs (cxOf CX0 P w K mg base N qual (defScope st) f cdv A outer s H E).nox (defBody st) t ∧ t { nx := fun _ H' => Q .non H', rt := Q } (start N vs) H) : FnOk P w K mg base CX0 (k + 1) f fd ps sp := by
  obtain ⟨oc, od, kV, doc, pm, an, cdv, ct, osl, rfl, lk, hcd⟩ := F.ex
  refine fn_of lk hcd S len fun A outer s H vs Q E hr hsp => ?_
  obtain ⟨t, h, q⟩ := hbody cdv A outer s H vs Q E hr hsp
  exact ⟨t, h.nox, q⟩
/-- how its arguments bind (no defaults): h is «fun _ _ _ _ _ _ us hl => match us, hl with | [_, _], _ => rfl», one _ a parameter -/
theorem Fun.binds {x qual : Str} {st : Stmt} {f : Addr} {fd : FuncData} {ps : List Str} (F : Fun K x qual st f fd)
    (h : ∀ (kV doc pm : Value) (an : Option Addr) (cdv ct : Value) (us : List Value), us.length = ps.length → bindArgs (PySem.W.fnOf x qual (defArgs st) (defBody st) (defScope st) .none kV doc pm an cdv ct) ⟨us, []⟩ = pure (ps.zip us)) : Binds K fd ps [] := by
  obtain ⟨oc, od, kV, doc, pm, an, cdv, ct, osl, rfl, lk, hcd⟩ := F.ex
  exact .all (h kV doc pm an cdv ct)
theorem fun_mk {x qual : Str} {st : Stmt} {f : Addr} {oc : Value} {od an : Option Addr} {osl : Array (Option Value)} {kV doc pm cdv ct : Value} (l : K.lookup f = some ⟨oc, od, .func (PySem.W.fnOf x qual (defArgs st) (defBody st) (defScope st) .none kV doc pm an cdv ct), osl⟩)
    (c : PySem.W.codeIn K cdv qual = true) (k : PySem.W.keepIn K (.ref f) = true) : Fun K x qual st f (PySem.W.fnOf x qual (defArgs st) (defBody st) (defScope st) .none kV doc pm an cdv ct) := ⟨⟨oc, od, kV, doc, pm, an, cdv, ct, osl, rfl, l, c⟩, k⟩
end
theorem hu_of {A : Around} {k : Nat} (hr : Room k A) : A.units + 1 < cLine := Nat.lt_of_le_of_lt (Nat.add_le_add_left (by decide : 1 ≤ 64) _) hr.units
theorem small1000 {n : Nat} (h : n ≤ 1000) : n < sizeLine := Nat.lt_of_le_of_lt h (by decide)

/-! ### expressions in short: the name that stands in the i-th slot -/
section
variable {X : Cx}
theorem pv (i : Nat) {x : Str} {pos : Pos} (hN : X.N[i]? = some x := by rfl) (hv : Vis X.env.scope x := by first | exact Or.inl rfl | exact Or.inr (Or.inl rfl) | exact Or.inr (Or.inr rfl)) (hd : (x == ("__debug__" : Str)) = false := by decide)
    (hcd : (x == ("__classdict__" : Str)) = false := by decide) : PE X (.Name x pos) (tVar i) := pe_var hN hv hd hcd
end

/-! ### tests -/
theorem iteF {A B : Prop} (h : B) : if false = true then A else B := by
  rw [if_neg Bool.false_ne_true]
  exact h
theorem iteT {A B : Prop} (h : A) : if true = true then A else B := by
  rw [if_pos rfl]
  exact h
theorem ite2 {c A B : Prop} [Decidable c] (h1 : c → A) (h2 : ¬ c → B) : if c then A else B := by
  by_cases h : c
  · rw [if_pos h]
    exact h1 h
  · rw [if_neg h]
    exact h2 h
theorem iteNS {c A B : Prop} [Decidable c] (hc : c) (h : B) : if (!decide c) = true then A else B := by
  rw [decide_eq_true hc]
  exact iteF h

/-! ### heaps -/
/-- all that was tracked is as it was -/
def Same (H H' : Hp) : Prop := ∀ b o, H b = some o → H' b = some o
theorem Same.refl (H : Hp) : Same H H := fun _ _ h => h
theorem Same.trans {H H1 H2 : Hp} (a : Same H H1) (b : Same H1 H2) : Same H H2 := fun c o h => b c o (a c o h)
theorem Same.seq {K : PySem.W.Frag} {H H' : Hp} {a : Addr} {xs : List V} (e : Same H H') (h : SqL K H a xs) : SqL K H' a xs := by
  rcases h with (h | ⟨o, h⟩) | h
  · exact .inl (.inl (e _ _ h))
  · exact .inl (.inr ⟨o, e _ _ h⟩)
  · exact .inr h

end L2

set_option Elab.async false
set_option linter.all false
set_option maxRecDepth 100000
set_option maxHeartbeats 4000000
namespace L2
open PySem PySem.Spec PyProof.Rows
/-! ### lists of pairs as tables -/
section
variable {κ : Type} [DecidableEq κ]
def valV (kvs : List (κ × V)) (k : κ) : Option V := (kvs.find? fun kv => decide (kv.1 = k)).map (·.2)
/-- in its place, or at the end -/
def putK (kvs : List (κ × V)) (k : κ) (v : V) : List (κ × V) :=
  if (kvs.any fun kv => decide (kv.1 = k)) = true then kvs.map (fun kv => if kv.1 = k then (kv.1, v) else kv) else kvs ++ [(k, v)]
theorem valV_nil {k : κ} : valV ([] : List (κ × V)) k = none := rfl
theorem valV_pos {p : κ × V} {r : List (κ × V)} {k : κ} (e : p.1 = k) : valV (p :: r) k = some p.2 := by simp [valV, List.find?_cons, e]
theorem valV_neg {p : κ × V} {r : List (κ × V)} {k : κ} (e : ¬ p.1 = k) : valV (p :: r) k = valV r k := by simp [valV, List.find?_cons, e]
theorem valV_any (k : κ) : ∀ kvs : List (κ × V), (kvs.any fun kv => decide (kv.1 = k)) = (valV kvs k).isSome
  | [] => rfl
  | p :: r => by
    rw [List.any_cons]
    by_cases e : p.1 = k
    · simp only [valV_pos e, decide_eq_true e, Bool.true_or, Option.isSome_some]
    · rw [valV_neg e, decide_eq_false e, Bool.false_or]; exact valV_any k r
theorem valV_map (k j : κ) (y : V) : ∀ kvs : List (κ × V), valV (kvs.map fun kv => if kv.1 = k then (kv.1, y) else kv) j = (valV kvs j).map fun x => if j = k then y else x
  | [] => rfl
  | p :: r => by
    have ih := valV_map k j y r
    rw [List.map_cons]
    by_cases h : p.1 = k
    · rw [if_pos h]
      by_cases e : p.1 = j
      · rw [valV_pos (p := (p.1, y)) e, valV_pos e, Option.map_some, if_pos (e.symm.trans h)]
      · rw [valV_neg (p := (p.1, y)) e, valV_neg e, ih]
    · rw [if_neg h]
      by_cases e : p.1 = j
      · rw [valV_pos (p := p) e, valV_pos e, Option.map_some, if_neg (fun z => h (e.trans z))]
      · rw [valV_neg (p := p) e, valV_neg e, ih]
theorem valV_snoc (k j : κ) (y : V) : ∀ kvs : List (κ × V), valV kvs k = none → valV (kvs ++ [(k, y)]) j = if j = k then some y else valV kvs j
  | [], _ => by
    by_cases e : k = j
    · rw [if_pos e.symm]; exact valV_pos (p := (k, y)) e
    · rw [if_neg (fun z => e z.symm)]; exact valV_neg (p := (k, y)) e
  | p :: r, hn => by
    rw [List.cons_append]
    have hk : ¬ p.1 = k := fun z => by rw [valV_pos z] at hn; cases hn
    rw [valV_neg hk] at hn
    have ih := valV_snoc k j y r hn
    by_cases e : p.1 = j
    · rw [valV_pos e, valV_pos e, if_neg (fun z => hk (e.trans z))]
    · rw [valV_neg e, valV_neg e, ih]
theorem valV_put (kvs : List (κ × V)) (k j : κ) (y : V) : valV (putK kvs k y) j = if j = k then some y else valV kvs j := by
  unfold putK
  by_cases a : (kvs.any fun kv => decide (kv.1 = k)) = true
  · rw [if_pos a, valV_map]
    rw [valV_any] at a
    by_cases e : j = k
    · obtain ⟨x, hx⟩ := Option.isSome_iff_exists.mp a
      rw [if_pos e, e, hx, Option.map_some, if_pos rfl]
    · rw [if_neg e]
      cases valV kvs j with
      | none => rfl
      | some x => rw [Option.map_some, if_neg e]
  · rw [if_neg a]
    refine valV_snoc k j y kvs ?_
    rw [valV_any] at a
    cases q : valV kvs k with
    | none => rfl
    | some x => rw [q] at a; exact (a rfl).elim
theorem length_putK (kvs : List (κ × V)) (k : κ) (v : V) : (putK kvs k v).length ≤ kvs.length + 1 := by
  unfold putK
  split
  · rw [List.length_map]; omega
  · rw [List.length_append, List.length_cons, List.length_nil]; omega
theorem RelO.isSome_eq {o : Option V} {u : Option Value} (r : RelO o u) : o.isSome = u.isSome := by
  cases o with
  | none => cases u with
    | none => rfl
    | some _ => exact (show False from r).elim
  | some _ => cases u with
    | none => exact (show False from r).elim
    | some _ => rfl
/-- raw tables of the same keys -/
theorem KV.val {kvs : List (κ × V)} {vs : List (κ × Value)} (r : KV kvs vs) (k : κ) : RelO (valV kvs k) (valueAt vs k) := by
  unfold KV at r
  induction r with
  | nil => exact True.intro
  | @cons p q ps qs h t ih =>
    obtain ⟨h1, h2⟩ := h
    by_cases e : p.1 = k
    · have e' : q.1 = k := h1.symm.trans e
      have b : valueAt (q :: qs) k = some q.2 := by simp [valueAt, List.find?_cons, e']
      rw [valV_pos e, b]; exact h2
    · have e' : ¬ q.1 = k := fun z => e (h1.trans z)
      have b : valueAt (q :: qs) k = valueAt qs k := by simp [valueAt, List.find?_cons, e']
      rw [valV_neg e, b]; exact ih
theorem KV.any {kvs : List (κ × V)} {vs : List (κ × Value)} (r : KV kvs vs) (k : κ) : (kvs.any fun kv => decide (kv.1 = k)) = vs.any fun kv => decide (kv.1 = k) := by
  unfold KV at r
  induction r with
  | nil => rfl
  | cons h t ih => rw [List.any_cons, List.any_cons, ih, h.1]
theorem KV.repl {kvs : List (κ × V)} {vs : List (κ × Value)} (r : KV kvs vs) (k : κ) {y : V} {u : Value} (ry : RelV y u) :
    KV (kvs.map fun kv => if kv.1 = k then (kv.1, y) else kv) (vs.map fun kv => if kv.1 = k then (kv.1, u) else kv) := by
  unfold KV at r ⊢
  induction r with
  | nil => exact .nil
  | @cons p q ps qs h t ih =>
    rw [List.map_cons, List.map_cons]
    refine .cons ?_ ih
    obtain ⟨h1, h2⟩ := h
    by_cases e : p.1 = k
    · rw [if_pos e, if_pos (h1.symm.trans e)]; exact ⟨h1, ry⟩
    · rw [if_neg e, if_neg (fun z => e (h1.trans z))]; exact ⟨h1, h2⟩
theorem KV.put {kvs : List (κ × V)} {vs : List (κ × Value)} (r : KV kvs vs) (k : κ) {y : V} {u : Value} (ry : RelV y u) : KV (putK kvs k y) (stored vs k u) := by
  unfold putK stored
  rw [r.any k]
  by_cases e : (vs.any fun kv => decide (kv.1 = k)) = true
  · rw [if_pos e, if_pos e]; exact r.repl k ry
  · rw [if_neg e, if_neg e]; exact Paired.snoc r ⟨rfl, ry⟩
theorem KV.length {kvs : List (κ × V)} {vs : List (κ × Value)} (r : KV kvs vs) : kvs.length = vs.length := Paired.length r
end


/-! ### a tracked dict, its keys ints and texts or tuples of these -/
theorem kV_is {P : Program} {w : World} {k : Key} {u : Value} (r : RelV (kV k) u) : (mixKind P w).is k u = true := by
  cases k with
  | inl i => obtain ⟨t, e⟩ := (show ∃ t, u = Value.int i t from r); subst e; exact mixKind_int P w i t
  | inr x => obtain ⟨t, e⟩ := (show ∃ t, u = Value.str x t from r); subst e; exact mixKind_str P w x t
theorem items_are {P : Program} {w : World} : ∀ {ks : List Key} {us : List Value}, Vals (ks.map kV) us → ItemsAre (mixKind P w) ks us
  | [], _, r => by rw [List.map_nil] at r; cases r; exact .nil
  | k :: ks, _, r => by
    rw [List.map_cons] at r
    cases r with
    | cons h t => exact .cons (kV_is h) (items_are t)

/-- raw entries of a dict with tuple keys -/
abbrev KT (H : Hp) : List (List Key × V) → List (List Key × Addr × Value) → Prop := Paired fun p q => p.1 = q.1 ∧ H q.2.1 = some (.tup (p.1.map kV)) ∧ RelV p.2 q.2.2
theorem KT.val {H : Hp} {kvs : List (List Key × V)} {xs : List (List Key × Addr × Value)} (r : KT H kvs xs) (k : List Key) : RelO (valV kvs k) ((atKey xs k).map (·.2)) := by
  induction r with
  | nil => exact True.intro
  | @cons p q ps qs h t ih =>
    obtain ⟨h1, _, h2⟩ := h
    by_cases e : p.1 = k
    · have e' : q.1 = k := h1.symm.trans e
      have b : atKey (q :: qs) k = some q.2 := by simp [atKey, List.find?_cons, e']
      rw [valV_pos e, b]; exact h2
    · have e' : ¬ q.1 = k := fun z => e (h1.trans z)
      have b : atKey (q :: qs) k = atKey qs k := by simp [atKey, List.find?_cons, e']
      rw [valV_neg e, b]; exact ih
theorem KT.repl {H : Hp} {kvs : List (List Key × V)} {xs : List (List Key × Addr × Value)} (r : KT H kvs xs) (k : List Key) {y : V} {u : Value} (ry : RelV y u) :
    KT H (kvs.map fun kv => if kv.1 = k then (kv.1, y) else kv) (xs.map (putAt k u)) := by
  induction r with
  | nil => exact .nil
  | @cons p q ps qs h t ih =>
    rw [List.map_cons, List.map_cons]
    refine .cons ?_ ih
    obtain ⟨h1, h2, h3⟩ := h
    unfold putAt
    by_cases e : p.1 = k
    · rw [if_pos e, if_pos (h1.symm.trans e)]; exact ⟨h1, h2, ry⟩
    · rw [if_neg e, if_neg (fun z => e (h1.trans z))]; exact ⟨h1, h2, h3⟩
theorem KT.put {H : Hp} {kvs : List (List Key × V)} {xs : List (List Key × Addr × Value)} (r : KT H kvs xs) (k : List Key) {b : Addr} {y : V} {u : Value} (hb : H b = some (.tup (k.map kV))) (ry : RelV y u) :
    KT H (putK kvs k y) (storedH xs k b u) := by
  have e : (kvs.any fun kv => decide (kv.1 = k)) = (atKey xs k).isSome := by
    rw [valV_any, (r.val k).isSome_eq, Option.isSome_map]
  unfold putK storedH
  rw [e]
  by_cases q : (atKey xs k).isSome = true
  · rw [if_pos q, if_pos q]; exact r.repl k ry
  · rw [if_neg q, if_neg q]; exact Paired.snoc r ⟨rfl, hb, ry⟩
theorem KT.keeps {H H' : Hp} {kvs : List (List Key × V)} {xs : List (List Key × Addr × Value)} (r : KT H kvs xs) (ht : ∀ b ys, H b = some (.tup ys) → H' b = some (.tup ys)) : KT H' kvs xs :=
  Paired.mapP r fun _ _ z => ⟨z.1, ht _ _ z.2.1, z.2.2⟩

section
variable {P : Program} {w : World} {H : Hp} {h : Heap} {a : Addr}
theorem rd_of {u : HO} (ok : HOk P w H h) (e : Rd H a u) : ObjOk P w H h a u := e.ok ok
theorem dk_rd {kvs : List (Key × V)} (ok : HOk P w H h) (e : Rd H a (.dK kvs)) : kvs.length ≤ sizeLine ∧ (a == sysModules) = false ∧ ∃ vs, KV kvs vs ∧ h.DictOf (mixKind P w) a vs :=
  show ObjOk P w H h a (.dK kvs) from rd_of ok e
theorem dk_of {kvs : List (Key × V)} (ok : HOk P w H h) (e : H a = some (.dK kvs)) : kvs.length ≤ sizeLine ∧ (a == sysModules) = false ∧ ∃ vs, KV kvs vs ∧ h.DictOf (mixKind P w) a vs := dk_rd ok (.inl e)
/-- a tracked tuple of ints and texts is a key -/
theorem key_of {ks : List Key} (ok : HOk P w H h) (e : H a = some (.tup (ks.map kV))) : (tupleKind (mixKind P w)).is h ks a := by
  obtain ⟨_, its, r, o, h1, h2, n, h3⟩ := (show ObjOk P w H h a (.tup (ks.map kV)) from ok a _ e)
  exact ⟨o, its.toArray, n, h1, h2, h3, by simpa using items_are r⟩
theorem dt_rd {kvs : List (List Key × V)} (ok : HOk P w H h) (e : Rd H a (.dT kvs)) : kvs.length ≤ sizeLine ∧ (a == sysModules) = false ∧
    ∃ xs, KT H kvs xs ∧ h.DictOfH (tupleKind (mixKind P w)) a xs := by
  obtain ⟨z, y, xs, r, o, es, ep, h1, h2, h3, h4, h5⟩ := (show ObjOk P w H h a (.dT kvs) from rd_of ok e)
  refine ⟨z, y, xs, r, o, es, ep, h1, h2, h3, h4, fun x hx => ?_, h5⟩
  have all : ∀ {l : List (List Key × V)} {m : List (List Key × Addr × Value)}, KT H l m → ∀ x ∈ m, (tupleKind (mixKind P w)).is h x.1 x.2.1 := by
    intro l m q
    induction q with
    | nil => intro x hx; exact nomatch hx
    | @cons p q ps qs hq t ih =>
      intro x hx
      rcases List.mem_cons.mp hx with e | hx
      · subst e
        exact key_of ok (by rw [← hq.1]; exact hq.2.1)
      · exact ih x hx
  exact all r x hx
theorem dt_of {kvs : List (List Key × V)} (ok : HOk P w H h) (e : H a = some (.dT kvs)) : kvs.length ≤ sizeLine ∧ (a == sysModules) = false ∧
    ∃ xs, KT H kvs xs ∧ h.DictOfH (tupleKind (mixKind P w)) a xs := dt_rd ok (.inl e)
end

/-- what the dict at a holds at the key y -/
def DGet (H : Hp) (a : Addr) (y : V) (r : Option V) : Prop :=
  (∃ kvs k, Rd H a (.dK kvs) ∧ y = kV k ∧ r = valV kvs k) ∨ ∃ kvs k b, Rd H a (.dT kvs) ∧ y = .ref b ∧ H b = some (.tup (k.map kV)) ∧ r = valV kvs k
/-- the heap behind a[y] = v -/
def DPut (H : Hp) (a : Addr) (y v : V) (H' : Hp) : Prop :=
  (∃ kvs k, H a = some (.dK kvs) ∧ y = kV k ∧ kvs.length < sizeLine ∧ H' = upd H a (.dK (putK kvs k v))) ∨
  ∃ kvs k b, H a = some (.dT kvs) ∧ y = .ref b ∧ H b = some (.tup (k.map kV)) ∧ kvs.length < sizeLine ∧ H' = upd H a (.dT (putK kvs k v))
theorem DGet.k {H : Hp} {a : Addr} {kvs : List (Key × V)} {k : Key} (e : H a = some (.dK kvs)) : DGet H a (kV k) (valV kvs k) := .inl ⟨kvs, k, .inl e, rfl, rfl⟩
theorem DPut.k {H : Hp} {a : Addr} {kvs : List (Key × V)} {k : Key} {v : V} (e : H a = some (.dK kvs)) (hl : kvs.length < sizeLine) : DPut H a (kV k) v (upd H a (.dK (putK kvs k v))) := .inl ⟨kvs, k, e, rfl, hl, rfl⟩
section
variable {X : Cx} {pins : List (Addr × Obj)} {σ : St} {H : Hp} {s : Shared} {a : Addr} {y v : V} {u r : Value} {o : Option V} {A : Around} {E : Value → Shared → Prop}

theorem Inv.big (I : Inv X pins σ H s) : sysModules < s.heap.objs.size := by
  have h : mainGlobals < s.heap.objs.size := (I.mod.glob.keeps I.bk).lt
  exact Nat.lt_trans (by decide) h

/-- d[y], there -/
theorem d_getItem {Q : Value → Shared → Prop} (hu : A.units + 1 < cLine) (I : Inv X pins σ H s) (g : DGet H a y (some v)) (ry : RelV y u) (h : ∀ w' s', Inv X pins σ H s' → RelV v w' → Q w' s') :
    wpAny (model X.prog X.w) A (getItem (.ref a) u) Q E s := by
  rcases g with ⟨kvs, k, e, ey, l⟩ | ⟨kvs, k, b, e, ey, eb, l⟩
  · subst ey
    obtain ⟨z, hd, vs, rel, dd⟩ := dk_rd I.hok e
    obtain ⟨w', hw, rw'⟩ := RelO.some_of (v := v) (o := valueAt vs k) (by rw [l]; exact rel.val k)
    exact wpAny_getItem_of (kV_is ry) dd.mapOf hw (h w' _ (I.tok _) rw')
  · subst ey
    cases (show u = Value.ref b from ry)
    obtain ⟨z, hd, xs, rel, dd⟩ := dt_rd I.hok e
    obtain ⟨w', hw, rw'⟩ := RelO.some_of (v := v) (o := (atKey xs k).map (·.2)) (by rw [l]; exact rel.val k)
    obtain ⟨p, hp, hp2⟩ := Option.map_eq_some_iff.mp hw
    refine wpAny_getItem_heap (tupleKind_room_in1 hu) (key_of I.hok eb) dd hp ?_
    rw [hp2]
    exact h w' _ (I.tok _) rw'
/-- a dict's object is replaced -/
theorem d_write {h' : Heap} {t' : Nat} {ob : HO} (I : Inv X pins σ H s) (mu : Mut (H a)) (hs : Heap.SameBut a s.heap h') (he : ∃ q, h'.get? a = some q) (new : ObjOk X.prog X.w (upd H a ob) h' a ob) :
    Inv X pins σ (upd H a ob) { s with heap := h', toks := t' } :=
  I.write (x := a) (e := a) mu (.inl rfl) (fun b q hb z => (hs.2 b hb).trans z) he new
theorem dk_new {P : Program} {w : World} {H' : Hp} {h' : Heap} {kvs : List (Key × V)} {vs : List (Key × Value)} (z : kvs.length ≤ sizeLine) (hd : (a == sysModules) = false) (rel : KV kvs vs) (dd : h'.DictOf (mixKind P w) a vs) :
    ObjOk P w H' h' a (.dK kvs) := ⟨z, hd, vs, rel, dd⟩
/-- d[y] = v -/
theorem d_setItem {H' : Hp} {Q : Unit → Shared → Prop} (hu : A.units + 1 < cLine) (I : Inv X pins σ H s) (g : DPut H a y v H') (ry : RelV y u) (rv : RelV v r) (h : ∀ s', Inv X pins σ H' s' → Q () s') :
    wpAny (model X.prog X.w) A (setItem (.ref a) u r) Q E s := by
  rcases g with ⟨kvs, k, e, ey, l, eH⟩ | ⟨kvs, k, b, e, ey, eb, l, eH⟩
  · subst ey eH
    obtain ⟨z, hd, vs, rel, dd⟩ := dk_of I.hok e
    have hz : vs.length ≤ sizeLine := by rw [← rel.length]; exact z
    have hl : (putK kvs k v).length ≤ sizeLine := by have := length_putK kvs k v; omega
    refine wpAny_setItem_pairs (hsz := hz) (kV_is ry) dd fun h' dd' hs => h _ ?_
    have he : ∃ q, h'.get? a = some q := let ⟨q, _, _, hq, _⟩ := dd'; ⟨q, hq⟩
    exact d_write I (by rw [e]; exact True.intro) hs he (dk_new hl hd (rel.put k rv) dd')
  · subst ey eH
    cases (show u = Value.ref b from ry)
    obtain ⟨z, hd, xs, rel, dd⟩ := dt_of I.hok e
    have hz : xs.length ≤ sizeLine := by rw [← Paired.length rel]; exact z
    have hl : (putK kvs k v).length ≤ sizeLine := by have := length_putK kvs k v; omega
    refine wpAny_setItem_heap (hsz := hz) (tupleKind_room_in1 hu) (key_of I.hok eb) dd fun h' dd' hs => h _ ?_
    obtain ⟨q, es, ep, hq, h2, h3, h4, _, h5⟩ := dd'
    refine d_write I (by rw [e]; exact True.intro) hs ⟨q, hq⟩ ⟨hl, hd, _, (rel.put k eb rv).keeps fun c ys ec => ?_, q, es, ep, hq, h2, h3, h4, h5⟩
    rw [upd_ne (ne_of ec e (fun z => nomatch z))]
    exact ec
end

section
variable {X : Cx} {pins : List (Addr × Obj)} {σ : St} {H : Hp} {s : Shared} {a : Addr} {kvs : List (Key × V)} {k : Key} {u : Value} {A : Around} {E : Value → Shared → Prop}
end


/-! ### readings and rules -/
/-- the element of a subscription, not a slice -/
def NoSl (i : Expr) : Prop := ∀ ov iv, subscripted i false ov iv = operate [ov, iv] (getItem ov iv)
theorem subD_of {prog : Program} {w : World} {A : Around} {E : Value → Shared → Prop} {s : Shared} {env : Env} {value slice : Expr} {pos : Pos} {T id : String} {Q : Value → Shared → Prop}
    (hl : typeLookup (.type T) "__getitem__" = pure (some (.builtin id))) (hs : NoSl slice)
    (h : wpAny (model prog w) A (eval value env) (fun o s₁ => wpAny (model prog w) A (eval slice env) (fun i s₂ => s₂.TypeIs o T ∧ wpAny (model prog w) A (getItem o i) Q E s₂) E s₁) E s) :
    wpAny (model prog w) A (eval (.Subscript value slice pos) env) Q E s := by
  refine Subscript_ (wpAny_mono h (fun o s₁ h₁ => wpAny_mono h₁ (fun i s₂ h₂ => ?_) fun _ _ x => x) fun _ _ x => x)
  obtain ⟨hT, h₂⟩ := h₂
  unfold subscriptTail
  refine wpAny_bind ?_
  rw [getitemInPython_of_ne hT.not_modules]
  refine wpAny_bind (wpAny_specialOf hT hl ?_)
  have fin : wpAny (model prog w) A (subscripted slice false o i) (fun r s₃ => wpAny (model prog w) A (letTemporaryGo value o r >>= fun _ => pure r) Q E s₃) E s₂ := by
    rw [hs o i]
    exact wpAny_operating (wpAny_mono h₂ (fun r s₃ h₃ => wpAny_bind (wpAny_letTemporaryGo (wpAny_pure h₃))) fun _ _ x => x)
  first
    | exact wpAny_pure (wpAny_bind fin)
    | exact wpAny_bind (wpAny_pure (wpAny_bind fin))
    | exact wpAny_bind fin

theorem dict_typeIs {X : Cx} {pins : List (Addr × Obj)} {σ : St} {H : Hp} {s : Shared} {a : Addr} {y : V} {o : Option V} (I : Inv X pins σ H s) (g : DGet H a y o) : s.TypeIs (.ref a) "dict" := by
  rcases g with ⟨kvs, k, e, _, _⟩ | ⟨kvs, k, b, e, _, _, _⟩
  · obtain ⟨_, _, vs, _, dd⟩ := dk_rd I.hok e
    exact dd.typeIs
  · obtain ⟨_, _, xs, _, dd⟩ := dt_rd I.hok e
    exact dd.typeIs
/-- d[y] -/
def tDGet (td ty : TE) : TE := fun σ H Q => td σ H fun x H1 => ty σ H1 fun y H2 => ∃ a v, x = .ref a ∧ DGet H2 a y (some v) ∧ Q v H2
/-- d[y] = v -/
def sDPut (td ty tv : TE) : TS := fun D σ H => tv σ H fun v H1 => td σ H1 fun x H2 => ty σ H2 fun y H3 => ∃ a H4, x = .ref a ∧ DPut H3 a y v H4 ∧ D.nx σ H4
section
variable {X : Cx} {o i e value : Expr} {pos pos' tpos : Pos} {td ty tv : TE}
theorem pe_dget (hu : X.A.units + 1 < cLine) (ho : PE X o td) (hi : PE X i ty) (hs : NoSl i) : PE X (.Subscript o i pos) (tDGet td ty) := by
  intro pins s σ H Q I h
  refine subD_of PySem.F.slot_dict_getitem.lookup hs (thn (ho pins s σ H _ I h) fun u s1 ⟨x, H1, I1, rx, q1⟩ => thn (hi pins s1 σ H1 _ I1 q1) fun iv s2 ⟨y, H2, I2, ry, a, v, ex, g, q2⟩ => ?_)
  subst ex
  obtain rfl : u = Value.ref a := rx
  exact ⟨dict_typeIs I2 g, d_getItem hu I2 g ry fun w' s3 I3 rw' => ⟨v, H2, I3, rw', q2⟩⟩
theorem ps_dput (hu : X.A.units + 1 < cLine) (ho : PE X o td) (hi : PE X i ty) (hv : PE X value tv) (hs : swapsWith value (some (.Subscript o i pos')) pos.line X.env = pure false) :
    PS X (.Assign [.Subscript o i pos'] value pos) (sDPut td ty tv) := by
  intro pins s σ H D I h
  refine wpAny_Assign_Subscript (thn (hv pins s σ H _ I h) fun r s1 ⟨v, H1, I1, rv, q1⟩ => thn (ho pins s1 σ H1 _ I1 q1) fun u s2 ⟨x, H2, I2, rx, q2⟩ => thn (hi pins s2 σ H2 _ I2 q2) fun iv s3 ⟨y, H3, I3, ry, a, H4, ex, g, q3⟩ => ?_) hs
  subst ex
  obtain rfl : u = Value.ref a := rx
  exact d_setItem hu I3 g ry rv fun s4 I4 => ⟨σ, H4, I4, q3⟩
end


/-! ### displays -/
theorem dk_empty {P : Program} {w : World} {H : Hp} (h : Heap) (hb : sysModules < h.objs.size) : ObjOk P w H (h.push { cls := .type "dict", data := .dict #[] }) h.objs.size (.dK []) :=
  ⟨Nat.zero_le _, beq_eq_false_iff_ne.mpr (Ne.symm (Nat.ne_of_lt hb)), [], .nil, Heap.DictOf.new h⟩
/-- {}, to be a dict of the kind that is wanted -/
def tDNewK : TE := fun _ H Q => ∀ p, H p = none → Q (.ref p) (upd H p (.dK []))
section
variable {X : Cx} {pos : Pos}
theorem pe_dnewK : PE X (.Dict [] [] pos) tDNewK := fun pins s σ H Q I h =>
  wpAny_Dict_empty ⟨.ref s.heap.objs.size, _, I.laid (a := s.heap.objs.size) (o := .dK []) (t' := s.toks) (fun _ _ q => Heap.get?_push_of_some _ q) (Nat.le_refl _) (dk_empty s.heap I.big), rfl, h _ (I.hok.fresh (Nat.le_refl _))⟩
end

/-- the pairs of a display, from the left -/
def tPairs : List (TE × TE) → St → Hp → (List (V × V) → Hp → Prop) → Prop
  | [], _, H, Q => Q [] H
  | (tk, tv) :: r, σ, H, Q => tk σ H fun x H1 => tv σ H1 fun y H2 => tPairs r σ H2 fun ps H3 => Q ((x, y) :: ps) H3
abbrev VV : List (V × V) → List (Value × Value) → Prop := Paired fun p q => RelV p.1 q.1 ∧ RelV p.2 q.2
def PPs (X : Cx) (pos : Pos) (keys : List (Option Expr)) (values : List Expr) (trs : List (TE × TE)) : Prop :=
  ∀ (pins : List (Addr × Obj)) (s : Shared) (σ : St) (H : Hp) (Q : List (V × V) → Hp → Prop), Inv X pins σ H s → tPairs trs σ H Q →
    wpAny (model X.prog X.w) X.A (evalPairs (pairTrees keys values X.env pos)) (fun vs s' => ∃ ps H', Inv X pins σ H' s' ∧ VV ps vs ∧ Q ps H') X.xe s
theorem pps_nil {X : Cx} {pos : Pos} : PPs X pos [] [] [] := fun pins s σ H Q I h => pairTrees_nil_walk ⟨[], H, I, .nil, h⟩
theorem pps_cons {X : Cx} {pos : Pos} {k v : Expr} {ks : List (Option Expr)} {vs : List Expr} {tk tv : TE} {trs : List (TE × TE)} (hk : PE X k tk) (hv : PE X v tv) (hr : PPs X pos ks vs trs) :
    PPs X pos (some k :: ks) (v :: vs) ((tk, tv) :: trs) := fun pins s σ H Q I h =>
  pairTrees_cons_walk (thn (hk pins s σ H _ I h) fun u s1 ⟨x, H1, I1, rx, q1⟩ => thn (hv pins s1 σ H1 _ I1 q1) fun w2 s2 ⟨y, H2, I2, ry, q2⟩ =>
    thn (hr pins s2 σ H2 _ I2 q2) fun ws s3 ⟨ps, H3, I3, rel, q3⟩ => ⟨(x, y) :: ps, H3, I3, .cons ⟨rx, ry⟩ rel, q3⟩)

def mergeK (kvs more : List (Key × V)) : List (Key × V) := more.foldl (fun acc kv => putK acc kv.1 kv.2) kvs
theorem KV.merge : ∀ {more : List (Key × V)} {rs : List (Key × Value)} {kvs : List (Key × V)} {vs : List (Key × Value)}, KV more rs → KV kvs vs → KV (mergeK kvs more) (merged vs rs) := by
  intro more rs kvs vs r
  unfold KV at r
  induction r generalizing kvs vs with
  | nil => intro q; exact q
  | @cons p q ps qs h t ih =>
    intro r0
    have e : KV (putK kvs p.1 p.2) (stored vs q.1 q.2) := by
      have := r0.put p.1 h.2
      rw [← h.1]; exact this
    exact ih e
theorem length_mergeK : ∀ (more kvs : List (Key × V)), (mergeK kvs more).length ≤ kvs.length + more.length
  | [], kvs => by show kvs.length ≤ kvs.length + 0; omega
  | p :: r, kvs => by
    have h1 := length_mergeK r (putK kvs p.1 p.2)
    have h2 := length_putK kvs p.1 p.2
    show (mergeK (putK kvs p.1 p.2) r).length ≤ _
    rw [List.length_cons]; omega
theorem carries_of {P : Program} {w : World} : ∀ {kvs : List (Key × V)} {ws : List (Value × Value)}, VV (kvs.map fun kv => (kV kv.1, kv.2)) ws → ∃ rs, Carries (mixKind P w) ws rs ∧ KV kvs rs
  | [], _, r => by rw [List.map_nil] at r; cases r; exact ⟨[], True.intro, .nil⟩
  | p :: kvs, _, r => by
    rw [List.map_cons] at r
    cases r with
    | @cons a b as bs h t =>
      obtain ⟨rs, c, q⟩ := carries_of (P := P) (w := w) t
      obtain ⟨b1, b2⟩ := b
      exact ⟨(p.1, b2) :: rs, ⟨kV_is h.1, rfl, c⟩, .cons ⟨rfl, h.2⟩ q⟩
/-- {k: v, ..} with keys ints and texts; the new dict stands empty while the pairs are made -/
def tDisp (trs : List (TE × TE)) : TE := fun σ H Q => ∀ p, H p = none → tPairs trs σ (upd H p (.dK [])) fun ps H2 => H2 p = some (.dK []) ∧ ∃ kvs : List (Key × V), ps = kvs.map (fun kv => (kV kv.1, kv.2)) ∧ kvs.length ≤ 15 ∧ Q (.ref p) (upd H2 p (.dK (mergeK [] kvs)))
theorem pe_disp {X : Cx} {pos : Pos} {keys : List (Option Expr)} {values : List Expr} {trs : List (TE × TE)} (h : PPs X pos keys values trs) (hall : keys.all (·.isSome) = true) (hl : keys.length = values.length) (h0 : keys ≠ [])
    (h15 : keys.length ≤ 15) : PE X (.Dict keys values pos) (tDisp trs) := by
  intro pins s σ H Q I q
  have hn := I.hok.fresh (Nat.le_refl s.heap.objs.size)
  have I1 := I.laid (a := s.heap.objs.size) (o := .dK []) (h' := s.heap.push { cls := .type "dict", data := .dict #[] }) (t' := s.toks) (fun _ _ q => Heap.get?_push_of_some _ q) (Nat.le_refl _) (dk_empty s.heap I.big)
  refine wpAny_Dict_walk (knd := mixKind X.prog X.w) hall hl h0 h15 (thn (h pins _ σ _ _ I1 (q _ hn)) fun ws s2 ⟨ps, H2, I2, rel, e, kvs, ep, lk, q2⟩ => ?_)
  subst ep
  obtain ⟨rs, c, rk⟩ := carries_of (P := X.prog) (w := X.w) rel
  obtain ⟨z, hd, vs0, r0, dd⟩ := dk_of I2.hok e
  cases r0
  refine ⟨rs, c, dd, fun h' dd' hs => ⟨.ref s.heap.objs.size, _, ?_, rfl, q2⟩⟩
  have hz : (mergeK [] kvs).length ≤ sizeLine := by
    have h1 := length_mergeK kvs []
    rw [List.length_nil] at h1
    rw [sizeLine_eq]; omega
  have he : ∃ q, h'.get? s.heap.objs.size = some q := let ⟨q, _, _, hq, _⟩ := dd'; ⟨q, hq⟩
  exact d_write I2 (by rw [e]; exact True.intro) hs he (dk_new hz hd (rk.merge .nil) dd')


/-! ### methods -/
section
variable {X : Cx} {pins : List (Addr × Obj)} {σ : St} {H : Hp} {s : Shared} {a : Addr} {y d : V} {u r : Value} {o : Option V} {A : Around} {E : Value → Shared → Prop}
end

section
variable {X : Cx} {o e f : Expr} {apos cpos : Pos} {td ty tx : TE}
end

/-! ### dict(d): a copy -/
section
variable {X : Cx} {pins : List (Addr × Obj)} {σ : St} {H : Hp} {s : Shared} {a : Addr} {kvs : List (Key × V)} {A : Around} {E : Value → Shared → Prop}
end


section
variable {X : Cx} {pins : List (Addr × Obj)} {σ : St} {H : Hp} {s : Shared} {a : Addr} {y : V} {u : Value} {A : Around} {E : Value → Shared → Prop}
end
end L2


set_option maxRecDepth 100000
namespace FrM
/-- below 2 ^ n in size -/
def Sz (n : Nat) (a : Int) : Prop := a.natAbs < 2 ^ n
theorem Sz.mono {m n : Nat} {a : Int} (h : Sz m a) (hmn : m ≤ n) : Sz n a := Nat.lt_of_lt_of_le h (Nat.pow_le_pow_right (by decide) hmn)
theorem Sz.mul {m n : Nat} {a b : Int} (ha : Sz m a) (hb : Sz n b) : Sz (m + n) (a * b) := by
  unfold Sz at *
  rw [Int.natAbs_mul, Nat.pow_add]
  exact Nat.mul_lt_mul'' ha hb
theorem Sz.neg {m : Nat} {a : Int} (ha : Sz m a) : Sz m (-a) := by
  unfold Sz at *; rw [Int.natAbs_neg]; exact ha
theorem Sz.pow {m : Nat} {a : Int} (ha : Sz m a) : ∀ n : Nat, Sz (m * n + 1) (a ^ n)
  | 0 => by unfold Sz; simp
  | n + 1 => by
    have h := (Sz.pow ha n).mul ha
    rw [Int.pow_succ]
    exact h.mono (by rw [Nat.mul_succ]; omega)
theorem Sz.div {m : Nat} {a g : Int} (ha : Sz m a) (_hg : 0 < g) : Sz m (a / g) := by
  unfold Sz at *
  refine Nat.lt_of_le_of_lt ?_ ha
  exact Int.natAbs_ediv_le_natAbs a g
theorem Sz.of {a : Int} {n : Nat} (h1 : -(2 ^ n : Int) < a) (h2 : a < 2 ^ n) : Sz n a := by
  unfold Sz
  have e : ((2 ^ n : Nat) : Int) = (2 : Int) ^ n := by simp
  omega
theorem gcd_step (a b : Int) (_hb : 0 < b) : Int.gcd b (a % b) = Int.gcd a b := by
  rw [Int.gcd_comm, Int.emod_def, Int.gcd_sub_mul_left_left]
theorem gcd_zero (g : Int) (h : 0 ≤ g) : ((Int.gcd g 0 : Nat) : Int) = g := by
  rw [Int.gcd_zero_right]; omega
theorem gcd_pos (a : Int) {b : Int} (hb : 0 < b) : 0 < ((Int.gcd a b : Nat) : Int) := by
  have := Int.gcd_pos_of_ne_zero_right a (b := b) (by omega)
  omega
/-- what fraction tells -/
def fa (a b : Int) : Int := a / ((Int.gcd a b : Nat) : Int)
def fb (a b : Int) : Int := b / ((Int.gcd a b : Nat) : Int)
theorem fb_mul (a b : Int) : fb a b * ((Int.gcd a b : Nat) : Int) = b := Int.ediv_mul_cancel (Int.gcd_dvd_right a b)
theorem fb_pos (a : Int) {b : Int} (hb : 0 < b) : 0 < fb a b := by
  have h1 := fb_mul a b
  have h2 := gcd_pos a hb
  rcases Int.lt_trichotomy (fb a b) 0 with h | h | h
  · have := Int.mul_neg_of_neg_of_pos h h2; omega
  · rw [h, Int.zero_mul] at h1; omega
  · exact h
theorem f_gcd (a : Int) {b : Int} (hb : 0 < b) : Int.gcd (fa a b) (fb a b) = 1 := by
  unfold fa fb
  exact Int.gcd_ediv_gcd_ediv_gcd (by have := gcd_pos a hb; omega)
theorem fa_sz {n : Nat} {a b : Int} (h : Sz n a) (hb : 0 < b) : Sz n (fa a b) := h.div (gcd_pos a hb)
theorem fb_sz {n : Nat} {a b : Int} (h : Sz n b) (hb : 0 < b) : Sz n (fb a b) := h.div (gcd_pos a hb)
/-- the going on of a power by squares: product = base ^ i, square = base ^ j, i + j * left = e -/
structure PowI (base : Int) (e : Nat) (product square left : Int) : Prop where
  nn : 0 ≤ left
  ex : ∃ i j : Nat, product = base ^ i ∧ square = base ^ j ∧ i + j * left.toNat = e
theorem PowI.start (base : Int) {e : Int} (h : 0 ≤ e) : PowI base e.toNat 1 base e := ⟨h, 0, 1, by rw [Int.pow_zero], by rw [Int.pow_succ, Int.pow_zero, Int.one_mul], by omega⟩
theorem PowI.done {base product square : Int} {e : Nat} (h : PowI base e product square 0) : product = base ^ e := by
  obtain ⟨_, i, j, h1, h2, h3⟩ := h
  have : i = e := by simpa using h3
  rw [h1, this]
theorem PowI.sz {base product square left : Int} {e m : Nat} (h : PowI base e product square left) (hl : 0 < left) (hb : Sz m base) : Sz (m * e + 1) product ∧ Sz (m * e + 1) square := by
  obtain ⟨_, i, j, h1, h2, h3⟩ := h
  have hn : 1 ≤ left.toNat := by omega
  have hi : i ≤ e := by omega
  have hj : j ≤ e := by
    have : j * 1 ≤ j * left.toNat := Nat.mul_le_mul_left j hn
    omega
  subst h1 h2
  exact ⟨(hb.pow i).mono (by have := Nat.mul_le_mul_left m hi; omega), (hb.pow j).mono (by have := Nat.mul_le_mul_left m hj; omega)⟩
theorem PowI.odd_last {base product square left : Int} {e : Nat} (h : PowI base e product square left) (ho : left % 2 = 1) (hz : ¬ 0 < left / 2) : PowI base e (product * square) square (left / 2) := by
  obtain ⟨nn, i, j, h1, h2, h3⟩ := h
  have e1 : left = 1 := by omega
  subst e1
  refine ⟨by decide, i + j, j, by rw [h1, h2, ← Int.pow_add], h2, ?_⟩
  simp at h3 ⊢; omega
theorem PowI.odd {base product square left : Int} {e : Nat} (h : PowI base e product square left) (ho : left % 2 = 1) : PowI base e (product * square) (square * square) (left / 2) := by
  obtain ⟨nn, i, j, h1, h2, h3⟩ := h
  obtain ⟨m, hm⟩ : ∃ m : Nat, left = 2 * m + 1 := ⟨(left / 2).toNat, by omega⟩
  have hd : left / 2 = m := by omega
  refine ⟨by omega, i + j, j + j, by rw [h1, h2, ← Int.pow_add], by rw [h2, ← Int.pow_add], ?_⟩
  have ht : left.toNat = 2 * m + 1 := by omega
  rw [ht] at h3
  rw [hd]
  simp only [Int.toNat_natCast]
  rw [← h3, Nat.add_mul, Nat.mul_add, Nat.mul_one, Nat.two_mul, Nat.mul_add]; omega
theorem PowI.even {base product square left : Int} {e : Nat} (h : PowI base e product square left) (ho : ¬ left % 2 = 1) : PowI base e product (square * square) (left / 2) := by
  obtain ⟨nn, i, j, h1, h2, h3⟩ := h
  obtain ⟨m, hm⟩ : ∃ m : Nat, left = 2 * m := ⟨(left / 2).toNat, by omega⟩
  have hd : left / 2 = m := by omega
  refine ⟨by omega, i, j + j, h1, by rw [h2, ← Int.pow_add], ?_⟩
  have ht : left.toNat = 2 * m := by omega
  rw [ht] at h3
  rw [hd]
  simp only [Int.toNat_natCast]
  rw [← h3, Nat.add_mul, Nat.two_mul, Nat.mul_add]
theorem PowI.even_last {base product square left : Int} {e : Nat} (h : PowI base e product square left) (hl : 0 < left) (ho : ¬ left % 2 = 1) : 0 < left / 2 := by
  have := h.nn; omega
end FrM

set_option Elab.async false
set_option linter.all false
set_option maxRecDepth 100000
set_option maxHeartbeats 4000000
/-! Exceptions over the hand layer: raised, passing, caught. -/
namespace L2
open PySem PySem.Spec PyProof.Rows

theorem ObjOk.there {P : Program} {w : World} {H : Hp} {h : Heap} {a : Addr} {o : HO} (x : ObjOk P w H h a o) : ∃ u, h.get? a = some u := by
  cases o with
  | lst xs => obtain ⟨_, _, _, _, e⟩ := x; exact ⟨_, e⟩
  | tup xs => obtain ⟨_, _, _, _, e, _⟩ := x; exact ⟨_, e⟩
  | dK kvs => obtain ⟨_, _, _, _, _, _, _, e, _⟩ := x; exact ⟨_, e⟩
  | dT kvs => obtain ⟨_, _, _, _, _, _, _, e, _⟩ := x; exact ⟨_, e⟩
  | set S n => obtain ⟨_, _, _, _, e, _⟩ := x; exact ⟨_, e⟩
  | ins C dx fs => obtain ⟨_, _, _, e, _⟩ := x; exact ⟨_, e⟩
  | own y => obtain ⟨_, e⟩ := x; exact ⟨_, e⟩
  | xd fs => obtain ⟨_, ⟨_, _, _, e, _⟩, _⟩ := x; exact ⟨_, e⟩
  | rng lo hi => obtain ⟨_, _, _, e⟩ := x; exact ⟨_, e⟩
  | frz ob u => obtain ⟨e, _⟩ := x; exact ⟨_, e⟩
  | tbl ps => exact ⟨_, (show h.get? a = some _ from x)⟩
  | met f y => exact ⟨_, (show h.get? a = some _ from x)⟩
  | ext φ => obtain ⟨_, ⟨_, e⟩, _⟩ := x; exact ⟨_, e⟩
theorem HOk.untracked {P : Program} {w : World} {H : Hp} {h : Heap} {a : Addr} (x : HOk P w H h) (e : h.get? a = none) : H a = none := by
  cases q : H a with
  | none => rfl
  | some o =>
    obtain ⟨u, z⟩ := (x a o q).there
    rw [e] at z
    cases z

/-- what stands through an exception's flight: B is the part of the heap that the flight never touches -/
structure FlyU (fs : List Addr) (H H' : Hp) (h B h' : Heap) : Prop where
  keep : ∀ b o, h.get? b = some o → H b = none → b ∉ fs → B.get? b = some o
  slot : ∀ b o, h.get? b = some o → H b = none → b ∈ fs → ∃ sl, h'.get? b = some { o with slots := sl }
  inB : ∀ b o, h.get? b = some o → b ∉ fs → ∃ o', B.get? b = some o'
  free : ∀ b o, h.get? b = some o → H b = none → H' b = none
  tups : ∀ b xs, H b = some (.tup xs) → H' b = some (.tup xs)
  frzs : ∀ b o u, H b = some (.frz o u) → H' b = some (.frz o u)
  tbls : ∀ b ps, H b = some (.tbl ps) → ∃ more, H' b = some (.tbl (ps ++ more))
theorem FlyU.un {fs : List Addr} {H H' : Hp} {h B h' : Heap} (U : FlyU fs H H' h B h') (st : B.StaysIn h') (hf : ∀ b ∈ fs, H b = none) : Un fs [] H H' h h' where
  keep := fun b o e n hb _ => st b o (U.keep b o e n hb)
  slot := fun b o e n hb _ => U.slot b o e n hb
  free := fun b o e n _ => U.free b o e n
  there := fun b o e _ => by
    by_cases hb : b ∈ fs
    · obtain ⟨sl, q⟩ := U.slot b o e (hf b hb) hb
      exact ⟨_, q⟩
    · obtain ⟨o', q⟩ := U.inB b o e hb
      exact ⟨o', st b o' q⟩
  tups := U.tups
  frzs := U.frzs
  tbls := U.tbls
theorem FlyU.land {l : List Env} {H H' : Hp} {h B h1 h2 : Heap} (U : FlyU (frs l) H H' h B h1) (ff : h1.FunFrames B l) (up : h1.UpToSlots h2) : FlyU (frs l) H H' h B h2 :=
  ⟨U.keep, fun b o e n hb => by
    obtain ⟨sl, q⟩ := U.slot b o e n hb
    obtain ⟨_, o', e', hd⟩ := ff.mem hb
    rw [q] at e'
    cases e'
    obtain ⟨sl3, z3⟩ := up b _ q hd
    exact ⟨sl3, z3⟩, U.inB, U.free, U.tups, U.frzs, U.tbls⟩

/-- an exception behind a call -/
def Fly (P : Program) (w : World) : CXT := fun outer H s E e s' =>
  ∃ (ea : Addr) (cls a0 : Value) (H' : Hp) (B : Heap), e = .ref ea ∧ s'.os = s.os ∧ AllBare s'.gens ∧ Heap.FlyingW B outer ea cls a0 s'.heap ∧ HOk P w H' B ∧ FlyU (frs outer) H H' s.heap B s'.heap ∧ E cls none H'

/-- an exception of a callee, of a raise: what the body wants, by the names' values where it comes -/
def PassesS (CX : CXT) (X : Cx) (E : St → XK) : Prop := ∀ (pins : List (Addr × Obj)) (σ : St) (H : Hp) (s : Shared) (e : Value) (s' : Shared), Inv X pins σ H s → CX X.stack H s (E σ) e s' → X.xe e s'
def RaisesS (X : Cx) (E : St → XK) : Prop := ∀ (pins : List (Addr × Obj)) (σ : St) (H : Hp) (s : Shared) (h1 : Heap) (ea : Addr) (cls : Value) (args : List Value), Inv X pins σ H s → Heap.MadeExcOf s.heap h1 ea cls args → E σ cls none H → X.xe (.ref ea) { s with heap := h1 }

section
variable {P : Program} {w : World} {K : PySem.W.Frag} {mg : Str → Option Value} {base : Heap} {N : List Str} {qual : Str} {scope : Scope} {f : Addr} {cd : Value} {A : Around} {outer : List Env} {s₀ : Shared} {H₀ : Hp} {E : XK}
theorem frs_cons {env : Env} {l : List Env} {b : Addr} (h : b ∈ frs l) : b ∈ frs (env :: l) := by
  obtain ⟨e, he, q⟩ := List.mem_filterMap.mp h
  exact List.mem_filterMap.mpr ⟨e, .tail _ he, q⟩
theorem pass_fly : PassesS (Fly P w) (cxOf (Fly P w) P w K mg base N qual scope f cd A outer s₀ H₀ E) (fun _ => E) := by
  intro pins σ H s e s' I h
  obtain ⟨ea, cls, a0, H', B, he, hos, hb, hfl, hok, U, q⟩ := h
  subst he
  show wpAny (model P w) (A.deeper (envOfC qual scope s₀.heap.objs.size f cd)) (leaving (envOfC qual scope s₀.heap.objs.size f cd) (.ref ea)) (fun _ s'' => Fly P w outer H₀ s₀ E (.ref ea) s'') (fun e' s'' => Fly P w outer H₀ s₀ E e' s'') s'
  have hfr : (A.deeper (envOfC qual scope s₀.heap.objs.size f cd)).frames = some (envOfC qual scope s₀.heap.objs.size f cd :: outer) := I.ok.frames
  have nx : ∀ b : Addr, b ∉ ([] : List Addr) := fun b => by simp
  have nst : ∀ b o, s₀.heap.get? b = some o → b ∉ frs outer → b ∉ frs (envOfC qual scope s₀.heap.objs.size f cd :: outer) := fun b o e hb z => by
    rcases List.mem_cons.mp (I.stkSub b z) with y | y
    · exact Nat.ne_of_lt (Nat.lt_of_lt_of_le (Heap.lt_size e) I.ok.above) y
    · exact hb y
  refine wpAny_leaves_onW hfr rfl hfl fun h' x1 x2 => ?_
  refine ⟨ea, cls, a0, H', B, rfl, hos.trans I.os, hb, x1, hok, ⟨fun b o e n hb => ?_, fun b o e n hb => ?_, fun b o e hb => ?_, fun b o e n => ?_, fun b xs e => U.tups b xs (I.base.tups b xs e), fun b o u e => U.frzs b o u (I.base.frzs b o u e), fun b ps e => ?_⟩, q⟩
  · exact U.keep b o (I.base.keep b o e n hb (nx b)) (I.base.free b o e n (nx b)) (nst b o e hb)
  · obtain ⟨sl, e1⟩ := I.base.slot b o e n hb (nx b)
    obtain ⟨sl2, e2⟩ := U.slot b _ e1 (I.base.free b o e n (nx b)) (frs_cons hb)
    obtain ⟨_, o', e3, hd⟩ := hfl.2.2.1.mem (frs_cons hb)
    rw [e2] at e3
    cases e3
    obtain ⟨sl3, z3⟩ := x2 b _ e2 hd
    exact ⟨sl3, z3⟩
  · obtain ⟨o1, e1⟩ := I.base.there b o e (nx b)
    exact U.inB b o1 e1 (nst b o e hb)
  · obtain ⟨o1, e1⟩ := I.base.there b o e (nx b)
    exact U.free b o1 e1 (I.base.free b o e n (nx b))
  · obtain ⟨m1, e1⟩ := I.base.tbls b ps e
    obtain ⟨m2, e2⟩ := U.tbls b _ e1
    exact ⟨m1 ++ m2, by rw [e2, Array.append_assoc]⟩
theorem raises_fly : RaisesS (cxOf (Fly P w) P w K mg base N qual scope f cd A outer s₀ H₀ E) (fun _ => E) := by
  intro pins σ H s h1 ea cls args I hx q
  show wpAny (model P w) (A.deeper (envOfC qual scope s₀.heap.objs.size f cd)) (leaving (envOfC qual scope s₀.heap.objs.size f cd) (.ref ea)) (fun _ s'' => Fly P w outer H₀ s₀ E (.ref ea) s'') (fun e' s'' => Fly P w outer H₀ s₀ E e' s'') { s with heap := h1 }
  have hfr : (A.deeper (envOfC qual scope s₀.heap.objs.size f cd)).frames = some (envOfC qual scope s₀.heap.objs.size f cd :: outer) := I.ok.frames
  have nx : ∀ b : Addr, b ∉ ([] : List Addr) := fun b => by simp
  have nst : ∀ b o, s₀.heap.get? b = some o → b ∉ frs outer → b ∉ frs (envOfC qual scope s₀.heap.objs.size f cd :: outer) := fun b o e hb z => by
    rcases List.mem_cons.mp (I.stkSub b z) with y | y
    · exact Nat.ne_of_lt (Nat.lt_of_lt_of_le (Heap.lt_size e) I.ok.above) y
    · exact hb y
  have ff : s.heap.FunFrames base (envOfC qual scope s₀.heap.objs.size f cd :: outer) := I.stack
  have hin : ∀ env ∈ (envOfC qual scope s₀.heap.objs.size f cd :: outer), ∀ b, env.frame = some b → b ∈ frs (envOfC qual scope s₀.heap.objs.size f cd :: outer) := fun env he b hb => List.mem_filterMap.mpr ⟨env, he, hb⟩
  have hokB : HOk P w H (PySem.W.hideAll s.heap (frs (envOfC qual scope s₀.heap.objs.size f cd :: outer))) := fun a o e => (I.hok a o e).stay (fun b u hb e1 => PySem.W.hideAll_get _ e1 fun hm => by
      have z := I.stkFree b hm
      rcases hb with y | y
      · rw [y, e] at z; cases z
      · rw [y] at z; cases z) (fun _ q => q) fun _ _ q => q
  refine wpAny_leaves_madeW (base := PySem.W.hideAll s.heap (frs (envOfC qual scope s₀.heap.objs.size f cd :: outer))) (h := s.heap) hfr rfl (fun b o q => PySem.W.of_hideAll _ q) (PySem.W.funFrames_hide ff hin) hx fun h' t x1 x2 x3 x4 => ?_
  refine ⟨ea, cls, .ref t, H, _, rfl, I.os, I.bare, x1, hokB, ⟨fun b o e n hb => ?_, fun b o e n hb => ?_, fun b o e hb => ?_, fun b o e n => I.base.free b o e n (nx b), I.base.tups, I.base.frzs, I.base.tbls⟩, q⟩
  · exact PySem.W.hideAll_get _ (I.base.keep b o e n hb (nx b)) (nst b o e hb)
  · obtain ⟨sl, e1⟩ := I.base.slot b o e n hb (nx b)
    obtain ⟨_, o', e3, hd⟩ := ff.mem (frs_cons hb)
    rw [e1] at e3
    cases e3
    obtain ⟨sl3, z3⟩ := x4 b _ (hx.keeps b _ e1) hd
    exact ⟨sl3, z3⟩
  · obtain ⟨o1, e1⟩ := I.base.there b o e (nx b)
    exact ⟨o1, PySem.W.hideAll_get _ e1 (nst b o e hb)⟩
end

section
variable {X : Cx} {CX : CXT} {k : Nat} {f C : Addr} {fd : FuncData} {ps : List Str} {sp : Sp} {dvs : List V} {ds : List Value} {E : St → XK} {x : Str} {p pos : Pos} {e : Expr} {es : List Expr} {t : TA}
/-- f(..) that may raise -/
def tCallS (sp : Sp) (dvs : List V) (E : St → XK) (t : TA) : TE := fun σ H Q => t σ H fun vs H1 => sp (vs ++ dvs) H1 Q (E σ)
theorem run_fnS {pins : List (Addr × Obj)} {σ : St} {H : Hp} {s : Shared} {Q : VK} {us : List Value} {vs : List V} (F : FnOk X.prog X.w X.K X.mg X.base CX k f fd ps sp) (hr : Room k X.A) (hb : Binds X.K fd ps ds) (hd : Vals dvs ds) (hx : PassesS CX X E)
    (I : Inv X pins σ H s) (r : Vals vs us) (h : sp (vs ++ dvs) H Q (E σ)) : wpAny (model X.prog X.w) X.A (call (.ref f) us) (EP X pins σ Q) X.xe s := by
  have r2 : Vals (vs ++ dvs) (us ++ ds) := r.append hd
  have hl : (us ++ ds).length = ps.length := by rw [← r2.length]; exact F.len _ _ _ _ h
  refine wpAny_call (codeAny_mono (F.run X.A X.stack s H ⟨us, []⟩ (us ++ ds) (vs ++ dvs) Q (E σ) hr I.env0 (hb s us I.kIn hl) r2 h) fun r s' hq => ?_)
  cases r with
  | error e => exact hx pins σ H s e s' I hq
  | ok fl =>
    cases fl with
    | ret u => exact I.after hq
    | next => exact False.elim hq
    | brk => exact False.elim hq
    | cont => exact False.elim hq
theorem pe_callS (F : FnOk X.prog X.w X.K X.mg X.base CX k f fd ps sp) (hr : Room k X.A) (hg : Gl X x) (hm : X.mg x = some (.ref f)) (hk : PySem.W.keepIn X.K (.ref f) = true) (hb : Binds X.K fd ps ds) (hd : Vals dvs ds) (hx : PassesS CX X E)
    (ha : PA X (e :: es) t) (hdb : (x == ("__debug__" : Str)) = false := by decide) (he : starEach (e :: es) X.env = (false, eval e X.env) :: starEach es X.env := by rfl) (hpl : (backTo pos (starEach es X.env)).any (·.1) = false := by rfl) :
    PE X (.Call (.Name x p) (e :: es) [] pos) (tCallS sp dvs E t) := by
  intro pins s σ H Q I h
  refine wpAny_Call_Name_kw (ld_glob I hg hm ?_ hdb)
  refine PySem.W.callWith_K (h₀ := X.base) I.ok.mod.kin hk (thn (ha pos pins s σ H _ I h) fun us s1 ⟨vs, H1, I1, r, q⟩ => ⟨I1.kIn, ?_⟩) he hpl
  exact run_fnS F hr hb hd hx I1 r q
end

/-! ### an own exception class without __init__ -/
theorem exc_in {K : PySem.W.Frag} {h : Heap} {C : Addr} {bmB : List Value} {newId : String} (X : K.In h) (q : PySem.W.excIn K C bmB newId = true) :
    ∃ bm N nm qn bs hdct sn sub ab col dd k0 k1 k2 k3 k5 mN, h.get? C = some (excClassObj nm qn C N bs bm hdct sn sub ab col dd k0 k1 k2 k3 k5 newId) ∧ h.Ns N mN ∧ mN "__init__" = none ∧ OwnTail h bmB bm := by
  unfold PySem.W.excIn at q
  split at q
  · rename_i dd cd sl ho
    split at q
    · rename_i C' bm k0 k1 k2 k3 n k5 hm hs
      simp only [Bool.and_eq_true, beq_iff_eq, Bool.not_eq_true'] at q
      obtain ⟨⟨⟨⟨⟨z1, z2⟩, hdel⟩, ht⟩, hok⟩, hni⟩ := q
      subst z1 z2
      obtain ⟨nm, bs, mro, ns, qn, hd, sn, sub, ab, col, del⟩ := cd
      dsimp only at hm hdel hok hni
      subst hm hdel
      have hsl : sl = #[k0, k1, k2, k3, some (.builtin n), k5] := by
        obtain ⟨l⟩ := sl
        simp only at hs
        rw [hs]
      subst hsl
      exact ⟨bm, ns, nm, qn, bs, hd, sn, sub, ab, col, dd, k0, k1, k2, k3, k5, _, X _ _ ho, .of_isNs (PySem.W.isNs_of_in X hok), PySem.W.nsMap_none_of_in X hok hni, PySem.W.tail_of_in X ht⟩
    · cases q
  · cases q
/-- raise C(..) -/
def tRaise (C : Addr) (E : St → XK) (t : TA) : TS := fun _ σ H => t σ H fun vs H1 => vs.length ≤ sizeLine ∧ E σ (.ref C) none H1
theorem ps_raise {X : Cx} {x : Str} {C : Addr} {e₀ : Expr} {rest : List Expr} {t : TA} {E : St → XK} {B newId initId : String} {bmB : List Value} {np cpos pos : Pos}
    (FB : ExcBaseFacts B newId initId bmB) (q : PySem.W.excIn X.K C bmB newId = true) (hr : RaisesS X E) (hc : X.calm = true) (hg : Gl X x) (hm : X.mg x = some (.ref C)) (ha : PA X (e₀ :: rest) t)
    (hdb : (x == ("__debug__" : Str)) = false := by decide) (he : starEach (e₀ :: rest) X.env = (false, eval e₀ X.env) :: starEach rest X.env := by rfl)
    (hpl : (backTo cpos (starEach rest X.env)).any (·.1) = false := by rfl) : PS X (.Raise (some (.Call (.Name x np) (e₀ :: rest) [] cpos)) none pos) (tRaise C E t) := by
  intro pins s σ H D I h
  obtain ⟨tl, N, nm, qn, bs, hdct, sn, sub, ab, col, dd, k0, k1, k2, k3, k5, mN, hC, hN, hni, T⟩ := exc_in I.ok.mod.kin q
  refine wpAny_Raise_call_subT (C := C) (nm := nm) (q := qn) (N := N) (bs := bs) (bm := tl) (hdct := hdct) (sn := sn) (sub := sub) (ab := ab) (col := col) (dd := dd) (k0 := k0) (k1 := k1) (k2 := k2) (k3 := k3) (k5 := k5)
    FB (mN := mN) (T.hasType FB.hasBase) (I.ok.hd hc) (by rw [he]; show (false || (backTo cpos (starEach rest X.env)).any (·.1)) = false; rw [hpl]; rfl) hni (ld_glob I hg hm ⟨rfl, ?_⟩ hdb)
  have h2 := ha cpos pins s σ H _ I h
  rw [he] at h2 ⊢
  exact Calls.evalArgs_plain (thn h2 fun us s2 ⟨vs, H2, I2, r2, hl, q2⟩ => ⟨rfl, by rw [← r2.length]; exact hl, I2.bk _ _ hC, hN.keeps I2.bk, T.keeps I2.bk, fun h' ea hm => hr pins σ H2 s2 h' ea _ _ I2 hm q2⟩)
end L2

set_option Elab.async false
set_option linter.all false
set_option maxRecDepth 100000
set_option maxHeartbeats 4000000
/-! try .. except C as n: one handler, no else, no finally. -/
namespace L2
open PySem PySem.Spec PyProof.Rows

/-- an object of the class C stands at a -/
def KAt (a : Addr) (C : Value) (h : Heap) : Prop := ∃ o, h.get? a = some o ∧ o.cls = C
/-- a caught exception -/
def ExcO (a : Addr) (C : Value) : HO := .ext (KAt a C)
theorem excO_ok {P : Program} {w : World} {H : Hp} {h : Heap} {a : Addr} {C : Value} (x : KAt a C h) : ObjOk P w H h a (ExcO a C) := by
  obtain ⟨o, e, c⟩ := x
  exact ⟨⟨o, e, c⟩, ⟨o, e⟩, fun h1 h2 ⟨o1, e1, c1⟩ k => ⟨o1, k o1 e1, c1⟩⟩
/-- the context of an except suite -/
abbrev Cx.inExc (X : Cx) (e : Addr) : Cx := { X with A := X.A.mark (some (.ref e)), calm := false, xe := fun _ _ => False }
theorem Cx.Ok.inExc {X : Cx} (ok : X.Ok) (e : Addr) : (X.inExc e).Ok :=
  ⟨ok.mod, ok.kind, ok.glob, ok.blt, ok.above, ok.inj, ok.has, ok.cab, (fun z => Bool.noConfusion z), ok.frames, ok.stk, ok.exf, ok.bs, ok.bsz, ok.noex, ok.exfs, ok.funs, ok.frf⟩
theorem Inv.inExc {X : Cx} {pins : List (Addr × Obj)} {σ : St} {H : Hp} {s : Shared} (I : Inv X pins σ H s) (e : Addr) : Inv (X.inExc e) pins σ H s := ⟨I.ok.inExc e, I.os, I.bare, I.base, I.loc, I.cell, I.free, I.freeC, I.pin, I.hok, I.len⟩
theorem Inv.outExc {X : Cx} {pins : List (Addr × Obj)} {σ : St} {H : Hp} {s : Shared} {e : Addr} (ok : X.Ok) (I : Inv (X.inExc e) pins σ H s) : Inv X pins σ H s := ⟨ok, I.os, I.bare, I.base, I.loc, I.cell, I.free, I.freeC, I.pin, I.hok, I.len⟩

/-- the context of a try's body: the pins of the outer state stay -/
abbrev Cx.tryB (X : Cx) (pins : List (Addr × Obj)) (E : Value → Shared → Prop) : Cx := { X with xe := E, pn := X.pn ++ pins }
theorem Cx.Ok.tryB {X : Cx} (ok : X.Ok) (pins : List (Addr × Obj)) (E : Value → Shared → Prop) : (X.tryB pins E).Ok :=
  ⟨ok.mod, ok.kind, ok.glob, ok.blt, ok.above, ok.inj, ok.has, ok.cab, ok.hd, ok.frames, ok.stk, ok.exf, ok.bs, ok.bsz, ok.noex, ok.exfs, ok.funs, ok.frf⟩
theorem Inv.tryB {X : Cx} {pins : List (Addr × Obj)} {σ : St} {H : Hp} {s : Shared} (I : Inv X pins σ H s) (E : Value → Shared → Prop) : Inv (X.tryB pins E) [] σ H s :=
  ⟨I.ok.tryB pins E, I.os, I.bare, I.base, I.loc, I.cell, I.free, I.freeC, fun p hp => I.pin p (by simpa using hp), I.hok, I.len⟩
theorem Inv.untry {X : Cx} {pins ps : List (Addr × Obj)} {σ : St} {H : Hp} {s : Shared} {E : Value → Shared → Prop} (ok : X.Ok) (I : Inv (X.tryB pins E) ps σ H s) : Inv X pins σ H s :=
  ⟨ok, I.os, I.bare, I.base, I.loc, I.cell, I.free, I.freeC, fun p hp => I.pin p (List.mem_append_left _ hp), I.hok, I.len⟩
theorem SP.untry {X : Cx} {pins ps : List (Addr × Obj)} {E : Value → Shared → Prop} {D : Ends} {f : Flow} {s' : Shared} (ok : X.Ok) (h : SP (X.tryB pins E) ps D f s') : SP X pins D f s' := by
  cases f with
  | next => obtain ⟨σ', H', I, q⟩ := h; exact ⟨σ', H', I.untry ok, q⟩
  | brk => obtain ⟨σ', H', I, q⟩ := h; exact ⟨σ', H', I.untry ok, q⟩
  | cont => obtain ⟨σ', H', I, q⟩ := h; exact ⟨σ', H', I.untry ok, q⟩
  | ret u => obtain ⟨v, σ', H', I, r, q⟩ := h; exact ⟨v, σ', H', I.untry ok, r, q⟩

/-- a name goes -/
theorem name_gone {X : Cx} {pins : List (Addr × Obj)} {σ : St} {H : Hp} {s : Shared} {E : Value → Shared → Prop} {A : Around} {i : Nat} {n : Str} {pos : Pos} {Q : Unit → Shared → Prop} (I : Inv X pins σ H s) (hN : X.N.Nodup) (hi : X.N[i]? = some n) (hx : X.env.scope.names.lookup n = some .local)
    (h : ∀ s', Inv X pins (σ.set i none) H s' → Q () s') : wpAny (model X.prog X.w) A (do bindName X.env n .none; unbindBehindTheSuite X.env n pos) Q E s := by
  obtain ⟨m, hn, hl⟩ := id I.loc
  have hcls : (X.env.scope.kind == .class || (X.env.scope.kind == .module && X.env.locals != X.env.globals)) = false := by rw [I.ok.kind]; rfl
  have hiσ : i < σ.length := by rw [I.len]; exact (List.getElem?_eq_some_iff.mp hi).1
  obtain ⟨oL, _, _, hoL, _⟩ := id hn
  refine wpAny_nameGoes_keeps hx hn hcls fun h' v hn' hs => h _ ?_
  refine ⟨I.ok, I.os, I.bare, ⟨fun b o e n hb hx => ?_, fun b o e n hb hx => ?_, I.base.free, fun b o e hx => ?_, I.base.tups, I.base.frzs, I.base.tbls⟩, ⟨_, hn', fun j y v' e1 e2 e3 => ?_⟩, fun y c e => ?_, I.free, I.freeC, fun p hp => ?_, fun b ob e => ?_, by simpa using I.len⟩
  · exact (hs.2 b (Nat.ne_of_lt (Nat.lt_of_lt_of_le (Heap.lt_size e) I.ok.above))).trans (I.base.keep b o e n hb hx)
  · obtain ⟨sl, e1⟩ := I.base.slot b o e n hb hx
    exact ⟨sl, (hs.2 b (Nat.ne_of_lt (Nat.lt_of_lt_of_le (Heap.lt_size e) I.ok.above))).trans e1⟩
  · obtain ⟨o', e1⟩ := I.base.there b o e hx
    exact ⟨o', (hs.2 b (Nat.ne_of_lt (Nat.lt_of_lt_of_le (Heap.lt_size e) I.ok.above))).trans e1⟩
  · by_cases hj : j = i
    · subst hj
      rw [List.getElem?_set_self hiσ] at e2
      cases e2
    · rw [List.getElem?_set_ne (Ne.symm hj)] at e2
      obtain ⟨u', r', q⟩ := hl j y v' e1 e2 e3
      refine ⟨u', r', ?_⟩
      rcases q with ⟨k, e⟩ | ⟨k, c, e, z⟩
      · refine .inl ⟨k, ?_⟩
        have hne : y ≠ n := fun e => hj (nodup_ix hN e1 (e ▸ hi))
        simp [hne, e]
      · exact .inr ⟨k, c, e, z.sameBut hs (I.cne y c e)⟩
  · obtain ⟨w', z⟩ := I.cell y c e
    exact ⟨w', z.sameBut hs (I.cne y c e)⟩
  · obtain ⟨e, n, ne, nf, d⟩ := I.pin p hp
    exact ⟨(hs.2 p.1 ne).trans e, n, ne, nf, d⟩
  · refine (I.hok b ob e).stay (fun c w' hc q => (hs.2 c ?_).trans q) (fun _ q => q) fun _ _ q => q
    intro z
    subst z
    rcases hc with y | y
    · rw [← y, I.free] at e; cases e
    · rw [I.free] at y; cases y

/-- try: body / except C as n: suite. What the body wants of an exception: its class is caught, and the suite goes on from there -/
def tTryE (K : PySem.W.Frag) (Cv : Value) (i : Nat) (ts : TS) (D : Ends) : St → XK := fun σ cls _ H => PySem.W.exmOne K cls Cv = some true ∧ ∀ ea, H ea = none →
  ts { nx := fun σ' H' => D.nx (σ'.set i none) H', rt := D.rt, bk := fun σ' H' => D.bk (σ'.set i none) H', ct := fun σ' H' => D.ct (σ'.set i none) H' } (σ.set i (some (.ref ea))) (upd H ea (ExcO ea cls))
def tTry (K : PySem.W.Frag) (Cv : Value) (i : Nat) (tb : (St → XK) → TS) (ts : TS) : TS := fun D σ H => tb (tTryE K Cv i ts D) D σ H

theorem ps_try {X : Cx} {body : List Stmt} {xc n : Str} {np hpos pos : Pos} {b₀ : Stmt} {suite : List Stmt} {tb : (St → XK) → TS} {ts : TS} {Cv : Value} {i : Nat} (hst : X.stack = X.env :: X.outer) (hfr : X.env.frame = some X.env.locals) (hN : X.N.Nodup) (hi : X.N[i]? = some n) (hn : X.env.scope.names.lookup n = some .local)
    (hg : Gl X xc) (hm : X.mg xc = some Cv ∨ (X.mg xc = none ∧ bootBuiltins xc = some Cv ∧ xc ≠ "__name__"))
    (hb : ∀ ps xe E, PassesS (Fly X.prog X.w) (X.tryB ps xe) E → PSs (X.tryB ps xe) body (tb E)) (hs : ∀ e, PSs (X.inExc e) (b₀ :: suite) ts) (hdb : (xc == ("__debug__" : Str)) = false := by decide) :
    PS X (.Try body [.ExceptHandler (some (.Name xc np)) (some n) (b₀ :: suite) hpos] [] [] pos) (tTry X.K Cv i tb ts) := by
  intro pins s σ H D I h
  have fall : ∀ (σ1 : St) (H1 H' : Hp) (s1 s' : Shared) (ea : Addr) (cls a0 : Value) (B : Heap), Inv X pins σ1 H1 s1 → s'.os = s1.os → AllBare s'.gens → Heap.FlyingW B X.stack ea cls a0 s'.heap → HOk X.prog X.w H' B → FlyU (frs X.stack) H1 H' s1.heap B s'.heap → tTryE X.K Cv i ts D σ1 cls none H' →
      wpAny (model X.prog X.w) X.A (noteFrame (.ref ea) X.env) (fun _ s₂ => wpAny (model X.prog X.w) X.A (setFlight (.ref ea) none) (fun _ s₃ => wpAny (model X.prog X.w) X.A (handleBy (.ref ea) X.env [.ExceptHandler (some (.Name xc np)) (some n) (b₀ :: suite) hpos]) (SP X pins D) X.xe s₃) X.xe s₂) X.xe s' := by
    intro σ1 H1 H' s1 s' ea cls a0 B I1 hos hbare hfl hok U q
    obtain ⟨he, q⟩ := q
    have ff := hfl.2.2.1
    rw [hst] at hfl
    refine wpAny_looks_onW (by rw [I1.ok.frames, hst]) hfr hfl fun h4 x4 u4 => ?_
    refine wpAny_landsW x4 fun h5 x5 u5 => ?_
    have U5 : FlyU (frs X.stack) H1 H' s1.heap B h5 := U.land ff (u4.trans u5)
    have hf1 : ∀ b ∈ frs X.stack, H1 b = none := I1.stkFree
    have I5 : Inv X pins σ1 H' { s' with heap := h5 } := I1.call' (s' := { s' with heap := h5 }) hos (U5.un x5.1 hf1) (hok.kept x5.1) hbare fun b z => nomatch z
    have ty5 : PySem.W.Looks (model X.prog X.w) h5 (typeOf (.ref ea)) cls := by
      obtain ⟨ob, hob, hc⟩ := x5.there
      subst hc
      exact (PySem.W.Looks.ld hob).andThen .now
    have I5' := I5.inExc ea
    refine wpAny_handleBy_cons (codeAny_handlers_test ?_) (by intro z; cases z)
    have go : wpAny (model X.prog X.w) (X.A.mark (some (.ref ea))) (eval (.Name xc np) X.env) (fun c s₁ => c = Cv ∧ s₁ = { s' with heap := h5 }) (notedBy (model X.prog X.w) (X.A.mark (some (.ref ea))) X.env (cameBackBy (model X.prog X.w) X.A X.env X.xe)) { s' with heap := h5 } := by
      rcases hm with hm | ⟨hm, hv, hnn⟩
      · exact ld_glob (X := X.inExc ea) I5' hg hm ⟨rfl, rfl⟩ hdb
      · exact ld_blt (X := X.inExc ea) I5' hg hm hv ⟨rfl, rfl⟩ hnn hdb
    refine wpAny_mono go (fun c s₁ hc => ?_) fun _ _ z => z
    obtain ⟨hc1, hc2⟩ := hc
    subst hc1 hc2
    refine (PySem.W.exm_one I5.kIn ty5 he).here ?_
    show codeAny _ _ _ _ _
    refine codeAny_handlers_suite_as ?_
    refine lands_againW x5 fun h6 x6 u6 => ?_
    have ff5 := x5.2.2.1
    rw [← hst] at ff5
    have U6 : FlyU (frs X.stack) H1 H' s1.heap B h6 := U5.land ff5 u6
    have hBe : B.get? ea = none := x6.2.1
    have he' : H' ea = none := hok.untracked hBe
    obtain ⟨oe, hoe, hoc⟩ := x6.there
    obtain ⟨oe', vs', hoe', _, hod', _⟩ := x6.first
    have ns1 : s1.heap.get? ea = none := by
      cases z : s1.heap.get? ea with
      | none => rfl
      | some o =>
        by_cases y : ea ∈ frs X.stack
        · have y' := y
          rw [hst] at y'
          obtain ⟨_, o2, e2, d2⟩ := x6.2.2.1.mem y'
          rw [hoe'] at e2
          cases e2
          exact absurd hod' (d2 vs')
        · obtain ⟨o', e'⟩ := U6.inB ea o z y
          rw [hBe] at e'
          cases e'
    have nu : ∀ b o, s1.heap.get? b = some o → b ≠ ea := fun b o e z => by rw [z, ns1] at e; cases e
    have hok6 : HOk X.prog X.w H' h6 := hok.kept x6.1
    have hokE : HOk X.prog X.w (upd H' ea (ExcO ea cls)) h6 := fun b u e => by
      by_cases y : b = ea
      · subst y
        rw [upd_same] at e
        cases e
        exact excO_ok ⟨oe, hoe, hoc⟩
      · rw [upd_ne y] at e
        exact (hok6 b u e).stay (fun _ _ _ z => z) (fun c z => by rw [upd_ne (ne_of_none z he')]; exact z) fun c xs z => by rw [upd_ne (ne_of_none z he')]; exact z
    have un6 := U6.un x6.1 hf1
    have unE : Un (frs X.stack) [] H1 (upd H' ea (ExcO ea cls)) s1.heap h6 :=
      ⟨un6.keep, un6.slot, fun b o e n hx => by rw [upd_ne (nu b o e)]; exact un6.free b o e n hx, un6.there, fun b xs e => by
        have z := un6.tups b xs e
        rw [upd_ne (ne_of_none z he')]; exact z, fun b o u e => by
        have z := un6.frzs b o u e
        rw [upd_ne (ne_of_none z he')]; exact z, fun b ps e => by
        obtain ⟨m, z⟩ := un6.tbls b ps e
        exact ⟨m, by rw [upd_ne (ne_of_none z he')]; exact z⟩⟩
    have I6 : Inv X pins σ1 (upd H' ea (ExcO ea cls)) { s' with heap := h6 } := I1.call' (s' := { s' with heap := h6 }) hos unE hokE hbare fun b z => nomatch z
    refine store_ok (X := X.inExc ea) (I6.inExc ea) hN hi (.inl hn) (v := .ref ea) rfl (fun s7 I7 => ?_) (.inr hn)
    refine wpAny_mono (hs ea pins s7 _ _ _ I7 (q ea he')) (fun f s8 h8 => ?_) fun _ _ z => z.elim
    cases f with
    | next =>
      obtain ⟨σ', H8, I8, q8⟩ := h8
      exact name_gone (I8.outExc I.ok) hN hi hn fun s9 I9 => ⟨_, H8, I9, q8⟩
    | brk =>
      obtain ⟨σ', H8, I8, q8⟩ := h8
      exact name_gone (I8.outExc I.ok) hN hi hn fun s9 I9 => ⟨_, H8, I9, q8⟩
    | cont =>
      obtain ⟨σ', H8, I8, q8⟩ := h8
      exact name_gone (I8.outExc I.ok) hN hi hn fun s9 I9 => ⟨_, H8, I9, q8⟩
    | ret u =>
      obtain ⟨v, σ', H8, I8, r8, q8⟩ := h8
      exact name_gone (I8.outExc I.ok) hN hi hn fun s9 I9 => ⟨v, _, H8, I9, r8, q8⟩
  refine wpAny_Try_except ?_
  refine wpAny_mono (hb pins (fun e s₁ => wpAny (model X.prog X.w) X.A (noteFrame e X.env) (fun _ s₂ => wpAny (model X.prog X.w) X.A (setFlight e none) (fun _ s₃ => wpAny (model X.prog X.w) X.A (handleBy e X.env [.ExceptHandler (some (.Name xc np)) (some n) (b₀ :: suite) hpos]) (SP X pins D) X.xe s₃) X.xe s₂) X.xe s₁)
    (tTryE X.K Cv i ts D) ?_ [] s σ H D (I.tryB _) h) (fun f s1 q => ?_) fun _ _ z => z
  · intro ps σ1 H1 s1 e s' I1 hfly
    obtain ⟨ea, cls, a0, H', B, he, hos, hbare, hfl, hok, U, q⟩ := hfly
    subst he
    exact fall σ1 H1 H' s1 s' ea cls a0 B (I1.untry I.ok) hos hbare hfl hok U q
  · have q' := q.untry I.ok
    cases f with
    | next => exact wpAny_execs_nil q'
    | ret v => exact q'
    | brk => exact q'
    | cont => exact q'
end L2

set_option Elab.async false
set_option linter.all false
set_option maxRecDepth 100000
set_option maxHeartbeats 4000000
/-! More operations: sizes, isinstance, is, tuples and lists compared, f-strings. -/
namespace L2
open PySem PySem.Spec PyProof.Rows FrM

theorem sz_bits {a : Int} {n : Nat} (h : Sz n a) : Builtin.Int.intBits a ≤ n := by
  unfold Builtin.Int.intBits
  split
  · exact Nat.zero_le _
  · rcases Nat.eq_zero_or_pos a.natAbs with h0 | hp
    · have hn : 0 < n := by
        cases n with
        | zero => exact absurd (show a = 0 by omega) (by rename_i q; simpa using q)
        | succ n => exact Nat.succ_pos n
      have : a.natAbs.log2 = 0 := by rw [h0]; rfl
      omega
    · have : a.natAbs.log2 < n := (Nat.log2_lt (Nat.ne_of_gt hp)).mpr h
      omega
theorem sz_log {a : Int} {n : Nat} (h : Sz n a) (hn : 0 < n) : a.natAbs.log2 < n := by
  rcases Nat.eq_zero_or_pos a.natAbs with h0 | hp
  · rw [h0]; exact hn
  · exact (Nat.log2_lt (Nat.ne_of_gt hp)).mpr h
section
variable {X : Cx} {pos : Pos}
theorem op_mulS : OpR X (binaryOp .Mult) (rI (fun i j => Sz 4000 i ∧ Sz 4000 j) fun i j => .int (i * j)) :=
  opI fun _ _ _ _ _ _ _ hc q => mul_int q (IntMulOk.of_bits (Nat.le_trans (sz_bits hc.1) (by decide)) (Nat.le_trans (sz_bits hc.2) (by decide)))
theorem op_fdivS : OpR X (binaryOp .FloorDiv) (rI (fun _ j => 0 < j ∧ Sz 4000 j) fun i j => .int (i / j)) := opI fun i j _ _ _ _ _ hc q => by
  have h1 : (0 : Int) < j := hc.1
  have e : i.fdiv j = i / j := Int.fdiv_eq_ediv_of_nonneg i (Int.le_of_lt h1)
  refine floordiv_int (by omega) ?_ (.inl (PyProof.noPylong_of_log2 (Nat.lt_of_lt_of_le (sz_log hc.2 (by decide)) (by decide))))
  rw [e]
  exact q
/-- a class as a value -/
def ClsV : V → Value → Prop
  | .ref a, c => c = .ref a
  | .ty n, c => c = .type n
  | _, _ => False
theorem ClsV.eq {cv : V} {c v : Value} (h : ClsV cv c) (r : RelV cv v) : v = c := by
  cases cv <;> first | exact h.elim | (cases (show v = _ from r); cases (show c = _ from h); rfl)
/-- isinstance of a value whose kind is known -/
def rIsi (K : PySem.W.Frag) : List V → Hp → VK → Prop := fun xs H Q => ∃ x cv t c b, xs = [x, cv] ∧ ClsV cv c ∧ TyOf K H x t ∧ PySem.W.kitOne K t c = some b ∧ Q (.bl b) H
theorem call_isi : CallR X (.builtin "isinstance") (rIsi X.K) := by
  intro pins s σ H xs us Q I r h
  obtain ⟨x, cv, t, c, b, rfl, rc, ty, e, q⟩ := h
  obtain ⟨u, v, rfl, ru, rv⟩ := Vals.two r
  have ec : v = c := rc.eq rv
  subst ec
  exact isinst_ok I ru ty e fun tk => ⟨.bl b, H, I.tok tk, rfl, q⟩

/-- a list compared with an empty one -/
theorem op_eqNil (hu : X.A.units < cLine) : OpR X (compareOp .Eq) (fun x y H Q => ∃ a b xs, x = .ref a ∧ y = .ref b ∧ SqL X.K H a xs ∧ SqL X.K H b [] ∧ Q (.bl xs.isEmpty) H) := by
  intro pins s σ H x y v u Q I rx ry h
  obtain ⟨a, b, xs, rfl, rfl, ha, hb, q⟩ := h
  cases rx
  cases ry
  obtain ⟨its, r, pl, _⟩ := I.list ha
  obtain ⟨its', r', pl', _⟩ := I.list hb
  cases r'
  cases r with
  | nil => exact SeqAt.eq_listAt (e := fun _ => true) pl.isList pl'.isList rfl hu (fun j h1 _ => absurd h1 (by simp)) ⟨.bl true, H, I, rfl, q⟩
  | cons r1 r2 => exact SeqAt.eq_list_lengthsAt pl.isList pl'.isList (by simp) hu ⟨.bl false, H, I, rfl, q⟩
/-! ### data: ints, texts, tuples of these at any depth -/
theorem all_true (n : Nat) : (List.range n).all (fun _ => true) = true := by
  rw [List.all_eq_true]
  intro _ _
  rfl
/-! ### f-strings of ints and texts -/
end
theorem text_len {i : Int} {k : Nat} (hk : 0 < k) (h : Sz k i) : (Str.ofString (toString i)).length ≤ k + 1 := by
  rw [PySem.ofString_length]
  exact int_text_length_le hk (sz_log h hk)
end L2

set_option Elab.async false
set_option linter.all false
set_option maxRecDepth 100000
set_option maxHeartbeats 4000000
/-! [e for x in xs if c]: one clause, one test, a plain name; names of the def around it through cells. -/
namespace L2
open PySem PySem.Spec PyProof.Rows

end L2

set_option Elab.async false
set_option linter.all false
set_option maxRecDepth 100000
set_option maxHeartbeats 4000000
namespace PySem
open PySem.Spec

section
variable {prog : Program} {w : World} {A : Around} {E : Value → Shared → Prop} {h : Heap} {g : Array GenState} {d : Drawn} {t : Nat} {os : OsState}
variable {nm q : Str} {C N : Addr} {bs bm bmB : List Value} {hdct : Bool} {sn : List Str} {sub : List Value} {ab : Bool} {col : Option Bool} {dd : Option Addr} {k0 k1 k2 k3 k5 : Option Value} {B newId initId : String}

end
end PySem
namespace PySem.W
open PySem PySem.Calls PyProof.Rows Builtin Builtin.ObjectAttr Builtin.Getset_descriptor
def excMro : List Value → Bool
  | .ref _ :: r => excMro r
  | l => l == [.type "ValueError", .type "Exception", .type "BaseException", .type "object"]
section
variable {prog : Program} {w : World} {A : Around} {E : Value → Shared → Prop} {s : Shared} {K : Frag} {x C : Addr} {ox : Obj} {od : Option Obj} {name : Str} {R : Result → Shared → Prop}
theorem xget_by {tk : Tok} {fill expr : Bool} {Q : Value → Shared → Prop} (X : K.In s.heap) (L0 : Looks (model prog w) s.heap (typeOf (.ref x)) (.ref C)) (hga : findIn K (.ref C) "__getattribute__" = some (some (.builtin "BaseException.__getattribute__")))
    (hgn : findIn K (.ref C) "__getattr__" = some none) (hbe : mroIn K C (.type "BaseException") = some true)
    (h : wpAny (model prog w) A.in1 (Builtin.«object.__getattribute__» ⟨[.ref x, .str name tk], []⟩) (fun fin s' => match fin with | .done (.ret v) => wpAny (model prog w) A (handedOut v) Q E s' | _ => False) (fun _ _ => False) s) :
    wpAny (model prog w) A (getAttrBy (.ref x) (.str name tk) fill expr) Q E s := by
  have L1 := looks_findIn (M := model prog w) X hga
  have L2 := looks_findIn (M := model prog w) X hgn
  have sub : Looks (model prog w) s.heap (isInstance (.ref x) (.type "BaseException")) true := L0.andThen (looks_mroIn X hbe)
  have hx2 : (Value.builtin "BaseException.__getattribute__" == Value.builtin "object.__getattribute__") = false := by decide +kernel
  have FB := PySem.F.attr_ValueError
  unfold getAttrBy
  refine wpAny_holding (wpAny_bind (L0.here (wpAny_bind (L1.here ?_))))
  dsimp only
  rw [hx2, Bool.and_false, if_neg (by decide)]
  unfold getAttrByItsOwn hookBefore
  rw [if_pos (show onTheHeap (.ref C) = true from rfl)]
  refine wpAny_bind (L2.here (wpAny_bind (wpAny_attempt (wpAny_holding ?_))))
  unfold callGetattribute
  rw [if_neg (by cases expr <;> decide)]
  unfold boundAndCalled
  rw [FB.ga.bind (.ref x)]
  refine wpAny_bind (wpAny_pure (wpAny_call (codeAny_call_builtin FB.ga.plain PySem.F.entry_bexc_ga (@check_slot (model prog w) _ _ s "BaseException.__getattribute__" "BaseException" "__getattribute__" (.ref x) [.str name tk] [] _ (by decide +kernel) (by decide +kernel) sub (PySem.F.args_bexc_ga (.ref x) (.str name tk)) ?_))))
  refine wpAny_mono h (fun fin s' z => ?_) fun _ _ z => z.elim
  rcases fin with (_ | _ | _ | _) | _ <;> first | exact z | exact z.elim

theorem xclass_get {tp : Value} (X : K.In s.heap) (L0 : ∀ M, Looks M s.heap (typeOf (.ref x)) (.ref C)) (hm : mroIn K C (.type "object") = some true)
    (h : R (.ok (.ret (.ref C))) s) : codeAny (model prog w) A (.call (.builtin "getset_descriptor.__get__") ⟨[.builtin "object.__class__", .ref x, tp], []⟩) R s := by
  obtain ⟨hh, g, dr, t, os⟩ := s
  have L0 := L0 (model prog w)
  have L1 := looks_mroIn (M := model prog w) X hm
  refine codeAny_call_builtin KF.slot_gs.plain KF.entry_gs (KF.slot_gs.check _ _ _ _ _ _ _ _ KF.type_class (KF.args_gs _ _ _) ?_)
  unfold Builtin.«getset_descriptor.__get__» descrGet
  rw [dga_obj]
  refine wpAny_bind (wpAny_pure ?_)
  unfold descrGetter descrCheckInstance descrNameAndClass isInstance
  simp only [KF.owner_class]
  repeat lk
  refine ⟨Code.quiet_builtin _ (by decide +kernel), codeAny_builtin KF.entry_class ?_⟩
  unfold Builtin.«object.__class__» shownTypeOf
  repeat lk
  exact h
theorem xfind_class (X : K.In s.heap) (ha : findIn K (.ref C) "__class__" = some (some (.builtin "object.__class__")))
    (hn : specialIn K (.builtin "object.__class__") "__get__" = some (some (.builtin "getset_descriptor.__get__"))) (htk : takesIn K (.builtin "object.__class__") = some true) (M : Model) :
    Looks M s.heap (find (.ref x) (.ref C) "__class__") (.bind (.builtin "getset_descriptor.__get__") (.builtin "object.__class__")) := by
  have L1 := looks_findIn (M := M) X ha
  have L2 : Looks M s.heap (getOf (some (.builtin "object.__class__"))) (some (.builtin "getset_descriptor.__get__")) := looks_specialIn X hn
  have L3 := looks_takesIn (M := M) X htk
  refine L1.andThen (L2.andThen ?_)
  refine Looks.andThen (L3.andThen .now) ?_
  exact Looks.tag .now

theorem xclass {Q : Option Value → Shared → Prop} (X : K.In s.heap) (L0 : ∀ M, Looks M s.heap (typeOf (.ref x)) (.ref C)) (hga : findIn K (.ref C) "__getattribute__" = some (some (.builtin "BaseException.__getattribute__")))
    (hgn : findIn K (.ref C) "__getattr__" = some none) (hbe : mroIn K C (.type "BaseException") = some true) (hob : mroIn K C (.type "object") = some true)
    (ha : findIn K (.ref C) "__class__" = some (some (.builtin "object.__class__"))) (hn : specialIn K (.builtin "object.__class__") "__get__" = some (some (.builtin "getset_descriptor.__get__"))) (htk : takesIn K (.builtin "object.__class__") = some true)
    (h : Q (some (.ref C)) { s with toks := s.toks + 1 }) : wpAny (model prog w) A (getAttr? (.ref x) "__class__") Q E s := by
  have L1 := xfind_class (x := x) X ha hn htk (model prog w)
  obtain ⟨hp0, g, d, t, os⟩ := s
  unfold getAttr? getAttrBy?
  refine wpAny_bind (wpAny_mkText (wpAny_bind (wpAny_attempt (xget_by (s := ⟨hp0, g, d, t + 1, os⟩) X (L0 _) hga hgn hbe ?_))))
  refine wpAny_bind (wpAny_pure (wpAny_bind (wpAny_pure (wpAny_bind ((L0 _).at (wpAny_bind (L1.at ?_)))))))
  show wpAny _ _ (bindTo _ _ _ _) _ _ _
  unfold bindTo
  refine wpAny_bind (wpAny_holding (wpAny_call (xclass_get (s := ⟨hp0, g, d, t + 1, os⟩) X L0 hob ?_)))
  refine wpAny_pure ?_
  show wpAny _ _ (handedOut (.ref C)) _ _ _
  rw [handedOut_of rfl]; exact wpAny_pure (wpAny_pure h)
end
end PySem.W

set_option Elab.async false
set_option linter.all false
set_option maxRecDepth 100000
set_option maxHeartbeats 4000000
/-! Own exceptions that are made, with fields: made, stored into, read, asked for their class. -/
namespace L2
open PySem PySem.Spec PyProof.Rows

/-- what is asked of a class of refusals -/
structure XCls (K : PySem.W.Frag) (C : Addr) : Prop where
  ga : PySem.W.findIn K (.ref C) "__getattribute__" = some (some (.builtin "BaseException.__getattribute__"))
  gn : PySem.W.findIn K (.ref C) "__getattr__" = some none
  sa : PySem.W.findIn K (.ref C) "__setattr__" = some (some (.builtin "object.__setattr__"))
  be : PySem.W.mroIn K C (.type "BaseException") = some true
  ob : PySem.W.mroIn K C (.type "object") = some true
  mro : (PySem.W.clsIn K C).any (fun cd => PySem.W.excMro cd.mro) = true
  hd : PySem.W.hasDictIn K C = true
  ca : PySem.W.findIn K (.ref C) "__class__" = some (some (.builtin "object.__class__"))
  cg : PySem.W.specialIn K (.builtin "object.__class__") "__get__" = some (some (.builtin "getset_descriptor.__get__"))
  ct : PySem.W.takesIn K (.builtin "object.__class__") = some true

theorem kat_looks {a C : Addr} {h : Heap} (k : KAt a (.ref C) h) (M : Model) : PySem.W.Looks M h (typeOf (.ref a)) (.ref C) := by
  obtain ⟨o, h1, h2⟩ := k
  exact h2 ▸ (PySem.W.Looks.ld h1).andThen .now
theorem kitx_exc {K : PySem.W.Frag} {a C : Addr} (c : XCls K C) : PySem.W.KitX K (.ref a) (.ref C) (KAt a (.ref C)) where
  ty := fun M h _ p => kat_looks p M
  it := fun _ _ X _ => by
    obtain ⟨cdD, hcD, _⟩ := PySem.W.any_some c.hd
    unfold PySem.W.clsIn at hcD
    split at hcD
    · rename_i c' d' cd' sl' ho
      intro A' Q' E' s' k q
      unfold isType loadHead
      exact wpAny_bind (wpAny_loadPart (k _ _ (X _ _ ho)) (wpAny_pure q))
    · cases hcD
  ne := fun h tp dd its n sl X htp => by
    obtain ⟨cdD, hcD, _⟩ := PySem.W.any_some c.hd
    refine Bool.eq_false_iff.mpr fun q => ?_
    have e : C = tp := Value.ref.inj (beq_iff_eq.mp q)
    subst e
    unfold PySem.W.clsIn at hcD
    split at hcD
    · rename_i c' d' cd' sl' ho
      have z := (X _ _ ho).symm.trans htp
      cases z
    · cases hcD
  ca := fun X p k => PySem.W.xclass X (kat_looks p) c.ga c.gn c.be c.ob c.ca c.cg c.ct k

/-- isinstance of an exception whose class is known -/
def rIsiX (K : PySem.W.Frag) : List V → Hp → VK → Prop := fun xs H Q => ∃ ea C cv c b φ, xs = [.ref ea, cv] ∧ ClsV cv c ∧ H ea = some (.ext φ) ∧ (∀ h, φ h → KAt ea (.ref C) h) ∧ XCls K C ∧ PySem.W.kitOne K (.ref C) c = some b ∧ Q (.bl b) H
theorem call_isiX {X : Cx} : CallR X (.builtin "isinstance") (rIsiX X.K) := by
  intro pins s σ H xs us Q I r h
  obtain ⟨ea, C, cv, c, b, φ, rfl, rc, hH, hφ, xc, e, q⟩ := h
  obtain ⟨u, v, rfl, ru, rv⟩ := Vals.two r
  cases (show u = _ from ru)
  have ec : v = c := rc.eq rv
  subst ec
  obtain ⟨p, _⟩ := (show ObjOk X.prog X.w H s.heap ea (.ext φ) from I.hok ea _ hH)
  exact PySem.W.kia_one (kitx_exc xc) I.kIn (hφ _ p) e (fun z => nomatch z) fun tk => ⟨.bl b, H, I.tok tk, rfl, q⟩

/-- the same where the context's own facts are known by another name -/
theorem call_isiK {X : Cx} {K : PySem.W.Frag} (h : X.K = K) : CallR X (.builtin "isinstance") (rIsi K) := by
  subst h
  exact call_isi
theorem call_isiXK {X : Cx} {K : PySem.W.Frag} (h : X.K = K) : CallR X (.builtin "isinstance") (rIsiX K) := by
  subst h
  exact call_isiX
/-! ### a made exception: the object, its dict -/
section
variable {X : Cx} {o e value : Expr} {f : Str} {pos pos' : Pos} {ta tv : TE}
end

/-! ### made by a call of its class -/
section
variable {X : Cx} {CX : CXT} {k : Nat} {f C : Addr} {fd : FuncData} {ps : List Str} {sp : Sp} {E : XK} {x : Str} {p pos : Pos} {e : Expr} {es : List Expr} {t : TA}
end
end L2

set_option Elab.async false
set_option linter.all false
set_option maxRecDepth 100000
set_option maxHeartbeats 4000000
/-! The judgements closed up (so that no elaborator looks into them): displays, an item at a time. -/
namespace L2
open PySem PySem.Spec PyProof.Rows
def noStar : Expr → Bool
  | .Starred .. => false
  | _ => true
theorem star_cons {e : Expr} {es : List Expr} {env : Env} (h : noStar e = true) : starEach (e :: es) env = (false, eval e env) :: starEach es env := by
  cases e <;> first | rfl | cases h
structure QE (X : Cx) (e : Expr) (t : TE) : Prop where
  out : PE X e t
structure QA (X : Cx) (es : List Expr) (t : TA) : Prop where
  out : PA X es t
section
variable {X : Cx} {a : Expr} {es : List Expr} {ta : TE} {t : TA} {j : Nat} {pos : Pos}
theorem qc (ha : QE X a ta) (hr : QA X es t) (h : noStar a = true) : QA X (a :: es) (tCons ta t) := ⟨pa_cons ha.out hr.out (star_cons h)⟩
theorem q_nil : QA X [] tNil := ⟨pa_nil⟩
theorem q_int {i : Int} : QE X (.Constant (.int i) j pos) (tC (.int i)) := ⟨pe_int⟩
theorem q_bl {b : Bool} : QE X (.Constant (.bool b) j pos) (tC (.bl b)) := ⟨pe_bl⟩
theorem q_str {x : Str} : QE X (.Constant (.str x) j pos) (tC (.str x)) := ⟨pe_str⟩
theorem q_non : QE X (.Constant .none j pos) (tC .non) := ⟨pe_non⟩
theorem q_tup (h : QA X es t) : QE X (.Tuple es j pos) (tTup t) := ⟨pe_tup h.out⟩
theorem q_lst (h : QA X es t) : QE X (.List es pos) (tLst t) := ⟨pe_lst h.out⟩
theorem q_neg (h : QE X a ta) : QE X (.UnaryOp .USub a pos) (tUn (rU fun i => .int (-i)) ta) := ⟨pe_un un_neg h.out⟩
end
end L2

set_option Elab.async false
set_option linter.all false
set_option maxRecDepth 100000
set_option maxHeartbeats 4000000
/-! The layer's rules over closed judgements: no elaborator looks into them, every side condition is handed in. -/
namespace L2
open PySem PySem.Spec PyProof.Rows FrM
structure QT (X : Cx) (e : Expr) (t : TT) : Prop where
  out : PT X e t
structure QW (X : Cx) (e : Expr) (t : TT) : Prop where
  out : PW X e t
structure QS (X : Cx) (st : Stmt) (t : TS) : Prop where
  out : PS X st t
structure QB (X : Cx) (b : List Stmt) (t : TS) : Prop where
  out : PSs X b t
structure QI (X : Cx) (tg iter : Expr) (t : TI) : Prop where
  out : PI X tg iter t
structure QG (X : Cx) (tg : Expr) (t : TG) : Prop where
  out : PG X tg t
def noStars : List Expr → Bool
  | [] => true
  | e :: es => noStar e && noStars es
theorem stars_any {pos : Pos} {env : Env} : ∀ {es : List Expr}, noStars es = true → (backTo pos (starEach es env)).any (·.1) = false
  | [], _ => rfl
  | e :: es, h => by
    have h2 : noStar e = true ∧ noStars es = true := by simpa [noStars] using h
    rw [star_cons h2.1]
    show (false || (backTo pos (starEach es env)).any (·.1)) = false
    rw [stars_any h2.2]
    rfl
section
variable {X : Cx} {K : PySem.W.Frag} {a b c e o : Expr} {es rest : List Expr} {ta tb tc te to : TE} {tA tB' : TT} {t : TA} {x : Str} {p pos pos' apos cpos : Pos} {j i : Nat}
/-! names -/
theorem qv (i : Nat) (hN : X.N[i]? = some x) (hv : Vis X.env.scope x) (hd : (x == ("__debug__" : Str)) = false) (hc : (x == ("__classdict__" : Str)) = false) : QE X (.Name x pos) (tVar i) := ⟨pe_var hN hv hd hc⟩
theorem q_glob {v : V} {u : Value} (hg : Gl X x) (hm : X.mg x = some u) (r : RelV v u) (hd : (x == ("__debug__" : Str)) = false) : QE X (.Name x pos) (tC v) := ⟨pe_glob hg hm r hd⟩
theorem q_bltn {v : V} {u : Value} (hg : Gl X x) (hm : X.mg x = none) (hv : bootBuiltins x = some u) (r : RelV v u) (hn : x ≠ "__name__") (hd : (x == ("__debug__" : Str)) = false) : QE X (.Name x pos) (tC v) := ⟨pe_bltn hg hm hv r hn hd⟩
/-! operators -/
theorem q_op {op : Operator} {r : R2} (ho : OpR X (binaryOp op) r) (ha : QE X a ta) (hb : QE X b tb) : QE X (.BinOp a op b pos) (tOp r ta tb) := ⟨pe_op ho ha.out hb.out⟩
theorem q_add (ha : QE X a ta) (hb : QE X b tb) : QE X (.BinOp a .Add b pos) (tOp (rI0 fun i j => .int (i + j)) ta tb) := q_op op_add ha hb
theorem q_sub (ha : QE X a ta) (hb : QE X b tb) : QE X (.BinOp a .Sub b pos) (tOp (rI0 fun i j => .int (i - j)) ta tb) := q_op op_sub ha hb
theorem q_mul (ha : QE X a ta) (hb : QE X b tb) : QE X (.BinOp a .Mult b pos) (tOp (rI CMul fun i j => .int (i * j)) ta tb) := q_op op_mul ha hb
theorem q_mulS (ha : QE X a ta) (hb : QE X b tb) : QE X (.BinOp a .Mult b pos) (tOp (rI (fun i j => Sz 4000 i ∧ Sz 4000 j) fun i j => .int (i * j)) ta tb) := q_op op_mulS ha hb
theorem q_fdiv (ha : QE X a ta) (hb : QE X b tb) : QE X (.BinOp a .FloorDiv b pos) (tOp (rI CDiv fun i j => .int (i / j)) ta tb) := q_op op_fdiv ha hb
theorem q_fdivS (ha : QE X a ta) (hb : QE X b tb) : QE X (.BinOp a .FloorDiv b pos) (tOp (rI (fun _ j => 0 < j ∧ Sz 4000 j) fun i j => .int (i / j)) ta tb) := q_op op_fdivS ha hb
theorem q_mod (ha : QE X a ta) (hb : QE X b tb) : QE X (.BinOp a .Mod b pos) (tOp (rI (fun _ j => 0 < j) fun i j => .int (i % j)) ta tb) := q_op op_mod ha hb
theorem q_pow (ha : QE X a ta) (hb : QE X b tb) : QE X (.BinOp a .Pow b pos) (tOp (rI CPow fun i j => .int (i ^ j.toNat)) ta tb) := q_op op_pow ha hb
theorem q_cat (ha : QE X a ta) (hb : QE X b tb) : QE X (.BinOp a .Add b pos) (tOp rCat ta tb) := q_op op_cat ha hb
theorem q_one {op : BoolOp} (h : QE X a ta) : QE X (.BoolOp op [a] pos) ta := ⟨pe_one h.out⟩
theorem q_and (ha : QE X a ta) (hb : QE X (.BoolOp .And (b :: rest) pos) tb) : QE X (.BoolOp .And (a :: b :: rest) pos) (tAndV ta tb) := ⟨pe_and ha.out hb.out⟩
theorem q_ifx (hc : QT X c tA) (ha : QE X a ta) (hb : QE X b tb) : QE X (.IfExp c a b pos) (tIf tA ta tb) := ⟨pe_ifExp hc.out ha.out hb.out⟩
/-! comparisons, as values and as tests -/
theorem q_cmp {op : CmpOp} {r : R2} (ho : OpR X (compareOp op) r) (ha : QE X a ta) (hb : QE X b tb) (hm : behindInMarks op b = false) : QE X (.Compare a [op] [b] pos) (tOp r ta tb) := ⟨pe_cmpR ho ha.out hb.out hm⟩
theorem t_cmp {op : CmpOp} {r : R2} (ho : OpR X (compareOp op) r) (ha : QE X a ta) (hb : QE X b tb) (hm : behindInMarks op b = false) : QT X (.Compare a [op] [b] pos) (tTest (tOp r ta tb)) := ⟨pt_cmpR ho ha.out hb.out hm⟩
/-! tests -/
theorem t_val (h : QE X e te) (he : ∀ whole, isTrue e X.env whole = (do let v ← whole; standAt e.pos; holding [v] (truthy v))) : QT X e (tB te) := ⟨pt_val h.out he⟩
theorem t_not (h : QT X a tA) : QT X (.UnaryOp .Not a pos) (tNot tA) := ⟨pt_not h.out⟩
theorem w_and1 (h : QT X a tA) : QW X (.BoolOp .And [a] pos) tA := ⟨pw_and1 h.out⟩
theorem w_or1 (h : QT X a tA) : QW X (.BoolOp .Or [a] pos) tA := ⟨pw_or1 h.out⟩
theorem w_and (ha : QT X a tA) (hb : QW X (.BoolOp .And (b :: rest) pos) tB') : QW X (.BoolOp .And (a :: b :: rest) pos) (tAnd tA tB') := ⟨pw_and ha.out hb.out⟩
theorem w_or (ha : QT X a tA) (hb : QW X (.BoolOp .Or (b :: rest) pos) tB') : QW X (.BoolOp .Or (a :: b :: rest) pos) (tOr tA tB') := ⟨pw_or ha.out hb.out⟩
theorem t_w (h : QW X e tA) : QT X e tA := ⟨h.out.pt⟩
/-! items -/
theorem q_ixl (hK : X.K = K) (ha : QE X a ta) (hb : QE X b tb) (hs : PlainIx b) : QE X (.Subscript a b pos) (tOp (rIxL K) ta tb) := by
  subst hK
  exact ⟨pe_ix ix_list ha.out hb.out hs⟩
theorem q_ixt (hK : X.K = K) (ha : QE X a ta) (hb : QE X b tb) (hs : PlainIx b) : QE X (.Subscript a b pos) (tOp (rIxT K) ta tb) := by
  subst hK
  exact ⟨pe_ix ix_tup ha.out hb.out hs⟩
/-! calls -/
section
variable {CX : CXT} {k : Nat} {f C : Addr} {fd : FuncData} {ps : List Str} {sp : Sp} {dvs : List V} {ds : List Value} {E : XK} {ES : St → XK} {id T : String} {r : List V → Hp → VK → Prop}
theorem q_call (F : FnOk X.prog X.w X.K X.mg X.base CX k f fd ps sp) (hr : Room k X.A) (hg : Gl X x) (hm : X.mg x = some (.ref f)) (hk : PySem.W.keepIn X.K (.ref f) = true) (hb : Binds X.K fd ps ds) (hd : Vals dvs ds) (hx : Passes CX X E)
    (ha : QA X (e :: es) t) (h1 : (x == ("__debug__" : Str)) = false) (h2 : noStar e = true) (h3 : noStars es = true) : QE X (.Call (.Name x p) (e :: es) [] pos) (tCall sp dvs E t) := ⟨pe_call F hr hg hm hk hb hd hx ha.out h1 (star_cons h2) (stars_any h3)⟩
theorem q_callS (F : FnOk X.prog X.w X.K X.mg X.base CX k f fd ps sp) (hr : Room k X.A) (hg : Gl X x) (hm : X.mg x = some (.ref f)) (hk : PySem.W.keepIn X.K (.ref f) = true) (hb : Binds X.K fd ps ds) (hd : Vals dvs ds) (hx : PassesS CX X ES)
    (ha : QA X (e :: es) t) (h1 : (x == ("__debug__" : Str)) = false) (h2 : noStar e = true) (h3 : noStars es = true) : QE X (.Call (.Name x p) (e :: es) [] pos) (tCallS sp dvs ES t) := ⟨pe_callS F hr hg hm hk hb hd hx ha.out h1 (star_cons h2) (stars_any h3)⟩
theorem q_callB (hc : CallR X (.builtin id) r) (hg : Gl X x) (hm : X.mg x = none) (hv : bootBuiltins x = some (.builtin id)) (ha : QA X (e :: es) t) (h0 : x ≠ "__name__") (h1 : (x == ("__debug__" : Str)) = false) (h2 : noStar e = true) (h3 : noStars es = true) :
    QE X (.Call (.Name x p) (e :: es) [] pos) (tCB r t) := ⟨pe_callB hc hg hm hv ha.out h0 h1 (star_cons h2) (stars_any h3)⟩
theorem q_callTy (hc : CallR X (.type T) r) (hg : Gl X x) (hm : X.mg x = none) (hv : bootBuiltins x = some (.type T)) (ha : QA X (e :: es) t) (h0 : x ≠ "__name__") (h1 : (x == ("__debug__" : Str)) = false) (h2 : noStar e = true) (h3 : noStars es = true) :
    QE X (.Call (.Name x p) (e :: es) [] pos) (tCB r t) := ⟨pe_callTy hc hg hm hv ha.out h0 h1 (star_cons h2) (stars_any h3)⟩
end
/-! statements -/
section
variable {st : Stmt} {sts b1 b2 : List Stmt} {u v : TS} {g : TG} {gs : TGs} {wi : TI} {tg iter : Expr}
theorem b_nil : QB X [] tNext := ⟨pss_nil⟩
theorem b_one (h : QS X st u) : QB X [st] u := ⟨pss_one h.out⟩
theorem b_cons (h : QS X st u) (h2 : QB X sts v) : QB X (st :: sts) (tSeq u v) := ⟨pss_cons h.out h2.out⟩
theorem s_ret (h : QE X e te) : QS X (.Return (some e) pos) (tRet te) := ⟨ps_ret h.out⟩
theorem s_expr (h : QE X e te) (hs : swapsWith e none pos.line X.env = pure false) : QS X (.Expr e pos) (tDrop te) := ⟨ps_expr h.out hs⟩
theorem s_if (hc : QT X c tA) (ha : QB X b1 u) (hb : QB X b2 v) : QS X (.If c b1 b2 pos) (tIfS tA u v) := ⟨ps_if hc.out ha.out hb.out⟩
theorem s_set (i : Nat) (hN : X.N.Nodup) (hi : X.N[i]? = some x) (hx : Loc X.env.scope x) (he : QE X e te) (hs : swapsWith e (some (.Name x pos')) pos.line X.env = pure false) (hf : X.fn x = true ∨ X.env.scope.names.lookup x = some .local) :
    QS X (.Assign [.Name x pos'] e pos) (tAsg te (gName i)) := ⟨ps_set hN hi hx he.out hs hf⟩
theorem g_name (i : Nat) (hN : X.N.Nodup) (hi : X.N[i]? = some x) (hx : Loc X.env.scope x) (hf : X.fn x = true ∨ X.env.scope.names.lookup x = some .local) : QG X (.Name x pos) (gName i) := ⟨pg_name hN hi hx hf⟩
theorem s_while (hp : PassesOwn (model X.prog X.w) X.A X.env X.xe) (hc : QT X c tA) (hb : QB X b1 u) : QS X (.While c b1 [] pos) (tWhile tA u) := ⟨ps_while hp hc.out hb.out⟩
theorem i_list (hK : X.K = K) (h : QE X e te) : QI X tg e (iList K te) := by
  subst hK
  exact ⟨pi_list h.out⟩
theorem i_rng1 (hg : Gl X "range") (hm : X.mg "range" = none) (h : QA X [a] t) (h2 : noStar a = true) : QI X tg (.Call (.Name "range" p) [a] [] pos) (iRng1 t) := ⟨pi_range1 hg hm h.out (by rw [star_cons h2]; rfl)⟩
theorem s_for (hp : PassesOwn (model X.prog X.w) X.A X.env X.xe) (hc : X.calm = true) (hi : QI X tg iter wi) (hg : QG X tg g) (hb : QB X b1 u) (hs : ∀ x, foldedSetIterable iter X.env x = pure x) : QS X (.For tg iter b1 [] pos) (tFor wi g u) := ⟨ps_for hp hc hi.out hg.out hb.out hs⟩
end
end
end L2

set_option Elab.async false
set_option linter.all false
set_option maxRecDepth 100000
set_option maxHeartbeats 4000000
/-! [e for target in xs], [e for target in xs if c]: any target of n names, at most one test; names of the def around it through cells. -/
namespace L2
open PySem PySem.Spec PyProof.Rows
/-! ### the closed judgement, and the readings that one uses -/
section
variable {K : PySem.W.Frag} {g : TG} {tt : TT} {te : TE} {n : Nat} {fr : List Nat} {σ : St} {H : Hp} {Q : VK}
end
end L2

set_option Elab.async false
set_option linter.all false
set_option maxRecDepth 100000
set_option maxHeartbeats 4000000
/-! try and raise over the closed judgements -/
namespace L2
open PySem PySem.Spec PyProof.Rows
theorem s_try {X : Cx} {K : PySem.W.Frag} {body : List Stmt} {xc n : Str} {np hpos pos : Pos} {b₀ : Stmt} {suite : List Stmt} {tb : (St → XK) → TS} {ts : TS} {Cv : Value} (i : Nat) (hK : X.K = K) (hst : X.stack = X.env :: X.outer) (hfr : X.env.frame = some X.env.locals) (hN : X.N.Nodup) (hi : X.N[i]? = some n) (hn : X.env.scope.names.lookup n = some .local)
    (hg : Gl X xc) (hm : X.mg xc = some Cv ∨ (X.mg xc = none ∧ bootBuiltins xc = some Cv ∧ xc ≠ "__name__"))
    (hb : ∀ ps xe E, PassesS (Fly X.prog X.w) (X.tryB ps xe) E → QB (X.tryB ps xe) body (tb E)) (hs : ∀ e, QB (X.inExc e) (b₀ :: suite) ts) (hdb : (xc == ("__debug__" : Str)) = false) :
    QS X (.Try body [.ExceptHandler (some (.Name xc np)) (some n) (b₀ :: suite) hpos] [] [] pos) (tTry K Cv i tb ts) := by
  subst hK
  exact ⟨ps_try hst hfr hN hi hn hg hm (fun ps xe E hp => (hb ps xe E hp).out) (fun e => (hs e).out) hdb⟩
theorem s_raise {X : Cx} {x : Str} {C : Addr} {e₀ : Expr} {rest : List Expr} {t : TA} {E : St → XK} {np cpos pos : Pos}
    (q : PySem.W.excIn X.K C [.type "ValueError", .type "Exception", .type "BaseException", .type "object"] "ValueError.__new__" = true) (hr : RaisesS X E) (hc : X.calm = true) (hg : Gl X x) (hm : X.mg x = some (.ref C)) (ha : QA X (e₀ :: rest) t)
    (hdb : (x == ("__debug__" : Str)) = false) (h2 : noStar e₀ = true) (h3 : noStars rest = true) : QS X (.Raise (some (.Call (.Name x np) (e₀ :: rest) [] cpos)) none pos) (tRaise C E t) :=
  ⟨ps_raise PySem.F.excBase_ValueError q hr hc hg hm ha.out hdb (star_cons h2) (stars_any h3)⟩
end L2

set_option Elab.async false
set_option linter.all false
set_option maxRecDepth 100000
set_option maxHeartbeats 4000000
/-! More to walk: a text's signs, d.items(), enumerate of a list. -/
namespace L2
open PySem PySem.Spec PyProof.Rows
/-! ### the signs of a text -/
/-! ### d.items(): the dict is known to the object while it is walked -/
/-! ### enumerate(xs) -/
end L2

set_option Elab.async false
set_option linter.all false
set_option maxRecDepth 100000
set_option maxHeartbeats 4000000
/-! More calls: all of a list, texts compared, str of data, sorted of a dict's names, dict of a list of pairs, dicts compared. -/
namespace L2
open PySem PySem.Spec PyProof.Rows
section
variable {X : Cx}
end
end L2
/-! ### str of a dict without dicts in it -/
namespace PySem
end PySem
namespace L2
open PySem PySem.Spec PyProof.Rows
section
variable {X : Cx} {pins : List (Addr × Obj)} {σ : St} {H : Hp} {s : Shared}
end
end L2

set_option Elab.async false
set_option linter.all false
set_option maxRecDepth 100000
set_option maxHeartbeats 4000000
/-! sorted of a dict whose keys are texts -/
namespace PySem
open PyProof.Rows
section
variable {prog : Program} {w : World} {K : Type} [DecidableEq K] {knd : KeyKind prog w K} {A : Around} {E : Value → Shared → Prop} {s : Shared}
end
end PySem
namespace L2
open PySem PySem.Spec PyProof.Rows
section
variable {X : Cx}
end
end L2

set_option Elab.async false
set_option linter.all false
set_option maxRecDepth 100000
set_option maxHeartbeats 4000000
/-! Tuples of the same flat items compared, wherever they stand. -/
namespace L2
open PySem PySem.Spec PyProof.Rows
section
variable {X : Cx}
/-- ints and texts -/
def isFlat : V → Bool
  | .int _ => true
  | .str _ => true
  | _ => false
theorem eqAt_flat {A : Around} {s : Shared} {x : V} {u v : Value} (f : isFlat x = true) (ru : RelV x u) (rv : RelV x v) : SeqAt.EqAt A s u v true := by
  cases x with
  | int i =>
    obtain ⟨t, rfl⟩ := ru
    obtain ⟨t', rfl⟩ := rv
    have z := SeqAt.EqAt.int_int (A := A) (s := s) i t i t'
    simpa using z
  | str i =>
    obtain ⟨t, rfl⟩ := ru
    obtain ⟨t', rfl⟩ := rv
    have z := SeqAt.EqAt.str_str (A := A) (s := s) i t i t'
    simpa using z
  | _ => cases f
theorem eqAt_items {A : Around} {s : Shared} {xs : List V} {us vs : List Value} (f : ∀ x ∈ xs, isFlat x = true) (ru : Vals xs us) (rv : Vals xs vs) :
    ∀ j (h1 : j < us.toArray.size) (h2 : j < vs.toArray.size), SeqAt.EqAt A s us.toArray[j] vs.toArray[j] true := by
  intro j h1 h2
  have j1 : j < us.length := by simpa using h1
  have j2 : j < vs.length := by simpa using h2
  have l1 := ru.length
  have a1 : xs[j]? = some xs[j] := List.getElem?_eq_getElem (by omega)
  obtain ⟨u1, b1, c1⟩ := ru.get a1
  obtain ⟨u2, b2, c2⟩ := rv.get a1
  have d1 : us[j] = u1 := by rw [List.getElem?_eq_getElem j1] at b1; exact Option.some.inj b1
  have d2 : vs[j] = u2 := by rw [List.getElem?_eq_getElem j2] at b2; exact Option.some.inj b2
  have w := eqAt_flat (A := A) (s := s) (f _ (List.getElem_mem (by omega))) c1 c2
  simpa [d1, d2] using w
end
end L2

set_option Elab.async false
set_option linter.all false
set_option maxRecDepth 100000
set_option maxHeartbeats 4000000
/-! Two dicts with the very same things under the same keys, compared; dict of a list of pairs. -/
namespace PySem
open PyProof.Rows
section
variable {prog : Program} {w : World} {K : Type} [DecidableEq K] {knd : KeyKind prog w K} {A : Around} {E : Value → Shared → Prop} {s : Shared}
end
section
variable {prog : Program} {w : World} {K : Type} [DecidableEq K] {knd : KeyKind prog w K} {A : Around} {R : Result → Shared → Prop} {d it l : Addr} {items : Array Value} {ps : List (K × Value)}
end
section
variable {prog : Program} {w : World} {K : Type} [DecidableEq K] {knd : KeyKind prog w K} {A : Around} {E : Value → Shared → Prop} {s : Shared}
end
end PySem

set_option Elab.async false
set_option linter.all false
set_option maxRecDepth 100000
set_option maxHeartbeats 200000
namespace L2
open PySem PySem.Spec PyProof.Rows
section
variable {X : Cx}
end
end L2

set_option Elab.async false
set_option linter.all false
set_option maxRecDepth 100000
set_option maxHeartbeats 400000
/-! dicts over the closed judgements; a dict that is known to its object while a block runs, and no more behind it -/
namespace L2
open PySem PySem.Spec PyProof.Rows
section
variable {X : Cx} {K : PySem.W.Frag} {o i e f value : Expr} {td ty tx tv : TE} {pos pos' apos cpos : Pos}
theorem q_dget (hu : X.A.units + 1 < cLine) (ho : QE X o td) (hi : QE X i ty) (hs : NoSl i) : QE X (.Subscript o i pos) (tDGet td ty) := ⟨pe_dget hu ho.out hi.out hs⟩
theorem s_dput (hu : X.A.units + 1 < cLine) (ho : QE X o td) (hi : QE X i ty) (hv : QE X value tv) (hs : swapsWith value (some (.Subscript o i pos')) pos.line X.env = pure false) :
    QS X (.Assign [.Subscript o i pos'] value pos) (sDPut td ty tv) := ⟨ps_dput hu ho.out hi.out hv.out hs⟩
theorem q_dnew : QE X (.Dict [] [] pos) tDNewK := ⟨pe_dnewK⟩
end
end L2
namespace L2
open PySem PySem.Spec PyProof.Rows
end L2
namespace L2
open PySem PySem.Spec PyProof.Rows
section
variable {g : TG} {tt : TT} {te : TE} {n : Nat} {fr : List Nat} {σ : St} {H : Hp} {Q : VK} {J : It}
theorem for_any {tb : TS} {D : Ends} (len : Nat) (Pv : Nat → St → Hp → Prop) (h0 : Pv 0 σ H) (hgo : ∀ i σ H, i < len → Pv i σ H → J.go i H) (hst : ∀ σ H, Pv len σ H → J.stop len H)
    (hs : ∀ i σ H x H', i < len → Pv i σ H → J.yld i H x H' → g x σ H' fun σ2 H2 => tb { D with nx := Pv (i + 1), ct := Pv (i + 1), bk := D.nx } σ2 H2) (hd : ∀ σ H, Pv len σ H → D.nx σ H) :
    ∃ W : Nat → Nat → St → Hp → Prop, (∃ m, W 0 m σ H) ∧ ∀ i m σ H, W i m σ H →
      (J.stop i H ∧ D.nx σ H) ∨ (J.go i H ∧ ∃ N : St → Hp → Prop, (∀ σ' H', N σ' H' → ∃ m', m' < m ∧ W (i + 1) m' σ' H') ∧ ∀ x H', J.yld i H x H' → g x σ H' fun σ2 H2 => tb { D with nx := N, ct := N, bk := D.nx } σ2 H2) := by
  refine ⟨fun i m σ H => i ≤ len ∧ m = len - i ∧ Pv i σ H, ⟨_, Nat.zero_le _, rfl, h0⟩, ?_⟩
  rintro i m σ H ⟨hi, rfl, p⟩
  by_cases hlt : i < len
  · exact .inr ⟨hgo i σ H hlt p, Pv (i + 1), fun σ' H' q => ⟨len - (i + 1), by omega, hlt, rfl, q⟩, fun x H' hy => hs i σ H x H' hlt p hy⟩
  · have e : i = len := by omega
    subst e
    exact .inl ⟨hst σ H p, hd σ H p⟩
end
end L2
namespace L2
open PySem PySem.Spec PyProof.Rows
/-- what is walked, for any weaker wish -/
def iClo (wi : TI) : TI := fun σ H R => ∃ Rs : It → Hp → Prop, wi σ H Rs ∧ ∀ J H1, Rs J H1 → R J H1
theorem i_clo {X : Cx} {tg iter : Expr} {wi : TI} (h : QI X tg iter wi) : QI X tg iter (iClo wi) := by
  refine ⟨fun pins s σ H R I ⟨Rs, h1, h2⟩ => ?_⟩
  refine thn (h.out pins s σ H Rs I h1) fun v s1 q => thn q fun itv s2 q2 => ?_
  obtain ⟨it, fp, tn, J, H', a1, a2, a3, a4, a5, a6⟩ := q2
  exact ⟨it, fp, tn, J, H', a1, a2, a3, a4, a5, h2 J H' a6⟩
structure ForInv (J : It) (g : TG) (tb : TS) (D : Ends) (σ : St) (H : Hp) : Prop where
  ex : ∃ (len : Nat) (Pv : Nat → St → Hp → Prop), Pv 0 σ H ∧ (∀ i σ H, i < len → Pv i σ H → J.go i H) ∧ (∀ σ H, Pv len σ H → J.stop len H) ∧
    (∀ i σ H x H', i < len → Pv i σ H → J.yld i H x H' → g x σ H' fun σ2 H2 => tb { D with nx := Pv (i + 1), ct := Pv (i + 1), bk := D.nx } σ2 H2) ∧ ∀ σ H, Pv len σ H → D.nx σ H
theorem for_inv {J : It} {g : TG} {tb : TS} {D : Ends} {σ : St} {H : Hp} (len : Nat) (Pv : Nat → St → Hp → Prop) (h0 : Pv 0 σ H) (hgo : ∀ i σ H, i < len → Pv i σ H → J.go i H) (hst : ∀ σ H, Pv len σ H → J.stop len H)
    (hs : ∀ i σ H x H', i < len → Pv i σ H → J.yld i H x H' → g x σ H' fun σ2 H2 => tb { D with nx := Pv (i + 1), ct := Pv (i + 1), bk := D.nx } σ2 H2) (hd : ∀ σ H, Pv len σ H → D.nx σ H) : ForInv J g tb D σ H := ⟨len, Pv, h0, hgo, hst, hs, hd⟩
def tForS (wi : TI) (g : TG) (tb : TS) : TS := fun D σ H => wi σ H fun J H1 => ForInv J g tb D σ H1
theorem s_forS {X : Cx} {tg iter : Expr} {b1 : List Stmt} {pos : Pos} {wi : TI} {g : TG} {u : TS} (hp : PassesOwn (model X.prog X.w) X.A X.env X.xe) (hc : X.calm = true) (hi : QI X tg iter wi) (hg : QG X tg g) (hb : QB X b1 u) (hs : ∀ x, foldedSetIterable iter X.env x = pure x) : QS X (.For tg iter b1 [] pos) (tForS wi g u) := by
  have h := s_for (pos := pos) hp hc (i_clo hi) hg hb hs
  refine ⟨fun pins s σ H D I ht => h.out pins s σ H D I ⟨_, ht, fun J H1 h1 => ?_⟩⟩
  obtain ⟨len, Pv, a0, a1, a2, a3, a4⟩ := h1.ex
  exact for_any len Pv a0 a1 a2 a3 a4
end L2
namespace L2
open PySem PySem.Spec PyProof.Rows
end L2
namespace L2
open PySem PySem.Spec PyProof.Rows
end L2
namespace L2
open PySem PySem.Spec PyProof.Rows
end L2

set_option Elab.async false
set_option linter.all false
set_option maxRecDepth 100000
set_option maxHeartbeats 400000
/-! more of isinstance -/
namespace L2
open PySem PySem.Spec PyProof.Rows
end L2

set_option Elab.async false
set_option linter.all false
set_option maxRecDepth 100000
set_option maxHeartbeats 400000
/-! str of anything plain -/
namespace L2
open PySem PySem.Spec PyProof.Rows
section
variable {X : Cx}
end
section
variable {H H' : Hp} {d : Addr} {kvs : List (Key × V)}
end
end L2

set_option Elab.async false
set_option linter.all false
set_option maxRecDepth 100000
set_option maxHeartbeats 400000
/-! len of a dict; texts of small things -/
namespace L2
open PySem PySem.Spec PyProof.Rows
end L2

set_option Elab.async false
set_option linter.all false
set_option maxRecDepth 100000
set_option maxHeartbeats 4000000
/-! Slices of texts, zfill, count and index of flat lists, flat lists compared, objects without an __init__ of their own, methods, displays of dicts. -/
namespace L2
open PySem PySem.Spec PyProof.Rows
section
variable {X : Cx}
/-- x[lo:hi] of a text -/
def rSlS : V → Option Int → Option Int → Hp → VK → Prop := fun x lo hi H Q => ∃ z, x = .str z ∧ z.length ≤ sizeLine ∧ Q (.str (Txt.slice z lo hi)) H
theorem sl_str : SlR X rSlS := by
  intro pins s σ H x v vl vu lo hi sl Q I rx hs pl pu h
  obtain ⟨z, rfl, hz, q⟩ := h
  obtain ⟨t, rfl⟩ := rx
  refine ⟨"str", _, PySem.F.slot_str_getitem.lookup, typeIs_str _ _ _, ?_⟩
  obtain ⟨o, e1, e2, e3⟩ := hs
  cases pl with
  | none =>
    cases pu with
    | none => exact wpAny_getItem_str_slice (l := none) (u := none) (st := none) ⟨o, e1, e2, e3⟩ rfl (post_val_or_str ⟨Nat.le_trans (Txt.slice_le z _ _) hz, fun t' k => ⟨.str _, H, I.tok _, ⟨_, rfl⟩, q⟩⟩)
    | int j uj => exact wpAny_getItem_str_slice (l := none) (u := some (j, uj)) (st := none) ⟨o, e1, e2, e3⟩ rfl (post_val_or_str ⟨Nat.le_trans (Txt.slice_le z _ _) hz, fun t' k => ⟨.str _, H, I.tok _, ⟨_, rfl⟩, q⟩⟩)
  | int i ui =>
    cases pu with
    | none => exact wpAny_getItem_str_slice (l := some (i, ui)) (u := none) (st := none) ⟨o, e1, e2, e3⟩ rfl (post_val_or_str ⟨Nat.le_trans (Txt.slice_le z _ _) hz, fun t' k => ⟨.str _, H, I.tok _, ⟨_, rfl⟩, q⟩⟩)
    | int j uj => exact wpAny_getItem_str_slice (l := some (i, ui)) (u := some (j, uj)) (st := none) ⟨o, e1, e2, e3⟩ rfl (post_val_or_str ⟨Nat.le_trans (Txt.slice_le z _ _) hz, fun t' k => ⟨.str _, H, I.tok _, ⟨_, rfl⟩, q⟩⟩)
structure QO (X : Cx) (e : Option Expr) (t : TO) : Prop where
  out : PO X e t
theorem o_none : QO X none tNoPart := ⟨po_none⟩
theorem o_some {e : Expr} {te : TE} (h : QE X e te) : QO X (some e) (tPart te) := ⟨po_some h.out⟩
theorem q_slS {e : Expr} {te : TE} {lo hi : Option Expr} {tl th : TO} {pos p2 : Pos} (he : QE X e te) (hl : QO X lo tl) (hu : QO X hi th) : QE X (.Subscript e (.Slice lo hi none p2) pos) (tSl rSlS te tl th) := ⟨pe_slice sl_str he.out hl.out hu.out⟩
/-- zfill -/
def rZf : V → List V → Hp → VK → Prop := fun x xs H Q => ∃ z i, x = .str z ∧ xs = [.int i] ∧ PadOk i = true ∧ Q (.str (Txt.zfill z i)) H
theorem mt_zfill : MtR X "str.zfill" rZf := by
  intro pins s σ H x xs v us Q I rx rv h
  obtain ⟨z, i, rfl, rfl, hp, q⟩ := h
  obtain ⟨t, rfl⟩ := rx
  obtain ⟨u, rfl, t', rfl⟩ := vals1 rv
  exact SC.zfill hp (fun t' k => ⟨.str _, H, I.tok _, ⟨_, rfl⟩, q⟩)
theorem count_eqU {x : V} : ∀ {xs : List V} {us : List Value}, Vals xs us → xs.all flatV = true → us.countP (eqU x) = xs.countP fun y => eqV y x
  | _, _, .nil, _ => rfl
  | y :: xs, u :: us, .cons r t, f => by
    rw [List.all_cons, Bool.and_eq_true] at f
    rw [List.countP_cons, List.countP_cons, eqU_of r f.1, count_eqU t f.2]
theorem at_eqU {x : V} : ∀ {xs : List V} {us : List Value}, Vals xs us → xs.all flatV = true → ∀ (j : Nat) (h1 : j < us.length) (h2 : j < xs.length), eqU x us[j] = eqV xs[j] x
  | _, _, .nil, _, j, h1, _ => absurd h1 (Nat.not_lt_zero j)
  | y :: xs, u :: us, .cons r t, f, j, h1, h2 => by
    rw [List.all_cons, Bool.and_eq_true] at f
    cases j with
    | zero => exact eqU_of r f.1
    | succ j => exact at_eqU t f.2 j (Nat.lt_of_succ_lt_succ h1) (Nat.lt_of_succ_lt_succ h2)
/-- count of a flat thing in a flat list -/
def rCount (K : PySem.W.Frag) : V → List V → Hp → VK → Prop := fun x xs H Q => ∃ p ys y, x = .ref p ∧ xs = [y] ∧ SqL K H p ys ∧ flatV y = true ∧ ys.all flatV = true ∧ Q (.int (ys.countP fun z => eqV z y : Nat)) H
theorem mt_count : MtR X "list.count" (rCount X.K) := by
  intro pins s σ H x xs v us Q I rx rv h
  obtain ⟨p, ys, y, rfl, rfl, hq, fy, fs, q⟩ := h
  cases rx
  obtain ⟨u, rfl, ru⟩ := vals1 rv
  obtain ⟨its, r, pl, hz⟩ := I.list hq
  obtain ⟨⟨cls, dd, data, sl⟩, ho, hc, n, hd⟩ := id pl.isList
  simp only at hc hd
  subst hc hd
  refine call_meets PySem.F.slot_list_count ⟨_, ho, rfl⟩ PySem.F.entry_list_count (PySem.F.args_list_count_2 _ _) (SeqAt.list_countAt p its.toArray n dd sl u (eqU y)) ⟨ho, fun w hw => mem_eqAt ru fy r fs w (by simpa using hw), ?_⟩
  rw [show its.toArray.toList = its from rfl, count_eqU r fs]
  exact ⟨.int _, H, I.tok _, ⟨_, rfl⟩, q⟩
/-- index of a flat thing in a flat list -/
def rIndex (K : PySem.W.Frag) : V → List V → Hp → VK → Prop := fun x xs H Q => ∃ p ys y, ∃ j : Nat, x = .ref p ∧ xs = [y] ∧ SqL K H p ys ∧ flatV y = true ∧ ys.all flatV = true ∧ (∃ h : j < ys.length, eqV ys[j] y = true) ∧ (∀ m (h : m < ys.length), m < j → eqV ys[m] y = false) ∧ Q (.int j) H
theorem mt_index : MtR X "list.index" (rIndex X.K) := by
  intro pins s σ H x xs v us Q I rx rv h
  obtain ⟨p, ys, y, j, rfl, rfl, hq, fy, fs, ⟨hj, hit⟩, hno, q⟩ := h
  cases rx
  obtain ⟨u, rfl, ru⟩ := vals1 rv
  obtain ⟨its, r, pl, hz⟩ := I.list hq
  have hl := r.length
  have hn := line63
  obtain ⟨⟨cls, dd, data, sl⟩, ho, hc, n, hd⟩ := id pl.isList
  simp only at hc hd
  subst hc hd
  refine call_meets PySem.F.slot_list_index ⟨_, ho, rfl⟩ PySem.F.entry_list_index (PySem.F.args_list_index_2 _ _) (SeqAt.list_indexAt p its.toArray n dd sl u (eqU y) j (by rw [List.size_toArray]; omega) (by omega) ?_ ?_) ⟨ho, fun w hw => mem_eqAt ru fy r fs w (by simpa using hw), ?_⟩
  · show eqU y its[j] = true
    rw [at_eqU r fs j (by omega) hj]
    exact hit
  · intro m hm hlt
    show eqU y its[m] = false
    rw [List.size_toArray] at hm
    rw [at_eqU r fs m hm (by omega)]
    exact hno m (by omega) hlt
  · exact ⟨.int _, H, I.tok _, ⟨_, rfl⟩, q⟩
section
variable {K : PySem.W.Frag} {o e : Expr} {to te : TE} {apos cpos : Pos}
theorem q_zfill (hK : X.K = K) (ho : QE X o to) (ha : QE X e te) (hb : attributeBase o "zfill" X.env (eval o X.env) = eval o X.env) (h2 : noStar e = true) (hl : (apos.endLine == cpos.line) = true) :
    QE X (.Call (.Attribute o "zfill" apos) [e] [] cpos) (tBM K "str" rZf to (tCons te tNil)) := by
  subst hK
  exact ⟨pe_bm PySem.F.plainAttrs_str PySem.F.slot_str_zfill PySem.F.type_str_zfill mt_zfill ho.out (pa_cons ha.out pa_nil (star_cons h2)) hb (by rw [star_cons h2]; rfl) hl (star_cons h2) rfl⟩
theorem q_count (hK : X.K = K) (ho : QE X o to) (ha : QE X e te) (hb : attributeBase o "count" X.env (eval o X.env) = eval o X.env) (h2 : noStar e = true) (hl : (apos.endLine == cpos.line) = true) :
    QE X (.Call (.Attribute o "count" apos) [e] [] cpos) (tBM K "list" (rCount K) to (tCons te tNil)) := by
  subst hK
  exact ⟨pe_bm PySem.F.plainAttrs_list PySem.F.slot_list_count PySem.F.type_list_count mt_count ho.out (pa_cons ha.out pa_nil (star_cons h2)) hb (by rw [star_cons h2]; rfl) hl (star_cons h2) rfl⟩
theorem q_index (hK : X.K = K) (ho : QE X o to) (ha : QE X e te) (hb : attributeBase o "index" X.env (eval o X.env) = eval o X.env) (h2 : noStar e = true) (hl : (apos.endLine == cpos.line) = true) :
    QE X (.Call (.Attribute o "index" apos) [e] [] cpos) (tBM K "list" (rIndex K) to (tCons te tNil)) := by
  subst hK
  exact ⟨pe_bm PySem.F.plainAttrs_list PySem.F.slot_list_index PySem.F.type_list_index mt_index ho.out (pa_cons ha.out pa_nil (star_cons h2)) hb (by rw [star_cons h2]; rfl) hl (star_cons h2) rfl⟩
theorem op_inK (hK : X.K = K) : OpR X (compareOp .In) (rIn K false) := by
  subst hK
  exact op_in_seq
/-- two flat lists with the same items compared -/
def rSameL (K : PySem.W.Frag) (b : Bool) : R2 := fun x y H Q => ∃ p q xs, x = .ref p ∧ y = .ref q ∧ SqL K H p xs ∧ SqL K H q xs ∧ (∀ x ∈ xs, isFlat x = true) ∧ Q (.bl b) H
theorem op_neSL (hK : X.K = K) (hu : X.A.units < cLine) : OpR X (compareOp .NotEq) (rSameL K false) := by
  subst hK
  intro pins s σ H x y v u Q I rx ry h
  obtain ⟨p, q, xs, rfl, rfl, h1, h2, f, hq⟩ := h
  cases rx
  cases ry
  obtain ⟨us, r1, t1, _⟩ := I.list h1
  obtain ⟨vs, r2, t2, _⟩ := I.list h2
  have l1 := r1.length
  have l2 := r2.length
  have es : us.toArray.size = vs.toArray.size := by simp; omega
  have z := SeqAt.RcNeAt.lists (A := X.A) (e := fun _ => true) t1.isList t2.isList es hu (eqAt_items f r1 r2)
  rw [all_true] at z
  refine z _ _ _ _ ?_
  exact ⟨.bl false, H, I, rfl, hq⟩
theorem op_eqSL (hK : X.K = K) (hu : X.A.units < cLine) : OpR X (compareOp .Eq) (rSameL K true) := by
  subst hK
  intro pins s σ H x y v u Q I rx ry h
  obtain ⟨p, q, xs, rfl, rfl, h1, h2, f, hq⟩ := h
  cases rx
  cases ry
  obtain ⟨us, r1, t1, _⟩ := I.list h1
  obtain ⟨vs, r2, t2, _⟩ := I.list h2
  have l1 := r1.length
  have l2 := r2.length
  have es : us.toArray.size = vs.toArray.size := by simp; omega
  refine SeqAt.eq_listAt (e := fun _ => true) t1.isList t2.isList es hu (eqAt_items f r1 r2) ?_
  rw [all_true]
  exact ⟨.bl true, H, I, rfl, hq⟩
end
/-! ### methods that may raise; objects without an __init__ of their own -/
section
variable {CX : CXT} {k : Nat} {f C : Addr} {fd : FuncData} {ps : List Str} {sp : Sp} {dvs : List V} {ds : List Value} {E : XK} {Es : St → XK} {x m : Str} {p pos apos : Pos} {e o : Expr} {es : List Expr} {ta : TE} {t : TA} {pl : Sem Bool}
theorem q_meth (he : QE X o ta) (c : Cls X.K C) (hm : Meth X.K C m f) (F : FnOk X.prog X.w X.K X.mg X.base CX k f fd ps sp) (hr : Room k X.A) (hb : Binds X.K fd ps ds) (hd : Vals dvs ds) (hx : Passes CX X E) (ha : QA X (e :: es) t)
    (h2 : noStar e = true) (h3 : noStars es = true)
    (ht : eval (.Call (.Attribute o m apos) (e :: es) [] pos) X.env = (do
      let ov ← eval o X.env
      standAt apos.atName
      let (f, first) ← holding [ov] (getMethod ov m pl)
      callWith pos f first (backTo pos (starEach (e :: es) X.env)) (backToKw pos (keywordEach [] X.env)))) :
    QE X (.Call (.Attribute o m apos) (e :: es) [] pos) (tMeth C m sp dvs E ta t) := ⟨pe_meth he.out c hm F hr hb hd hx ha.out (star_cons h2) (stars_any h3) ht⟩
def tMethS (C : Addr) (m : Str) (sp : Sp) (dvs : List V) (E : St → XK) (ta : TE) (t : TA) : TE := fun σ H Q => ta σ H fun x H1 => ∃ a dx fs, x = .ref a ∧ H1 a = some (.ins C dx fs) ∧ fs.lookup m = none ∧
  t σ H1 fun vs H2 => sp (x :: (vs ++ dvs)) H2 Q (E σ)
theorem pe_methS (he : PE X o ta) (c : Cls X.K C) (hm : Meth X.K C m f) (F : FnOk X.prog X.w X.K X.mg X.base CX k f fd ps sp) (hr : Room k X.A) (hb : Binds X.K fd ps ds) (hd : Vals dvs ds) (hx : PassesS CX X Es) (ha : PA X (e :: es) t)
    (hst : starEach (e :: es) X.env = (false, eval e X.env) :: starEach es X.env) (hpl : (backTo pos (starEach es X.env)).any (·.1) = false)
    (ht : eval (.Call (.Attribute o m apos) (e :: es) [] pos) X.env = (do
      let ov ← eval o X.env
      standAt apos.atName
      let (f, first) ← holding [ov] (getMethod ov m pl)
      callWith pos f first (backTo pos (starEach (e :: es) X.env)) (backToKw pos (keywordEach [] X.env)))) :
    PE X (.Call (.Attribute o m apos) (e :: es) [] pos) (tMethS C m sp dvs Es ta t) := by
  intro pins s σ H Q I h
  refine PySem.W.methodCall_KW (pl := pl) (thn (he pins s σ H _ I h) fun u s1 ⟨x, H1, I1, rx, a, dx, fs, ex, ea, l, q⟩ => ?_) ht
  subst ex
  obtain rfl : u = Value.ref a := rx
  refine getmeth_ok I1 ea c hm l ?_
  refine PySem.W.callWith_K (first := [.ref a]) (h₀ := X.base) I.ok.mod.kin hm.kp (thn (ha pos pins s1 σ H1 _ I1 q) fun us s2 ⟨vs, H2, I2, r, q2⟩ => ⟨I2.kIn, ?_⟩) hst hpl
  exact run_fnS (us := .ref a :: us) (vs := .ref a :: vs) F hr hb hd hx I2 (.cons rfl r) q2
theorem q_methS (he : QE X o ta) (c : Cls X.K C) (hm : Meth X.K C m f) (F : FnOk X.prog X.w X.K X.mg X.base CX k f fd ps sp) (hr : Room k X.A) (hb : Binds X.K fd ps ds) (hd : Vals dvs ds) (hx : PassesS CX X Es) (ha : QA X (e :: es) t)
    (h2 : noStar e = true) (h3 : noStars es = true)
    (ht : eval (.Call (.Attribute o m apos) (e :: es) [] pos) X.env = (do
      let ov ← eval o X.env
      standAt apos.atName
      let (f, first) ← holding [ov] (getMethod ov m pl)
      callWith pos f first (backTo pos (starEach (e :: es) X.env)) (backToKw pos (keywordEach [] X.env)))) :
    QE X (.Call (.Attribute o m apos) (e :: es) [] pos) (tMethS C m sp dvs Es ta t) := ⟨pe_methS he.out c hm F hr hb hd hx ha.out (star_cons h2) (stars_any h3) ht⟩
/-- what a class without an __init__ of its own must have to be made -/
structure Mk0 (K : PySem.W.Frag) (C : Addr) : Prop where
  makes : PySem.W.makesIn K C = true
  init : PySem.W.findIn K (.ref C) "__init__" = some (some (.builtin "object.__init__"))
  kp : PySem.W.keepIn K (.ref C) = true
def tMakeN (C : Addr) : TE := fun _ H Q => ∀ x dx, H x = none → H dx = none → dx ≠ x → Q (.ref x) (upd (upd H dx (.own x)) x (.ins C dx []))
theorem run_makeN {pins : List (Addr × Obj)} {σ : St} {H : Hp} {s : Shared} {Q : VK} (M : Mk0 X.K C) (I : Inv X pins σ H s)
    (h : ∀ x dx, H x = none → H dx = none → dx ≠ x → Q (.ref x) (upd (upd H dx (.own x)) x (.ins C dx []))) :
    wpAny (model X.prog X.w) X.A (call (.ref C) []) (EP X pins σ Q) X.xe s := by
  have hq := h (s.heap.objs.size + 1) s.heap.objs.size (I.hok.fresh (Nat.le_succ _)) (I.hok.fresh (Nat.le_refl _)) (Nat.ne_of_lt (Nat.lt_succ_self _))
  have I2 := Inv.made (C := C) I
  have Y := PySem.W.makes_of (M := model X.prog X.w) I.kIn M.makes
  refine wpAny_call (make_map0 I.kIn M.makes M.init (fun self => PySem.W.Looks.of_pure (PySem.W.oi_bind self)) ?_)
  have hx : ((s.heap.push PySem.W.emptyDict).push (PySem.W.instObj C s.heap.objs.size)).get? (s.heap.objs.size + 1) = some (PySem.W.instObj C s.heap.objs.size) := by
    have := Heap.get?_push_size (s.heap.push PySem.W.emptyDict) (o := PySem.W.instObj C s.heap.objs.size) rfl
    rwa [Heap.size_push] at this
  have t1 : PySem.W.Looks (model X.prog X.w) ((s.heap.push PySem.W.emptyDict).push (PySem.W.instObj C s.heap.objs.size)) (typeOf (.ref (s.heap.objs.size + 1))) (.ref C) := (PySem.W.Looks.ld hx).andThen .now
  have t2 : PySem.W.Looks (model X.prog X.w) ((s.heap.push PySem.W.emptyDict).push (PySem.W.instObj C s.heap.objs.size)) (isInstance (.ref (s.heap.objs.size + 1)) (.type "object")) true := t1.andThen (Y.top.keeps fun b o e => Heap.get?_push_of_some _ (Heap.get?_push_of_some _ e))
  refine codeAny_call_builtin PySem.W.oi_plain PySem.W.entry_oi (@PySem.W.check_slot (model X.prog X.w) _ _ _ "object.__init__" "object" "__init__" (.ref (s.heap.objs.size + 1)) [] [] _ PySem.W.oi_kind PySem.W.oi_split t2 (PySem.W.oi_args (.ref (s.heap.objs.size + 1))) ?_)
  rw [PySem.W.oi_run]
  exact wpAny_pure (And.intro rfl ⟨V.ref (s.heap.objs.size + 1), _, I2, rfl, hq⟩)
theorem q_makeN (M : Mk0 X.K C) (hg : Gl X x) (hm : X.mg x = some (.ref C)) (hdb : (x == ("__debug__" : Str)) = false) : QE X (.Call (.Name x p) [] [] pos) (tMakeN C) := by
  refine ⟨fun pins s σ H Q I h => ?_⟩
  refine wpAny_Call_Name_kw (ld_glob I hg hm ?_ hdb)
  exact PySem.W.callWith_K0 I.kIn M.kp (run_makeN M I h)
end
/-! ### displays of dicts -/
section
variable {pos : Pos}
structure QP (X : Cx) (pos : Pos) (keys : List (Option Expr)) (values : List Expr) (trs : List (TE × TE)) : Prop where
  out : PPs X pos keys values trs
theorem pp_nil : QP X pos [] [] [] := ⟨pps_nil⟩
theorem pp_cons {k v : Expr} {ks : List (Option Expr)} {vs : List Expr} {tk tv : TE} {trs : List (TE × TE)} (hk : QE X k tk) (hv : QE X v tv) (hr : QP X pos ks vs trs) : QP X pos (some k :: ks) (v :: vs) ((tk, tv) :: trs) := ⟨pps_cons hk.out hv.out hr.out⟩
theorem q_disp {keys : List (Option Expr)} {values : List Expr} {trs : List (TE × TE)} (h : QP X pos keys values trs) (hall : keys.all (·.isSome) = true) (hl : keys.length = values.length) (h0 : keys ≠ []) (h15 : keys.length ≤ 15) :
    QE X (.Dict keys values pos) (tDisp trs) := ⟨pe_disp h.out hall hl h0 h15⟩
end
end
end L2

set_option Elab.async false
set_option linter.all false
set_option maxRecDepth 100000
set_option maxHeartbeats 4000000
/-! Defs that are called within an except suite: an exception is being handled while they run. -/
namespace L2
open PySem PySem.Spec PyProof.Rows
structure RoomH (k : Nat) (A : Around) : Prop where
  dp : A.depth + 3 * k + 5 < recursionLimit
  un : A.units + 16 * k + 200 < cLine
  gd : A.guards = some []
theorem Room.mark {k : Nat} {A : Around} {v : Option Value} (r : Room k A) : RoomH k (A.mark v) := ⟨r.dp, r.un, r.gd⟩
theorem RoomH.deeper {k : Nat} {A : Around} (r : RoomH (k + 1) A) (env : Env) : RoomH k (A.deeper env) :=
  ⟨by have := r.dp; show A.depth + 1 + 3 * k + 5 < _; omega, by have := r.un; show A.units + 3 + 16 * k + 200 < _; omega, r.gd⟩
theorem RoomH.depth {k : Nat} {A : Around} (r : RoomH k A) : A.depth < recursionLimit := by have := r.dp; omega
structure FnOkH (P : Program) (w : World) (K : PySem.W.Frag) (mg : Str → Option Value) (base : Heap) (k : Nat) (f : Addr) (fd : FuncData) (ps : List Str) (sp : Sp) : Prop where
  len : ∀ vs H Q E, sp vs H Q E → vs.length = ps.length
  run : ∀ (A : Around) (outer : List Env) (s : Shared) (H : Hp) (args : Args) (us : List Value) (vs : List V) (Q : VK) (E : XK), RoomH k A → Env0 P w K mg base A outer s H → BindsTo s fd args (ps.zip us) → Vals vs us → sp vs H Q E →
    codeAny (model P w) A (.call (.ref f) args) (CR CX0 outer P w H s Q E) s
/-- the context of a def's body that may run while an exception is handled -/
def cxH (P : Program) (w : World) (K : PySem.W.Frag) (mg : Str → Option Value) (base : Heap) (N : List Str) (qual : Str) (scope : Scope) (f : Addr) (cd : Value) (A : Around) (outer : List Env) (s : Shared) (H : Hp) (E : XK) : Cx :=
  { (cxOf CX0 P w K mg base N qual scope f cd A outer s H E) with calm := false }
theorem inv_startH {P : Program} {w : World} {K : PySem.W.Frag} {mg : Str → Option Value} {base : Heap} {N ps : List Str} {qual : Str} {scope : Scope} {f : Addr} {cd : Value} {A : Around} {outer : List Env} {s s1 : Shared} {H : Hp} {E : XK} {us : List Value} {vs : List V}
    (S : FnScope N ps scope) (e0 : Env0 P w K mg base A outer s H) (hl : vs.length = ps.length) (r : Vals vs us)
    (x : InCallC s s.heap.objs.size (bindL (envOfC qual scope s.heap.objs.size f cd).kindOf (ps.zip us) fun _ => none) (cellsFrom (s.heap.objs.size + 1) scope.names []) (bindC (envOfC qual scope s.heap.objs.size f cd).kindOf (ps.zip us) fun _ => none) s1) :
    Inv (cxH P w K mg base N qual scope f cd A outer s H E) [] (start N vs) H s1 := by
  have I := inv_start (CX := CX0) (E := E) (A := { A with handled := none }) S rfl ⟨e0.frames, e0.mod, e0.bs, e0.bsz, e0.funs, e0.frf, e0.hok, e0.bare⟩ hl r x
  obtain ⟨ok, os, bare, base', loc, cell, free, freeC, pin, hok, len⟩ := I
  refine ⟨⟨ok.mod, ok.kind, ok.glob, ok.blt, ok.above, ok.inj, ok.has, ok.cab, fun z => (nomatch z), ?_, ok.stk, ok.exf, ok.bs, ok.bsz, ok.noex, ok.exfs, ok.funs, ok.frf⟩, os, bare, base', loc, cell, free, freeC, pin, hok, len⟩
  have := ok.frames
  exact this
theorem fn_ofH {P : Program} {w : World} {K : PySem.W.Frag} {mg : Str → Option Value} {base : Heap} {k : Nat} {f : Addr} {name qual : Str} {params : Arguments} {body : List Stmt} {scope : Scope} {dV kV doc pm cdv ct oc : Value} {an od : Option Addr}
    {osl : Array (Option Value)} {N ps : List Str} {sp : Sp} (lk : K.lookup f = some ⟨oc, od, .func (PySem.W.fnOf name qual params body scope dV kV doc pm an cdv ct), osl⟩) (hcd : PySem.W.codeIn K cdv qual = true) (S : FnScope N ps scope)
    (len : ∀ vs H Q E, sp vs H Q E → vs.length = ps.length)
    (hbody : ∀ (A : Around) (outer : List Env) (s : Shared) (H : Hp) (vs : List V) (Q : VK) (E : XK), RoomH k (A.deeper (envOfC qual scope s.heap.objs.size f cdv)) → sp vs H Q E →
      ∃ t, PSs (cxH P w K mg base N qual scope f cdv A outer s H E) body t ∧ t { nx := fun _ H' => Q .non H', rt := Q } (start N vs) H) :
    FnOkH P w K mg base (k + 1) f (PySem.W.fnOf name qual params body scope dV kV doc pm an cdv ct) ps sp := by
  refine ⟨len, fun A outer s H args us vs Q E hr e0 hb r hsp => ?_⟩
  have hl := len _ _ _ _ hsp
  have KX : K.In s.heap := e0.mod.kin.keeps fun b o e => (e0.bs b o e).1
  have lim : s.heap.NoLimit := e0.mod.nolimit.keeps fun b o e => (e0.bs b o e).1
  have hkind : ∀ y ∈ ps.zip us, scope.names.lookup y.1 = some .local ∨ (scope.names.lookup y.1 = some .cell ∧ ((cellsFrom (s.heap.objs.size + 1) scope.names []).lookup y.1).isSome = true) := fun ⟨n, v⟩ hy =>
    (S.par n (List.of_mem_zip hy).1).imp id fun q => ⟨q, PySem.W.cellsFrom_some _ _ _ (.inl q)⟩
  refine codeAny_call_function hr.depth (KX _ _ lk) rfl S.co S.gen rfl (PySem.W.codeRec_of KX hcd) (hb _ _ _ _ ?_)
  refine wpAny_newFunctionEnv_cells S.kind hkind fun env he s1 x => ?_
  subst he
  refine ⟨lim.keeps x.toInCall.keep, codeAny_func ?_⟩
  obtain ⟨t, ht, hq⟩ := hbody A outer s H vs Q E (hr.deeper _) hsp
  have I := inv_startH (P := P) (w := w) (E := E) S e0 hl r x
  refine wpAny_mono (ht [] s1 (start N vs) H _ I hq) (fun fl s' hs => ?_) fun e s' hs => hs
  cases fl with
  | ret u => exact let ⟨v, σ', H', J, rv, q⟩ := hs; ⟨v, H', J.os, J.bare, J.base, J.hok, rv, q⟩
  | next => exact let ⟨σ', H', J, q⟩ := hs; ⟨V.non, H', J.os, J.bare, J.base, J.hok, rfl, q⟩
  | brk => exact (let ⟨_, _, _, q⟩ := hs; q : False).elim
  | cont => exact (let ⟨_, _, _, q⟩ := hs; q : False).elim
section
variable {P : Program} {w : World} {K : PySem.W.Frag} {mg : Str → Option Value} {base : Heap}
theorem Fun.okH {x qual : Str} {st : Stmt} {f : Addr} {fd : FuncData} {N ps : List Str} {k : Nat} {sp : Sp} (F : Fun K x qual st f fd) (S : FnScope N ps (defScope st)) (len : ∀ vs H Q E, sp vs H Q E → vs.length = ps.length)
    (hbody : ∀ (cdv : Value) (A : Around) (outer : List Env) (s : Shared) (H : Hp) (vs : List V) (Q : VK) (E : XK), RoomH k (A.deeper (envOfC qual (defScope st) s.heap.objs.size f cdv)) → sp vs H Q E →
      ∃ t, PSs (cxH P w K mg base N qual (defScope st) f cdv A outer s H E).nox (defBody st) t ∧ t { nx := fun _ H' => Q .non H', rt := Q } (start N vs) H) : FnOkH P w K mg base (k + 1) f fd ps sp := by
  obtain ⟨oc, od, kV, doc, pm, an, cdv, ct, osl, rfl, lk, hcd⟩ := F.ex
  refine fn_ofH lk hcd S len fun A outer s H vs Q E hr hsp => ?_
  obtain ⟨t, h, q⟩ := hbody cdv A outer s H vs Q E hr hsp
  exact ⟨t, h.nox, q⟩
end
section
variable {X : Cx} {k : Nat} {f : Addr} {fd : FuncData} {ps : List Str} {sp : Sp} {x : Str} {p pos : Pos} {e : Expr} {es : List Expr} {t : TA}
theorem q_callH (F : FnOkH X.prog X.w X.K X.mg X.base k f fd ps sp) (hr : RoomH k X.A) (hg : Gl X x) (hm : X.mg x = some (.ref f)) (hk : PySem.W.keepIn X.K (.ref f) = true) (hb : Binds X.K fd ps [])
    (ha : QA X (e :: es) t) (hdb : (x == ("__debug__" : Str)) = false) (h2 : noStar e = true) (h3 : noStars es = true) : QE X (.Call (.Name x p) (e :: es) [] pos) (tCall sp [] E0 t) := by
  refine ⟨fun pins s σ H Q I h => ?_⟩
  refine wpAny_Call_Name_kw (ld_glob I hg hm ?_ hdb)
  refine PySem.W.callWith_K (h₀ := X.base) I.ok.mod.kin hk (thn (ha.out pos pins s σ H _ I h) fun us s1 ⟨vs, H1, I1, r, q⟩ => ⟨I1.kIn, ?_⟩) (star_cons h2) (stars_any h3)
  replace q : sp (vs ++ []) H1 Q E0 := q
  rw [List.append_nil] at q
  have hl : (us ++ []).length = ps.length := by rw [List.append_nil, ← r.length]; exact F.len _ _ _ _ q
  have hb' := hb s1 us I1.kIn hl
  rw [List.append_nil] at hb'
  rw [List.nil_append]
  refine wpAny_call (codeAny_mono (F.run X.A X.stack s1 H1 ⟨us, []⟩ us vs Q E0 hr I1.env0 hb' r q) fun r s' hq => ?_)
  cases r with
  | error e => exact hq.elim
  | ok fl =>
    cases fl with
    | ret u => exact I1.after hq
    | next => exact False.elim hq
    | brk => exact False.elim hq
    | cont => exact False.elim hq
end
end L2

set_option Elab.async false
set_option linter.all false
namespace FrR
/-- the lowest j figures of n, as signs -/
def low : Nat → Nat → List Nat
  | 0, _ => []
  | j + 1, n => low j (n / 10) ++ [48 + n % 10]
theorem low_len : ∀ (j n : Nat), (low j n).length = j
  | 0, _ => rfl
  | j + 1, n => by
    show (low j (n / 10) ++ [48 + n % 10]).length = j + 1
    rw [List.length_append, low_len j]; rfl
theorem low_cons : ∀ (j n : Nat), low (j + 1) n = (48 + n / 10 ^ j % 10) :: low j n
  | 0, n => by simp [low]
  | j + 1, n => by
    show low (j + 1) (n / 10) ++ [48 + n % 10] = _
    rw [low_cons j (n / 10), Nat.div_div_eq_div_mul, ← Nat.pow_succ']
    rfl
theorem low_zeros (k : Nat) : ∀ {j n : Nat}, n < 10 ^ j → low (j + k) n = List.replicate k 48 ++ low j n := by
  induction k with
  | zero => intro j n _; simp
  | succ k ih =>
    intro j n h
    rw [← Nat.add_assoc, low_cons, ih h, List.replicate_succ, List.cons_append]
    have : n / 10 ^ (j + k) = 0 := Nat.div_eq_of_lt (Nat.lt_of_lt_of_le h (Nat.pow_le_pow_right (by decide) (Nat.le_add_right _ _)))
    rw [this]
theorem digit_code : ∀ d, d < 10 → (Nat.digitChar d).toNat = 48 + d := by decide
theorem digits_low : ∀ (n : Nat), (Nat.toDigits 10 n).map Char.toNat = low (Nat.toDigits 10 n).length n := by
  intro n
  induction n using Nat.strongRecOn with
  | _ n ih =>
    by_cases h : n < 10
    · rw [Nat.toDigits_of_lt_base h]
      show [(Nat.digitChar n).toNat] = low 0 (n / 10) ++ [48 + n % 10]
      rw [digit_code n h, Nat.mod_eq_of_lt h]
      rfl
    · have h' : 10 ≤ n := Nat.le_of_not_lt h
      rw [Nat.toDigits_of_base_le (by decide) h', List.map_append, ih (n / 10) (Nat.div_lt_self (by omega) (by decide)), List.length_append]
      show _ = low ((Nat.toDigits 10 (n / 10)).length + 1) n
      show _ = low _ (n / 10) ++ [48 + n % 10]
      rw [← digit_code (n % 10) (Nat.mod_lt _ (by decide))]
      rfl
/-- the number of figures of a number is told by two facts -/
theorem len_digits {n j : Nat} (h1 : n < 10 ^ j) (hj : 1 ≤ j) (h2 : j = 1 ∨ 10 ^ (j - 1) ≤ n) : (Nat.toDigits 10 n).length = j := by
  induction j generalizing n with
  | zero => omega
  | succ j ih =>
    by_cases h : n < 10
    · rw [Nat.toDigits_of_lt_base h]
      rcases h2 with h2 | h2
      · simpa using h2.symm
      · cases j with
        | zero => rfl
        | succ j =>
          have : 10 ≤ 10 ^ (j + 1 + 1 - 1) := by
            show 10 ≤ 10 ^ (j + 1)
            rw [Nat.pow_succ]
            have := Nat.pow_pos (n := j) (show 0 < 10 by decide)
            omega
          omega
    · have h' : 10 ≤ n := Nat.le_of_not_lt h
      rw [Nat.toDigits_of_base_le (by decide) h', List.length_append]
      have hj1 : 1 ≤ j := by
        cases j with
        | zero => omega
        | succ j => omega
      have e1 : n / 10 < 10 ^ j := by
        rw [Nat.pow_succ] at h1
        omega
      rw [ih e1 hj1 ?_]
      · rfl
      · rcases h2 with h2 | h2
        · omega
        · by_cases hj2 : j = 1
          · exact .inl hj2
          · refine .inr ?_
            have : j + 1 - 1 = (j - 1) + 1 := by omega
            rw [this, Nat.pow_succ] at h2
            omega
/-! rounding -/
def setl (m : Nat) (a b : Int) : Int :=
  match m with
  | 0 => a / b
  | 1 => (a + b - 1) / b
  | 2 => (2 * a + b) / (2 * b)
  | _ => if 2 * (a - a / b * b) > b ∨ (2 * (a - a / b * b) = b ∧ a / b % 2 = 1) then a / b + 1 else a / b
/-- what is to be added, by the law -/
def more (m : Nat) (a b : Int) : Bool :=
  match m with
  | 0 => false
  | 1 => decide (0 < a - a / b * b)
  | 2 => decide (b ≤ 2 * (a - a / b * b))
  | _ => if 2 * (a - a / b * b) = b then decide (a / b - a / b / 2 * 2 = 1) else decide (b < 2 * (a - a / b * b))
theorem div_is {x b q : Int} (hb : 0 < b) (h1 : q * b ≤ x) (h2 : x < (q + 1) * b) : x / b = q := by
  have a1 : q ≤ x / b := (Int.le_ediv_iff_mul_le hb).mpr h1
  have a2 : x / b < q + 1 := (Int.ediv_lt_iff_lt_mul hb).mpr h2
  omega
theorem rest_is (a b : Int) (hb : 0 < b) : 0 ≤ a - a / b * b ∧ a - a / b * b < b := by
  have e : a - a / b * b = a % b := by rw [Int.emod_def, Int.mul_comm]
  rw [e]
  exact ⟨Int.emod_nonneg _ (by omega), Int.emod_lt_of_pos _ hb⟩
theorem setl_more (m : Nat) (a b : Int) (hb : 0 < b) : setl m a b = a / b + (if more m a b then 1 else 0) := by
  obtain ⟨r0, r1⟩ := rest_is a b hb
  match m with
  | 0 => simp [setl, more]
  | 1 =>
    show (a + b - 1) / b = a / b + (if decide (0 < a - a / b * b) then 1 else 0)
    generalize a / b = q at *
    by_cases h : 0 < a - q * b
    · rw [if_pos (by simpa using h)]
      refine div_is hb ?_ ?_
      · rw [Int.add_mul]; omega
      · rw [Int.add_mul, Int.add_mul]; omega
    · rw [if_neg (by simpa using h), Int.add_zero]
      refine div_is hb ?_ ?_
      · omega
      · rw [Int.add_mul]; omega
  | 2 =>
    show (2 * a + b) / (2 * b) = a / b + (if decide (b ≤ 2 * (a - a / b * b)) then 1 else 0)
    generalize a / b = q at *
    have e : ∀ z : Int, z * (2 * b) = 2 * (z * b) := fun z => by rw [Int.mul_left_comm]
    by_cases h : b ≤ 2 * (a - q * b)
    · rw [if_pos (by simpa using h)]
      refine div_is (by omega) ?_ ?_
      · rw [e, Int.add_mul]; omega
      · rw [e, Int.add_mul, Int.add_mul]; omega
    · rw [if_neg (by simpa using h), Int.add_zero]
      refine div_is (by omega) ?_ ?_
      · rw [e]; omega
      · rw [e, Int.add_mul]; omega
  | n + 3 =>
    show (if 2 * (a - a / b * b) > b ∨ (2 * (a - a / b * b) = b ∧ a / b % 2 = 1) then a / b + 1 else a / b) = a / b + (if (if 2 * (a - a / b * b) = b then decide (a / b - a / b / 2 * 2 = 1) else decide (b < 2 * (a - a / b * b))) = true then 1 else 0)
    have e2 : a / b - a / b / 2 * 2 = a / b % 2 := by omega
    rw [e2]
    generalize a / b = q at *
    by_cases h : 2 * (a - q * b) = b
    · rw [if_pos h]
      by_cases h3 : q % 2 = 1
      · rw [if_pos (.inr ⟨h, h3⟩), if_pos (by simpa using h3)]
      · rw [if_neg (by rintro (z | z) <;> omega), if_neg (by simpa using h3)]; omega
    · rw [if_neg h]
      by_cases h3 : b < 2 * (a - q * b)
      · rw [if_pos (.inl h3), if_pos (by simpa using h3)]
      · rw [if_neg (by rintro (z | z) <;> omega), if_neg (by simpa using h3)]; omega

open PySem PySem.Builtin PySem.Builtin.Str
theorem lt_len (n : Nat) : n < 10 ^ (Nat.toDigits 10 n).length := Nat.lt_of_not_le fun h => by
  have := PyProof.Rows.digits10_ge h
  omega
/-- the lowest j figures of n, a text -/
def txt (j n : Nat) : Str := ⟨(low j n).toArray⟩
theorem txt_len (j n : Nat) : (txt j n).length = j := by
  show (low j n).toArray.size = j
  rw [List.size_toArray, low_len]
theorem str_low (n : Nat) : Str.ofString (toString ((n : Nat) : Int)) = txt (Nat.toDigits 10 n).length n := by
  rw [show ((n : Nat) : Int) = Int.ofNat n from rfl, PyProof.Rows.text_ofNat, digits_low]
  rfl
theorem txt_cons (j n : Nat) : txt (j + 1) n = Str.ofString (toString ((n / 10 ^ j % 10 : Nat) : Int)) ++ txt j n := by
  rw [str_low, Nat.toDigits_of_lt_base (Nat.mod_lt _ (by decide))]
  refine PySem.Str.ext' ?_
  show (low (j + 1) n).toArray = (low 1 (n / 10 ^ j % 10)).toArray ++ (low j n).toArray
  rw [low_cons]
  show _ = ([] ++ [48 + n / 10 ^ j % 10 % 10]).toArray ++ (low j n).toArray
  rw [Nat.mod_mod]
  simp
theorem low_head {j n : Nat} (h : 1 ≤ j) : ∃ d r, d < 10 ∧ low j n = (48 + d) :: r := by
  cases j with
  | zero => omega
  | succ j => exact ⟨_, _, Nat.mod_lt _ (by decide), low_cons j n⟩
theorem zfilled_low {j n k : Nat} (h : 1 ≤ j) : zfilled (txt j n) k = ⟨(List.replicate k 48 ++ low j n).toArray⟩ := by
  obtain ⟨d, r, hd, e⟩ := low_head (n := n) h
  unfold zfilled
  have e0 : (txt j n).cps[0]? = some (48 + d) := by
    show (low j n).toArray[0]? = _
    rw [e]; rfl
  rw [e0]
  split
  · rename_i z; injection z with z; omega
  · rename_i z; injection z with z; omega
  · refine PySem.Str.ext' ?_
    show Array.replicate k 48 ++ (low j n).toArray ++ Array.replicate 0 48 = _
    simp
theorem zfill_low {n w j : Nat} (hw : 1 ≤ w) (h1 : n < 10 ^ j) (h2 : w ≤ j) (h3 : j = w ∨ 10 ^ (j - 1) ≤ n) : Txt.zfill (Str.ofString (toString ((n : Nat) : Int))) (w : Int) = txt j n := by
  have l1 : 1 ≤ (Nat.toDigits 10 n).length := Nat.length_toDigits_pos
  have l2 := lt_len n
  have hL : 10 ^ (j - 1) ≤ n → (Nat.toDigits 10 n).length = j := fun h => len_digits h1 (by omega) (.inr h)
  rw [str_low]
  unfold Txt.zfill
  rw [txt_len]
  by_cases c : (w : Int) ≤ ((Nat.toDigits 10 n).length : Int)
  · rw [if_pos c]
    rcases h3 with h3 | h3
    · have : (Nat.toDigits 10 n).length ≤ w := PyProof.Rows.digits10_le hw (by rw [← h3]; exact h1)
      rw [show (Nat.toDigits 10 n).length = j by omega]
    · rw [hL h3]
  · rw [if_neg c, zfilled_low l1]
    have hj : j = w := by
      rcases h3 with h3 | h3
      · exact h3
      · have := hL h3
        omega
    subst hj
    show _ = (⟨(low j n).toArray⟩ : Str)
    have e : j = (Nat.toDigits 10 n).length + (((j : Nat) : Int).toNat - (Nat.toDigits 10 n).length) := by omega
    conv => rhs; rw [e, low_zeros _ l2]
theorem slice_to {z : Str} {f : Int} (h0 : 0 < f) (h1 : f ≤ z.length) : Txt.slice z none (some (-f)) = Txt.slice z none (some ((z.length : Int) - f)) := by
  have e : strSliceIndices none (some (-f)) 1 z.length = strSliceIndices none (some ((z.length : Int) - f)) 1 z.length := by
    unfold strSliceIndices
    simp only [if_pos (show -f < 0 by omega), if_neg (show ¬ ((z.length : Int) - f < 0) by omega)]
    congr 3
    all_goals omega
  unfold Txt.slice
  rw [e]
theorem slice_from {z : Str} {f : Int} (h0 : 0 < f) (h1 : f ≤ z.length) : Txt.slice z (some (-f)) none = Txt.slice z (some ((z.length : Int) - f)) none := by
  have e : strSliceIndices (some (-f)) none 1 z.length = strSliceIndices (some ((z.length : Int) - f)) none 1 z.length := by
    unfold strSliceIndices
    simp only [if_pos (show -f < 0 by omega), if_neg (show ¬ ((z.length : Int) - f < 0) by omega)]
    congr 3
    all_goals omega
  unfold Txt.slice
  rw [e]
theorem str_assoc (a b c : Str) : a ++ b ++ c = a ++ (b ++ c) := by
  refine PySem.Str.ext' ?_
  show (a.cps ++ b.cps) ++ c.cps = a.cps ++ (b.cps ++ c.cps)
  rw [Array.append_assoc]
theorem str_len (a b : Str) : (a ++ b).length = a.length + b.length := by
  show (a.cps ++ b.cps).size = _
  rw [Array.size_append]
  rfl
end FrR

set_option Elab.async false
set_option linter.all false
set_option maxRecDepth 100000
set_option maxHeartbeats 4000000
namespace Fr
open PySem PySem.Spec PyProof.Rows L2 FrM
def top (i : Nat) : Stmt := PySem.Challenge.pw_measurewise_k25_rounding.main.body.getD i (.Pass ⟨0, 0, 0, 0⟩)
abbrev sWhole : Stmt := top 16
abbrev sNeed : Stmt := top 17
abbrev sDiv : Stmt := top 19
abbrev sIsF : Stmt := top 20
abbrev sWPow : Stmt := top 21
abbrev sWay : Stmt := top 29
abbrev lMix : Stmt := top 31
abbrev lNum : Stmt := top 32
abbrev lCom : Stmt := top 33
abbrev lCls : Stmt := top 34
abbrev lShw : Stmt := top 35
abbrev lWay : Stmt := top 36
abbrev lSet : Stmt := top 37
abbrev lDue : Stmt := top 38
abbrev lAmt : Stmt := top 39
abbrev lRight : Stmt := top 40
abbrev lMade : Stmt := top 41
abbrev lLaw : Stmt := top 42
abbrev mSet0 : Stmt := inClass (top 24) 0
abbrev mShown : Stmt := inClass (top 24) 1
abbrev mSet1 : Stmt := inClass (top 26) 0
abbrev mSet2 : Stmt := inClass (top 27) 0
abbrev mSet3 : Stmt := inClass (top 28) 0
theorem bt_range : bootBuiltins "range" = some (.type "range") := by decide +kernel
theorem bt_isinstance : bootBuiltins "isinstance" = some (.builtin "isinstance") := by decide +kernel
theorem bt_len : bootBuiltins "len" = some (.builtin "len") := by decide +kernel
theorem bt_abs : bootBuiltins "abs" = some (.builtin "abs") := by decide +kernel
theorem bt_int : bootBuiltins "int" = some (.type "int") := by decide +kernel
theorem bt_bool : bootBuiltins "bool" = some (.type "bool") := by decide +kernel
theorem bt_tuple : bootBuiltins "tuple" = some (.type "tuple") := by decide +kernel
theorem bt_str : bootBuiltins "str" = some (.type "str") := by decide +kernel
theorem bt_ValueError : bootBuiltins "ValueError" = some (.type "ValueError") := by decide +kernel
/-! kinds -/
inductive Kd (H : Hp) : V → Prop
  | non : Kd H .non
  | bl (b : Bool) : Kd H (.bl b)
  | int (i : Int) : Kd H (.int i)
  | str (x : Str) : Kd H (.str x)
  | lst {a : Addr} {xs : List V} (e : H a = some (.lst xs)) : Kd H (.ref a)
  | tup {a : Addr} {xs : List V} (e : H a = some (.tup xs)) : Kd H (.ref a)
def isW : V → Bool
  | .int _ => true
  | _ => false
def isIB : V → Bool
  | .int _ => true
  | .bl _ => true
  | _ => false
theorem k_none_int (K : PySem.W.Frag) : PySem.W.kitOne K (.type "NoneType") (.type "int") = some false := by kernel_rfl
theorem k_bool_int (K : PySem.W.Frag) : PySem.W.kitOne K (.type "bool") (.type "int") = some true := by kernel_rfl
theorem k_int_int (K : PySem.W.Frag) : PySem.W.kitOne K (.type "int") (.type "int") = some true := by kernel_rfl
theorem k_str_int (K : PySem.W.Frag) : PySem.W.kitOne K (.type "str") (.type "int") = some false := by kernel_rfl
theorem k_list_int (K : PySem.W.Frag) : PySem.W.kitOne K (.type "list") (.type "int") = some false := by kernel_rfl
theorem k_tuple_int (K : PySem.W.Frag) : PySem.W.kitOne K (.type "tuple") (.type "int") = some false := by kernel_rfl
theorem k_bool_bool (K : PySem.W.Frag) : PySem.W.kitOne K (.type "bool") (.type "bool") = some true := by kernel_rfl
theorem k_int_bool (K : PySem.W.Frag) : PySem.W.kitOne K (.type "int") (.type "bool") = some false := by kernel_rfl
theorem k_none_tuple (K : PySem.W.Frag) : PySem.W.kitOne K (.type "NoneType") (.type "tuple") = some false := by kernel_rfl
theorem k_str_tuple (K : PySem.W.Frag) : PySem.W.kitOne K (.type "str") (.type "tuple") = some false := by kernel_rfl
theorem k_list_tuple (K : PySem.W.Frag) : PySem.W.kitOne K (.type "list") (.type "tuple") = some false := by kernel_rfl
theorem k_tuple_tuple (K : PySem.W.Frag) : PySem.W.kitOne K (.type "tuple") (.type "tuple") = some true := by kernel_rfl
theorem k_int_tuple (K : PySem.W.Frag) : PySem.W.kitOne K (.type "int") (.type "tuple") = some false := by kernel_rfl
theorem k_bool_tuple (K : PySem.W.Frag) : PySem.W.kitOne K (.type "bool") (.type "tuple") = some false := by kernel_rfl
theorem kd_int (K : PySem.W.Frag) {H : Hp} {x : V} (k : Kd H x) : ∃ t, TyOf K H x t ∧ PySem.W.kitOne K t (.type "int") = some (isIB x) := by
  cases k with
  | non => exact ⟨_, .non, k_none_int K⟩
  | bl b => exact ⟨_, .bl b, k_bool_int K⟩
  | int i => exact ⟨_, .int i, k_int_int K⟩
  | str x => exact ⟨_, .str x, k_str_int K⟩
  | lst e => exact ⟨_, .lst e, k_list_int K⟩
  | tup e => exact ⟨_, .tup e, k_tuple_int K⟩
theorem kd_bool (K : PySem.W.Frag) {H : Hp} {x : V} (k : Kd H x) (h : isIB x = true) : ∃ t, TyOf K H x t ∧ PySem.W.kitOne K t (.type "bool") = some (!isW x) := by
  cases k with
  | bl b => exact ⟨_, .bl b, k_bool_bool K⟩
  | int i => exact ⟨_, .int i, k_int_bool K⟩
  | non => cases h
  | str x => cases h
  | lst e => cases h
  | tup e => cases h
/-- the names of Python's own that the text uses -/
structure Bn (mg : Str → Option Value) : Prop where
  isi : mg "isinstance" = none
  int : mg "int" = none
  bool : mg "bool" = none
  tuple : mg "tuple" = none
  len : mg "len" = none
  range : mg "range" = none
  str : mg "str" = none
  abs : mg "abs" = none
  verr : mg "ValueError" = none
section
variable {P : Program} {w : World} {K : PySem.W.Frag} {mg : Str → Option Value} {base : Heap}
def spWhole : Sp := fun vs H Q _ => ∃ x, vs = [x] ∧ Kd H x ∧ Q (.bl (isW x)) H
theorem scWhole : FnScope ["thing"] ["thing"] (defScope sWhole) := ⟨rfl, rfl, rfl, by decide +kernel, rfl, by decide +kernel, by decide +kernel⟩
theorem ok_whole {f : Addr} {fd : FuncData} (F : Fun K "is_whole" "is_whole" sWhole f fd) (B : Bn mg) : FnOk P w K mg base CX0 1 f fd ["thing"] spWhole := by
  refine F.ok scWhole (fun vs H Q E h => ?_) (fun cdv A outer s H vs Q E hr h => ?_)
  · obtain ⟨x, rfl, _⟩ := h
    rfl
  · obtain ⟨x, rfl, kd, q⟩ := h
    refine ⟨_, pss_one (ps_ret (pe_and (pe_callB call_isi (by rfl) B.isi bt_isinstance (pa_cons (pv 0) (pa_cons (pe_bltn (v := .ty "int") (by rfl) B.int bt_int rfl) pa_nil)))
      (pe_one (pe_not (pe_callB call_isi (by rfl) B.isi bt_isinstance (pa_cons (pv 0) (pa_cons (pe_bltn (v := .ty "bool") (by rfl) B.bool bt_bool rfl) pa_nil))))))), ?_⟩
    obtain ⟨t, ty, e⟩ := kd_int K kd
    refine ⟨x, rfl, x, .ty "int", t, .type "int", _, rfl, rfl, ty, e, _, rfl, ?_⟩
    cases hx : isIB x with
    | false =>
      refine iteF ?_
      have : isW x = false := by cases x <;> first | rfl | cases hx
      rw [this] at q
      exact q
    | true =>
      refine iteT ?_
      obtain ⟨t', ty', e'⟩ := kd_bool K kd hx
      refine ⟨x, rfl, x, .ty "bool", t', .type "bool", _, rfl, rfl, ty', e', _, rfl, ?_⟩
      rw [Bool.not_not]
      exact q
/-! common_divisor -/
def spDiv : Sp := fun vs H Q _ => ∃ a b : Int, vs = [.int a, .int b] ∧ 0 < b ∧ Q (.int ((Int.gcd a b : Nat) : Int)) H
theorem scDiv : FnScope ["above", "below", "greater", "lesser", "rest"] ["above", "below"] (defScope sDiv) := ⟨rfl, rfl, rfl, by decide +kernel, rfl, by decide +kernel, by decide +kernel⟩
theorem ok_div {f : Addr} {fd : FuncData} (F : Fun K "common_divisor" "common_divisor" sDiv f fd) : FnOk P w K mg base CX0 1 f fd ["above", "below"] spDiv := by
  refine F.ok scDiv (fun vs H Q E h => ?_) (fun cdv A outer s H vs Q E hr h => ?_)
  · obtain ⟨a, b, rfl, _⟩ := h
    rfl
  · obtain ⟨a, b, rfl, hb, q⟩ := h
    refine ⟨_, pss_cons (ps_set (i := 2) scDiv.nd rfl (Or.inl rfl) (pv 1)) (pss_cons (ps_set (i := 3) scDiv.nd rfl (Or.inl rfl) (pe_op op_mod (pv 0) (pv 1)))
      (pss_cons (ps_while PassesOwn.never (pt_cmpR op_gt (pv 3) pe_int (nomark _))
        (pss_cons (ps_set (i := 4) scDiv.nd rfl (Or.inl rfl) (pe_op op_mod (pv 2) (pv 3))) (pss_cons (ps_set (i := 2) scDiv.nd rfl (Or.inl rfl) (pv 3)) (pss_one (ps_set (i := 3) scDiv.nd rfl (Or.inl rfl) (pv 4))))))
      (pss_one (ps_ret (pv 2))))), ?_⟩
    refine ⟨_, rfl, _, rfl, _, rfl, _, _, rfl, rfl, hb, ?_⟩
    refine while_by (fun σ H' => H' = H ∧ ∃ (g l : Int) (r : Option V), σ = [some (.int a), some (.int b), some (.int g), some (.int l), r] ∧ 0 < g ∧ 0 ≤ l ∧ Int.gcd g l = Int.gcd a b)
      (fun (σ : L2.St) _ => match σ[3]? with | some (some (V.int l)) => l.toNat | _ => 0) ⟨rfl, b, a % b, none, rfl, hb, Int.emod_nonneg _ (by omega), gcd_step a b hb⟩ ?_ ?_
    · rintro σ H' ⟨rfl, g, l, r, rfl, hg, hl, e⟩
      refine ⟨_, rfl, _, _, rfl, rfl, _, rfl, ?_⟩
      refine ite2 (fun z => ?_) (fun z => ?_)
      · have hp : 0 < l := by simpa using z
        refine ⟨_, rfl, _, rfl, _, _, rfl, rfl, hp, _, rfl, _, rfl, ⟨rfl, l, g % l, _, rfl, hp, Int.emod_nonneg _ (by omega), ?_⟩, ?_⟩
        · rw [gcd_step g l hp, e]
        · show (g % l).toNat < l.toNat
          have := Int.emod_lt_of_pos g hp
          have := Int.emod_nonneg g (by omega : l ≠ 0)
          omega
      · have hz : l = 0 := by
          have : ¬ 0 < l := by simpa using z
          omega
        subst hz
        refine ⟨_, rfl, ?_⟩
        rw [← e, gcd_zero g (by omega)] at q
        exact q
    · rintro σ H' R R' hR ⟨v, e1, i, j, e2, e3, k, e4, q'⟩
      exact ⟨v, e1, i, j, e2, e3, k, e4, hR _ _ q'⟩
end
end Fr

set_option Elab.async false
set_option linter.all false
set_option maxRecDepth 100000
set_option maxHeartbeats 4000000
namespace Fr
open PySem PySem.Spec PyProof.Rows L2 FrM
/-- the classes of refusals that the walk meets -/
structure Ex (K : PySem.W.Frag) (mg : Str → Option Value) (BN : Addr) : Prop where
  mgB : mg "BadNumber" = some (.ref BN)
  inB : PySem.W.excIn K BN [.type "ValueError", .type "Exception", .type "BaseException", .type "object"] "ValueError.__new__" = true
section
variable {P : Program} {w : World} {K : PySem.W.Frag} {mg : Str → Option Value} {base : Heap}
/-- a def with defaults, or without (dV none) -/
structure FunD (K : PySem.W.Frag) (x qual : Str) (st : Stmt) (dV : Value) (f : Addr) (fd : FuncData) : Prop where
  ex : ∃ (oc : Value) (od : Option Addr) (kV doc pm : Value) (an : Option Addr) (cdv ct : Value) (osl : Array (Option Value)),
    fd = PySem.W.fnOf x qual (defArgs st) (defBody st) (defScope st) dV kV doc pm an cdv ct ∧ K.lookup f = some ⟨oc, od, .func fd, osl⟩ ∧ PySem.W.codeIn K cdv qual = true
  kp : PySem.W.keepIn K (.ref f) = true
theorem funD_mk {x qual : Str} {st : Stmt} {f : Addr} {oc : Value} {od an : Option Addr} {osl : Array (Option Value)} {dV kV doc pm cdv ct : Value} (l : K.lookup f = some ⟨oc, od, .func (PySem.W.fnOf x qual (defArgs st) (defBody st) (defScope st) dV kV doc pm an cdv ct), osl⟩)
    (c : PySem.W.codeIn K cdv qual = true) (k : PySem.W.keepIn K (.ref f) = true) : FunD K x qual st dV f (PySem.W.fnOf x qual (defArgs st) (defBody st) (defScope st) dV kV doc pm an cdv ct) := ⟨⟨oc, od, kV, doc, pm, an, cdv, ct, osl, rfl, l, c⟩, k⟩
theorem FunD.okX {x qual : Str} {st : Stmt} {dV : Value} {f : Addr} {fd : FuncData} {N ps : List Str} {k : Nat} {sp : Sp} (F : FunD K x qual st dV f fd) (S : FnScope N ps (defScope st)) (len : ∀ vs H Q E, sp vs H Q E → vs.length = ps.length)
    (hbody : ∀ (cdv : Value) (A : Around) (outer : List Env) (s : Shared) (H : Hp) (vs : List V) (Q : VK) (E : XK), Room k (A.deeper (envOfC qual (defScope st) s.heap.objs.size f cdv)) → sp vs H Q E →
      ∃ t, PSs (cxOf (Fly P w) P w K mg base N qual (defScope st) f cdv A outer s H E) (defBody st) t ∧ t { nx := fun _ H' => Q .non H', rt := Q } (start N vs) H) : FnOk P w K mg base (Fly P w) (k + 1) f fd ps sp := by
  obtain ⟨oc, od, kV, doc, pm, an, cdv, ct, osl, rfl, lk, hcd⟩ := F.ex
  refine fn_of lk hcd S len fun A outer s H vs Q E hr hsp => ?_
  exact hbody cdv A outer s H vs Q E hr hsp
theorem Fun.toD {x qual : Str} {st : Stmt} {f : Addr} {fd : FuncData} (F : Fun K x qual st f fd) : FunD K x qual st .none f fd := ⟨F.ex, F.kp⟩
/-- thing is a whole number from l on, and no more than m -/
def okN (x : V) (l : Int) (m : V) : Bool := match x, m with
  | .int i, .non => decide (l ≤ i)
  | .int i, .int k => decide (l ≤ i) && decide (i ≤ k)
  | _, _ => false
def spNeed (BN : Addr) : Sp := fun vs H Q E => ∃ (x : V) (l : Int) (m : V), vs = [x, .int l, m] ∧ Kd H x ∧ (m = .non ∨ ∃ k, m = .int k) ∧ (okN x l m = true → Q x H) ∧ (okN x l m = false → E (.ref BN) none H)
theorem scNeed : FnScope ["thing", "least", "most"] ["thing", "least", "most"] (defScope sNeed) := ⟨rfl, rfl, rfl, by decide +kernel, rfl, by decide +kernel, by decide +kernel⟩
theorem ok_need {f fW BN : Addr} {fd fdW : FuncData} {dN : Value} (F : FunD K "need_whole" "need_whole" sNeed dN f fd) (B : Bn mg) (X : Ex K mg BN) (FW : Fun K "is_whole" "is_whole" sWhole fW fdW) (bW : Binds K fdW ["thing"] []) (mW : mg "is_whole" = some (.ref fW)) :
    FnOk P w K mg base (Fly P w) 2 f fd ["thing", "least", "most"] (spNeed BN) := by
  have GW : FnOk P w K mg base CX0 1 fW fdW ["thing"] spWhole := ok_whole FW B
  refine F.okX scNeed (fun vs H Q E h => ?_) (fun cdv A outer s H vs Q E hr h => ?_)
  · obtain ⟨x, l, m, rfl, _⟩ := h
    rfl
  · obtain ⟨x, l, m, rfl, kd, hm, q, qe⟩ := h
    refine ⟨_, pss_cons (ps_if (pt_not (pt_val (pe_call GW hr (by rfl) mW FW.kp bW .nil pass0 (pa_cons (pv 0) pa_nil))))
        (pss_one (ps_raise PySem.F.excBase_ValueError X.inB raises_fly rfl (by rfl) X.mgB (pa_cons pe_str pa_nil))) pss_nil)
      (pss_cons (ps_if (pt_cmpR op_lt (pv 0) (pv 1) (nomark _)) (pss_one (ps_raise PySem.F.excBase_ValueError X.inB raises_fly rfl (by rfl) X.mgB (pa_cons pe_str pa_nil))) pss_nil)
      (pss_cons (ps_if (pw_and (pt_cmp (pc_notN (pv 2))) (pw_and1 (pt_cmpR op_gt (pv 0) (pv 2) (nomark _)))).pt (pss_one (ps_raise PySem.F.excBase_ValueError X.inB raises_fly rfl (by rfl) X.mgB (pa_cons pe_str pa_nil))) pss_nil)
      (pss_one (ps_ret (pv 0))))), ?_⟩
    have hz : ([V.str "a"] : List V).length ≤ sizeLine := by show 1 ≤ sizeLine; decide
    refine ⟨x, rfl, x, rfl, kd, _, rfl, ?_⟩
    cases hx : isW x with
    | false =>
      refine iteT ?_
      refine ⟨hz, qe ?_⟩
      cases x <;> first | rfl | cases hx
    | true =>
      refine iteF ?_
      obtain ⟨i, rfl⟩ : ∃ i, x = .int i := by cases x <;> first | exact ⟨_, rfl⟩ | cases hx
      refine ⟨_, rfl, _, rfl, i, l, rfl, rfl, _, rfl, ?_⟩
      refine ite2 (fun z => ?_) (fun z => ?_)
      · have hi : i < l := by simpa using z
        refine ⟨hz, qe ?_⟩
        rcases hm with rfl | ⟨k, rfl⟩
        · show decide (l ≤ i) = false
          rw [decide_eq_false (by omega)]
        · show (decide (l ≤ i) && decide (i ≤ k)) = false
          rw [decide_eq_false (by omega)]
          rfl
      · have hi : l ≤ i := by
          have : ¬ i < l := by simpa using z
          omega
        rcases hm with rfl | ⟨k, rfl⟩
        · refine ⟨_, rfl, _, rfl, ?_⟩
          refine iteF ?_
          refine iteF ?_
          exact ⟨_, rfl, q (decide_eq_true hi)⟩
        · refine ⟨_, rfl, _, rfl, ?_⟩
          refine iteT ?_
          refine ⟨_, rfl, _, rfl, i, k, rfl, rfl, _, rfl, ?_⟩
          refine ite2 (fun z2 => ?_) (fun z2 => ?_)
          · have hk : k < i := by simpa using z2
            refine ⟨hz, qe ?_⟩
            show (decide (l ≤ i) && decide (i ≤ k)) = false
            rw [decide_eq_false (show ¬ i ≤ k by omega), Bool.and_false]
          · have hk : i ≤ k := by
              have : ¬ k < i := by simpa using z2
              omega
            refine ⟨_, rfl, q ?_⟩
            show (decide (l ≤ i) && decide (i ≤ k)) = true
            rw [decide_eq_true hi, decide_eq_true hk]
            rfl
/-! fraction -/
/-- a new tuple comes back, all else is as it was -/
def RetT (H : Hp) (Q : VK) (xs : List V) : Prop := ∀ r H', Same H H' → H r = none → H' r = some (.tup xs) → Q (.ref r) H'
theorem RetT.new {H : Hp} {Q : VK} {xs : List V} (h : RetT H Q xs) {p : Addr} (hp : H p = none) : Q (.ref p) (upd H p (.tup xs)) :=
  h p _ (fun b o e => by rw [upd_ne (ne_of_none e hp)]; exact e) hp upd_same
end
end Fr

set_option Elab.async false
set_option linter.all false
set_option maxRecDepth 100000
set_option maxHeartbeats 4000000
namespace Fr
open PySem PySem.Spec PyProof.Rows L2 FrM
section
variable {P : Program} {w : World} {K : PySem.W.Frag} {mg : Str → Option Value} {base : Heap}
theorem sz_gcd {n : Nat} (a : Int) {b : Int} (hb : 0 < b) (zb : Sz n b) : Sz n ((Int.gcd a b : Nat) : Int) := by
  have h1 := Int.gcd_le_right a hb
  unfold Sz at *
  omega
/-- is_fraction of a tuple -/
def isFr : List V → Bool
  | [.int a, .int b] => decide (0 < b) && decide (Int.gcd a b = 1)
  | _ => false
/-- what is no tuple -/
inductive NoT (H : Hp) : V → Prop
  | non : NoT H .non
  | str (x : Str) : NoT H (.str x)
  | int (i : Int) : NoT H (.int i)
  | lst {a : Addr} {xs : List V} (e : H a = some (.lst xs)) : NoT H (.ref a)
theorem not_tuple (K : PySem.W.Frag) {H : Hp} {x : V} (k : NoT H x) : ∃ t, TyOf K H x t ∧ PySem.W.kitOne K t (.type "tuple") = some false := by
  cases k with
  | non => exact ⟨_, .non, k_none_tuple K⟩
  | str x => exact ⟨_, .str x, k_str_tuple K⟩
  | int i => exact ⟨_, .int i, k_int_tuple K⟩
  | lst e => exact ⟨_, .lst e, k_list_tuple K⟩
def spIsF : Sp := fun vs H Q _ => ∃ x : V, vs = [x] ∧ ((NoT H x ∧ Q (.bl false) H) ∨ ∃ p xs, x = .ref p ∧ H p = some (.tup xs) ∧ (∀ y ∈ xs, Kd H y) ∧ Q (.bl (isFr xs)) H)
theorem scIsF : FnScope ["thing"] ["thing"] (defScope sIsF) := ⟨rfl, rfl, rfl, by decide +kernel, rfl, by decide +kernel, by decide +kernel⟩
theorem ok_isf {f fW fD : Addr} {fd fdW fdD : FuncData} (F : Fun K "is_fraction" "is_fraction" sIsF f fd) (B : Bn mg)
    (FW : Fun K "is_whole" "is_whole" sWhole fW fdW) (bW : Binds K fdW ["thing"] []) (mW : mg "is_whole" = some (.ref fW))
    (FD : Fun K "common_divisor" "common_divisor" sDiv fD fdD) (bD : Binds K fdD ["above", "below"] []) (mD : mg "common_divisor" = some (.ref fD)) :
    FnOk P w K mg base CX0 2 f fd ["thing"] spIsF := by
  have GW : FnOk P w K mg base CX0 1 fW fdW ["thing"] spWhole := ok_whole FW B
  have GD : FnOk P w K mg base CX0 1 fD fdD ["above", "below"] spDiv := ok_div FD
  refine F.ok scIsF (fun vs H Q E h => ?_) (fun cdv A outer s H vs Q E hr h => ?_)
  · obtain ⟨x, rfl, _⟩ := h
    rfl
  · obtain ⟨x, rfl, h⟩ := h
    refine ⟨_, pss_cons (ps_if (pw_or (pt_not (pt_val (pe_callB call_isi (by rfl) B.isi bt_isinstance (pa_cons (pv 0) (pa_cons (pe_bltn (v := .ty "tuple") (by rfl) B.tuple bt_tuple rfl) pa_nil)))))
        (pw_or1 (pt_cmpR op_ne (pe_callB call_len_seq (by rfl) B.len bt_len (pa_cons (pv 0) pa_nil)) pe_int (nomark _)))).pt (pss_one (ps_ret pe_bl)) pss_nil)
      (pss_cons (ps_if (pw_or (pt_not (pt_val (pe_call GW hr (by rfl) mW FW.kp bW .nil pass0 (pa_cons (pe_ix ix_tup (pv 0) pe_int (fun _ _ => rfl)) pa_nil))))
          (pw_or (pt_not (pt_val (pe_call GW hr (by rfl) mW FW.kp bW .nil pass0 (pa_cons (pe_ix ix_tup (pv 0) pe_int (fun _ _ => rfl)) pa_nil))))
            (pw_or1 (pt_cmpR op_lt (pe_ix ix_tup (pv 0) pe_int (fun _ _ => rfl)) pe_int (nomark _))))).pt (pss_one (ps_ret pe_bl)) pss_nil)
      (pss_one (ps_ret (pe_cmpR op_eq (pe_call GD hr (by rfl) mD FD.kp bD .nil pass0 (pa_cons (pe_ix ix_tup (pv 0) pe_int (fun _ _ => rfl)) (pa_cons (pe_ix ix_tup (pv 0) pe_int (fun _ _ => rfl)) pa_nil))) pe_int (nomark _))))), ?_⟩
    rcases h with ⟨nt, q⟩ | ⟨p, xs, rfl, hp, hk, q⟩
    · obtain ⟨t, ty, e⟩ := not_tuple K nt
      refine ⟨_, rfl, _, .ty "tuple", t, .type "tuple", _, rfl, rfl, ty, e, _, rfl, ?_⟩
      refine iteT ?_
      refine iteT ?_
      exact q
    · refine ⟨_, rfl, _, .ty "tuple", _, .type "tuple", _, rfl, rfl, .tup hp, k_tuple_tuple K, _, rfl, ?_⟩
      refine iteF ?_
      refine ⟨_, rfl, p, xs, rfl, .inr (SqT.of hp), rfl, _, rfl, ?_⟩
      by_cases hl : xs.length = 2
      · obtain ⟨y, z, rfl⟩ : ∃ y z, xs = [y, z] := by
          match xs, hl with
          | [y, z], _ => exact ⟨y, z, rfl⟩
        have ky : Kd H y := hk y (by simp)
        have kz : Kd H z := hk z (by simp)
        refine iteNS rfl ?_
        refine ⟨_, rfl, p, _, _, y, rfl, rfl, SqT.of hp, rfl, y, rfl, ky, _, rfl, ?_⟩
        cases hy : isW y with
        | false =>
          refine iteT ?_
          refine iteT ?_
          have : isFr [y, z] = false := by cases y <;> first | rfl | cases hy
          rw [this] at q
          exact q
        | true =>
          obtain ⟨a, rfl⟩ : ∃ i, y = .int i := by cases y <;> first | exact ⟨_, rfl⟩ | cases hy
          refine iteF ?_
          refine ⟨_, rfl, p, _, _, z, rfl, rfl, SqT.of hp, rfl, z, rfl, kz, _, rfl, ?_⟩
          cases hz : isW z with
          | false =>
            refine iteT ?_
            refine iteT ?_
            have : isFr [.int a, z] = false := by cases z <;> first | rfl | cases hz
            rw [this] at q
            exact q
          | true =>
            obtain ⟨b, rfl⟩ : ∃ i, z = .int i := by cases z <;> first | exact ⟨_, rfl⟩ | cases hz
            refine iteF ?_
            refine ⟨_, rfl, p, _, _, _, rfl, rfl, SqT.of hp, rfl, b, 1, rfl, rfl, _, rfl, ?_⟩
            refine ite2 (fun c => ?_) (fun c => ?_)
            · have hb : ¬ 0 < b := by
                have : b < 1 := by simpa using c
                omega
              have : isFr [.int a, .int b] = false := by
                show (decide (0 < b) && _) = false
                rw [decide_eq_false hb]
                rfl
              rw [this] at q
              exact q
            · have hb : 0 < b := by
                have : ¬ b < 1 := by simpa using c
                omega
              refine ⟨_, rfl, p, _, _, _, rfl, rfl, SqT.of hp, rfl, _, rfl, p, _, _, _, rfl, rfl, SqT.of hp, rfl, a, b, rfl, hb, rfl, ?_⟩
              have : isFr [.int a, .int b] = decide (V.int ((Int.gcd a b : Nat) : Int) = V.int 1) := by
                show (decide (0 < b) && decide (Int.gcd a b = 1)) = _
                rw [decide_eq_true hb, Bool.true_and]
                rw [Bool.eq_iff_iff]
                simp
                omega
              rw [this] at q
              exact q
      · have e1 : isFr xs = false := by
          match xs, hl with
          | [], _ => rfl
          | [x], _ => cases x <;> rfl
          | [x, y], h => exact absurd rfl h
          | x :: y :: z :: r, _ => cases x <;> cases y <;> rfl
        rw [e1] at q
        have e2 : decide (V.int (xs.length : Int) = V.int 2) = false := by
          rw [decide_eq_false]
          intro z
          injection z with z
          omega
        rw [e2]
        refine iteT ?_
        exact q
/-! powers -/
def spWPow : Sp := fun vs H Q _ => ∃ b e : Int, vs = [.int b, .int e] ∧ 0 ≤ e ∧ e ≤ 60 ∧ Sz 20 b ∧ Q (.int (b ^ e.toNat)) H
theorem scWPow : FnScope ["base", "exponent", "product", "square", "left"] ["base", "exponent"] (defScope sWPow) := ⟨rfl, rfl, rfl, by decide +kernel, rfl, by decide +kernel, by decide +kernel⟩
theorem ok_wpow {f : Addr} {fd : FuncData} (F : Fun K "whole_power" "whole_power" sWPow f fd) : FnOk P w K mg base CX0 1 f fd ["base", "exponent"] spWPow := by
  refine F.ok scWPow (fun vs H Q E h => ?_) (fun cdv A outer s H vs Q E hr h => ?_)
  · obtain ⟨a, b, rfl, _⟩ := h
    rfl
  · obtain ⟨b, e, rfl, h0, h5, zb, q⟩ := h
    refine ⟨_, pss_cons (ps_set (i := 2) scWPow.nd rfl (Or.inl rfl) pe_int) (pss_cons (ps_set (i := 3) scWPow.nd rfl (Or.inl rfl) (pv 0)) (pss_cons (ps_set (i := 4) scWPow.nd rfl (Or.inl rfl) (pv 1))
      (pss_cons (ps_while PassesOwn.never (pt_cmpR op_gt (pv 4) pe_int (nomark _))
        (pss_cons (ps_if (pt_cmpR op_eq (pe_op op_mod (pv 4) pe_int) pe_int (nomark _)) (pss_one (ps_set (i := 2) scWPow.nd rfl (Or.inl rfl) (pe_op op_mulS (pv 2) (pv 3)))) pss_nil)
        (pss_cons (ps_set (i := 4) scWPow.nd rfl (Or.inl rfl) (pe_op op_fdiv (pv 4) pe_int))
        (pss_one (ps_if (pt_cmpR op_gt (pv 4) pe_int (nomark _)) (pss_one (ps_set (i := 3) scWPow.nd rfl (Or.inl rfl) (pe_op op_mulS (pv 3) (pv 3)))) pss_nil)))))
      (pss_one (ps_ret (pv 2)))))), ?_⟩
    refine ⟨_, rfl, _, rfl, ?_⟩
    refine while_by (fun σ H' => H' = H ∧ ∃ (pr sq l : Int), σ = [some (.int b), some (.int e), some (.int pr), some (.int sq), some (.int l)] ∧ PowI b e.toNat pr sq l)
      (fun (σ : L2.St) _ => match σ[4]? with | some (some (V.int l)) => l.toNat | _ => 0) ⟨rfl, 1, b, e, rfl, PowI.start b h0⟩ ?_ ?_
    · rintro σ H' ⟨rfl, pr, sq, l, rfl, J⟩
      refine ⟨_, rfl, _, _, rfl, rfl, _, rfl, ?_⟩
      refine ite2 (fun z => ?_) (fun z => ?_)
      · have hp : 0 < l := by simpa using z
        obtain ⟨z1, z2⟩ := J.sz hp zb
        have hE : 20 * e.toNat + 1 ≤ 1501 := by omega
        have y1 : Sz 1501 pr := z1.mono hE
        have y2 : Sz 1501 sq := z2.mono hE
        refine ⟨_, rfl, _, _, rfl, rfl, (by show (0 : Int) < 2; decide), rfl, _, rfl, ?_⟩
        have c2 : CDiv l 2 := ⟨by decide, by decide⟩
        refine ite2 (fun o => ?_) (fun o => ?_)
        · have ho : l % 2 = 1 := by
            have o' := of_decide_eq_true o
            injection o'
          refine ⟨_, rfl, _, rfl, _, _, rfl, rfl, ⟨y1.mono (by decide), y2.mono (by decide)⟩, _, rfl, _, _, rfl, rfl, c2, _, rfl, _, _, rfl, rfl, _, rfl, ?_⟩
          refine ite2 (fun g => ?_) (fun g => ?_)
          · refine ⟨_, rfl, _, rfl, _, _, rfl, rfl, ⟨y2.mono (by decide), y2.mono (by decide)⟩, ⟨rfl, _, _, _, rfl, J.odd ho⟩, ?_⟩
            show (l / 2).toNat < l.toNat
            omega
          · have hg : ¬ 0 < l / 2 := by simpa using g
            refine ⟨⟨rfl, _, _, _, rfl, J.odd_last ho hg⟩, ?_⟩
            show (l / 2).toNat < l.toNat
            omega
        · have ho : ¬ l % 2 = 1 := fun y => o (decide_eq_true (congrArg V.int y))
          have hg := J.even_last hp ho
          refine ⟨_, rfl, _, _, rfl, rfl, c2, _, rfl, _, _, rfl, rfl, _, rfl, ?_⟩
          refine ite2 (fun g => ?_) (fun g => ?_)
          · refine ⟨_, rfl, _, rfl, _, _, rfl, rfl, ⟨y2.mono (by decide), y2.mono (by decide)⟩, ⟨rfl, _, _, _, rfl, J.even ho⟩, ?_⟩
            show (l / 2).toNat < l.toNat
            omega
          · exact absurd hg (by simpa using g)
      · have hz : l = 0 := by
          have : ¬ 0 < l := by simpa using z
          have := J.nn
          omega
        subst hz
        refine ⟨_, rfl, ?_⟩
        rw [← J.done] at q
        exact q
    · rintro σ H' R R' hR ⟨v, e1, i, j, e2, e3, k, e4, q'⟩
      exact ⟨v, e1, i, j, e2, e3, k, e4, hR _ _ q'⟩
end
end Fr

set_option Elab.async false
set_option linter.all false
set_option maxRecDepth 100000
set_option maxHeartbeats 4000000
namespace Fr
open PySem PySem.Spec PyProof.Rows L2 FrM
section
variable {P : Program} {w : World} {K : PySem.W.Frag} {mg : Str → Option Value} {base : Heap}
/-! the law's draws -/
def spMix : Sp := fun vs H Q _ => ∃ n k : Int, vs = [.int n, .int k] ∧ 0 ≤ k ∧ k ≤ 100 ∧ ∀ r : Int, 0 ≤ r → r < 2147483629 → Q (.int r) H
theorem scMix : FnScope ["_law_number_here", "_law_k"] ["_law_number_here", "_law_k"] (defScope lMix) := ⟨rfl, rfl, rfl, by decide +kernel, rfl, by decide +kernel, by decide +kernel⟩
theorem ok_mix {f : Addr} {fd : FuncData} (F : Fun K "_law_mixed" "_law_mixed" lMix f fd) : FnOk P w K mg base CX0 1 f fd ["_law_number_here", "_law_k"] spMix := by
  refine F.ok scMix (fun vs H Q E h => ?_) (fun cdv A outer s H vs Q E hr h => ?_)
  · obtain ⟨n, k, rfl, _⟩ := h
    rfl
  · obtain ⟨n, k, rfl, h0, h1, q⟩ := h
    refine ⟨_, pss_cons (ps_set (i := 0) scMix.nd rfl (Or.inl rfl) (pe_op op_mod (pe_op op_mul (pe_op op_add (pe_op op_add (pe_op op_mod (pv 0) pe_int) (pe_op op_mul (pe_op op_mul pe_int (pv 1)) (pv 1))) (pe_op op_mul pe_int (pv 1))) pe_int) pe_int))
      (pss_one (ps_ret (pe_op op_mod (pe_op op_mul (pv 0) (pe_op op_add pe_int (pe_op op_mul pe_int (pv 1)))) pe_int))), ?_⟩
    refine ⟨_, rfl, _, _, rfl, rfl, (by show (0 : Int) < 2147483647; decide), _, rfl, _, _, rfl, rfl, .inl ⟨by decide, by decide⟩, _, rfl, _, _, rfl, rfl, .inr ⟨by omega, by omega⟩, _, _, rfl, rfl, _, rfl, _, _, rfl, rfl, .inl ⟨by decide, by decide⟩, _, _, rfl, rfl,
      _, _, rfl, rfl, .inr ⟨by decide, by decide⟩, _, _, rfl, rfl, (by show (0 : Int) < 2147483647; decide), ?_⟩
    refine ⟨_, rfl, _, rfl, _, _, rfl, rfl, .inl ⟨by decide, by decide⟩, _, _, rfl, rfl, _, _, rfl, rfl, .inr ⟨by omega, by omega⟩, _, _, rfl, rfl, (by show (0 : Int) < 2147483629; decide), ?_⟩
    exact q _ (Int.emod_nonneg _ (by decide)) (Int.emod_lt_of_pos _ (by decide))
def spNum (K : PySem.W.Frag) : Sp := fun vs H Q _ => ∃ (a : Addr) (ns : List Int) (k : Int), vs = [.ref a, .int k] ∧ SqL K H a (ns.map V.int) ∧ ns.length ≤ 63 ∧ 0 ≤ k ∧ k ≤ 100 ∧ ∀ (r : Int) H', Same H H' → 0 ≤ r → r < 2147483629 → Q (.int r) H'
theorem scNum : FnScope ["_law_script", "_law_k"] ["_law_script", "_law_k"] (defScope lNum) := ⟨rfl, rfl, rfl, by decide +kernel, rfl, by decide +kernel, by decide +kernel⟩
theorem Same.upd {H : Hp} {p : Addr} {o : HO} (hp : H p = none) : Same H (L2.upd H p o) := fun b u e => by rw [upd_ne (ne_of_none e hp)]; exact e
theorem ok_num {f fM : Addr} {fd fdM : FuncData} (F : Fun K "_law_number" "_law_number" lNum f fd) (B : Bn mg) (FM : Fun K "_law_mixed" "_law_mixed" lMix fM fdM) (bM : Binds K fdM ["_law_number_here", "_law_k"] []) (mM : mg "_law_mixed" = some (.ref fM)) :
    FnOk P w K mg base CX0 2 f fd ["_law_script", "_law_k"] (spNum K) := by
  have GM : FnOk P w K mg base CX0 1 fM fdM ["_law_number_here", "_law_k"] spMix := ok_mix FM
  refine F.ok scNum (fun vs H Q E h => ?_) (fun cdv A outer s H vs Q E hr h => ?_)
  · obtain ⟨a, ns, k, rfl, _⟩ := h
    rfl
  · obtain ⟨a, ns, k, rfl, hs, hl, h0, h1, q⟩ := h
    have hu := hu_of hr
    refine ⟨_, pss_cons (ps_if (pt_cmpR (op_eqNil (Nat.lt_of_succ_lt hu)) (pv 0) (pe_lst pa_nil) (nomark _)) (pss_one (ps_ret (pe_call GM hr (by rfl) mM FM.kp bM .nil pass0 (pa_cons pe_int (pa_cons (pv 1) pa_nil))))) pss_nil)
      (pss_one (ps_ret (pe_call GM hr (by rfl) mM FM.kp bM .nil pass0 (pa_cons (pe_ix ix_list (pv 0) (pe_op op_mod (pv 1) (pe_callB call_len_seq (by rfl) B.len bt_len (pa_cons (pv 0) pa_nil))) (fun _ _ => rfl)) (pa_cons (pv 1) pa_nil))))), ?_⟩
    refine ⟨_, rfl, Nat.zero_le _, fun p hp => ?_⟩
    have s1 : Same H (L2.upd H p (.lst [])) := Same.upd hp
    refine ⟨a, p, _, rfl, rfl, s1.seq hs, SqL.of upd_same, _, rfl, ?_⟩
    cases ns with
    | nil =>
      refine iteT ?_
      exact ⟨_, rfl, 17, k, rfl, h0, h1, fun r r0 r1 => q r _ s1 r0 r1⟩
    | cons n ns =>
      refine iteF ?_
      have hlen : (0 : Int) < (((n :: ns).map V.int).length : Int) := by simp
      have m0 := Int.emod_nonneg k (by omega : (((n :: ns).map V.int).length : Int) ≠ 0)
      have m1 := Int.emod_lt_of_pos k hlen
      obtain ⟨j, hj⟩ : ∃ j : Nat, k % (((n :: ns).map V.int).length : Int) = j := ⟨(k % (((n :: ns).map V.int).length : Int)).toNat, by omega⟩
      have hj2 : j < (n :: ns).length := by
        rw [hj, List.length_map] at m1
        omega
      refine ⟨_, rfl, _, rfl, _, rfl, a, _, rfl, .inl (s1.seq hs), _, _, rfl, rfl, hlen, a, _, _, .int ((n :: ns)[j]), rfl, rfl, s1.seq hs, ?_, _, rfl, _, k, rfl, h0, h1, fun r r0 r1 => q r _ s1 r0 r1⟩
      rw [hj]
      refine atI_nat ?_
      rw [List.getElem?_map, List.getElem?_eq_getElem hj2]
      rfl
/-! _law_common -/
def spCom : Sp := fun vs H Q _ => ∃ a b : Int, vs = [.int a, .int b] ∧ 0 ≤ a ∧ 0 ≤ b ∧ Sz 1900 a ∧ Sz 1900 b ∧ Q (.int ((Int.gcd a b : Nat) : Int)) H
theorem scCom : FnScope ["_law_one", "_law_other", "_law_rest"] ["_law_one", "_law_other"] (defScope lCom) := ⟨rfl, rfl, rfl, by decide +kernel, rfl, by decide +kernel, by decide +kernel⟩
theorem ok_com {f : Addr} {fd : FuncData} (F : Fun K "_law_common" "_law_common" lCom f fd) : FnOk P w K mg base CX0 1 f fd ["_law_one", "_law_other"] spCom := by
  refine F.ok scCom (fun vs H Q E h => ?_) (fun cdv A outer s H vs Q E hr h => ?_)
  · obtain ⟨a, b, rfl, _⟩ := h
    rfl
  · obtain ⟨a, b, rfl, ha, hb, za, zb, q⟩ := h
    refine ⟨_, pss_cons (ps_while PassesOwn.never (pt_cmpR op_gt (pv 1) pe_int (nomark _))
        (pss_cons (ps_set (i := 2) scCom.nd rfl (Or.inl rfl) (pe_op op_sub (pv 0) (pe_op op_mulS (pe_op op_fdivS (pv 0) (pv 1)) (pv 1)))) (pss_cons (ps_set (i := 0) scCom.nd rfl (Or.inl rfl) (pv 1)) (pss_one (ps_set (i := 1) scCom.nd rfl (Or.inl rfl) (pv 2))))))
      (pss_one (ps_ret (pv 0))), ?_⟩
    refine while_by (fun σ H' => H' = H ∧ ∃ (g l : Int) (r : Option V), σ = [some (.int g), some (.int l), r] ∧ 0 ≤ g ∧ 0 ≤ l ∧ Sz 1900 g ∧ Sz 1900 l ∧ Int.gcd g l = Int.gcd a b)
      (fun (σ : L2.St) _ => match σ[1]? with | some (some (V.int l)) => l.toNat | _ => 0) ⟨rfl, a, b, none, rfl, ha, hb, za, zb, rfl⟩ ?_ ?_
    · rintro σ H' ⟨rfl, g, l, r, rfl, hg, hl, zg, zl, e⟩
      refine ⟨_, rfl, _, _, rfl, rfl, _, rfl, ?_⟩
      refine ite2 (fun z => ?_) (fun z => ?_)
      · have hp : 0 < l := by simpa using z
        have er : g - g / l * l = g % l := by rw [Int.emod_def, Int.mul_comm]
        have r0 := Int.emod_nonneg g (by omega : l ≠ 0)
        have r1 := Int.emod_lt_of_pos g hp
        refine ⟨_, rfl, _, rfl, _, rfl, _, _, rfl, rfl, ⟨hp, zl.mono (by decide)⟩, _, rfl, _, _, rfl, rfl, ⟨(zg.div hp).mono (by decide), zl.mono (by decide)⟩, _, _, rfl, rfl, _, rfl, _, rfl, ⟨rfl, l, g - g / l * l, _, rfl, hl, by omega, zl, ?_, ?_⟩, ?_⟩
        · rw [er]
          unfold Sz at *
          omega
        · rw [er, gcd_step g l hp, e]
        · show (g - g / l * l).toNat < l.toNat
          omega
      · have hz : l = 0 := by
          have : ¬ 0 < l := by simpa using z
          omega
        subst hz
        refine ⟨_, rfl, ?_⟩
        rw [← e, gcd_zero g hg] at q
        exact q
    · rintro σ H' R R' hR ⟨v, e1, i, j, e2, e3, k, e4, q'⟩
      exact ⟨v, e1, i, j, e2, e3, k, e4, hR _ _ q'⟩
end
end Fr

set_option Elab.async false
set_option linter.all false
set_option maxRecDepth 100000
set_option maxHeartbeats 400000
namespace Fr
open PySem PySem.Spec PyProof.Rows L2 FrM FrR
section
variable {P : Program} {w : World} {K : PySem.W.Frag} {mg : Str → Option Value} {base : Heap}
/-! settled, of each of the ways -/
def spSet (m : Nat) : Sp := fun vs H Q _ => ∃ (x : V) (a b : Int), vs = [x, .int a, .int b] ∧ 0 ≤ a ∧ 0 < b ∧ Sz 1000 a ∧ Sz 1000 b ∧ Q (.int (setl m a b)) H
theorem scSet0 : FnScope ["self", "above", "below"] ["self", "above", "below"] (defScope mSet0) := ⟨rfl, rfl, rfl, by decide +kernel, rfl, by decide +kernel, by decide +kernel⟩
theorem ok_set0 {f : Addr} {fd : FuncData} (F : Fun K "settled" "Rounding.settled" mSet0 f fd) : FnOk P w K mg base CX0 1 f fd ["self", "above", "below"] (spSet 0) := by
  refine F.ok scSet0 (fun vs H Q E h => ?_) (fun cdv A outer s H vs Q E hr h => ?_)
  · obtain ⟨x, a, b, rfl, _⟩ := h
    rfl
  · obtain ⟨x, a, b, rfl, ha, hb, za, zb, q⟩ := h
    refine ⟨_, QB.out (b_one 
      (s_ret (q_fdivS (qv 1 rfl (.inl rfl) rfl rfl) (qv 2 rfl (.inl rfl) rfl rfl)))), ?_⟩
    exact ⟨_, rfl, _, rfl, _, _, rfl, rfl, ⟨hb, zb.mono (by decide)⟩, q⟩
theorem scSet1 : FnScope ["self", "above", "below"] ["self", "above", "below"] (defScope mSet1) := ⟨rfl, rfl, rfl, by decide +kernel, rfl, by decide +kernel, by decide +kernel⟩
theorem ok_set1 {f : Addr} {fd : FuncData} (F : Fun K "settled" "Up.settled" mSet1 f fd) : FnOk P w K mg base CX0 1 f fd ["self", "above", "below"] (spSet 1) := by
  refine F.ok scSet1 (fun vs H Q E h => ?_) (fun cdv A outer s H vs Q E hr h => ?_)
  · obtain ⟨x, a, b, rfl, _⟩ := h
    rfl
  · obtain ⟨x, a, b, rfl, ha, hb, za, zb, q⟩ := h
    refine ⟨_, QB.out (b_one 
      (s_ret (q_fdivS (q_sub (q_add (qv 1 rfl (.inl rfl) rfl rfl) (qv 2 rfl (.inl rfl) rfl rfl)) q_int) (qv 2 rfl (.inl rfl) rfl rfl)))), ?_⟩
    exact ⟨_, rfl, _, rfl, _, _, rfl, rfl, _, _, rfl, rfl, _, rfl, _, _, rfl, rfl, ⟨hb, zb.mono (by decide)⟩, q⟩
theorem sz2 : Sz 4000 2 := by show (2 : Nat) < 2 ^ 4000; exact Nat.lt_of_lt_of_le (show 2 < 2 ^ 2 by decide) (Nat.pow_le_pow_right (by decide) (by decide))
theorem scSet2 : FnScope ["self", "above", "below"] ["self", "above", "below"] (defScope mSet2) := ⟨rfl, rfl, rfl, by decide +kernel, rfl, by decide +kernel, by decide +kernel⟩
theorem ok_set2 {f : Addr} {fd : FuncData} (F : Fun K "settled" "Away.settled" mSet2 f fd) : FnOk P w K mg base CX0 1 f fd ["self", "above", "below"] (spSet 2) := by
  refine F.ok scSet2 (fun vs H Q E h => ?_) (fun cdv A outer s H vs Q E hr h => ?_)
  · obtain ⟨x, a, b, rfl, _⟩ := h
    rfl
  · obtain ⟨x, a, b, rfl, ha, hb, za, zb, q⟩ := h
    have z2 : Sz 2 2 := by show (2 : Nat) < 2 ^ 2; decide
    refine ⟨_, QB.out (b_one 
      (s_ret (q_fdivS (q_add (q_mulS q_int (qv 1 rfl (.inl rfl) rfl rfl)) (qv 2 rfl (.inl rfl) rfl rfl)) (q_mulS q_int (qv 2 rfl (.inl rfl) rfl rfl))))), ?_⟩
    exact ⟨_, rfl, _, _, rfl, rfl, ⟨sz2, za.mono (by decide)⟩, _, rfl, _, _, rfl, rfl, _, rfl, _, _, rfl, rfl, ⟨sz2, zb.mono (by decide)⟩, _, _, rfl, rfl, ⟨by omega, (z2.mul zb).mono (by decide)⟩, q⟩
theorem scSet3 : FnScope ["self", "above", "below", "whole", "twice"] ["self", "above", "below"] (defScope mSet3) := ⟨rfl, rfl, rfl, by decide +kernel, rfl, by decide +kernel, by decide +kernel⟩
theorem ok_set3 {f : Addr} {fd : FuncData} (F : Fun K "settled" "Even.settled" mSet3 f fd) : FnOk P w K mg base CX0 1 f fd ["self", "above", "below"] (spSet 3) := by
  refine F.ok scSet3 (fun vs H Q E h => ?_) (fun cdv A outer s H vs Q E hr h => ?_)
  · obtain ⟨x, a, b, rfl, _⟩ := h
    rfl
  · obtain ⟨x, a, b, rfl, ha, hb, za, zb, q⟩ := h
    obtain ⟨r0, r1⟩ := rest_is a b hb
    have zr : Sz 1000 (a - a / b * b) := by unfold Sz at *; omega
    refine ⟨_, QB.out (b_cons 
      (s_set 3 scSet3.nd rfl (Or.inl rfl) (q_fdivS (qv 1 rfl (.inl rfl) rfl rfl) (qv 2 rfl (.inl rfl) rfl rfl)) rfl (.inr rfl)) (b_cons 
      (s_set 4 scSet3.nd rfl (Or.inl rfl) (q_mulS q_int (q_sub (qv 1 rfl (.inl rfl) rfl rfl) (q_mulS (qv 3 rfl (.inl rfl) rfl rfl) (qv 2 rfl (.inl rfl) rfl rfl)))) rfl (.inr rfl)) (b_cons 
      (s_if (t_w (w_or (t_cmp op_gt (qv 4 rfl (.inl rfl) rfl rfl) (qv 2 rfl (.inl rfl) rfl rfl) rfl) (w_or1 (t_w (w_and (t_cmp op_eq (qv 4 rfl (.inl rfl) rfl rfl) (qv 2 rfl (.inl rfl) rfl rfl) rfl) (w_and1 (t_cmp op_eq (q_mod (qv 3 rfl (.inl rfl) rfl rfl) q_int) q_int rfl))))))) (b_one 
        (s_ret (q_add (qv 3 rfl (.inl rfl) rfl rfl) q_int))) b_nil) (b_one 
      (s_ret (qv 3 rfl (.inl rfl) rfl rfl)))))), ?_⟩
    refine ⟨_, rfl, _, rfl, _, _, rfl, rfl, ⟨hb, zb.mono (by decide)⟩, ?_⟩
    refine ⟨_, rfl, _, rfl, _, rfl, _, _, rfl, rfl, ⟨(za.div hb).mono (by decide), zb.mono (by decide)⟩, _, _, rfl, rfl, _, _, rfl, rfl, ⟨sz2, zr.mono (by decide)⟩, ?_⟩
    unfold setl at q
    refine ⟨_, rfl, _, rfl, _, _, rfl, rfl, _, rfl, ?_⟩
    refine ite2 (fun z => ?_) (fun z => ?_)
    · have hp : b < 2 * (a - a / b * b) := by simpa using z
      rw [if_pos (.inl hp)] at q
      exact ⟨_, rfl, _, _, rfl, rfl, q⟩
    · have hp : ¬ b < 2 * (a - a / b * b) := by simpa using z
      refine ⟨_, rfl, _, rfl, rfl, _, rfl, ?_⟩
      refine ite2 (fun z2 => ?_) (fun z2 => ?_)
      · have e2 : 2 * (a - a / b * b) = b := by simpa using z2
        refine ⟨_, rfl, _, _, rfl, rfl, (by show (0 : Int) < 2; decide), rfl, _, rfl, ?_⟩
        refine ite2 (fun z3 => ?_) (fun z3 => ?_)
        · have e3 : a / b % 2 = 1 := by simpa using z3
          rw [if_pos (.inr ⟨e2, e3⟩)] at q
          exact ⟨_, rfl, _, _, rfl, rfl, q⟩
        · have e3 : ¬ a / b % 2 = 1 := by simpa using z3
          rw [if_neg (by rintro (y | y); exact hp y; exact e3 y.2)] at q
          exact ⟨_, rfl, q⟩
      · have e2 : ¬ 2 * (a - a / b * b) = b := by simpa using z2
        rw [if_neg (by rintro (y | y); exact hp y; exact e2 y.1)] at q
        exact ⟨_, rfl, q⟩
end
end Fr

set_option Elab.async false
set_option linter.all false
set_option maxRecDepth 100000
set_option maxHeartbeats 400000
namespace Fr
open PySem PySem.Spec PyProof.Rows L2 FrM FrR
/-- the size of a number -/
def ab (u : Int) : Int := if u < 0 then -u else u
/-- the whole number that is shown -/
def wh (m : Nat) (u v f : Int) : Int := setl m (ab u * 10 ^ f.toNat) v
def sgn (u w : Int) : Str := if u < 0 ∧ 0 < w then ("-" : Str) else ("" : Str)
def figs (n f : Int) : Str := Txt.zfill (Str.ofString (toString n)) (f + 1)
/-- what is shown -/
def shT (m : Nat) (u v f : Int) : Str :=
  if f = 0 then sgn u (wh m u v f) ++ figs (wh m u v f) f
  else sgn u (wh m u v f) ++ Txt.slice (figs (wh m u v f) f) none (some (-f)) ++ ("." : Str) ++ Txt.slice (figs (wh m u v f) f) (some (-f)) none
theorem ab_nn (u : Int) : 0 ≤ ab u := by unfold ab; split <;> omega
theorem ab_sz {n : Nat} {u : Int} (h : Sz n u) : Sz n (ab u) := by
  unfold Sz ab at *
  split <;> omega
theorem ten_sz {f : Int} (h : f ≤ 40) : Sz 161 ((10 : Int) ^ f.toNat) := by
  show ((10 : Int) ^ f.toNat).natAbs < 2 ^ 161
  rw [Int.natAbs_pow]
  refine Nat.lt_of_le_of_lt (Nat.pow_le_pow_right (by decide) (show f.toNat ≤ 40 by omega)) ?_
  decide
theorem setl_le (m : Nat) {a b : Int} (ha : 0 ≤ a) (hb : 0 < b) : 0 ≤ setl m a b ∧ setl m a b ≤ a + 1 := by
  rw [setl_more m a b hb]
  have h0 := Int.ediv_nonneg ha (Int.le_of_lt hb)
  have h1 := Int.ediv_le_self b ha
  split <;> omega
theorem wh_nn (m : Nat) {u v f : Int} (hv : 0 < v) : 0 ≤ wh m u v f := (setl_le m (Int.mul_nonneg (ab_nn u) (Int.le_of_lt (Int.pow_pos (by decide)))) hv).1
theorem wh_sz (m : Nat) {u v f : Int} (hv : 0 < v) (zu : Sz 140 u) (hf : f ≤ 40) : Sz 302 (wh m u v f) := by
  have h0 : 0 ≤ ab u * 10 ^ f.toNat := Int.mul_nonneg (ab_nn u) (Int.le_of_lt (Int.pow_pos (by decide)))
  have h := setl_le m h0 hv
  have z : Sz 301 (ab u * 10 ^ f.toNat) := ((ab_sz zu).mul (ten_sz hf)).mono (by decide)
  unfold wh
  unfold Sz at *
  have e : (2 : Nat) ^ 302 = 2 * 2 ^ 301 := by rw [Nat.pow_succ]; omega
  rw [e]
  have : 0 < (2 : Nat) ^ 301 := Nat.pow_pos (by decide)
  omega
theorem figs_len {n f : Int} (zn : Sz 302 n) (h0 : 0 ≤ f) (hf : f ≤ 40) : (figs n f).length ≤ 303 ∧ f + 1 ≤ (figs n f).length := by
  have h1 := text_len (by decide) zn
  have h2 := PyProof.Rows.len_zfill (Str.ofString (toString n)) (f + 1)
  unfold figs
  split at h2
  · omega
  · rename_i z
    have : ¬ ((Str.ofString (toString n)).length : Int) < f + 1 := by simpa using z
    omega
theorem big303 {n : Nat} (h : n ≤ 1000) : n ≤ sizeLine := Nat.le_of_lt (small1000 h)
section
variable {P : Program} {w : World} {K : PySem.W.Frag} {mg : Str → Option Value} {base : Heap}
/-! shown -/
/-- no fraction -/
def BadF (H : Hp) (x : V) : Prop := NoT H x ∨ ∃ p xs, x = .ref p ∧ H p = some (.tup xs) ∧ (∀ y ∈ xs, Kd H y) ∧ isFr xs = false
/-- a fraction of the sizes that are met -/
structure FrAt (H : Hp) (p : Addr) (u v : Int) : Prop where
  at' : H p = some (.tup [.int u, .int v])
  fr : isFr [.int u, .int v] = true
  zu : Sz 140 u
  zv : Sz 140 v
theorem FrAt.pos {H : Hp} {p : Addr} {u v : Int} (h : FrAt H p u v) : 0 < v := by
  have := h.fr
  unfold isFr at this
  rw [Bool.and_eq_true] at this
  exact of_decide_eq_true this.1
theorem FrAt.kd {H : Hp} {p : Addr} {u v : Int} (h : FrAt H p u v) : ∀ y ∈ [V.int u, .int v], Kd H y := fun y hy => by
  rcases List.mem_cons.mp hy with z | z
  · subst z; exact .int u
  · have z' : y = .int v := by simpa using z
    subst z'; exact .int v
def spShown (BN : Addr) (tb : Addr → Nat → Prop) : Sp := fun vs H Q E => ∃ (a dx C : Addr) (m : Nat) (x y : V), vs = [.ref a, x, y] ∧ H a = some (.ins C dx []) ∧ tb C m ∧
  ((∃ p u v f, x = .ref p ∧ FrAt H p u v ∧ y = .int f ∧ 0 ≤ f ∧ f ≤ 40 ∧ Q (.str (shT m u v f)) H) ∨ (BadF H x ∧ E (.ref BN) none H) ∨
    ∃ p u v, x = .ref p ∧ FrAt H p u v ∧ Kd H y ∧ okN y 0 (.int 40) = false ∧ E (.ref BN) none H)
theorem scShown : FnScope ["self", "amount", "figures", "whole", "text", "sign"] ["self", "amount", "figures"] (defScope mShown) := ⟨rfl, rfl, rfl, by decide +kernel, rfl, by decide +kernel, by decide +kernel⟩
/-- what the classes have -/
def HasSet (P : Program) (w : World) (K : PySem.W.Frag) (mg : Str → Option Value) (base : Heap) (tb : Addr → Nat → Prop) : Prop := ∀ C m, tb C m → ∃ fS fdS, Cls K C ∧ Meth K C "settled" fS ∧ Binds K fdS ["self", "above", "below"] [] ∧ FnOk P w K mg base CX0 1 fS fdS ["self", "above", "below"] (spSet m)
theorem sgn_len (u w : Int) : (sgn u w).length ≤ 1 := by
  unfold sgn
  split <;> decide +kernel
theorem ok_shown {f fI fN fP BN : Addr} {fd fdI fdN fdP : FuncData} {tb : Addr → Nat → Prop} {t40 : Tok} (F : Fun K "shown" "Rounding.shown" mShown f fd) (B : Bn mg) (X : Ex K mg BN) (m40 : mg "MOST_FIGURES" = some (.int 40 t40))
    (HT : HasSet P w K mg base tb)
    (FI : Fun K "is_fraction" "is_fraction" sIsF fI fdI) (bI : Binds K fdI ["thing"] []) (mI : mg "is_fraction" = some (.ref fI)) (GI : FnOk P w K mg base CX0 2 fI fdI ["thing"] spIsF)
    {dN : Value} (FN : FunD K "need_whole" "need_whole" sNeed dN fN fdN) (bN : Binds K fdN ["thing", "least", "most"] []) (mN : mg "need_whole" = some (.ref fN)) (GN : FnOk P w K mg base (Fly P w) 2 fN fdN ["thing", "least", "most"] (spNeed BN))
    (FP : Fun K "whole_power" "whole_power" sWPow fP fdP) (bP : Binds K fdP ["base", "exponent"] []) (mP : mg "whole_power" = some (.ref fP)) :
    FnOk P w K mg base (Fly P w) 3 f fd ["self", "amount", "figures"] (spShown BN tb) := by
  have GP : FnOk P w K mg base CX0 1 fP fdP ["base", "exponent"] spWPow := ok_wpow FP
  refine (Fr.Fun.toD F).okX scShown (fun vs H Q E h => ?_) (fun cdv A outer s H vs Q E hr h => ?_)
  · obtain ⟨a, dx, C, m, x, y, rfl, _⟩ := h
    rfl
  · obtain ⟨a, dx, C, m, x, y, rfl, ha, tc, h⟩ := h
    obtain ⟨fS, fdS, cl, mt, bS, GS⟩ := HT C m tc
    have hr2 : Room 2 _ := hr
    have hr1 : Room 1 _ := hr.mono (by decide)
    refine ⟨_, QB.out (b_cons 
      (s_if (t_not (t_val (q_call GI hr2 rfl mI FI.kp bI .nil pass0 (qc (qv 1 rfl (.inl rfl) rfl rfl) q_nil rfl) rfl rfl rfl) (fun _ => rfl))) (b_one 
        (s_raise X.inB raises_fly rfl rfl X.mgB (qc q_str q_nil rfl) rfl rfl rfl)) b_nil) (b_cons 
      (s_expr (q_callS GN hr2 rfl mN FN.kp bN .nil pass_fly (qc (qv 2 rfl (.inl rfl) rfl rfl) (qc q_int (qc (q_glob (v := .int 40) rfl m40 ⟨t40, rfl⟩ rfl) q_nil rfl) rfl) rfl) rfl rfl rfl) rfl) (b_cons 
      (s_set 3 scShown.nd rfl (Or.inl rfl) (q_meth (qv 0 rfl (.inl rfl) rfl rfl) cl mt GS hr1 bS .nil pass0 (qc (q_mulS (q_callB call_abs rfl B.abs bt_abs (qc (q_ixt (K := K) rfl (qv 1 rfl (.inl rfl) rfl rfl) q_int (fun _ _ => rfl)) q_nil rfl) (by decide) rfl rfl rfl) (q_call GP hr1 rfl mP FP.kp bP .nil pass0 (qc q_int (qc (qv 2 rfl (.inl rfl) rfl rfl) q_nil rfl) rfl) rfl rfl rfl)) (qc (q_ixt (K := K) rfl (qv 1 rfl (.inl rfl) rfl rfl) q_int (fun _ _ => rfl)) q_nil rfl) rfl) rfl rfl rfl) rfl (.inr rfl)) (b_cons 
      (s_set 4 scShown.nd rfl (Or.inl rfl) (q_zfill (K := K) rfl (q_callTy call_str_int rfl B.str bt_str (qc (qv 3 rfl (.inl rfl) rfl rfl) q_nil rfl) (by decide) rfl rfl rfl) (q_add (qv 2 rfl (.inl rfl) rfl rfl) q_int) rfl rfl rfl) rfl (.inr rfl)) (b_cons 
      (s_set 5 scShown.nd rfl (Or.inl rfl) (q_ifx (t_w (w_and (t_cmp op_lt (q_ixt (K := K) rfl (qv 1 rfl (.inl rfl) rfl rfl) q_int (fun _ _ => rfl)) q_int rfl) (w_and1 (t_cmp op_gt (qv 3 rfl (.inl rfl) rfl rfl) q_int rfl)))) q_str q_str) rfl (.inr rfl)) (b_cons 
      (s_if (t_cmp op_eq (qv 2 rfl (.inl rfl) rfl rfl) q_int rfl) (b_one 
        (s_ret (q_op op_add_str (qv 5 rfl (.inl rfl) rfl rfl) (qv 4 rfl (.inl rfl) rfl rfl)))) b_nil) (b_one 
      (s_ret (q_op op_add_str (q_op op_add_str (q_op op_add_str (qv 5 rfl (.inl rfl) rfl rfl) (q_slS (qv 4 rfl (.inl rfl) rfl rfl) o_none (o_some (q_neg (qv 2 rfl (.inl rfl) rfl rfl))))) q_str) (q_slS (qv 4 rfl (.inl rfl) rfl rfl) (o_some (q_neg (qv 2 rfl (.inl rfl) rfl rfl))) o_none)))))))))), ?_⟩
    have hz : ([V.str "a"] : List V).length ≤ sizeLine := by show 1 ≤ sizeLine; decide
    have good : ∀ p u v, x = .ref p → FrAt H p u v → ∃ p xs, x = .ref p ∧ H p = some (.tup xs) ∧ (∀ y ∈ xs, Kd H y) ∧ isFr xs = true := fun p u v e g => ⟨p, _, e, g.at', g.kd, g.fr⟩
    rcases h with ⟨p, u, v, f, rfl, g, rfl, h0, h40, q⟩ | ⟨bf, qe⟩ | ⟨p, u, v, rfl, g, ky, no, qe⟩
    · have hv := g.pos
      have hp := g.at'
      have zw := wh_sz m hv g.zu h40
      have zn := wh_nn m (u := u) (f := f) hv
      have lf := figs_len zw h0 h40
      have z10 : Sz 20 10 := by show (10 : Nat) < 2 ^ 20; decide
      refine ⟨_, rfl, _, rfl, .inr ⟨p, _, rfl, hp, g.kd, _, rfl, ?_⟩⟩
      rw [g.fr]
      refine iteF ?_
      have okf : okN (.int f) 0 (.int 40) = true := by
        show (decide (0 ≤ f) && decide (f ≤ 40)) = true
        rw [decide_eq_true h0, decide_eq_true h40]; rfl
      refine ⟨_, rfl, .int f, 0, .int 40, rfl, .int f, .inr ⟨40, rfl⟩, fun _ => ?_, fun no => absurd (okf.symm.trans no) (by decide)⟩
      have zb : Sz 301 (ab u * 10 ^ f.toNat) := ((ab_sz g.zu).mul (ten_sz h40)).mono (by decide)
      have nb : 0 ≤ ab u * 10 ^ f.toNat := Int.mul_nonneg (ab_nn u) (Int.le_of_lt (Int.pow_pos (by decide)))
      refine ⟨_, rfl, a, dx, [], rfl, ha, rfl, _, rfl, p, _, _, _, rfl, rfl, SqT.of hp, rfl, _, rfl, _, rfl, 10, f, rfl, h0, by omega, z10, _, _, rfl, rfl, ⟨(ab_sz g.zu).mono (by decide), (ten_sz h40).mono (by decide)⟩, _, rfl, p, _, _, _, rfl, rfl, SqT.of hp, rfl, ?_⟩
      refine ⟨_, _, _, rfl, nb, hv, zb.mono (by decide), g.zv.mono (by decide), ?_⟩
      have lg : (wh m u v f).natAbs.log2 < 1920 := Nat.lt_of_lt_of_le (sz_log zw (by decide)) (by decide)
      refine ⟨_, rfl, _, rfl, lg, rfl, _, rfl, _, _, rfl, rfl, _, _, rfl, rfl, padOk_of (by omega) (by omega), ?_⟩
      refine ⟨_, rfl, p, _, _, _, rfl, rfl, SqT.of hp, rfl, _, _, rfl, rfl, _, rfl, ?_⟩
      have l0 : ∀ {z : Str}, z.length ≤ 303 → z.length ≤ sizeLine := fun h => big303 (by omega)
      refine ite2 (fun z1 => ⟨_, rfl, _, _, rfl, rfl, _, rfl, ite2 (fun z2 => ?_) (fun z2 => ?_)⟩) (fun z1 => ?_)
      · have es : sgn u (wh m u v f) = ("-" : Str) := if_pos ⟨by simpa using z1, of_decide_eq_true z2⟩
        refine ⟨_, rfl, rfl, _, rfl, ?_⟩
        refine ite2 (fun z => ?_) (fun z => ?_)
        · have f0 : f = 0 := by simpa using z
          refine ⟨_, rfl, _, rfl, _, _, rfl, rfl, ?_, ?_⟩
          · rw [← es]
            exact big303 (Nat.le_trans (Nat.add_le_add (sgn_len _ _) lf.1) (by decide))
          · unfold shT at q
            rw [if_pos f0, es] at q
            exact q
        · have f0 : ¬ f = 0 := by simpa using z
          have s1 := Txt.slice_le (figs (wh m u v f) f) none (some (-f))
          have s2 := Txt.slice_le (figs (wh m u v f) f) (some (-f)) none
          have sl := sgn_len u (wh m u v f)
          rw [es] at sl
          refine ⟨_, rfl, _, rfl, _, rfl, _, rfl, _, rfl, _, rfl, l0 lf.1, _, _, rfl, rfl, ?_, _, _, rfl, rfl, ?_, _, rfl, _, rfl, _, rfl, _, rfl, _, rfl, l0 lf.1, _, _, rfl, rfl, ?_, ?_⟩
          · exact big303 (Nat.le_trans (Nat.add_le_add sl (Nat.le_trans s1 lf.1)) (by decide))
          · rw [str_len]
            exact big303 (Nat.le_trans (Nat.add_le_add (Nat.add_le_add sl (Nat.le_trans s1 lf.1)) (show (("." : Str)).length ≤ 1 by decide +kernel)) (by decide))
          · rw [str_len, str_len]
            exact big303 (Nat.le_trans (Nat.add_le_add (Nat.add_le_add (Nat.add_le_add sl (Nat.le_trans s1 lf.1)) (show (("." : Str)).length ≤ 1 by decide +kernel)) (Nat.le_trans s2 lf.1)) (by decide))
          · unfold shT at q
            rw [if_neg f0, es] at q
            exact q
      · have es : sgn u (wh m u v f) = ("" : Str) := if_neg fun y => by
          exact z2 (decide_eq_true y.2)
        refine ⟨_, rfl, rfl, _, rfl, ?_⟩
        refine ite2 (fun z => ?_) (fun z => ?_)
        · have f0 : f = 0 := by simpa using z
          refine ⟨_, rfl, _, rfl, _, _, rfl, rfl, ?_, ?_⟩
          · rw [← es]
            exact big303 (Nat.le_trans (Nat.add_le_add (sgn_len _ _) lf.1) (by decide))
          · unfold shT at q
            rw [if_pos f0, es] at q
            exact q
        · have f0 : ¬ f = 0 := by simpa using z
          have s1 := Txt.slice_le (figs (wh m u v f) f) none (some (-f))
          have s2 := Txt.slice_le (figs (wh m u v f) f) (some (-f)) none
          have sl := sgn_len u (wh m u v f)
          rw [es] at sl
          refine ⟨_, rfl, _, rfl, _, rfl, _, rfl, _, rfl, _, rfl, l0 lf.1, _, _, rfl, rfl, ?_, _, _, rfl, rfl, ?_, _, rfl, _, rfl, _, rfl, _, rfl, _, rfl, l0 lf.1, _, _, rfl, rfl, ?_, ?_⟩
          · exact big303 (Nat.le_trans (Nat.add_le_add sl (Nat.le_trans s1 lf.1)) (by decide))
          · rw [str_len]
            exact big303 (Nat.le_trans (Nat.add_le_add (Nat.add_le_add sl (Nat.le_trans s1 lf.1)) (show (("." : Str)).length ≤ 1 by decide +kernel)) (by decide))
          · rw [str_len, str_len]
            exact big303 (Nat.le_trans (Nat.add_le_add (Nat.add_le_add (Nat.add_le_add sl (Nat.le_trans s1 lf.1)) (show (("." : Str)).length ≤ 1 by decide +kernel)) (Nat.le_trans s2 lf.1)) (by decide))
          · unfold shT at q
            rw [if_neg f0, es] at q
            exact q
      · have es : sgn u (wh m u v f) = ("" : Str) := if_neg fun y => by
          have y1 := y.1
          have : ¬ u < 0 := by simpa using z1
          omega
        refine ⟨_, rfl, rfl, _, rfl, ?_⟩
        refine ite2 (fun z => ?_) (fun z => ?_)
        · have f0 : f = 0 := by simpa using z
          refine ⟨_, rfl, _, rfl, _, _, rfl, rfl, ?_, ?_⟩
          · rw [← es]
            exact big303 (Nat.le_trans (Nat.add_le_add (sgn_len _ _) lf.1) (by decide))
          · unfold shT at q
            rw [if_pos f0, es] at q
            exact q
        · have f0 : ¬ f = 0 := by simpa using z
          have s1 := Txt.slice_le (figs (wh m u v f) f) none (some (-f))
          have s2 := Txt.slice_le (figs (wh m u v f) f) (some (-f)) none
          have sl := sgn_len u (wh m u v f)
          rw [es] at sl
          refine ⟨_, rfl, _, rfl, _, rfl, _, rfl, _, rfl, _, rfl, l0 lf.1, _, _, rfl, rfl, ?_, _, _, rfl, rfl, ?_, _, rfl, _, rfl, _, rfl, _, rfl, _, rfl, l0 lf.1, _, _, rfl, rfl, ?_, ?_⟩
          · exact big303 (Nat.le_trans (Nat.add_le_add sl (Nat.le_trans s1 lf.1)) (by decide))
          · rw [str_len]
            exact big303 (Nat.le_trans (Nat.add_le_add (Nat.add_le_add sl (Nat.le_trans s1 lf.1)) (show (("." : Str)).length ≤ 1 by decide +kernel)) (by decide))
          · rw [str_len, str_len]
            exact big303 (Nat.le_trans (Nat.add_le_add (Nat.add_le_add (Nat.add_le_add sl (Nat.le_trans s1 lf.1)) (show (("." : Str)).length ≤ 1 by decide +kernel)) (Nat.le_trans s2 lf.1)) (by decide))
          · unfold shT at q
            rw [if_neg f0, es] at q
            exact q
    · rcases bf with nt | ⟨p, xs, rfl, hp, kd, nf⟩
      · exact ⟨_, rfl, x, rfl, .inl ⟨nt, _, rfl, iteT ⟨hz, qe⟩⟩⟩
      · refine ⟨_, rfl, _, rfl, .inr ⟨p, xs, rfl, hp, kd, _, rfl, ?_⟩⟩
        rw [nf]
        exact iteT ⟨hz, qe⟩
    · refine ⟨_, rfl, _, rfl, .inr ⟨p, _, rfl, g.at', g.kd, _, rfl, ?_⟩⟩
      rw [g.fr]
      refine iteF ?_
      refine ⟨_, rfl, y, 0, .int 40, rfl, ky, .inr ⟨40, rfl⟩, fun ok => ?_, fun _ => qe⟩
      rw [no] at ok; cases ok
end
end Fr

set_option Elab.async false
set_option linter.all false
set_option maxRecDepth 100000
set_option maxHeartbeats 400000
namespace Fr
open PySem PySem.Spec PyProof.Rows L2 FrM FrR
/-- the words of the ways -/
def wd : Nat → Str
  | 0 => "down"
  | 1 => "up"
  | 2 => "away"
  | _ => "even"
/-- the classes and how they round -/
def tbOf (CR CD CU CA CE : Addr) : Addr → Nat → Prop := fun C m => (C = CR ∧ m = 0) ∨ (C = CD ∧ m = 0) ∨ (C = CU ∧ m = 1) ∨ (C = CA ∧ m = 2) ∨ (C = CE ∧ m = 3)
structure Ways (K : PySem.W.Frag) (mg : Str → Option Value) (CR CD CU CA CE : Addr) : Prop where
  r : Mk0 K CR
  d : Mk0 K CD
  u : Mk0 K CU
  a : Mk0 K CA
  e : Mk0 K CE
  mr : mg "Rounding" = some (.ref CR)
  md : mg "Down" = some (.ref CD)
  mu : mg "Up" = some (.ref CU)
  ma : mg "Away" = some (.ref CA)
  me : mg "Even" = some (.ref CE)
structure ExA (K : PySem.W.Frag) (mg : Str → Option Value) (BA : Addr) : Prop where
  mgB : mg "BadName" = some (.ref BA)
  inB : PySem.W.excIn K BA [.type "ValueError", .type "Exception", .type "BaseException", .type "object"] "ValueError.__new__" = true
/-- a way's object -/
def WayAt (tb : Addr → Nat → Prop) (H : Hp) (r : Addr) (m : Nat) : Prop := ∃ C dx, H r = some (.ins C dx []) ∧ tb C m
theorem WayAt.same {tb : Addr → Nat → Prop} {H H' : Hp} {r : Addr} {m : Nat} (h : WayAt tb H r m) (s : Same H H') : WayAt tb H' r m := by
  obtain ⟨C, dx, e, t⟩ := h
  exact ⟨C, dx, s _ _ e, t⟩
theorem made_same {H : Hp} {x dx C : Addr} (hx : H x = none) (hd : H dx = none) (ne : dx ≠ x) : Same H (L2.upd (L2.upd H dx (.own x)) x (.ins C dx [])) := by
  refine Same.trans (Same.upd hd) (Same.upd ?_)
  rw [upd_ne (fun z => ne z.symm)]
  exact hx
/-- no word of a way -/
def NoW (K : PySem.W.Frag) (H : Hp) (x : V) : Prop := (∃ z : Str, x = .str z ∧ z ≠ "down" ∧ z ≠ "up" ∧ z ≠ "away" ∧ z ≠ "even") ∨ ∃ t, TyOf K H x t ∧ PySem.W.kitOne K t (.type "str") = some false
theorem k_str_str (K : PySem.W.Frag) : PySem.W.kitOne K (.type "str") (.type "str") = some true := by kernel_rfl
section
variable {P : Program} {w : World} {K : PySem.W.Frag} {mg : Str → Option Value} {base : Heap}
/-! way_of -/
def spWayOf (K : PySem.W.Frag) (BA : Addr) (tb : Addr → Nat → Prop) : Sp := fun vs H Q E => ∃ x, vs = [x] ∧ ((∃ m, m < 4 ∧ x = .str (wd m) ∧ ∀ r H', Same H H' → WayAt tb H' r m → Q (.ref r) H') ∨ (NoW K H x ∧ E (.ref BA) none H))
theorem scWayOf : FnScope ["word"] ["word"] (defScope sWay) := ⟨rfl, rfl, rfl, by decide +kernel, rfl, by decide +kernel, by decide +kernel⟩
theorem str_ne {a b : Str} (h : a ≠ b) : ¬ (decide (V.str a = V.str b) = true) := fun z => h (by
  have := of_decide_eq_true z
  injection this)
theorem ok_wayof {f BA CR CD CU CA CE : Addr} {fd : FuncData} (F : Fun K "way_of" "way_of" sWay f fd) (B : Bn mg) (XA : ExA K mg BA) (M : Ways K mg CR CD CU CA CE) :
    FnOk P w K mg base (Fly P w) 1 f fd ["word"] (spWayOf K BA (tbOf CR CD CU CA CE)) := by
  refine (Fr.Fun.toD F).okX scWayOf (fun vs H Q E h => ?_) (fun cdv A outer s H vs Q E hr h => ?_)
  · obtain ⟨x, rfl, _⟩ := h
    rfl
  · obtain ⟨x, rfl, h⟩ := h
    have hz : ([V.str "a"] : List V).length ≤ sizeLine := by show 1 ≤ sizeLine; decide
    refine ⟨_, QB.out (b_cons 
      (s_if (t_val (q_callB (call_isiK (K := K) rfl) rfl B.isi bt_isinstance (qc (qv 0 rfl (.inl rfl) rfl rfl) (qc (q_bltn (v := .ty "str") rfl B.str bt_str rfl (by decide) rfl) q_nil rfl) rfl) (by decide) rfl rfl rfl) (fun _ => rfl)) (b_cons 
        (s_if (t_cmp op_eq (qv 0 rfl (.inl rfl) rfl rfl) q_str rfl) (b_one 
          (s_ret (q_makeN M.d rfl M.md rfl))) b_nil) (b_cons 
        (s_if (t_cmp op_eq (qv 0 rfl (.inl rfl) rfl rfl) q_str rfl) (b_one 
          (s_ret (q_makeN M.u rfl M.mu rfl))) b_nil) (b_cons 
        (s_if (t_cmp op_eq (qv 0 rfl (.inl rfl) rfl rfl) q_str rfl) (b_one 
          (s_ret (q_makeN M.a rfl M.ma rfl))) b_nil) (b_one 
        (s_if (t_cmp op_eq (qv 0 rfl (.inl rfl) rfl rfl) q_str rfl) (b_one 
          (s_ret (q_makeN M.e rfl M.me rfl))) b_nil))))) b_nil) (b_one 
      (s_raise XA.inB raises_fly rfl rfl XA.mgB (qc q_str q_nil rfl) rfl rfl rfl))), ?_⟩
    rcases h with ⟨m, hm, rfl, q⟩ | ⟨nw, qe⟩
    · refine ⟨_, rfl, _, .ty "str", _, .type "str", _, rfl, rfl, .str _, k_str_str K, _, rfl, iteT ?_⟩
      match m, hm with
      | 0, _ => exact ⟨_, rfl, rfl, _, rfl, iteT fun x dx hx hd ne => q x _ (made_same hx hd ne) ⟨CD, dx, upd_same, .inr (.inl ⟨rfl, rfl⟩)⟩⟩
      | 1, _ => exact ⟨_, rfl, rfl, _, rfl, iteF ⟨_, rfl, rfl, _, rfl, iteT fun x dx hx hd ne => q x _ (made_same hx hd ne) ⟨CU, dx, upd_same, .inr (.inr (.inl ⟨rfl, rfl⟩))⟩⟩⟩
      | 2, _ => exact ⟨_, rfl, rfl, _, rfl, iteF ⟨_, rfl, rfl, _, rfl, iteF ⟨_, rfl, rfl, _, rfl, iteT fun x dx hx hd ne => q x _ (made_same hx hd ne) ⟨CA, dx, upd_same, .inr (.inr (.inr (.inl ⟨rfl, rfl⟩)))⟩⟩⟩⟩
      | 3, _ => exact ⟨_, rfl, rfl, _, rfl, iteF ⟨_, rfl, rfl, _, rfl, iteF ⟨_, rfl, rfl, _, rfl, iteF ⟨_, rfl, rfl, _, rfl, iteT fun x dx hx hd ne => q x _ (made_same hx hd ne) ⟨CE, dx, upd_same, .inr (.inr (.inr (.inr ⟨rfl, rfl⟩)))⟩⟩⟩⟩⟩
    · rcases nw with ⟨z, rfl, n0, n1, n2, n3⟩ | ⟨t, ty, e⟩
      · refine ⟨_, rfl, _, .ty "str", _, .type "str", _, rfl, rfl, .str _, k_str_str K, _, rfl, iteT ?_⟩
        refine ⟨_, rfl, rfl, _, rfl, ?_⟩
        refine ite2 (fun z => absurd z (str_ne n0)) (fun _ => ?_)
        refine ⟨_, rfl, rfl, _, rfl, ?_⟩
        refine ite2 (fun z => absurd z (str_ne n1)) (fun _ => ?_)
        refine ⟨_, rfl, rfl, _, rfl, ?_⟩
        refine ite2 (fun z => absurd z (str_ne n2)) (fun _ => ?_)
        refine ⟨_, rfl, rfl, _, rfl, ?_⟩
        refine ite2 (fun z => absurd z (str_ne n3)) (fun _ => ?_)
        exact ⟨hz, qe⟩
      · refine ⟨_, rfl, _, .ty "str", t, .type "str", _, rfl, rfl, ty, e, _, rfl, iteF ?_⟩
        exact ⟨hz, qe⟩
end
end Fr

set_option Elab.async false
set_option linter.all false
set_option maxRecDepth 100000
set_option maxHeartbeats 400000
namespace Fr
open PySem PySem.Spec PyProof.Rows L2 FrM FrR
/-- the classes of refusals, by their names -/
structure ClsZ (mg : Str → Option Value) (c0 c1 c2 c3 c4 c5 c6 c7 c8 c9 c10 c11 c12 : Addr) : Prop where
  m0 : mg "BadName" = some (.ref c0)
  m1 : mg "BadNumber" = some (.ref c1)
  m2 : mg "BadCount" = some (.ref c2)
  m3 : mg "BadRate" = some (.ref c3)
  m4 : mg "BadText" = some (.ref c4)
  m5 : mg "Clash" = some (.ref c5)
  m6 : mg "BadUnit" = some (.ref c6)
  m7 : mg "BadTable" = some (.ref c7)
  m8 : mg "NoName" = some (.ref c8)
  m9 : mg "NoRow" = some (.ref c9)
  m10 : mg "Steep" = some (.ref c10)
  m11 : mg "Twice" = some (.ref c11)
  m12 : mg "Unlike" = some (.ref c12)
/-- of which of them a refusal of the class at C is -/
structure LK (K : PySem.W.Frag) (c0 c1 c2 c3 c4 c5 c6 c7 c8 c9 c10 c11 c12 C : Addr) (b0 b1 : Bool) : Prop where
  xc : XCls K C
  kv : PySem.W.kitOne K (.ref C) (.type "ValueError") = some true
  k0 : PySem.W.kitOne K (.ref C) (.ref c0) = some b0
  k1 : PySem.W.kitOne K (.ref C) (.ref c1) = some b1
  k2 : PySem.W.kitOne K (.ref C) (.ref c2) = some false
  k3 : PySem.W.kitOne K (.ref C) (.ref c3) = some false
  k4 : PySem.W.kitOne K (.ref C) (.ref c4) = some false
  k5 : PySem.W.kitOne K (.ref C) (.ref c5) = some false
  k6 : PySem.W.kitOne K (.ref C) (.ref c6) = some false
  k7 : PySem.W.kitOne K (.ref C) (.ref c7) = some false
  k8 : PySem.W.kitOne K (.ref C) (.ref c8) = some false
  k9 : PySem.W.kitOne K (.ref C) (.ref c9) = some false
  k10 : PySem.W.kitOne K (.ref C) (.ref c10) = some false
  k11 : PySem.W.kitOne K (.ref C) (.ref c11) = some false
  k12 : PySem.W.kitOne K (.ref C) (.ref c12) = some false
section
variable {P : Program} {w : World} {K : PySem.W.Frag} {mg : Str → Option Value} {base : Heap}
/-! _law_class -/
def spCls (K : PySem.W.Frag) (c0 c1 c2 c3 c4 c5 c6 c7 c8 c9 c10 c11 c12 : Addr) : Sp := fun vs H Q _ => ∃ (ea C : Addr) (φ : Heap → Prop) (i : Nat), vs = [.ref ea] ∧ H ea = some (.ext φ) ∧ (∀ h, φ h → KAt ea (.ref C) h) ∧
  ((i = 0 ∧ LK K c0 c1 c2 c3 c4 c5 c6 c7 c8 c9 c10 c11 c12 C true false) ∨ (i = 1 ∧ LK K c0 c1 c2 c3 c4 c5 c6 c7 c8 c9 c10 c11 c12 C false true)) ∧ ∀ H', Same H H' → Q (.str (if i = 0 then ("name" : Str) else ("number" : Str))) H'
theorem scCls : FnScope ["_law_e", "_law_found", "_law_others"] ["_law_e"] (defScope lCls) := ⟨rfl, rfl, rfl, by decide +kernel, rfl, by decide +kernel, by decide +kernel⟩
theorem ok_cls {f c0 c1 c2 c3 c4 c5 c6 c7 c8 c9 c10 c11 c12 : Addr} {fd : FuncData} (F : Fun K "_law_class" "_law_class" lCls f fd) (B : Bn mg) (Z : ClsZ mg c0 c1 c2 c3 c4 c5 c6 c7 c8 c9 c10 c11 c12) :
    FnOkH P w K mg base 1 f fd ["_law_e"] (spCls K c0 c1 c2 c3 c4 c5 c6 c7 c8 c9 c10 c11 c12) := by
  refine F.okH scCls (fun vs H Q E h => ?_) (fun cdv A outer s H vs Q E hr h => ?_)
  · obtain ⟨ea, C, φ, i, rfl, _⟩ := h
    rfl
  · obtain ⟨ea, C, φ, i, rfl, he, ka, h, q⟩ := h
    refine ⟨_, QB.out (b_cons 
      (s_set 1 scCls.nd rfl (Or.inl rfl) (q_lst (qc (q_callB (call_isiXK (K := K) rfl) rfl B.isi bt_isinstance (qc (qv 0 rfl (.inl rfl) rfl rfl) (qc (q_glob (v := .ref c0) rfl Z.m0 rfl rfl) q_nil rfl) rfl) (by decide) rfl rfl rfl) (qc (q_callB (call_isiXK (K := K) rfl) rfl B.isi bt_isinstance (qc (qv 0 rfl (.inl rfl) rfl rfl) (qc (q_glob (v := .ref c1) rfl Z.m1 rfl rfl) q_nil rfl) rfl) (by decide) rfl rfl rfl) q_nil rfl) rfl)) rfl (.inr rfl)) (b_cons 
      (s_set 2 scCls.nd rfl (Or.inl rfl) (q_lst (qc (q_callB (call_isiXK (K := K) rfl) rfl B.isi bt_isinstance (qc (qv 0 rfl (.inl rfl) rfl rfl) (qc (q_glob (v := .ref c2) rfl Z.m2 rfl rfl) q_nil rfl) rfl) (by decide) rfl rfl rfl) (qc (q_callB (call_isiXK (K := K) rfl) rfl B.isi bt_isinstance (qc (qv 0 rfl (.inl rfl) rfl rfl) (qc (q_glob (v := .ref c3) rfl Z.m3 rfl rfl) q_nil rfl) rfl) (by decide) rfl rfl rfl) (qc (q_callB (call_isiXK (K := K) rfl) rfl B.isi bt_isinstance (qc (qv 0 rfl (.inl rfl) rfl rfl) (qc (q_glob (v := .ref c4) rfl Z.m4 rfl rfl) q_nil rfl) rfl) (by decide) rfl rfl rfl) (qc (q_callB (call_isiXK (K := K) rfl) rfl B.isi bt_isinstance (qc (qv 0 rfl (.inl rfl) rfl rfl) (qc (q_glob (v := .ref c5) rfl Z.m5 rfl rfl) q_nil rfl) rfl) (by decide) rfl rfl rfl) q_nil rfl) rfl) rfl) rfl)) rfl (.inr rfl)) (b_cons 
      (s_set 2 scCls.nd rfl (Or.inl rfl) (q_cat (qv 2 rfl (.inl rfl) rfl rfl) (q_lst (qc (q_callB (call_isiXK (K := K) rfl) rfl B.isi bt_isinstance (qc (qv 0 rfl (.inl rfl) rfl rfl) (qc (q_glob (v := .ref c6) rfl Z.m6 rfl rfl) q_nil rfl) rfl) (by decide) rfl rfl rfl) (qc (q_callB (call_isiXK (K := K) rfl) rfl B.isi bt_isinstance (qc (qv 0 rfl (.inl rfl) rfl rfl) (qc (q_glob (v := .ref c7) rfl Z.m7 rfl rfl) q_nil rfl) rfl) (by decide) rfl rfl rfl) (qc (q_callB (call_isiXK (K := K) rfl) rfl B.isi bt_isinstance (qc (qv 0 rfl (.inl rfl) rfl rfl) (qc (q_glob (v := .ref c8) rfl Z.m8 rfl rfl) q_nil rfl) rfl) (by decide) rfl rfl rfl) (qc (q_callB (call_isiXK (K := K) rfl) rfl B.isi bt_isinstance (qc (qv 0 rfl (.inl rfl) rfl rfl) (qc (q_glob (v := .ref c9) rfl Z.m9 rfl rfl) q_nil rfl) rfl) (by decide) rfl rfl rfl) q_nil rfl) rfl) rfl) rfl))) rfl (.inr rfl)) (b_cons 
      (s_set 2 scCls.nd rfl (Or.inl rfl) (q_cat (qv 2 rfl (.inl rfl) rfl rfl) (q_lst (qc (q_callB (call_isiXK (K := K) rfl) rfl B.isi bt_isinstance (qc (qv 0 rfl (.inl rfl) rfl rfl) (qc (q_glob (v := .ref c10) rfl Z.m10 rfl rfl) q_nil rfl) rfl) (by decide) rfl rfl rfl) (qc (q_callB (call_isiXK (K := K) rfl) rfl B.isi bt_isinstance (qc (qv 0 rfl (.inl rfl) rfl rfl) (qc (q_glob (v := .ref c11) rfl Z.m11 rfl rfl) q_nil rfl) rfl) (by decide) rfl rfl rfl) (qc (q_callB (call_isiXK (K := K) rfl) rfl B.isi bt_isinstance (qc (qv 0 rfl (.inl rfl) rfl rfl) (qc (q_glob (v := .ref c12) rfl Z.m12 rfl rfl) q_nil rfl) rfl) (by decide) rfl rfl rfl) q_nil rfl) rfl) rfl))) rfl (.inr rfl)) (b_cons 
      (s_if (t_w (w_or (t_cmp op_ne (q_count (K := K) rfl (qv 1 rfl (.inl rfl) rfl rfl) q_bl rfl rfl rfl) q_int rfl) (w_or (t_cmp (op_inK (K := K) rfl) q_bl (qv 2 rfl (.inl rfl) rfl rfl) rfl) (w_or1 (t_not (t_val (q_callB (call_isiXK (K := K) rfl) rfl B.isi bt_isinstance (qc (qv 0 rfl (.inl rfl) rfl rfl) (qc (q_bltn (v := .ty "ValueError") rfl B.verr bt_ValueError rfl (by decide) rfl) q_nil rfl) rfl) (by decide) rfl rfl rfl) (fun _ => rfl))))))) (b_one 
        (s_ret q_str)) b_nil) (b_one 
      (s_ret (q_ixl (K := K) rfl (q_lst (qc q_str (qc q_str q_nil rfl) rfl)) (q_index (K := K) rfl (qv 1 rfl (.inl rfl) rfl rfl) q_bl rfl rfl rfl) (fun _ _ => rfl))))))))), ?_⟩
    rcases h with ⟨rfl, L⟩ | ⟨rfl, L⟩
    ·
      have f2 : ∀ {n : Nat}, n ≤ 13 → n ≤ sizeLine := fun h => big303 (by omega)
      refine ⟨_, rfl, ea, C, .ref c0, .ref c0, _, φ, rfl, rfl, he, ka, L.xc, L.k0, _, rfl, ea, C, .ref c1, .ref c1, _, φ, rfl, rfl, he, ka, L.xc, L.k1, f2 (by decide), fun p1 g1 => ?_⟩
      have s1 : Same H (L2.upd H p1 (.lst [.bl true, .bl false])) := Same.upd g1
      have e1 : L2.upd H p1 (.lst [.bl true, .bl false]) p1 = some (.lst [.bl true, .bl false]) := upd_same
      generalize L2.upd H p1 (.lst [.bl true, .bl false]) = H1 at s1 e1 ⊢
      have he1 := s1 _ _ he
      refine ⟨_, rfl, ea, C, .ref c2, .ref c2, _, φ, rfl, rfl, he1, ka, L.xc, L.k2, _, rfl, ea, C, .ref c3, .ref c3, _, φ, rfl, rfl, he1, ka, L.xc, L.k3, _, rfl, ea, C, .ref c4, .ref c4, _, φ, rfl, rfl, he1, ka, L.xc, L.k4, _, rfl, ea, C, .ref c5, .ref c5, _, φ, rfl, rfl, he1, ka, L.xc, L.k5, f2 (by decide), fun p2 g2 => ?_⟩
      have s2 : Same H1 (L2.upd H1 p2 (.lst [.bl false, .bl false, .bl false, .bl false])) := Same.upd g2
      have e2 : L2.upd H1 p2 (.lst [.bl false, .bl false, .bl false, .bl false]) p2 = some (.lst [.bl false, .bl false, .bl false, .bl false]) := upd_same
      generalize L2.upd H1 p2 (.lst [.bl false, .bl false, .bl false, .bl false]) = H2 at s2 e2 ⊢
      have he2 := s2 _ _ he1
      refine ⟨_, rfl, _, rfl, ea, C, .ref c6, .ref c6, _, φ, rfl, rfl, he2, ka, L.xc, L.k6, _, rfl, ea, C, .ref c7, .ref c7, _, φ, rfl, rfl, he2, ka, L.xc, L.k7, _, rfl, ea, C, .ref c8, .ref c8, _, φ, rfl, rfl, he2, ka, L.xc, L.k8, _, rfl, ea, C, .ref c9, .ref c9, _, φ, rfl, rfl, he2, ka, L.xc, L.k9, f2 (by decide), fun p3 g3 => ?_⟩
      have s3 : Same H2 (L2.upd H2 p3 (.lst [.bl false, .bl false, .bl false, .bl false])) := Same.upd g3
      have e3 : L2.upd H2 p3 (.lst [.bl false, .bl false, .bl false, .bl false]) p3 = some (.lst [.bl false, .bl false, .bl false, .bl false]) := upd_same
      generalize L2.upd H2 p3 (.lst [.bl false, .bl false, .bl false, .bl false]) = H3 at s3 e3 ⊢
      refine ⟨p2, p3, _, _, rfl, rfl, s3 _ _ e2, e3, f2 (by decide), fun p4 g4 => ?_⟩
      have s4 : Same H3 (L2.upd H3 p4 (.lst ([.bl false, .bl false, .bl false, .bl false] ++ [.bl false, .bl false, .bl false, .bl false]))) := Same.upd g4
      have e4 : L2.upd H3 p4 (.lst ([.bl false, .bl false, .bl false, .bl false] ++ [.bl false, .bl false, .bl false, .bl false])) p4 = some (.lst ([.bl false, .bl false, .bl false, .bl false] ++ [.bl false, .bl false, .bl false, .bl false])) := upd_same
      generalize L2.upd H3 p4 (.lst ([.bl false, .bl false, .bl false, .bl false] ++ [.bl false, .bl false, .bl false, .bl false])) = H4 at s4 e4 ⊢
      have he4 := s4 _ _ (s3 _ _ he2)
      refine ⟨_, rfl, _, rfl, ea, C, .ref c10, .ref c10, _, φ, rfl, rfl, he4, ka, L.xc, L.k10, _, rfl, ea, C, .ref c11, .ref c11, _, φ, rfl, rfl, he4, ka, L.xc, L.k11, _, rfl, ea, C, .ref c12, .ref c12, _, φ, rfl, rfl, he4, ka, L.xc, L.k12, f2 (by decide), fun p5 g5 => ?_⟩
      have s5 : Same H4 (L2.upd H4 p5 (.lst [.bl false, .bl false, .bl false])) := Same.upd g5
      have e5 : L2.upd H4 p5 (.lst [.bl false, .bl false, .bl false]) p5 = some (.lst [.bl false, .bl false, .bl false]) := upd_same
      generalize L2.upd H4 p5 (.lst [.bl false, .bl false, .bl false]) = H5 at s5 e5 ⊢
      refine ⟨p4, p5, _, _, rfl, rfl, s5 _ _ e4, e5, f2 (by decide), fun p6 g6 => ?_⟩
      have s6 : Same H5 (L2.upd H5 p6 (.lst ([.bl false, .bl false, .bl false, .bl false] ++ [.bl false, .bl false, .bl false, .bl false] ++ [.bl false, .bl false, .bl false]))) := Same.upd g6
      have e6 : L2.upd H5 p6 (.lst ([.bl false, .bl false, .bl false, .bl false] ++ [.bl false, .bl false, .bl false, .bl false] ++ [.bl false, .bl false, .bl false])) p6 = some (.lst ([.bl false, .bl false, .bl false, .bl false] ++ [.bl false, .bl false, .bl false, .bl false] ++ [.bl false, .bl false, .bl false])) := upd_same
      generalize L2.upd H5 p6 (.lst ([.bl false, .bl false, .bl false, .bl false] ++ [.bl false, .bl false, .bl false, .bl false] ++ [.bl false, .bl false, .bl false])) = H6 at s6 e6 ⊢
      have he6 := s6 _ _ (s5 _ _ he4)
      have ef := s6 _ _ (s5 _ _ (s4 _ _ (s3 _ _ (s2 _ _ e1))))
      refine ⟨_, rfl, .inl ⟨rfl, _, SqL.of ef⟩, p1, _, _, rfl, rfl, SqL.of ef, rfl, rfl, rfl, _, rfl, ?_⟩
      refine iteF ?_
      refine ⟨_, rfl, p6, _, rfl, .inl (SqL.of e6), rfl, rfl, _, rfl, ?_⟩
      refine iteF ?_
      refine ⟨_, rfl, ea, C, .ty "ValueError", .type "ValueError", _, φ, rfl, rfl, he6, ka, L.xc, L.kv, _, rfl, ?_⟩
      refine iteF ?_
      refine ⟨f2 (by decide), fun p7 g7 => ?_⟩
      have s7 : Same H6 (L2.upd H6 p7 (.lst [.str "name", .str "number"])) := Same.upd g7
      have e7 : L2.upd H6 p7 (.lst [.str "name", .str "number"]) p7 = some (.lst [.str "name", .str "number"]) := upd_same
      generalize L2.upd H6 p7 (.lst [.str "name", .str "number"]) = H7 at s7 e7 ⊢
      have ef7 := s7 _ _ ef
      refine ⟨_, rfl, .inl ⟨rfl, _, SqL.of ef7⟩, p1, _, _, 0, rfl, rfl, SqL.of ef7, rfl, rfl, ⟨by decide, rfl⟩, ?_, p7, _, _, _, rfl, rfl, SqL.of e7, rfl, ?_⟩
      · intro m hm hlt
        match m, hlt with
        | n, hl => exact absurd hl (Nat.not_lt_zero n)
      · exact q _ (s1.trans (s2.trans (s3.trans (s4.trans (s5.trans (s6.trans s7))))))
    ·
      have f2 : ∀ {n : Nat}, n ≤ 13 → n ≤ sizeLine := fun h => big303 (by omega)
      refine ⟨_, rfl, ea, C, .ref c0, .ref c0, _, φ, rfl, rfl, he, ka, L.xc, L.k0, _, rfl, ea, C, .ref c1, .ref c1, _, φ, rfl, rfl, he, ka, L.xc, L.k1, f2 (by decide), fun p1 g1 => ?_⟩
      have s1 : Same H (L2.upd H p1 (.lst [.bl false, .bl true])) := Same.upd g1
      have e1 : L2.upd H p1 (.lst [.bl false, .bl true]) p1 = some (.lst [.bl false, .bl true]) := upd_same
      generalize L2.upd H p1 (.lst [.bl false, .bl true]) = H1 at s1 e1 ⊢
      have he1 := s1 _ _ he
      refine ⟨_, rfl, ea, C, .ref c2, .ref c2, _, φ, rfl, rfl, he1, ka, L.xc, L.k2, _, rfl, ea, C, .ref c3, .ref c3, _, φ, rfl, rfl, he1, ka, L.xc, L.k3, _, rfl, ea, C, .ref c4, .ref c4, _, φ, rfl, rfl, he1, ka, L.xc, L.k4, _, rfl, ea, C, .ref c5, .ref c5, _, φ, rfl, rfl, he1, ka, L.xc, L.k5, f2 (by decide), fun p2 g2 => ?_⟩
      have s2 : Same H1 (L2.upd H1 p2 (.lst [.bl false, .bl false, .bl false, .bl false])) := Same.upd g2
      have e2 : L2.upd H1 p2 (.lst [.bl false, .bl false, .bl false, .bl false]) p2 = some (.lst [.bl false, .bl false, .bl false, .bl false]) := upd_same
      generalize L2.upd H1 p2 (.lst [.bl false, .bl false, .bl false, .bl false]) = H2 at s2 e2 ⊢
      have he2 := s2 _ _ he1
      refine ⟨_, rfl, _, rfl, ea, C, .ref c6, .ref c6, _, φ, rfl, rfl, he2, ka, L.xc, L.k6, _, rfl, ea, C, .ref c7, .ref c7, _, φ, rfl, rfl, he2, ka, L.xc, L.k7, _, rfl, ea, C, .ref c8, .ref c8, _, φ, rfl, rfl, he2, ka, L.xc, L.k8, _, rfl, ea, C, .ref c9, .ref c9, _, φ, rfl, rfl, he2, ka, L.xc, L.k9, f2 (by decide), fun p3 g3 => ?_⟩
      have s3 : Same H2 (L2.upd H2 p3 (.lst [.bl false, .bl false, .bl false, .bl false])) := Same.upd g3
      have e3 : L2.upd H2 p3 (.lst [.bl false, .bl false, .bl false, .bl false]) p3 = some (.lst [.bl false, .bl false, .bl false, .bl false]) := upd_same
      generalize L2.upd H2 p3 (.lst [.bl false, .bl false, .bl false, .bl false]) = H3 at s3 e3 ⊢
      refine ⟨p2, p3, _, _, rfl, rfl, s3 _ _ e2, e3, f2 (by decide), fun p4 g4 => ?_⟩
      have s4 : Same H3 (L2.upd H3 p4 (.lst ([.bl false, .bl false, .bl false, .bl false] ++ [.bl false, .bl false, .bl false, .bl false]))) := Same.upd g4
      have e4 : L2.upd H3 p4 (.lst ([.bl false, .bl false, .bl false, .bl false] ++ [.bl false, .bl false, .bl false, .bl false])) p4 = some (.lst ([.bl false, .bl false, .bl false, .bl false] ++ [.bl false, .bl false, .bl false, .bl false])) := upd_same
      generalize L2.upd H3 p4 (.lst ([.bl false, .bl false, .bl false, .bl false] ++ [.bl false, .bl false, .bl false, .bl false])) = H4 at s4 e4 ⊢
      have he4 := s4 _ _ (s3 _ _ he2)
      refine ⟨_, rfl, _, rfl, ea, C, .ref c10, .ref c10, _, φ, rfl, rfl, he4, ka, L.xc, L.k10, _, rfl, ea, C, .ref c11, .ref c11, _, φ, rfl, rfl, he4, ka, L.xc, L.k11, _, rfl, ea, C, .ref c12, .ref c12, _, φ, rfl, rfl, he4, ka, L.xc, L.k12, f2 (by decide), fun p5 g5 => ?_⟩
      have s5 : Same H4 (L2.upd H4 p5 (.lst [.bl false, .bl false, .bl false])) := Same.upd g5
      have e5 : L2.upd H4 p5 (.lst [.bl false, .bl false, .bl false]) p5 = some (.lst [.bl false, .bl false, .bl false]) := upd_same
      generalize L2.upd H4 p5 (.lst [.bl false, .bl false, .bl false]) = H5 at s5 e5 ⊢
      refine ⟨p4, p5, _, _, rfl, rfl, s5 _ _ e4, e5, f2 (by decide), fun p6 g6 => ?_⟩
      have s6 : Same H5 (L2.upd H5 p6 (.lst ([.bl false, .bl false, .bl false, .bl false] ++ [.bl false, .bl false, .bl false, .bl false] ++ [.bl false, .bl false, .bl false]))) := Same.upd g6
      have e6 : L2.upd H5 p6 (.lst ([.bl false, .bl false, .bl false, .bl false] ++ [.bl false, .bl false, .bl false, .bl false] ++ [.bl false, .bl false, .bl false])) p6 = some (.lst ([.bl false, .bl false, .bl false, .bl false] ++ [.bl false, .bl false, .bl false, .bl false] ++ [.bl false, .bl false, .bl false])) := upd_same
      generalize L2.upd H5 p6 (.lst ([.bl false, .bl false, .bl false, .bl false] ++ [.bl false, .bl false, .bl false, .bl false] ++ [.bl false, .bl false, .bl false])) = H6 at s6 e6 ⊢
      have he6 := s6 _ _ (s5 _ _ he4)
      have ef := s6 _ _ (s5 _ _ (s4 _ _ (s3 _ _ (s2 _ _ e1))))
      refine ⟨_, rfl, .inl ⟨rfl, _, SqL.of ef⟩, p1, _, _, rfl, rfl, SqL.of ef, rfl, rfl, rfl, _, rfl, ?_⟩
      refine iteF ?_
      refine ⟨_, rfl, p6, _, rfl, .inl (SqL.of e6), rfl, rfl, _, rfl, ?_⟩
      refine iteF ?_
      refine ⟨_, rfl, ea, C, .ty "ValueError", .type "ValueError", _, φ, rfl, rfl, he6, ka, L.xc, L.kv, _, rfl, ?_⟩
      refine iteF ?_
      refine ⟨f2 (by decide), fun p7 g7 => ?_⟩
      have s7 : Same H6 (L2.upd H6 p7 (.lst [.str "name", .str "number"])) := Same.upd g7
      have e7 : L2.upd H6 p7 (.lst [.str "name", .str "number"]) p7 = some (.lst [.str "name", .str "number"]) := upd_same
      generalize L2.upd H6 p7 (.lst [.str "name", .str "number"]) = H7 at s7 e7 ⊢
      have ef7 := s7 _ _ ef
      refine ⟨_, rfl, .inl ⟨rfl, _, SqL.of ef7⟩, p1, _, _, 1, rfl, rfl, SqL.of ef7, rfl, rfl, ⟨by decide, rfl⟩, ?_, p7, _, _, _, rfl, rfl, SqL.of e7, rfl, ?_⟩
      · intro m hm hlt
        match m, hlt with
        | 0, _ => rfl
      · exact q _ (s1.trans (s2.trans (s3.trans (s4.trans (s5.trans (s6.trans s7))))))
end
end Fr

set_option Elab.async false
set_option linter.all false
set_option maxRecDepth 100000
set_option maxHeartbeats 400000
namespace Fr
open PySem PySem.Spec PyProof.Rows L2 FrM FrR
/-- a new list comes back -/
def RetL (H : Hp) (Q : VK) (xs : List V) : Prop := ∀ r H', Same H H' → H' r = some (.lst xs) → Q (.ref r) H'
section
variable {P : Program} {w : World} {K : PySem.W.Frag} {mg : Str → Option Value} {base : Heap}
/-! _law_shown -/
def spLShw (tb : Addr → Nat → Prop) : Sp := fun vs H Q _ => ∃ (a : Addr) (x y : V) (m : Nat), vs = [.ref a, x, y] ∧ WayAt tb H a m ∧
  ((∃ p u v f, x = .ref p ∧ FrAt H p u v ∧ y = .int f ∧ 0 ≤ f ∧ f ≤ 40 ∧ Q (.str (shT m u v f)) H) ∨ ((BadF H x ∨ ∃ p u v, x = .ref p ∧ FrAt H p u v ∧ Kd H y ∧ okN y 0 (.int 40) = false) ∧ RetL H Q [.str "number"]))
theorem scShw : FnScope ["_law_way_here", "_law_amount_here", "_law_figures", "_law_e"] ["_law_way_here", "_law_amount_here", "_law_figures"] (defScope lShw) := ⟨rfl, rfl, rfl, by decide +kernel, rfl, by decide +kernel, by decide +kernel⟩
/-- what the classes have of shown -/
structure HasShown (K : PySem.W.Frag) (tb : Addr → Nat → Prop) (fS : Addr) : Prop where
  cl : ∀ C m, tb C m → Cls K C
  mt : ∀ C m, tb C m → Meth K C "shown" fS
theorem ok_lshw {f fS fC BN ME c0 c1 c2 c3 c4 c5 c6 c7 c8 c9 c10 c11 c12 : Addr} {fd fdS fdC : FuncData} {tb : Addr → Nat → Prop} (F : Fun K "_law_shown" "_law_shown" lShw f fd) (B : Bn mg) (hx : PySem.W.exmOne K (.ref BN) (.ref ME) = some true) (mME : mg "MeasureError" = some (.ref ME))
    (HS : HasShown K tb fS) (bS : Binds K fdS ["self", "amount", "figures"] []) (GS : FnOk P w K mg base (Fly P w) 3 fS fdS ["self", "amount", "figures"] (spShown BN tb)) (L : LK K c0 c1 c2 c3 c4 c5 c6 c7 c8 c9 c10 c11 c12 BN false true)
    (FC : Fun K "_law_class" "_law_class" lCls fC fdC) (bC : Binds K fdC ["_law_e"] []) (mC : mg "_law_class" = some (.ref fC)) (GC : FnOkH P w K mg base 1 fC fdC ["_law_e"] (spCls K c0 c1 c2 c3 c4 c5 c6 c7 c8 c9 c10 c11 c12)) :
    FnOk P w K mg base CX0 4 f fd ["_law_way_here", "_law_amount_here", "_law_figures"] (spLShw tb) := by
  refine F.ok scShw (fun vs H Q E h => ?_) (fun cdv A outer s H vs Q E hr h => ?_)
  · obtain ⟨a, x, y, m, rfl, _⟩ := h
    rfl
  · obtain ⟨a, x, y, m, rfl, ⟨C, dx, ha, tc⟩, h⟩ := h
    have hr3 : Room 3 _ := hr
    have hr1 : Room 1 _ := hr.mono (by decide)
    have cl := HS.cl C m tc
    have mt := HS.mt C m tc
    refine ⟨_, QB.out (b_one 
      (s_try (K := K) 3 rfl rfl rfl scShw.nd rfl rfl rfl (.inl mME) (fun ps xe E hp => (b_one 
        (s_ret (q_methS (qv 0 rfl (.inl rfl) rfl rfl) cl mt GS hr3 bS .nil hp (qc (qv 1 rfl (.inl rfl) rfl rfl) (qc (qv 2 rfl (.inl rfl) rfl rfl) q_nil rfl) rfl) rfl rfl rfl)))) (fun e => (b_one 
        (s_ret (q_lst (qc (q_callH GC hr1.mark rfl mC FC.kp bC (qc (qv 3 rfl (.inl rfl) rfl rfl) q_nil rfl) rfl rfl rfl) q_nil rfl))))) rfl)), ?_⟩
    have bad : RetL H Q [.str "number"] → (PySem.W.exmOne K (.ref BN) (.ref ME) = some true) ∧ True := fun _ => ⟨hx, trivial⟩
    refine ⟨_, rfl, a, dx, [], rfl, ha, rfl, _, rfl, _, rfl, a, dx, C, m, x, y, rfl, ha, tc, ?_⟩
    rcases h with ⟨p, u, v, f, rfl, g, rfl, h0, h40, q⟩ | ⟨bf | ⟨p, u, v, rfl, g, ky, no⟩, q⟩
    · exact .inl ⟨p, u, v, f, rfl, g, rfl, h0, h40, q⟩
    · refine .inr (.inl ⟨bf, hx, fun ea hea => ?_⟩)
      refine ⟨_, rfl, ea, BN, _, 1, rfl, upd_same, fun _ z => z, .inr ⟨rfl, L⟩, fun H1 s1 => ⟨big303 (by decide), fun r hr => ?_⟩⟩
      exact q r _ ((Same.upd hea).trans (s1.trans (Same.upd hr))) upd_same
    · refine .inr (.inr ⟨p, u, v, rfl, g, ky, no, hx, fun ea hea => ?_⟩)
      refine ⟨_, rfl, ea, BN, _, 1, rfl, upd_same, fun _ z => z, .inr ⟨rfl, L⟩, fun H1 s1 => ⟨big303 (by decide), fun r hr => ?_⟩⟩
      exact q r _ ((Same.upd hea).trans (s1.trans (Same.upd hr))) upd_same
/-! _law_way -/
def spLWay (K : PySem.W.Frag) (tb : Addr → Nat → Prop) : Sp := fun vs H Q _ => ∃ x, vs = [x] ∧ ((∃ m, m < 4 ∧ x = .str (wd m) ∧ ∀ r H', Same H H' → WayAt tb H' r m → Q (.ref r) H') ∨ (NoW K H x ∧ ∀ H', Same H H' → Q (.str "name") H'))
theorem scLWay : FnScope ["_law_word", "_law_e"] ["_law_word"] (defScope lWay) := ⟨rfl, rfl, rfl, by decide +kernel, rfl, by decide +kernel, by decide +kernel⟩
theorem ok_lway {f fW fC BA ME c0 c1 c2 c3 c4 c5 c6 c7 c8 c9 c10 c11 c12 : Addr} {fd fdW fdC : FuncData} {tb : Addr → Nat → Prop} (F : Fun K "_law_way" "_law_way" lWay f fd) (B : Bn mg) (hx : PySem.W.exmOne K (.ref BA) (.ref ME) = some true) (mME : mg "MeasureError" = some (.ref ME))
    (FW : Fun K "way_of" "way_of" sWay fW fdW) (bW : Binds K fdW ["word"] []) (mW : mg "way_of" = some (.ref fW)) (GW : FnOk P w K mg base (Fly P w) 1 fW fdW ["word"] (spWayOf K BA tb)) (L : LK K c0 c1 c2 c3 c4 c5 c6 c7 c8 c9 c10 c11 c12 BA true false)
    (FC : Fun K "_law_class" "_law_class" lCls fC fdC) (bC : Binds K fdC ["_law_e"] []) (mC : mg "_law_class" = some (.ref fC)) (GC : FnOkH P w K mg base 1 fC fdC ["_law_e"] (spCls K c0 c1 c2 c3 c4 c5 c6 c7 c8 c9 c10 c11 c12)) :
    FnOk P w K mg base CX0 2 f fd ["_law_word"] (spLWay K tb) := by
  refine F.ok scLWay (fun vs H Q E h => ?_) (fun cdv A outer s H vs Q E hr h => ?_)
  · obtain ⟨x, rfl, _⟩ := h
    rfl
  · obtain ⟨x, rfl, h⟩ := h
    have hr1 : Room 1 _ := hr
    refine ⟨_, QB.out (b_one 
      (s_try (K := K) 1 rfl rfl rfl scLWay.nd rfl rfl rfl (.inl mME) (fun ps xe E hp => (b_one 
        (s_ret (q_callS GW hr1 rfl mW FW.kp bW .nil hp (qc (qv 0 rfl (.inl rfl) rfl rfl) q_nil rfl) rfl rfl rfl)))) (fun e => (b_one 
        (s_ret (q_callH GC hr1.mark rfl mC FC.kp bC (qc (qv 1 rfl (.inl rfl) rfl rfl) q_nil rfl) rfl rfl rfl)))) rfl)), ?_⟩
    refine ⟨_, rfl, x, rfl, ?_⟩
    rcases h with ⟨m, hm, rfl, q⟩ | ⟨nw, q⟩
    · exact .inl ⟨m, hm, rfl, q⟩
    · refine .inr ⟨nw, hx, fun ea hea => ?_⟩
      refine ⟨_, rfl, ea, BA, _, 0, rfl, upd_same, fun _ z => z, .inl ⟨rfl, L⟩, fun H1 s1 => ?_⟩
      exact q _ ((Same.upd hea).trans s1)
end
end Fr

set_option Elab.async false
set_option linter.all false
set_option maxRecDepth 100000
set_option maxHeartbeats 400000
namespace Fr
open PySem PySem.Spec PyProof.Rows L2 FrM FrR
section
variable {P : Program} {w : World} {K : PySem.W.Frag} {mg : Str → Option Value} {base : Heap}
/-! _law_settled -/
def spLSet : Sp := fun vs H Q _ => ∃ (m : Nat) (a b : Int), m < 4 ∧ vs = [.str (wd m), .int a, .int b] ∧ 0 ≤ a ∧ 0 < b ∧ Sz 1000 a ∧ Sz 1000 b ∧ ∀ H', Same H H' → Q (.int (setl m a b)) H'
theorem scLSet : FnScope ["_law_word", "_law_above", "_law_below", "_law_whole", "_law_left", "_law_more"] ["_law_word", "_law_above", "_law_below"] (defScope lSet) := ⟨rfl, rfl, rfl, by decide +kernel, rfl, by decide +kernel, by decide +kernel⟩
theorem kne {a b : Str} (h : a ≠ b) : ¬ ((Sum.inr a : Key) = Sum.inr b) := fun z => h (Sum.inr.inj z)
/-- the law's dict as it is displayed -/
def m3 (b0 b1 b2 : V) : List (Key × V) := mergeK [] [((Sum.inr ("down" : Str) : Key), b0), ((Sum.inr ("up" : Str) : Key), b1), ((Sum.inr ("away" : Str) : Key), b2)]
theorem m3_len (b0 b1 b2 : V) : (m3 b0 b1 b2).length ≤ 3 := length_mergeK [((Sum.inr ("down" : Str) : Key), b0), ((Sum.inr ("up" : Str) : Key), b1), ((Sum.inr ("away" : Str) : Key), b2)] []
def pick (m : Nat) (b0 b1 b2 b3 : V) : V :=
  match m with
  | 0 => b0
  | 1 => b1
  | 2 => b2
  | _ => b3
/-- what it tells, once even is put in -/
theorem more_at {m : Nat} (hm : m < 4) (b0 b1 b2 b3 : V) : valV (putK (m3 b0 b1 b2) (Sum.inr ("even" : Str) : Key) b3) (Sum.inr (wd m) : Key) =
    some (pick m b0 b1 b2 b3) := by
  show valV (putK (putK (putK (putK ([] : List (Key × V)) (Sum.inr ("down" : Str) : Key) b0) (Sum.inr ("up" : Str) : Key) b1) (Sum.inr ("away" : Str) : Key) b2) (Sum.inr ("even" : Str) : Key) b3) (Sum.inr (wd m) : Key) = _
  rw [valV_put, valV_put, valV_put, valV_put]
  match m, hm with
  | 0, _ => rw [if_neg (kne (by decide +kernel)), if_neg (kne (by decide +kernel)), if_neg (kne (by decide +kernel)), if_pos (show (Sum.inr (wd 0) : Key) = Sum.inr ("down" : Str) from rfl)]; rfl
  | 1, _ => rw [if_neg (kne (by decide +kernel)), if_neg (kne (by decide +kernel)), if_pos (show (Sum.inr (wd 1) : Key) = Sum.inr ("up" : Str) from rfl)]; rfl
  | 2, _ => rw [if_neg (kne (by decide +kernel)), if_pos (show (Sum.inr (wd 2) : Key) = Sum.inr ("away" : Str) from rfl)]; rfl
  | 3, _ => rw [if_pos (show (Sum.inr (wd 3) : Key) = Sum.inr ("even" : Str) from rfl)]; rfl
theorem more_all {m : Nat} (hm : m < 4) (a b : Int) : pick m (V.bl false) (.bl (decide (0 < a - a / b * b))) (.bl (decide (b ≤ 2 * (a - a / b * b)))) (.bl (if 2 * (a - a / b * b) = b then decide (a / b - a / b / 2 * 2 = 1) else decide (b < 2 * (a - a / b * b)))) = V.bl (more m a b) := by
  match m, hm with
  | 0, _ => rfl
  | 1, _ => rfl
  | 2, _ => rfl
  | 3, _ => rfl
theorem put_twice {kv : List (Key × V)} {k j : Key} {x y : V} : valV (putK (putK kv k x) k y) j = valV (putK kv k y) j := by
  rw [valV_put, valV_put, valV_put]
  by_cases h : j = k
  · rw [if_pos h, if_pos h]
  · rw [if_neg h, if_neg h, if_neg h]
theorem ok_lset {f : Addr} {fd : FuncData} (F : Fun K "_law_settled" "_law_settled" lSet f fd) (B : Bn mg) : FnOk P w K mg base CX0 1 f fd ["_law_word", "_law_above", "_law_below"] spLSet := by
  refine F.ok scLSet (fun vs H Q E h => ?_) (fun cdv A outer s H vs Q E hr h => ?_)
  · obtain ⟨m, a, b, hm, rfl, _⟩ := h
    rfl
  · obtain ⟨m, a, b, hm, rfl, ha, hb, za, zb, q⟩ := h
    have hu := hu_of hr
    obtain ⟨r0, r1⟩ := rest_is a b hb
    have zr : Sz 1000 (a - a / b * b) := by unfold Sz at *; omega
    have zq : Sz 1000 (a / b) := za.div hb
    rw [setl_more m a b hb] at q
    refine ⟨_, QB.out (b_cons 
      (s_set 3 scLSet.nd rfl (Or.inl rfl) (q_fdivS (qv 1 rfl (.inl rfl) rfl rfl) (qv 2 rfl (.inl rfl) rfl rfl)) rfl (.inr rfl)) (b_cons 
      (s_set 4 scLSet.nd rfl (Or.inl rfl) (q_sub (qv 1 rfl (.inl rfl) rfl rfl) (q_mulS (qv 3 rfl (.inl rfl) rfl rfl) (qv 2 rfl (.inl rfl) rfl rfl))) rfl (.inr rfl)) (b_cons 
      (s_set 5 scLSet.nd rfl (Or.inl rfl) (q_disp (pp_cons q_str q_bl (pp_cons q_str (q_cmp op_gt (qv 4 rfl (.inl rfl) rfl rfl) q_int rfl) (pp_cons q_str (q_cmp op_ge (q_mulS q_int (qv 4 rfl (.inl rfl) rfl rfl)) (qv 2 rfl (.inl rfl) rfl rfl) rfl) pp_nil))) rfl rfl (by simp) (by decide)) rfl (.inr rfl)) (b_cons 
      (s_dput hu (qv 5 rfl (.inl rfl) rfl rfl) q_str (q_cmp op_gt (q_mulS q_int (qv 4 rfl (.inl rfl) rfl rfl)) (qv 2 rfl (.inl rfl) rfl rfl) rfl) rfl) (b_cons 
      (s_if (t_cmp op_eq (q_mulS q_int (qv 4 rfl (.inl rfl) rfl rfl)) (qv 2 rfl (.inl rfl) rfl rfl) rfl) (b_one 
        (s_dput hu (qv 5 rfl (.inl rfl) rfl rfl) q_str (q_cmp op_eq (q_sub (qv 3 rfl (.inl rfl) rfl rfl) (q_mulS (q_fdivS (qv 3 rfl (.inl rfl) rfl rfl) q_int) q_int)) q_int rfl) rfl)) b_nil) (b_one 
      (s_ret (q_add (qv 3 rfl (.inl rfl) rfl rfl) (q_callTy call_int1 rfl B.int bt_int (qc (q_dget hu (qv 5 rfl (.inl rfl) rfl rfl) (qv 0 rfl (.inl rfl) rfl rfl) (fun _ _ => rfl)) q_nil rfl) (by decide) rfl rfl rfl))))))))), ?_⟩
    refine ⟨_, rfl, _, rfl, _, _, rfl, rfl, ⟨hb, zb.mono (by decide)⟩, ?_⟩
    refine ⟨_, rfl, _, rfl, _, rfl, _, _, rfl, rfl, ⟨zq.mono (by decide), zb.mono (by decide)⟩, _, _, rfl, rfl, ?_⟩
    obtain ⟨x1, hx1⟩ : ∃ x1, x1 = V.bl (decide (0 < a - a / b * b)) := ⟨_, rfl⟩
    obtain ⟨x2, hx2⟩ : ∃ x2, x2 = V.bl (decide (b ≤ 2 * (a - a / b * b))) := ⟨_, rfl⟩
    refine fun D hD => ⟨_, rfl, _, _, rfl, rfl, _, rfl, _, _, rfl, rfl, ⟨sz2, zr.mono (by decide)⟩, _, rfl, _, _, rfl, rfl, upd_same, [((Sum.inr ("down" : Str) : Key), .bl false), ((Sum.inr ("up" : Str) : Key), .bl _), ((Sum.inr ("away" : Str) : Key), .bl _)], rfl, (show 3 ≤ 15 by decide), ?_⟩
    show tSeq _ _ _ _ (L2.upd (L2.upd H D (.dK [])) D (.dK (m3 (.bl false) (V.bl (decide (0 < a - a / b * b))) (V.bl (decide (b ≤ 2 * (a - a / b * b)))))))
    rw [← hx1, ← hx2]
    have s0 : Same H (L2.upd (L2.upd H D (.dK [])) D (.dK (m3 (.bl false) x1 x2))) := fun c o e => by
      rw [upd_ne (ne_of_none e hD), upd_ne (ne_of_none e hD)]; exact e
    have e0 : L2.upd (L2.upd H D (.dK [])) D (.dK (m3 (.bl false) x1 x2)) D = some (.dK (m3 (.bl false) x1 x2)) := upd_same
    have l0 := m3_len (.bl false) x1 x2
    have v0 := fun b3 => more_at hm (.bl false) x1 x2 b3
    generalize L2.upd (L2.upd H D (.dK [])) D (.dK (m3 (.bl false) x1 x2)) = H1 at s0 e0 ⊢
    generalize m3 (.bl false) x1 x2 = kv at e0 l0 v0
    have sD : ∀ {H2 : Hp} {o : HO}, Same H H2 → Same H (L2.upd H2 D o) := fun s => fun c o' e => by rw [upd_ne (ne_of_none e hD)]; exact s _ _ e
    have m0 := more_all hm a b
    rw [← hx1, ← hx2] at m0
    refine ⟨_, rfl, _, _, rfl, rfl, ⟨sz2, zr.mono (by decide)⟩, _, rfl, _, _, rfl, rfl, _, rfl, D, _, rfl, DPut.k (k := Sum.inr ("even" : Str)) e0 (small1000 (by omega)), ?_⟩
    have l1 := length_putK kv (Sum.inr ("even" : Str) : Key) (.bl (decide (b < 2 * (a - a / b * b))))
    have e1 : L2.upd H1 D (.dK (putK kv (Sum.inr ("even" : Str) : Key) (.bl (decide (b < 2 * (a - a / b * b)))))) D = some (.dK (putK kv (Sum.inr ("even" : Str) : Key) (.bl (decide (b < 2 * (a - a / b * b)))))) := upd_same
    have s1 : Same H (L2.upd H1 D (.dK (putK kv (Sum.inr ("even" : Str) : Key) (.bl (decide (b < 2 * (a - a / b * b))))))) := sD s0
    generalize L2.upd H1 D (.dK (putK kv (Sum.inr ("even" : Str) : Key) (.bl (decide (b < 2 * (a - a / b * b)))))) = H2 at e1 s1 ⊢
    refine ⟨_, rfl, _, _, rfl, rfl, ⟨sz2, zr.mono (by decide)⟩, _, rfl, rfl, _, rfl, ?_⟩
    refine ite2 (fun z => ?_) (fun z => ?_)
    · have eb : 2 * (a - a / b * b) = b := by simpa using z
      refine ⟨_, rfl, _, rfl, _, _, rfl, rfl, ⟨by decide, sz2⟩, _, _, rfl, rfl, ⟨(zq.div (by decide)).mono (by decide), sz2⟩, _, _, rfl, rfl, rfl, _, rfl, D, _, rfl, DPut.k (k := Sum.inr ("even" : Str)) e1 (small1000 (by omega)), ?_⟩
      have g := DGet.k (k := Sum.inr (wd m)) (@upd_same H2 D (.dK (putK (putK kv (Sum.inr ("even" : Str) : Key) (.bl (decide (b < 2 * (a - a / b * b))))) (Sum.inr ("even" : Str) : Key) (.bl (decide (V.int (a / b - a / b / 2 * 2) = V.int 1))))))
      rw [put_twice, v0, dec_int, if_pos eb] at *
      rw [show (a / b - a / b / 2 * 2 == 1) = decide (a / b - a / b / 2 * 2 = 1) from rfl, m0] at g
      refine ⟨_, rfl, _, rfl, _, rfl, D, _, rfl, g, .inr ⟨_, rfl, _, _, rfl, rfl, ?_⟩⟩
      exact q _ (sD s1)
    · have eb : ¬ 2 * (a - a / b * b) = b := by simpa using z
      have g := DGet.k (k := Sum.inr (wd m)) e1
      rw [v0] at g
      rw [if_neg eb] at m0
      rw [m0] at g
      refine ⟨_, rfl, _, rfl, _, rfl, D, _, rfl, g, .inr ⟨_, rfl, _, _, rfl, rfl, ?_⟩⟩
      exact q _ s1
end
end Fr

set_option Elab.async false
set_option linter.all false
set_option maxRecDepth 100000
set_option maxHeartbeats 400000
namespace Fr
open PySem PySem.Spec PyProof.Rows L2 FrM FrR
/-- the law's way to put the parts together -/
theorem sh_due {m : Nat} {u v f : Int} {t : Str} (h : figs (wh m u v f) f = t) (h0 : 0 < f) (hl : f ≤ t.length) :
    shT m u v f = sgn u (wh m u v f) ++ (Txt.slice t none (some ((t.length : Int) - f)) ++ ("." : Str) ++ Txt.slice t (some ((t.length : Int) - f)) none) := by
  unfold shT
  rw [if_neg (by omega), h, slice_to h0 hl, slice_from h0 hl, str_assoc, str_assoc, str_assoc]
theorem sh_due0 {m : Nat} {u v f : Int} {t : Str} (h : figs (wh m u v f) f = t) (h0 : f = 0) : shT m u v f = sgn u (wh m u v f) ++ t := by
  unfold shT
  rw [if_pos h0, h]
theorem j_le {n j W : Nat} (hn : n < 10 ^ 100) (hW : W ≤ 41) (h : j ≤ W ∨ 10 ^ (j - 1) ≤ n) : j ≤ 101 := by
  rcases h with h | h
  · omega
  · have : 10 ^ (j - 1) < 10 ^ 100 := Nat.lt_of_le_of_lt h hn
    have := (Nat.pow_lt_pow_iff_right (by decide : 1 < 10)).mp this
    omega
theorem at_sgn {u w : Int} {b : Bool} (h : b = (decide (u < 0) && decide (0 < w))) : atI [V.str (("" : Str)), .str ("-" : Str)] (if b then 1 else 0) = some (.str (sgn u w)) := by
  subst h
  by_cases h1 : u < 0
  · by_cases h2 : 0 < w
    · have e : sgn u w = ("-" : Str) := if_pos ⟨h1, h2⟩
      rw [e, decide_eq_true h1, decide_eq_true h2]; rfl
    · have e : sgn u w = ("" : Str) := if_neg (fun y => h2 y.2)
      rw [e, decide_eq_true h1, decide_eq_false h2]; rfl
  · have e : sgn u w = ("" : Str) := if_neg (fun y => h1 y.1)
    rw [e, decide_eq_false h1]; rfl
section
variable {P : Program} {w : World} {K : PySem.W.Frag} {mg : Str → Option Value} {base : Heap}
/-! _law_due -/
def spDue : Sp := fun vs H Q _ => ∃ (m : Nat) (p : Addr) (u v f : Int), m < 4 ∧ vs = [.str (wd m), .ref p, .int f] ∧ FrAt H p u v ∧ 0 ≤ f ∧ f ≤ 40 ∧ ∀ H', Same H H' → Q (.str (shT m u v f)) H'
theorem scDue : FnScope ["_law_word", "_law_amount_here", "_law_figures", "_law_sized", "_law_turn", "_law_whole", "_law_text", "_law_rest"] ["_law_word", "_law_amount_here", "_law_figures"] (defScope lDue) := ⟨rfl, rfl, rfl, by decide +kernel, rfl, by decide +kernel, by decide +kernel⟩
theorem sz10 : Sz 4000 10 := by show (10 : Nat) < 2 ^ 4000; exact Nat.lt_of_lt_of_le (show 10 < 2 ^ 4 by decide) (Nat.pow_le_pow_right (by decide) (by decide))
theorem p302 : (2 : Nat) ^ 302 ≤ 10 ^ 100 := by decide +kernel
theorem ok_due {f fS : Addr} {fd fdS : FuncData} (F : Fun K "_law_due" "_law_due" lDue f fd) (B : Bn mg)
    (FS : Fun K "_law_settled" "_law_settled" lSet fS fdS) (bS : Binds K fdS ["_law_word", "_law_above", "_law_below"] []) (mS : mg "_law_settled" = some (.ref fS)) :
    FnOk P w K mg base CX0 2 f fd ["_law_word", "_law_amount_here", "_law_figures"] spDue := by
  have GS : FnOk P w K mg base CX0 1 fS fdS ["_law_word", "_law_above", "_law_below"] spLSet := ok_lset FS B
  refine F.ok scDue (fun vs H Q E h => ?_) (fun cdv A outer s H vs Q E hr h => ?_)
  · obtain ⟨m, p, u, v, f, hm, rfl, _⟩ := h
    rfl
  · obtain ⟨m, p, u, v, f, hm, rfl, g, h0, h40, q⟩ := h
    have hr1 : Room 1 _ := hr
    have hp := g.at'
    have hv := g.pos
    have zw := wh_sz m hv g.zu h40
    have zn := wh_nn m (u := u) (f := f) hv
    refine ⟨_, QB.out (b_cons 
      (s_set 3 scDue.nd rfl (Or.inl rfl) (q_callB call_abs rfl B.abs bt_abs (qc (q_ixt (K := K) rfl (qv 1 rfl (.inl rfl) rfl rfl) q_int (fun _ _ => rfl)) q_nil rfl) (by decide) rfl rfl rfl) rfl (.inr rfl)) (b_cons 
      (s_forS PassesOwn.never rfl (i_rng1 rfl B.range (qc (qv 2 rfl (.inl rfl) rfl rfl) q_nil rfl) rfl) (g_name 4 scDue.nd rfl (Or.inl rfl) (.inr rfl)) (b_one 
        (s_set 3 scDue.nd rfl (Or.inl rfl) (q_mulS (qv 3 rfl (.inl rfl) rfl rfl) q_int) rfl (.inr rfl))) (fun _ => rfl)) (b_cons 
      (s_set 5 scDue.nd rfl (Or.inl rfl) (q_call GS hr1 rfl mS FS.kp bS .nil pass0 (qc (qv 0 rfl (.inl rfl) rfl rfl) (qc (qv 3 rfl (.inl rfl) rfl rfl) (qc (q_ixt (K := K) rfl (qv 1 rfl (.inl rfl) rfl rfl) q_int (fun _ _ => rfl)) q_nil rfl) rfl) rfl) rfl rfl rfl) rfl (.inr rfl)) (b_cons 
      (s_set 6 scDue.nd rfl (Or.inl rfl) q_str rfl (.inr rfl)) (b_cons 
      (s_set 7 scDue.nd rfl (Or.inl rfl) (qv 5 rfl (.inl rfl) rfl rfl) rfl (.inr rfl)) (b_cons 
      (s_while PassesOwn.never (t_w (w_or (t_cmp op_gt (qv 7 rfl (.inl rfl) rfl rfl) q_int rfl) (w_or1 (t_cmp op_lt (q_callB call_len_str rfl B.len bt_len (qc (qv 6 rfl (.inl rfl) rfl rfl) q_nil rfl) (by decide) rfl rfl rfl) (q_add (qv 2 rfl (.inl rfl) rfl rfl) q_int) rfl)))) (b_cons 
        (s_set 6 scDue.nd rfl (Or.inl rfl) (q_op op_add_str (q_callTy call_str_int rfl B.str bt_str (qc (q_mod (qv 7 rfl (.inl rfl) rfl rfl) q_int) q_nil rfl) (by decide) rfl rfl rfl) (qv 6 rfl (.inl rfl) rfl rfl)) rfl (.inr rfl)) (b_one 
        (s_set 7 scDue.nd rfl (Or.inl rfl) (q_fdivS (qv 7 rfl (.inl rfl) rfl rfl) q_int) rfl (.inr rfl))))) (b_cons 
      (s_if (t_cmp op_gt (qv 2 rfl (.inl rfl) rfl rfl) q_int rfl) (b_one 
        (s_set 6 scDue.nd rfl (Or.inl rfl) (q_op op_add_str (q_op op_add_str (q_slS (qv 6 rfl (.inl rfl) rfl rfl) o_none (o_some (q_sub (q_callB call_len_str rfl B.len bt_len (qc (qv 6 rfl (.inl rfl) rfl rfl) q_nil rfl) (by decide) rfl rfl rfl) (qv 2 rfl (.inl rfl) rfl rfl)))) q_str) (q_slS (qv 6 rfl (.inl rfl) rfl rfl) (o_some (q_sub (q_callB call_len_str rfl B.len bt_len (qc (qv 6 rfl (.inl rfl) rfl rfl) q_nil rfl) (by decide) rfl rfl rfl) (qv 2 rfl (.inl rfl) rfl rfl))) o_none)) rfl (.inr rfl))) b_nil) (b_one 
      (s_ret (q_op op_add_str (q_ixl (K := K) rfl (q_lst (qc q_str (qc q_str q_nil rfl) rfl)) (q_callTy call_int1 rfl B.int bt_int (qc (q_and (q_cmp op_lt (q_ixt (K := K) rfl (qv 1 rfl (.inl rfl) rfl rfl) q_int (fun _ _ => rfl)) q_int rfl) (q_one (q_cmp op_gt (qv 5 rfl (.inl rfl) rfl rfl) q_int rfl))) q_nil rfl) (by decide) rfl rfl rfl) (fun _ _ => rfl)) (qv 6 rfl (.inl rfl) rfl rfl))))))))))), ?_⟩
    refine ⟨_, rfl, p, _, _, _, rfl, rfl, SqT.of hp, rfl, _, rfl, ?_⟩
    refine ⟨_, rfl, f, rfl, by omega, by omega, ?_⟩
    refine for_inv f.toNat (fun j σ H' => ∃ v4, σ = [some (.str (wd m)), some (.ref p), some (.int f), some (.int (ab u * 10 ^ j)), v4, none, none, none] ∧ H' = H ∧ j ≤ f.toNat) ⟨none, by rw [Int.pow_zero, Int.mul_one]; rfl, rfl, Nat.zero_le _⟩ ?_ ?_ ?_ ?_
    · rintro j σ H2 hj _
      exact hj
    · rintro σ H2 _
      exact Nat.le_refl _
    · rintro j σ H2 x H3 hj ⟨v4, rfl, rfl, _⟩ ⟨rfl, rfl⟩
      have zj : Sz 161 ((10 : Int) ^ j) := by
        have := ten_sz (f := (j : Int)) (by omega)
        rwa [Int.toNat_natCast] at this
      refine ⟨_, rfl, _, _, rfl, rfl, ⟨((ab_sz g.zu).mul zj).mono (by decide), sz10⟩, some (.int (0 + (j : Int))), ?_, rfl, hj⟩
      rw [Int.pow_succ, ← Int.mul_assoc]
      rfl
    · rintro σ H2 ⟨v4, rfl, rfl, _⟩
      have zb : Sz 301 (ab u * 10 ^ f.toNat) := ((ab_sz g.zu).mul (ten_sz h40)).mono (by decide)
      have nb : 0 ≤ ab u * 10 ^ f.toNat := Int.mul_nonneg (ab_nn u) (Int.le_of_lt (Int.pow_pos (by decide)))
      refine ⟨_, rfl, _, rfl, _, rfl, p, _, _, _, rfl, rfl, SqT.of hp, rfl, m, _, _, hm, rfl, nb, hv, zb.mono (by decide), g.zv.mono (by decide), fun H1 s1 => ?_⟩
      obtain ⟨n, hn⟩ : ∃ n : Nat, wh m u v f = n := ⟨(wh m u v f).toNat, by omega⟩
      obtain ⟨W, hW⟩ : ∃ W : Nat, W = f.toNat + 1 := ⟨_, rfl⟩
      have hnl : n < 10 ^ 100 := by
        rw [hn] at zw
        have : n < 2 ^ 302 := zw
        exact Nat.lt_of_lt_of_le this p302
      rw [show setl m (ab u * 10 ^ f.toNat) v = (n : Int) from hn]
      refine ⟨_, rfl, ?_⟩
      refine while_by (fun σ H' => H' = H1 ∧ ∃ j : Nat, σ = [some (.str (wd m)), some (.ref p), some (.int f), some (.int (ab u * 10 ^ f.toNat)), v4, some (.int n), some (.str (txt j n)), some (.int ((n / 10 ^ j : Nat) : Int))] ∧ (j ≤ W ∨ 10 ^ (j - 1) ≤ n))
        (fun (σ : L2.St) _ => match σ[7]?, σ[6]? with | some (some (V.int r)), some (some (V.str t)) => r.toNat + (W - t.length) | _, _ => 0) ⟨rfl, 0, by rw [Nat.pow_zero, Nat.div_one]; rfl, .inl (Nat.zero_le _)⟩ ?_ ?_
      · rintro σ H' ⟨rfl, j, rfl, hj⟩
        have jl := j_le hnl (by omega) hj
        refine ⟨_, rfl, _, _, rfl, rfl, _, rfl, ?_⟩
        refine ite2 (fun z => ?_) (fun z => ?_)
        · have hp0 : (0 : Int) < ((n / 10 ^ j : Nat) : Int) := by simpa using z
          have hc : 10 ^ j ≤ n ∨ j + 1 ≤ W := .inl (Nat.div_pos_iff.mp (Int.natCast_pos.mp hp0)).2
          have em : ((n / 10 ^ j : Nat) : Int) % 10 = ((n / 10 ^ j % 10 : Nat) : Int) := by omega
          have ed : ((n / 10 ^ j : Nat) : Int) / 10 = ((n / 10 ^ (j + 1) : Nat) : Int) := by
            rw [Nat.pow_succ, ← Nat.div_div_eq_div_mul]; omega
          have zd : Sz 4 (((n / 10 ^ j : Nat) : Int) % 10) := by
            unfold Sz
            have : (2 : Nat) ^ 4 = 16 := rfl
            omega
          have tl := text_len (by decide) zd
          refine ⟨_, rfl, _, _, rfl, rfl, (by show (0 : Int) < 10; decide), _, rfl, Nat.lt_of_lt_of_le (sz_log zd (by decide)) (by decide), _, rfl, _, _, rfl, rfl, ?_, ?_⟩
          · exact big303 (Nat.le_trans (Nat.add_le_add tl (Nat.le_of_eq (txt_len j n))) (by omega))
          refine ⟨_, rfl, _, _, rfl, rfl, ⟨by decide, sz10⟩, ⟨rfl, j + 1, ?_, ?_⟩, ?_⟩
          · rw [txt_cons, ← em, ← ed]
            rfl
          · exact hc.symm.imp id id
          · show (((n / 10 ^ j : Nat) : Int) / 10).toNat + (W - _) < ((n / 10 ^ j : Nat) : Int).toNat + (W - (txt j n).length)
            rw [em, ← txt_cons, txt_len, txt_len, Int.toNat_natCast]
            rcases hc with hc | hc
            · have : 0 < n / 10 ^ j := Nat.div_pos hc (Nat.pow_pos (by decide))
              omega
            · omega
        · have hp0 : n / 10 ^ j = 0 := by
            have : ¬ (0 : Int) < ((n / 10 ^ j : Nat) : Int) := fun y => z (decide_eq_true y)
            exact Nat.eq_zero_of_not_pos fun y => this (Int.natCast_pos.mpr y)
          refine ⟨_, rfl, _, rfl, big303 (by rw [txt_len]; omega), _, rfl, _, _, rfl, rfl, _, _, rfl, rfl, _, rfl, ?_⟩
          rw [txt_len]
          refine ite2 (fun z2 => ?_) (fun z2 => ?_)
          · have hl : (j : Int) < f + 1 := by simpa using z2
            have hc : 10 ^ j ≤ n ∨ j + 1 ≤ W := .inr (by omega)
            have em : ((n / 10 ^ j : Nat) : Int) % 10 = ((n / 10 ^ j % 10 : Nat) : Int) := by omega
            have ed : ((n / 10 ^ j : Nat) : Int) / 10 = ((n / 10 ^ (j + 1) : Nat) : Int) := by
              rw [Nat.pow_succ, ← Nat.div_div_eq_div_mul]; omega
            have zd : Sz 4 (((n / 10 ^ j : Nat) : Int) % 10) := by
              unfold Sz
              have : (2 : Nat) ^ 4 = 16 := rfl
              omega
            have tl := text_len (by decide) zd
            refine ⟨_, rfl, _, _, rfl, rfl, (by show (0 : Int) < 10; decide), _, rfl, Nat.lt_of_lt_of_le (sz_log zd (by decide)) (by decide), _, rfl, _, _, rfl, rfl, ?_, ?_⟩
            · exact big303 (Nat.le_trans (Nat.add_le_add tl (Nat.le_of_eq (txt_len j n))) (by omega))
            refine ⟨_, rfl, _, _, rfl, rfl, ⟨by decide, sz10⟩, ⟨rfl, j + 1, ?_, ?_⟩, ?_⟩
            · rw [txt_cons, ← em, ← ed]
              rfl
            · exact hc.symm.imp id id
            · show (((n / 10 ^ j : Nat) : Int) / 10).toNat + (W - _) < ((n / 10 ^ j : Nat) : Int).toNat + (W - (txt j n).length)
              rw [em, ← txt_cons, txt_len, txt_len, Int.toNat_natCast]
              rcases hc with hc | hc
              · have : 0 < n / 10 ^ j := Nat.div_pos hc (Nat.pow_pos (by decide))
                omega
              · omega
          · have hl : ¬ (j : Int) < f + 1 := by simpa using z2
            have h1 : n < 10 ^ j := by
              rcases Nat.div_eq_zero_iff.mp hp0 with y | y
              · exact absurd y (Nat.pos_iff_ne_zero.mp (Nat.pow_pos (by decide)))
              · exact y
            have ft : figs (wh m u v f) f = txt j n := by
              unfold figs
              rw [hn, show f + 1 = ((W : Nat) : Int) by omega]
              refine zfill_low (by omega) h1 (by omega) ?_
              rcases hj with hj | hj
              · exact .inl (by omega)
              · exact .inr hj
            have tl := txt_len j n
            refine ⟨_, rfl, _, _, rfl, rfl, _, rfl, ?_⟩
            refine ite2 (fun z3 => ?_) (fun z3 => ?_)
            · have hf : 0 < f := by simpa using z3
              have e1 := Txt.slice_le (txt j n) none (some (((txt j n).length : Int) - f))
              have e2 := Txt.slice_le (txt j n) (some (((txt j n).length : Int) - f)) none
              have dot : (("." : Str)).length ≤ 1 := by decide +kernel
              have lb : (txt j n).length ≤ sizeLine := big303 (by omega)
              refine ⟨_, rfl, _, rfl, _, rfl, lb, _, rfl, _, _, rfl, rfl, _, rfl, _, rfl, lb, _, _, rfl, rfl, ?_, _, rfl, _, rfl, _, rfl, lb, _, rfl, _, _, rfl, rfl, _, rfl, _, rfl, lb, _, _, rfl, rfl, ?_, ?_⟩
              · exact big303 (by omega)
              · rw [str_len]; exact big303 (by omega)
              have fine := sh_due ft hf (by omega)
              have tlen : (Txt.slice (txt j n) none (some (((txt j n).length : Int) - f)) ++ ("." : Str) ++ Txt.slice (txt j n) (some (((txt j n).length : Int) - f)) none).length ≤ 303 := by rw [str_len, str_len]; omega
              refine ⟨big303 (by decide), fun L hL => ?_⟩
              have sL := Same.upd (o := .lst [V.str (("" : Str)), .str ("-" : Str)]) hL
              refine ⟨_, rfl, p, _, _, _, rfl, rfl, SqT.of (sL _ _ (s1 _ _ hp)), rfl, _, _, rfl, rfl, _, rfl, ?_⟩
              have fin : ∀ b : Bool, b = (decide (u < 0) && decide (0 < wh m u v f)) → atI [V.str (("" : Str)), .str ("-" : Str)] (if b then 1 else 0) = some (.str (sgn u (wh m u v f))) := fun b hb => at_sgn hb
              refine ite2 (fun z1 => ?_) (fun z1 => ?_)
              · refine ⟨_, rfl, _, _, rfl, rfl, .inr ⟨_, rfl, L, _, _, _, rfl, rfl, SqL.of upd_same, fin _ ?_, _, rfl, _, _, rfl, rfl, ?_, ?_⟩⟩
                · rw [z1, ← hn]; rfl
                · exact big303 (Nat.le_trans (Nat.add_le_add (sgn_len _ _) tlen) (by decide))
                · rw [← fine]; exact q _ (s1.trans sL)
              · refine .inr ⟨_, rfl, L, _, _, _, rfl, rfl, SqL.of upd_same, fin _ ?_, _, rfl, _, _, rfl, rfl, ?_, ?_⟩
                · rw [Bool.eq_false_iff.mpr z1]; rfl
                · exact big303 (Nat.le_trans (Nat.add_le_add (sgn_len _ _) tlen) (by decide))
                · rw [← fine]; exact q _ (s1.trans sL)
            · have hf : f = 0 := by
                have : ¬ 0 < f := by simpa using z3
                omega
              have fine := sh_due0 ft hf
              have tlen : (txt j n).length ≤ 303 := by omega
              refine ⟨big303 (by decide), fun L hL => ?_⟩
              have sL := Same.upd (o := .lst [V.str (("" : Str)), .str ("-" : Str)]) hL
              refine ⟨_, rfl, p, _, _, _, rfl, rfl, SqT.of (sL _ _ (s1 _ _ hp)), rfl, _, _, rfl, rfl, _, rfl, ?_⟩
              have fin : ∀ b : Bool, b = (decide (u < 0) && decide (0 < wh m u v f)) → atI [V.str (("" : Str)), .str ("-" : Str)] (if b then 1 else 0) = some (.str (sgn u (wh m u v f))) := fun b hb => at_sgn hb
              refine ite2 (fun z1 => ?_) (fun z1 => ?_)
              · refine ⟨_, rfl, _, _, rfl, rfl, .inr ⟨_, rfl, L, _, _, _, rfl, rfl, SqL.of upd_same, fin _ ?_, _, rfl, _, _, rfl, rfl, ?_, ?_⟩⟩
                · rw [z1, ← hn]; rfl
                · exact big303 (Nat.le_trans (Nat.add_le_add (sgn_len _ _) tlen) (by decide))
                · rw [← fine]; exact q _ (s1.trans sL)
              · refine .inr ⟨_, rfl, L, _, _, _, rfl, rfl, SqL.of upd_same, fin _ ?_, _, rfl, _, _, rfl, rfl, ?_, ?_⟩
                · rw [Bool.eq_false_iff.mpr z1]; rfl
                · exact big303 (Nat.le_trans (Nat.add_le_add (sgn_len _ _) tlen) (by decide))
                · rw [← fine]; exact q _ (s1.trans sL)
      · rintro σ H' R R' hR ⟨v, e1, i, j, e2, e3, k, e4, q'⟩
        refine ⟨v, e1, i, j, e2, e3, k, e4, ?_⟩
        by_cases hk : k = true
        · rw [if_pos hk] at q' ⊢; exact hR _ _ q'
        · rw [if_neg hk] at q' ⊢
          obtain ⟨v, e1, x, e2, l, y, e3, a, b, e4, e5, c, d, e6, e7, k2, e8, q'⟩ := q'
          exact ⟨v, e1, x, e2, l, y, e3, a, b, e4, e5, c, d, e6, e7, k2, e8, hR _ _ q'⟩
end
end Fr

set_option Elab.async false
set_option linter.all false
set_option maxRecDepth 100000
set_option maxHeartbeats 400000
namespace Fr
open PySem PySem.Spec PyProof.Rows L2 FrM FrR
theorem bs (n : Nat) (h : n ≤ 20 := by decide) : n ≤ sizeLine := big303 (by omega)
theorem at_all {xs : List V} {m n : Int} {p : V → Prop} (hx : ∀ v ∈ xs, p v) (hl : (xs.length : Int) = m) (hm : 0 < m) : ∃ v, atI xs (n % m) = some v ∧ p v := by
  have h0 := Int.emod_nonneg n (by omega : m ≠ 0)
  have h1 := Int.emod_lt_of_pos n hm
  obtain ⟨j, hj⟩ : ∃ j : Nat, n % m = j := ⟨(n % m).toNat, by omega⟩
  have hj2 : j < xs.length := by omega
  refine ⟨xs[j], ?_, hx _ (List.getElem_mem hj2)⟩
  rw [hj]
  exact atI_nat (List.getElem?_eq_getElem hj2)
theorem all_of {p : V → Prop} : ∀ {xs : List V}, (xs.foldr (fun x r => p x ∧ r) True) → ∀ v ∈ xs, p v
  | [], _ => fun _ h => (nomatch h)
  | x :: xs, h => fun v hv => by
    rcases List.mem_cons.mp hv with rfl | hv
    · exact h.1
    · exact all_of h.2 v hv
theorem sz_of_lt {a : Int} {n : Nat} (h0 : 0 ≤ a) (h : a < 2 ^ n) : Sz n a := Sz.of (by
  have : (0 : Int) < 2 ^ n := Int.pow_pos (by decide)
  omega) h
theorem fr_at {H : Hp} {p : Addr} {a b g : Int} (h : H p = some (.tup [.int (a / g), .int (b / g)])) (hg : g = ((Int.gcd a b : Nat) : Int)) (hb : 0 < b) (za : Sz 140 a) (zb : Sz 140 b) : FrAt H p (fa a b) (fb a b) := by
  subst hg
  refine ⟨h, ?_, fa_sz za hb, fb_sz zb hb⟩
  show (decide (0 < fb a b) && decide (Int.gcd (fa a b) (fb a b) = 1)) = true
  rw [decide_eq_true (fb_pos a hb), decide_eq_true (f_gcd a hb)]
  rfl
section
variable {P : Program} {w : World} {K : PySem.W.Frag} {mg : Str → Option Value} {base : Heap}
/-! _law_amount -/
def spAmt : Sp := fun vs H Q _ => ∃ n : Int, vs = [.int n] ∧ 0 ≤ n ∧ n < 2147483629 ∧ ∀ p u v H', Same H H' → FrAt H' p u v → Q (.ref p) H'
theorem scAmt : FnScope ["_law_number_here", "_law_way_here", "_law_more", "_law_above", "_law_below", "_law_shared"] ["_law_number_here"] (defScope lAmt) := ⟨rfl, rfl, rfl, by decide +kernel, rfl, by decide +kernel, by decide +kernel⟩
theorem c40 : (10 : Int) ^ (40 : Int).toNat < 2 ^ 139 := by decide +kernel
theorem ok_amt {f fC : Addr} {fd fdC : FuncData} (F : Fun K "_law_amount" "_law_amount" lAmt f fd) (B : Bn mg)
    (FC : Fun K "_law_common" "_law_common" lCom fC fdC) (bC : Binds K fdC ["_law_one", "_law_other"] []) (mC : mg "_law_common" = some (.ref fC)) :
    FnOk P w K mg base CX0 2 f fd ["_law_number_here"] spAmt := by
  have GC : FnOk P w K mg base CX0 1 fC fdC ["_law_one", "_law_other"] spCom := ok_com FC
  refine F.ok scAmt (fun vs H Q E h => ?_) (fun cdv A outer s H vs Q E hr h => ?_)
  · obtain ⟨n, rfl, _⟩ := h
    rfl
  · obtain ⟨n, rfl, h0, h1, q⟩ := h
    have hr1 : Room 1 _ := hr
    obtain ⟨k, hk⟩ : ∃ k, k = n / 4 := ⟨_, rfl⟩
    have k0 : 0 ≤ k := by omega
    have k1 : k < 2147483629 := by omega
    have e6 : (10 : Int) ^ (6 : Int).toNat = 1000000 := by decide
    have e9 : (10 : Int) ^ (9 : Int).toNat = 1000000000 := by decide
    have p6 : (0 : Int) < 10 ^ (6 : Int).toNat := Int.pow_pos (by decide)
    have p9 : (0 : Int) < 10 ^ (9 : Int).toNat := Int.pow_pos (by decide)
    have p40 : (0 : Int) < 10 ^ (40 : Int).toNat := Int.pow_pos (by decide)
    have m40 := Int.emod_lt_of_pos (k * 48271 ^ (5 : Int).toNat) p40
    have n40 := Int.emod_nonneg (k * 48271 ^ (5 : Int).toNat) (by omega : (10 : Int) ^ (40 : Int).toNat ≠ 0)
    have c40' := c40
    have b139 : (2 : Int) ^ 139 = 696898287454081973172991196020261297061888 := by decide +kernel
    obtain ⟨va, hva, a, rfl, a0, a1⟩ : ∃ v, atI [V.int (k % 10 ^ (6 : Int).toNat), .int (k % 10 ^ (6 : Int).toNat), .int (k * 48271 ^ (5 : Int).toNat % 10 ^ (40 : Int).toNat), .int (2 * (k % 1000) + 1)] (n % 4) = some v ∧ ∃ a : Int, v = .int a ∧ 0 ≤ a ∧ a < 2 ^ 139 := by
      refine at_all (all_of ⟨⟨_, rfl, ?_, ?_⟩, ⟨_, rfl, ?_, ?_⟩, ⟨_, rfl, n40, Int.lt_trans m40 c40'⟩, ⟨_, rfl, ?_, ?_⟩, trivial⟩) rfl (by decide)
      all_goals (try rw [e6]); (try rw [b139]); omega
    obtain ⟨v3, hv3, b3, rfl, b30, b31⟩ : ∃ v, atI [V.int 2, .int 20, .int 200, .int 8] (k / 1000 % 4) = some v ∧ ∃ b : Int, v = .int b ∧ 1 ≤ b ∧ b ≤ 1000000000 :=
      at_all (all_of ⟨⟨_, rfl, by decide, by decide⟩, ⟨_, rfl, by decide, by decide⟩, ⟨_, rfl, by decide, by decide⟩, ⟨_, rfl, by decide, by decide⟩, trivial⟩) rfl (by decide)
    obtain ⟨vb, hvb, b, rfl, b0, b1⟩ : ∃ v, atI ([V.int (1 + k / 7 % 40), .int (1 + k / 11 % 10 ^ (9 : Int).toNat), .int (1 + k / 13 % 40)] ++ [V.int b3]) (n % 4) = some v ∧ ∃ b : Int, v = .int b ∧ 1 ≤ b ∧ b ≤ 1000000000 := by
      refine at_all (all_of ⟨⟨_, rfl, ?_, ?_⟩, ⟨_, rfl, ?_, ?_⟩, ⟨_, rfl, ?_, ?_⟩, ⟨_, rfl, b30, b31⟩, trivial⟩) rfl (by decide)
      all_goals (try rw [e9]); omega
    subst hk
    refine ⟨_, QB.out (b_cons 
      (s_set 1 scAmt.nd rfl (Or.inl rfl) (q_mod (qv 0 rfl (.inl rfl) rfl rfl) q_int) rfl (.inr rfl)) (b_cons 
      (s_set 2 scAmt.nd rfl (Or.inl rfl) (q_fdiv (qv 0 rfl (.inl rfl) rfl rfl) q_int) rfl (.inr rfl)) (b_cons 
      (s_set 3 scAmt.nd rfl (Or.inl rfl) (q_ixl (K := K) rfl (q_lst (qc (q_mod (qv 2 rfl (.inl rfl) rfl rfl) (q_pow q_int q_int)) (qc (q_mod (qv 2 rfl (.inl rfl) rfl rfl) (q_pow q_int q_int)) (qc (q_mod (q_mul (qv 2 rfl (.inl rfl) rfl rfl) (q_pow q_int q_int)) (q_pow q_int q_int)) (qc (q_add (q_mul q_int (q_mod (qv 2 rfl (.inl rfl) rfl rfl) q_int)) q_int) q_nil rfl) rfl) rfl) rfl)) (qv 1 rfl (.inl rfl) rfl rfl) (fun _ _ => rfl)) rfl (.inr rfl)) (b_cons 
      (s_set 4 scAmt.nd rfl (Or.inl rfl) (q_lst (qc (q_add q_int (q_mod (q_fdiv (qv 2 rfl (.inl rfl) rfl rfl) q_int) q_int)) (qc (q_add q_int (q_mod (q_fdiv (qv 2 rfl (.inl rfl) rfl rfl) q_int) (q_pow q_int q_int))) (qc (q_add q_int (q_mod (q_fdiv (qv 2 rfl (.inl rfl) rfl rfl) q_int) q_int)) q_nil rfl) rfl) rfl)) rfl (.inr rfl)) (b_cons 
      (s_set 4 scAmt.nd rfl (Or.inl rfl) (q_ixl (K := K) rfl (q_cat (qv 4 rfl (.inl rfl) rfl rfl) (q_lst (qc (q_ixl (K := K) rfl (q_lst (qc q_int (qc q_int (qc q_int (qc q_int q_nil rfl) rfl) rfl) rfl)) (q_mod (q_fdiv (qv 2 rfl (.inl rfl) rfl rfl) q_int) q_int) (fun _ _ => rfl)) q_nil rfl))) (qv 1 rfl (.inl rfl) rfl rfl) (fun _ _ => rfl)) rfl (.inr rfl)) (b_cons 
      (s_set 5 scAmt.nd rfl (Or.inl rfl) (q_call GC hr1 rfl mC FC.kp bC .nil pass0 (qc (qv 3 rfl (.inl rfl) rfl rfl) (qc (qv 4 rfl (.inl rfl) rfl rfl) q_nil rfl) rfl) rfl rfl rfl) rfl (.inr rfl)) (b_cons 
      (s_if (t_cmp op_eq (q_mod (q_fdiv (qv 0 rfl (.inl rfl) rfl rfl) q_int) q_int) q_int rfl) (b_one 
        (s_set 3 scAmt.nd rfl (Or.inl rfl) (q_neg (qv 3 rfl (.inl rfl) rfl rfl)) rfl (.inr rfl))) b_nil) (b_one 
      (s_ret (q_tup (qc (q_fdivS (qv 3 rfl (.inl rfl) rfl rfl) (qv 5 rfl (.inl rfl) rfl rfl)) (qc (q_fdiv (qv 4 rfl (.inl rfl) rfl rfl) (qv 5 rfl (.inl rfl) rfl rfl)) q_nil rfl) rfl))))))))))), ?_⟩
    have pw : ∀ {i j : Int}, 0 ≤ j → j ≤ 1000000 → i.natAbs < 2 ^ 64 → CPow i j := fun a b c => ⟨a, b, c⟩
    refine ⟨_, rfl, _, _, rfl, rfl, (by show (0 : Int) < 4; decide), ?_⟩
    refine ⟨_, rfl, _, _, rfl, rfl, ⟨by decide, by decide⟩, ?_⟩
    refine ⟨_, rfl, _, _, rfl, rfl, pw (by decide) (by decide) (by decide), _, _, rfl, rfl, p6, ?_⟩
    refine ⟨_, rfl, _, _, rfl, rfl, pw (by decide) (by decide) (by decide), _, _, rfl, rfl, p6, ?_⟩
    refine ⟨_, rfl, _, _, rfl, rfl, pw (by decide) (by decide) (by decide), _, _, rfl, rfl, .inl ⟨by omega, by omega⟩, _, _, rfl, rfl, pw (by decide) (by decide) (by decide), _, _, rfl, rfl, p40, ?_⟩
    refine ⟨_, rfl, _, _, rfl, rfl, (by show (0 : Int) < 1000; decide), _, _, rfl, rfl, .inl ⟨by decide, by decide⟩, _, _, rfl, rfl, bs 4, fun J1 g1 => ?_⟩
    have s1 := Same.upd (o := .lst [V.int ((n / 4) % 10 ^ (6 : Int).toNat), .int ((n / 4) % 10 ^ (6 : Int).toNat), .int ((n / 4) * 48271 ^ (5 : Int).toNat % 10 ^ (40 : Int).toNat), .int (2 * ((n / 4) % 1000) + 1)]) g1
    refine ⟨_, rfl, J1, _, _, _, rfl, rfl, SqL.of upd_same, hva, ?_⟩
    generalize L2.upd H J1 _ = H1 at s1 ⊢
    refine ⟨_, rfl, _, _, rfl, rfl, ⟨by decide, by decide⟩, _, _, rfl, rfl, (by show (0 : Int) < 40; decide), _, _, rfl, rfl, ?_⟩
    refine ⟨_, rfl, _, _, rfl, rfl, ⟨by decide, by decide⟩, _, _, rfl, rfl, pw (by decide) (by decide) (by decide), _, _, rfl, rfl, p9, _, _, rfl, rfl, ?_⟩
    refine ⟨_, rfl, _, _, rfl, rfl, ⟨by decide, by decide⟩, _, _, rfl, rfl, (by show (0 : Int) < 40; decide), _, _, rfl, rfl, bs 3, fun J2 g2 => ?_⟩
    have s2 := Same.upd (o := .lst [V.int (1 + (n / 4) / 7 % 40), .int (1 + (n / 4) / 11 % 10 ^ (9 : Int).toNat), .int (1 + (n / 4) / 13 % 40)]) g2
    have e2 : L2.upd H1 J2 (.lst [V.int (1 + (n / 4) / 7 % 40), .int (1 + (n / 4) / 11 % 10 ^ (9 : Int).toNat),   .int (1 + (n / 4) / 13 % 40)]) J2 = some _ := upd_same
    generalize L2.upd H1 J2 _ = H2 at s2 e2 ⊢
    refine ⟨_, rfl, bs 4, fun J3 g3 => ?_⟩
    have s3 := Same.upd (o := .lst [V.int 2, .int 20, .int 200, .int 8]) g3
    refine ⟨_, rfl, _, _, rfl, rfl, ⟨by decide, by decide⟩, _, _, rfl, rfl, (by show (0 : Int) < 4; decide), J3, _, _, _, rfl, rfl, SqL.of upd_same, hv3, bs 1, fun J4 g4 => ?_⟩
    generalize L2.upd H2 J3 _ = H3 at s3 g4 ⊢
    have s4 := Same.upd (o := .lst [V.int b3]) g4
    refine ⟨J2, J4, _, _, rfl, rfl, s4 _ _ (s3 _ _ e2), upd_same, bs 4, fun J5 g5 => ?_⟩
    generalize L2.upd H3 J4 _ = H4 at s4 g5 ⊢
    have s5 := Same.upd (o := .lst ([V.int (1 + (n / 4) / 7 % 40), .int (1 + (n / 4) / 11 % 10 ^ (9 : Int).toNat), .int (1 + (n / 4) / 13 % 40)] ++ [V.int b3])) g5
    refine ⟨_, rfl, J5, _, _, _, rfl, rfl, SqL.of upd_same, hvb, ?_⟩
    generalize L2.upd H4 J5 _ = H5 at s5 ⊢
    have sA : Same H H5 := s1.trans (s2.trans (s3.trans (s4.trans s5)))
    have za : Sz 140 a := sz_of_lt a0 (Int.lt_of_lt_of_le a1 (by decide +kernel))
    have b30' : (2 : Int) ^ 30 = 1073741824 := by decide
    have zb : Sz 30 b := sz_of_lt (by omega) (by omega)
    refine ⟨_, rfl, _, rfl, a, b, rfl, a0, by omega, za.mono (by decide), zb.mono (by decide), ?_⟩
    have gp := gcd_pos a (show 0 < b by omega)
    have zg : Sz 30 ((Int.gcd a b : Nat) : Int) := sz_gcd a (by omega) zb
    have gb : ((Int.gcd a b : Nat) : Int) < 1073741824 := by unfold Sz at zg; omega
    refine ⟨_, rfl, _, _, rfl, rfl, ⟨by decide, by decide⟩, _, _, rfl, rfl, (by show (0 : Int) < 3; decide), rfl, _, rfl, ?_⟩
    refine ite2 (fun z => ?_) (fun z => ?_)
    · refine ⟨_, rfl, _, rfl, _, rfl, _, rfl, _, _, rfl, rfl, ⟨gp, zg.mono (by decide)⟩, _, rfl, _, rfl, _, _, rfl, rfl, ⟨gp, gb⟩, bs 2, fun p hp => ?_⟩
      exact q p _ _ _ (sA.trans (Same.upd hp)) (fr_at upd_same (by rw [Int.neg_gcd]) (by omega) za.neg (zb.mono (by decide)))
    · refine ⟨_, rfl, _, rfl, _, _, rfl, rfl, ⟨gp, zg.mono (by decide)⟩, _, rfl, _, rfl, _, _, rfl, rfl, ⟨gp, gb⟩, bs 2, fun p hp => ?_⟩
      exact q p _ _ _ (sA.trans (Same.upd hp)) (fr_at upd_same rfl (by omega) za (zb.mono (by decide)))
end
end Fr

set_option Elab.async false
set_option linter.all false
set_option maxRecDepth 100000
set_option maxHeartbeats 400000
namespace Fr
open PySem PySem.Spec PyProof.Rows L2 FrM FrR
section
variable {P : Program} {w : World} {K : PySem.W.Frag} {mg : Str → Option Value} {base : Heap}
/-- shown of a fraction, in a def that never raises -/
def spShownN (tb : Addr → Nat → Prop) : Sp := fun vs H Q _ => ∃ (a p : Addr) (m : Nat) (u v f : Int), vs = [.ref a, .ref p, .int f] ∧ WayAt tb H a m ∧ FrAt H p u v ∧ 0 ≤ f ∧ f ≤ 40 ∧ Q (.str (shT m u v f)) H
theorem shown_nox {f BN : Addr} {fd : FuncData} {tb : Addr → Nat → Prop} (G : FnOk P w K mg base (Fly P w) 3 f fd ["self", "amount", "figures"] (spShown BN tb)) :
    FnOk P w K mg base CX0 3 f fd ["self", "amount", "figures"] (spShownN tb) :=
  ⟨fun vs H Q E ⟨a, p, m, u, v, f, e, _⟩ => by rw [e]; rfl, fun A outer s H args us vs Q E hr he hb hv hs => by
    obtain ⟨a, p, m, u, v, f, rfl, ⟨C, dx, ha, tc⟩, g, h0, h1, q⟩ := hs
    refine codeAny_mono (G.run A outer s H args us _ Q (fun _ _ _ => False) hr he hb hv ⟨a, dx, C, m, _, _, rfl, ha, tc, .inl ⟨p, u, v, f, rfl, g, rfl, h0, h1, q⟩⟩) fun r s' h => ?_
    cases r with
    | ok fl => cases fl <;> exact h
    | error e =>
      obtain ⟨_, _, _, _, _, _, _, _, _, _, _, z⟩ := h
      exact z⟩
/-! _law_right -/
def spRight (tb : Addr → Nat → Prop) : Sp := fun vs H Q _ => ∃ (a p : Addr) (m : Nat) (u v f : Int), m < 4 ∧ vs = [.ref a, .str (wd m), .ref p, .int f] ∧ WayAt tb H a m ∧ FrAt H p u v ∧ 0 ≤ f ∧ f ≤ 40 ∧ ∀ H', Same H H' → Q (.bl true) H'
theorem scRight : FnScope ["_law_way_here", "_law_word", "_law_amount_here", "_law_figures", "_law_found", "_law_told"] ["_law_way_here", "_law_word", "_law_amount_here", "_law_figures"] (defScope lRight) := ⟨rfl, rfl, rfl, by decide +kernel, rfl, by decide +kernel, by decide +kernel⟩
theorem FrAt.same {H H' : Hp} {p : Addr} {u v : Int} (h : FrAt H p u v) (s : Same H H') : FrAt H' p u v := ⟨s _ _ h.at', h.fr, h.zu, h.zv⟩
theorem ok_right {f fSh fD fS fT BN : Addr} {fd fdSh fdD fdS fdT : FuncData} {tb : Addr → Nat → Prop} (F : Fun K "_law_right" "_law_right" lRight f fd) (B : Bn mg)
    (HT : HasSet P w K mg base tb) (HS : HasShown K tb fT) (bT : Binds K fdT ["self", "amount", "figures"] []) (GT0 : FnOk P w K mg base (Fly P w) 3 fT fdT ["self", "amount", "figures"] (spShown BN tb))
    (FSh : Fun K "_law_shown" "_law_shown" lShw fSh fdSh) (bSh : Binds K fdSh ["_law_way_here", "_law_amount_here", "_law_figures"] []) (mSh : mg "_law_shown" = some (.ref fSh)) (GSh : FnOk P w K mg base CX0 4 fSh fdSh ["_law_way_here", "_law_amount_here", "_law_figures"] (spLShw tb))
    (FD : Fun K "_law_due" "_law_due" lDue fD fdD) (bD : Binds K fdD ["_law_word", "_law_amount_here", "_law_figures"] []) (mD : mg "_law_due" = some (.ref fD)) (GD : FnOk P w K mg base CX0 2 fD fdD ["_law_word", "_law_amount_here", "_law_figures"] spDue)
    (FS : Fun K "_law_settled" "_law_settled" lSet fS fdS) (bS : Binds K fdS ["_law_word", "_law_above", "_law_below"] []) (mS : mg "_law_settled" = some (.ref fS)) :
    FnOk P w K mg base CX0 5 f fd ["_law_way_here", "_law_word", "_law_amount_here", "_law_figures"] (spRight tb) := by
  have GS : FnOk P w K mg base CX0 1 fS fdS ["_law_word", "_law_above", "_law_below"] spLSet := ok_lset FS B
  have GT := shown_nox GT0
  refine F.ok scRight (fun vs H Q E h => ?_) (fun cdv A outer s H vs Q E hr h => ?_)
  · obtain ⟨a, p, m, u, v, f, hm, rfl, _⟩ := h
    rfl
  · obtain ⟨a, p, m, u, v, f, hm, rfl, ⟨C, dx, ha, tc⟩, g, h0, h40, q⟩ := h
    have hr4 : Room 4 _ := hr
    have hr3 : Room 3 _ := hr.mono (by decide)
    have hr2 : Room 2 _ := hr.mono (by decide)
    have hr1 : Room 1 _ := hr.mono (by decide)
    obtain ⟨fX, fdX, cl, ms, bX, GX⟩ := HT C m tc
    have mt := HS.mt C m tc
    have nb := ab_nn u
    have za : Sz 1000 (ab u) := (ab_sz g.zu).mono (by decide)
    refine ⟨_, QB.out (b_cons 
      (s_set 4 scRight.nd rfl (Or.inl rfl) (q_call GSh hr4 rfl mSh FSh.kp bSh .nil pass0 (qc (qv 0 rfl (.inl rfl) rfl rfl) (qc (qv 2 rfl (.inl rfl) rfl rfl) (qc (qv 3 rfl (.inl rfl) rfl rfl) q_nil rfl) rfl) rfl) rfl rfl rfl) rfl (.inr rfl)) (b_cons 
      (s_if (t_w (w_or (t_not (t_val (q_callB (call_isiK (K := K) rfl) rfl B.isi bt_isinstance (qc (qv 4 rfl (.inl rfl) rfl rfl) (qc (q_bltn (v := .ty "str") rfl B.str bt_str rfl (by decide) rfl) q_nil rfl) rfl) (by decide) rfl rfl rfl) (fun _ => rfl))) (w_or1 (t_cmp op_ne (qv 4 rfl (.inl rfl) rfl rfl) (q_call GD hr2 rfl mD FD.kp bD .nil pass0 (qc (qv 1 rfl (.inl rfl) rfl rfl) (qc (qv 2 rfl (.inl rfl) rfl rfl) (qc (qv 3 rfl (.inl rfl) rfl rfl) q_nil rfl) rfl) rfl) rfl rfl rfl) rfl)))) (b_one 
        (s_ret q_bl)) b_nil) (b_cons 
      (s_if (t_cmp op_ne (q_meth (qv 0 rfl (.inl rfl) rfl rfl) cl mt GT hr3 bT .nil pass0 (qc (qv 2 rfl (.inl rfl) rfl rfl) (qc (qv 3 rfl (.inl rfl) rfl rfl) q_nil rfl) rfl) rfl rfl rfl) (qv 4 rfl (.inl rfl) rfl rfl) rfl) (b_one 
        (s_ret q_bl)) b_nil) (b_cons 
      (s_set 5 scRight.nd rfl (Or.inl rfl) (q_meth (qv 0 rfl (.inl rfl) rfl rfl) cl ms GX hr1 bX .nil pass0 (qc (q_callB call_abs rfl B.abs bt_abs (qc (q_ixt (K := K) rfl (qv 2 rfl (.inl rfl) rfl rfl) q_int (fun _ _ => rfl)) q_nil rfl) (by decide) rfl rfl rfl) (qc (q_ixt (K := K) rfl (qv 2 rfl (.inl rfl) rfl rfl) q_int (fun _ _ => rfl)) q_nil rfl) rfl) rfl rfl rfl) rfl (.inr rfl)) (b_cons 
      (s_if (t_w (w_or (t_not (t_val (q_callB (call_isiK (K := K) rfl) rfl B.isi bt_isinstance (qc (qv 5 rfl (.inl rfl) rfl rfl) (qc (q_bltn (v := .ty "int") rfl B.int bt_int rfl (by decide) rfl) q_nil rfl) rfl) (by decide) rfl rfl rfl) (fun _ => rfl))) (w_or1 (t_val (q_callB (call_isiK (K := K) rfl) rfl B.isi bt_isinstance (qc (qv 5 rfl (.inl rfl) rfl rfl) (qc (q_bltn (v := .ty "bool") rfl B.bool bt_bool rfl (by decide) rfl) q_nil rfl) rfl) (by decide) rfl rfl rfl) (fun _ => rfl))))) (b_one 
        (s_ret q_bl)) b_nil) (b_one 
      (s_ret (q_cmp op_eq (qv 5 rfl (.inl rfl) rfl rfl) (q_call GS hr1 rfl mS FS.kp bS .nil pass0 (qc (qv 1 rfl (.inl rfl) rfl rfl) (qc (q_callB call_abs rfl B.abs bt_abs (qc (q_ixt (K := K) rfl (qv 2 rfl (.inl rfl) rfl rfl) q_int (fun _ _ => rfl)) q_nil rfl) (by decide) rfl rfl rfl) (qc (q_ixt (K := K) rfl (qv 2 rfl (.inl rfl) rfl rfl) q_int (fun _ _ => rfl)) q_nil rfl) rfl) rfl) rfl rfl rfl) rfl)))))))), ?_⟩
    refine ⟨_, rfl, _, rfl, _, rfl, a, _, _, m, rfl, ⟨C, dx, ha, tc⟩, .inl ⟨p, u, v, f, rfl, g, rfl, h0, h40, ?_⟩⟩
    refine ⟨_, rfl, _, .ty "str", _, .type "str", _, rfl, rfl, .str _, k_str_str K, _, rfl, iteF ?_⟩
    refine ⟨_, rfl, _, rfl, _, rfl, _, rfl, m, p, u, v, f, hm, rfl, g, h0, h40, fun H1 s1 => ⟨rfl, _, rfl, ?_⟩⟩
    rw [decide_eq_true rfl]
    refine iteF ?_
    have g1 := g.same s1
    have ha1 := s1 _ _ ha
    refine ⟨_, rfl, a, dx, [], rfl, ha1, rfl, _, rfl, _, rfl, a, p, m, u, v, f, rfl, ⟨C, dx, ha1, tc⟩, g1, h0, h40, _, rfl, rfl, _, rfl, ?_⟩
    rw [decide_eq_true rfl]
    refine iteF ?_
    refine ⟨_, rfl, a, dx, [], rfl, ha1, rfl, _, rfl, p, _, _, _, rfl, rfl, SqT.of g1.at', rfl, _, rfl, _, rfl, p, _, _, _, rfl, rfl, SqT.of g1.at', rfl, _, _, _, rfl, nb, g.pos, za, g.zv.mono (by decide), ?_⟩
    refine ⟨_, rfl, _, .ty "int", _, .type "int", _, rfl, rfl, .int _, k_int_int K, _, rfl, iteF ?_⟩
    refine ⟨_, rfl, _, .ty "bool", _, .type "bool", _, rfl, rfl, .int _, k_int_bool K, _, rfl, iteF ?_⟩
    refine ⟨_, rfl, _, rfl, _, rfl, p, _, _, _, rfl, rfl, SqT.of g1.at', rfl, _, rfl, _, rfl, p, _, _, _, rfl, rfl, SqT.of g1.at', rfl, m, _, _, hm, rfl, nb, g.pos, za, g.zv.mono (by decide), fun H2 s2 => ⟨rfl, ?_⟩⟩
    rw [decide_eq_true rfl]
    exact q _ (s1.trans s2)
/-! _law_made -/
def spMade (tb : Addr → Nat → Prop) : Sp := fun vs H Q _ => ∃ m : Nat, m < 4 ∧ vs = [.str (wd m)] ∧ ∀ (r : Addr) (ys : List Addr) H', Same H H' → H' r = some (.lst (ys.map V.ref)) → (∀ y ∈ ys, WayAt tb H' y m) → ys.length ≤ 2 → Q (.ref r) H'
theorem scMade : FnScope ["_law_word"] ["_law_word"] (defScope lMade) := ⟨rfl, rfl, rfl, by decide +kernel, rfl, by decide +kernel, by decide +kernel⟩
theorem made1 {tb : Addr → Nat → Prop} {H : Hp} {Q : VK} {m : Nat} {C : Addr} (tc : tb C m) (q : ∀ (r : Addr) (ys : List Addr) H', Same H H' → H' r = some (.lst (ys.map V.ref)) → (∀ y ∈ ys, WayAt tb H' y m) → ys.length ≤ 2 → Q (.ref r) H') :
    ∀ x dx, H x = none → H dx = none → dx ≠ x → 1 ≤ sizeLine ∧ ∀ l, L2.upd (L2.upd H dx (.own x)) x (.ins C dx []) l = none → Q (.ref l) (L2.upd (L2.upd (L2.upd H dx (.own x)) x (.ins C dx [])) l (.lst [.ref x])) := fun x dx hx hd ne =>
  ⟨big303 (by decide), fun l hl => q l [x] _ ((made_same hx hd ne).trans (Same.upd hl)) upd_same (fun y hy => by
    rw [List.mem_singleton.mp hy]
    exact ⟨C, dx, Same.upd hl _ _ upd_same, tc⟩) (show 1 ≤ 2 by decide)⟩
theorem ok_made {f CR CD CU CA CE : Addr} {fd : FuncData} (F : Fun K "_law_made" "_law_made" lMade f fd) (B : Bn mg) (M : Ways K mg CR CD CU CA CE) : FnOk P w K mg base CX0 1 f fd ["_law_word"] (spMade (tbOf CR CD CU CA CE)) := by
  refine F.ok scMade (fun vs H Q E h => ?_) (fun cdv A outer s H vs Q E hr h => ?_)
  · obtain ⟨m, hm, rfl, _⟩ := h
    rfl
  · obtain ⟨m, hm, rfl, q⟩ := h
    refine ⟨_, QB.out (b_cons 
      (s_if (t_cmp op_eq (qv 0 rfl (.inl rfl) rfl rfl) q_str rfl) (b_one 
        (s_ret (q_lst (qc (q_makeN M.d rfl M.md rfl) (qc (q_makeN M.r rfl M.mr rfl) q_nil rfl) rfl)))) b_nil) (b_cons 
      (s_if (t_cmp op_eq (qv 0 rfl (.inl rfl) rfl rfl) q_str rfl) (b_one 
        (s_ret (q_lst (qc (q_makeN M.u rfl M.mu rfl) q_nil rfl)))) b_nil) (b_cons 
      (s_if (t_cmp op_eq (qv 0 rfl (.inl rfl) rfl rfl) q_str rfl) (b_one 
        (s_ret (q_lst (qc (q_makeN M.a rfl M.ma rfl) q_nil rfl)))) b_nil) (b_one 
      (s_ret (q_lst (qc (q_makeN M.e rfl M.me rfl) q_nil rfl))))))), ?_⟩
    match m, hm with
    | 0, _ =>
      refine ⟨_, rfl, rfl, _, rfl, iteT fun x dx hx hd ne x2 dx2 hx2 hd2 ne2 => ⟨bs 2, fun l hl => ?_⟩⟩
      have s1 := made_same (C := CD) hx hd ne
      have s2 := made_same (C := CR) hx2 hd2 ne2
      refine q l [x, x2] _ (s1.trans (s2.trans (Same.upd hl))) upd_same (fun y hy => ?_) (show 2 ≤ 2 by decide)
      rcases List.mem_cons.mp hy with z | z
      · rw [z]; exact ⟨CD, dx, Same.upd hl _ _ (s2 _ _ upd_same), .inr (.inl ⟨rfl, rfl⟩)⟩
      · rw [List.mem_singleton.mp z]; exact ⟨CR, dx2, Same.upd hl _ _ upd_same, .inl ⟨rfl, rfl⟩⟩
    | 1, _ => exact ⟨_, rfl, rfl, _, rfl, iteF ⟨_, rfl, rfl, _, rfl, iteT (made1 (.inr (.inr (.inl ⟨rfl, rfl⟩))) q)⟩⟩
    | 2, _ => exact ⟨_, rfl, rfl, _, rfl, iteF ⟨_, rfl, rfl, _, rfl, iteF ⟨_, rfl, rfl, _, rfl, iteT (made1 (.inr (.inr (.inr (.inl ⟨rfl, rfl⟩)))) q)⟩⟩⟩
    | 3, _ => exact ⟨_, rfl, rfl, _, rfl, iteF ⟨_, rfl, rfl, _, rfl, iteF ⟨_, rfl, rfl, _, rfl, iteF (made1 (.inr (.inr (.inr (.inr ⟨rfl, rfl⟩)))) q)⟩⟩⟩
end
end Fr

set_option Elab.async false
set_option linter.all false
set_option maxRecDepth 100000
set_option maxHeartbeats 400000
namespace Fr
open PySem PySem.Spec PyProof.Rows L2 FrM FrR
theorem k_none_str (K : PySem.W.Frag) : PySem.W.kitOne K (.type "NoneType") (.type "str") = some false := by kernel_rfl
theorem k_bool_str (K : PySem.W.Frag) : PySem.W.kitOne K (.type "bool") (.type "str") = some false := by kernel_rfl
theorem k_int_str (K : PySem.W.Frag) : PySem.W.kitOne K (.type "int") (.type "str") = some false := by kernel_rfl
theorem k_list_str (K : PySem.W.Frag) : PySem.W.kitOne K (.type "list") (.type "str") = some false := by kernel_rfl
theorem k_tuple_str (K : PySem.W.Frag) : PySem.W.kitOne K (.type "tuple") (.type "str") = some false := by kernel_rfl
theorem k_dict_str (K : PySem.W.Frag) : PySem.W.kitOne K (.type "dict") (.type "str") = some false := by kernel_rfl
/-- what isinstance asks of the classes -/
structure TyC (K : PySem.W.Frag) (CR C : Addr) : Prop where
  cl : Cls K C
  ha : PySem.W.findIn K (.ref C) "__class__" = some (some (.builtin "object.__class__"))
  hn : PySem.W.specialIn K (.builtin "object.__class__") "__get__" = some (some (.builtin "getset_descriptor.__get__"))
  ht : PySem.W.takesIn K (.builtin "object.__class__") = some true
  hm : PySem.W.mroIn K C (.type "object") = some true
  kt : PySem.W.kitOne K (.ref C) (.ref CR) = some true
/-- the words' list -/
abbrev wdL : List V := [.str "down", .str "up", .str "away", .str "even"]
theorem wd_at (n : Int) : ∃ v, atI wdL (n % 4) = some v ∧ ∃ m, m < 4 ∧ v = .str (wd m) :=
  at_all (all_of ⟨⟨0, by decide, rfl⟩, ⟨1, by decide, rfl⟩, ⟨2, by decide, rfl⟩, ⟨3, by decide, rfl⟩, trivial⟩) rfl (by decide)
theorem fi_at {x y : Int} (b : Bool) (x0 : 0 ≤ x) (x1 : x ≤ 40) (y0 : 0 ≤ y) (y1 : y ≤ 40) : ∃ f, atI [V.int x, .int y] (if b then 1 else 0) = some (.int f) ∧ 0 ≤ f ∧ f ≤ 40 := by
  cases b
  · exact ⟨x, rfl, x0, x1⟩
  · exact ⟨y, rfl, y0, y1⟩
theorem flat1 (z : Str) : ∀ x ∈ [V.str z], isFlat x = true := fun x hx => by rw [List.mem_singleton.mp hx]; rfl
section
variable {P : Program} {w : World} {K : PySem.W.Frag} {mg : Str → Option Value} {base : Heap}
/-! law -/
def spLaw (K : PySem.W.Frag) : Sp := fun vs H Q _ => ∃ (a : Addr) (ns : List Int), vs = [.ref a] ∧ SqL K H a (ns.map V.int) ∧ ns.length ≤ 63 ∧ ∀ H', Q (.bl true) H'
theorem scLaw : FnScope ["_law_script", "_law_words", "_law_k", "_law_number_here", "_law_amount_here", "_law_figures", "_law_word", "_law_way_here", "_law_things", "_law_wrong", "_law_count"] ["_law_script"] (defScope lLaw) := ⟨rfl, rfl, rfl, by decide +kernel, rfl, by decide +kernel, by decide +kernel⟩
theorem ok_law {f fNu fM fA fMa fWa fR fSh CR : Addr} {fd fdNu fdM fdA fdMa fdWa fdR fdSh : FuncData} {tb : Addr → Nat → Prop} (F : Fun K "law" "law" lLaw f fd) (B : Bn mg) (mr : mg "Rounding" = some (.ref CR)) (HY : ∀ C m, tb C m → TyC K CR C)
    (FNu : Fun K "_law_number" "_law_number" lNum fNu fdNu) (bNu : Binds K fdNu ["_law_script", "_law_k"] []) (mNu : mg "_law_number" = some (.ref fNu)) (GNu : FnOk P w K mg base CX0 2 fNu fdNu ["_law_script", "_law_k"] (spNum K))
    (FM : Fun K "_law_mixed" "_law_mixed" lMix fM fdM) (bM : Binds K fdM ["_law_number_here", "_law_k"] []) (mM : mg "_law_mixed" = some (.ref fM))
    (FA : Fun K "_law_amount" "_law_amount" lAmt fA fdA) (bA : Binds K fdA ["_law_number_here"] []) (mA : mg "_law_amount" = some (.ref fA)) (GA : FnOk P w K mg base CX0 2 fA fdA ["_law_number_here"] spAmt)
    (FMa : Fun K "_law_made" "_law_made" lMade fMa fdMa) (bMa : Binds K fdMa ["_law_word"] []) (mMa : mg "_law_made" = some (.ref fMa)) (GMa : FnOk P w K mg base CX0 1 fMa fdMa ["_law_word"] (spMade tb))
    (FWa : Fun K "_law_way" "_law_way" lWay fWa fdWa) (bWa : Binds K fdWa ["_law_word"] []) (mWa : mg "_law_way" = some (.ref fWa)) (GWa : FnOk P w K mg base CX0 2 fWa fdWa ["_law_word"] (spLWay K tb))
    (FR : Fun K "_law_right" "_law_right" lRight fR fdR) (bR : Binds K fdR ["_law_way_here", "_law_word", "_law_amount_here", "_law_figures"] []) (mR : mg "_law_right" = some (.ref fR)) (GR : FnOk P w K mg base CX0 5 fR fdR ["_law_way_here", "_law_word", "_law_amount_here", "_law_figures"] (spRight tb))
    (FSh : Fun K "_law_shown" "_law_shown" lShw fSh fdSh) (bSh : Binds K fdSh ["_law_way_here", "_law_amount_here", "_law_figures"] []) (mSh : mg "_law_shown" = some (.ref fSh)) (GSh : FnOk P w K mg base CX0 4 fSh fdSh ["_law_way_here", "_law_amount_here", "_law_figures"] (spLShw tb)) :
    FnOk P w K mg base CX0 6 f fd ["_law_script"] (spLaw K) := by
  have GM : FnOk P w K mg base CX0 1 fM fdM ["_law_number_here", "_law_k"] spMix := ok_mix FM
  refine F.ok scLaw (fun vs H Q E h => ?_) (fun cdv A outer s H vs Q E hr h => ?_)
  · obtain ⟨a, ns, rfl, _⟩ := h
    rfl
  · obtain ⟨a, ns, rfl, hs, hl, q⟩ := h
    have hr5 : Room 5 _ := hr
    have hr4 : Room 4 _ := hr.mono (by decide)
    have hr2 : Room 2 _ := hr.mono (by decide)
    have hr1 : Room 1 _ := hr.mono (by decide)
    have huN := Nat.lt_of_succ_lt (hu_of hr)
    have d3 : ∀ n : Int, 0 ≤ n / 3 % 5 ∧ n / 3 % 5 ≤ 40 ∧ 0 ≤ n / 3 % 41 ∧ n / 3 % 41 ≤ 40 := fun n => by omega
    have b2 : ∀ {n : Nat}, n ≤ 20 → n ≤ sizeLine := fun h => big303 (by omega)
    refine ⟨_, QB.out (b_cons 
      (s_set 1 scLaw.nd rfl (Or.inl rfl) (q_lst (qc q_str (qc q_str (qc q_str (qc q_str q_nil rfl) rfl) rfl) rfl)) rfl (.inr rfl)) (b_cons 
      (s_forS PassesOwn.never rfl (i_rng1 rfl B.range (qc q_int q_nil rfl) rfl) (g_name 2 scLaw.nd rfl (Or.inl rfl) (.inr rfl)) (b_cons 
        (s_set 3 scLaw.nd rfl (Or.inl rfl) (q_call GNu hr2 rfl mNu FNu.kp bNu .nil pass0 (qc (qv 0 rfl (.inl rfl) rfl rfl) (qc (qv 2 rfl (.inl rfl) rfl rfl) q_nil rfl) rfl) rfl rfl rfl) rfl (.inr rfl)) (b_cons 
        (s_set 4 scLaw.nd rfl (Or.inl rfl) (q_call GA hr2 rfl mA FA.kp bA .nil pass0 (qc (q_call GM hr1 rfl mM FM.kp bM .nil pass0 (qc (qv 3 rfl (.inl rfl) rfl rfl) (qc q_int q_nil rfl) rfl) rfl rfl rfl) q_nil rfl) rfl rfl rfl) rfl (.inr rfl)) (b_cons 
        (s_set 5 scLaw.nd rfl (Or.inl rfl) (q_ixl (K := K) rfl (q_lst (qc (q_mod (q_fdiv (qv 3 rfl (.inl rfl) rfl rfl) q_int) q_int) (qc (q_mod (q_fdiv (qv 3 rfl (.inl rfl) rfl rfl) q_int) q_int) q_nil rfl) rfl)) (q_callTy call_int1 rfl B.int bt_int (qc (q_cmp op_eq (q_mod (qv 3 rfl (.inl rfl) rfl rfl) q_int) q_int rfl) q_nil rfl) (by decide) rfl rfl rfl) (fun _ _ => rfl)) rfl (.inr rfl)) (b_cons 
        (s_set 6 scLaw.nd rfl (Or.inl rfl) (q_ixl (K := K) rfl (qv 1 rfl (.inl rfl) rfl rfl) (q_mod (q_fdiv (qv 3 rfl (.inl rfl) rfl rfl) q_int) q_int) (fun _ _ => rfl)) rfl (.inr rfl)) (b_one 
        (s_forS PassesOwn.never rfl (i_list (K := K) rfl (q_cat (q_call GMa hr1 rfl mMa FMa.kp bMa .nil pass0 (qc (qv 6 rfl (.inl rfl) rfl rfl) q_nil rfl) rfl rfl rfl) (q_lst (qc (q_call GWa hr2 rfl mWa FWa.kp bWa .nil pass0 (qc (qv 6 rfl (.inl rfl) rfl rfl) q_nil rfl) rfl rfl rfl) q_nil rfl)))) (g_name 7 scLaw.nd rfl (Or.inl rfl) (.inr rfl)) (b_one 
          (s_if (t_w (w_or (t_not (t_val (q_callB (call_isiK (K := K) rfl) rfl B.isi bt_isinstance (qc (qv 7 rfl (.inl rfl) rfl rfl) (qc (q_glob (v := .ref CR) rfl mr rfl rfl) q_nil rfl) rfl) (by decide) rfl rfl rfl) (fun _ => rfl))) (w_or1 (t_not (t_val (q_call GR hr5 rfl mR FR.kp bR .nil pass0 (qc (qv 7 rfl (.inl rfl) rfl rfl) (qc (qv 6 rfl (.inl rfl) rfl rfl) (qc (qv 4 rfl (.inl rfl) rfl rfl) (qc (qv 5 rfl (.inl rfl) rfl rfl) q_nil rfl) rfl) rfl) rfl) rfl rfl rfl) (fun _ => rfl)))))) (b_one 
            (s_ret q_bl)) b_nil)) (fun _ => rfl))))))) (fun _ => rfl)) (b_cons 
      (s_set 3 scLaw.nd rfl (Or.inl rfl) (q_call GNu hr2 rfl mNu FNu.kp bNu .nil pass0 (qc (qv 0 rfl (.inl rfl) rfl rfl) (qc q_int q_nil rfl) rfl) rfl rfl rfl) rfl (.inr rfl)) (b_cons 
      (s_set 8 scLaw.nd rfl (Or.inl rfl) (q_lst (qc q_str (qc q_str (qc q_str (qc q_non (qc q_bl (qc q_int (qc (q_lst (qc q_str q_nil rfl)) (qc (q_tup (qc q_str q_nil rfl)) (qc q_dnew (qc q_str q_nil rfl) rfl) rfl) rfl) rfl) rfl) rfl) rfl) rfl) rfl)) rfl (.inr rfl)) (b_cons 
      (s_if (t_cmp op_ne (q_call GWa hr2 rfl mWa FWa.kp bWa .nil pass0 (qc (q_ixl (K := K) rfl (qv 8 rfl (.inl rfl) rfl rfl) (q_mod (qv 3 rfl (.inl rfl) rfl rfl) q_int) (fun _ _ => rfl)) q_nil rfl) rfl rfl rfl) q_str rfl) (b_one 
        (s_ret q_bl)) b_nil) (b_cons 
      (s_set 9 scLaw.nd rfl (Or.inl rfl) (q_ixl (K := K) rfl (q_lst (qc q_non (qc q_int (qc (q_tup (qc q_int (qc q_int q_nil rfl) rfl)) (qc (q_tup (qc q_int (qc q_int q_nil rfl) rfl)) (qc (q_tup (qc q_int (qc (q_neg q_int) q_nil rfl) rfl)) (qc (q_tup (qc q_bl (qc q_int q_nil rfl) rfl)) (qc (q_lst (qc q_int (qc q_int q_nil rfl) rfl)) (qc q_str (qc (q_tup (qc q_int q_nil rfl)) q_nil rfl) rfl) rfl) rfl) rfl) rfl) rfl) rfl) rfl)) (q_mod (q_fdiv (qv 3 rfl (.inl rfl) rfl rfl) q_int) q_int) (fun _ _ => rfl)) rfl (.inr rfl)) (b_cons 
      (s_set 10 scLaw.nd rfl (Or.inl rfl) (q_ixl (K := K) rfl (q_lst (qc (q_neg q_int) (qc q_int (qc q_bl (qc q_non (qc q_str (qc (q_pow q_int q_int) q_nil rfl) rfl) rfl) rfl) rfl) rfl)) (q_mod (q_fdiv (qv 3 rfl (.inl rfl) rfl rfl) q_int) q_int) (fun _ _ => rfl)) rfl (.inr rfl)) (b_cons 
      (s_set 7 scLaw.nd rfl (Or.inl rfl) (q_call GWa hr2 rfl mWa FWa.kp bWa .nil pass0 (qc (q_ixl (K := K) rfl (qv 1 rfl (.inl rfl) rfl rfl) (q_mod (q_fdiv (qv 3 rfl (.inl rfl) rfl rfl) q_int) q_int) (fun _ _ => rfl)) q_nil rfl) rfl rfl rfl) rfl (.inr rfl)) (b_cons 
      (s_if (t_cmp (op_neSL (K := K) rfl huN) (q_call GSh hr4 rfl mSh FSh.kp bSh .nil pass0 (qc (qv 7 rfl (.inl rfl) rfl rfl) (qc (qv 9 rfl (.inl rfl) rfl rfl) (qc (q_ixl (K := K) rfl (q_lst (qc q_int (qc (qv 10 rfl (.inl rfl) rfl rfl) q_nil rfl) rfl)) (q_mod (q_fdiv (qv 3 rfl (.inl rfl) rfl rfl) q_int) q_int) (fun _ _ => rfl)) q_nil rfl) rfl) rfl) rfl rfl rfl) (q_lst (qc q_str q_nil rfl)) rfl) (b_one 
        (s_ret q_bl)) b_nil) (b_one 
      (s_ret (q_cmp (op_eqSL (K := K) rfl huN) (q_call GSh hr4 rfl mSh FSh.kp bSh .nil pass0 (qc (qv 7 rfl (.inl rfl) rfl rfl) (qc (q_tup (qc q_int (qc q_int q_nil rfl) rfl)) (qc (qv 10 rfl (.inl rfl) rfl rfl) q_nil rfl) rfl) rfl) rfl rfl rfl) (q_lst (qc q_str q_nil rfl)) rfl)))))))))))), ?_⟩
    refine ⟨b2 (by decide), fun W gW => ?_⟩
    have s0 : Same H (L2.upd H W (.lst wdL)) := Same.upd gW
    have eW : L2.upd H W (.lst wdL) W = some (.lst wdL) := upd_same
    generalize L2.upd H W (.lst wdL) = H0 at s0 eW ⊢
    refine ⟨6, rfl, by decide, by decide, ?_⟩
    refine for_inv 6 (fun i σ H' => ∃ v2 v3 v4 v5 v6 v7 : Option V, σ = [some (.ref a), some (.ref W), v2, v3, v4, v5, v6, v7, none, none, none] ∧ Same H0 H') ⟨none, none, none, none, none, none, rfl, Same.refl _⟩ ?_ ?_ ?_ ?_
    · rintro i σ H2 hi _
      exact hi
    · rintro σ H2 _
      exact Nat.le_refl _
    · rintro i σ H2 x H3 hi ⟨v2, v3, v4, v5, v6, v7, rfl, s2⟩ ⟨rfl, rfl⟩
      refine ⟨_, rfl, _, rfl, a, ns, _, rfl, (s0.trans s2).seq hs, hl, by omega, by omega, fun n H3 s3 n0 n1 => ?_⟩
      refine ⟨_, rfl, n, 1, rfl, by decide, by decide, fun r r0 r1 => ⟨r, rfl, r0, r1, fun p u v H4 s4 g4 => ?_⟩⟩
      obtain ⟨d0, d1, d2, d4⟩ := d3 n
      obtain ⟨f, hf, f0, f40⟩ := fi_at (decide (V.int (n % 3) = V.int 1)) d0 d1 d2 d4
      obtain ⟨vw, hw, m, hm, rfl⟩ := wd_at (n / 123)
      refine ⟨_, rfl, _, _, rfl, rfl, ⟨by decide, by decide⟩, _, _, rfl, rfl, (by show (0 : Int) < 5; decide), _, rfl, _, _, rfl, rfl, ⟨by decide, by decide⟩, _, _, rfl, rfl, (by show (0 : Int) < 41; decide), bs 2, fun L gL => ?_⟩
      have s5 := Same.upd (o := .lst [V.int (n / 3 % 5), .int (n / 3 % 41)]) gL
      refine ⟨_, rfl, _, _, rfl, rfl, (by show (0 : Int) < 3; decide), rfl, .inr ⟨_, rfl, L, _, _, _, rfl, rfl, SqL.of upd_same, hf, ?_⟩⟩
      generalize L2.upd H4 L _ = H5 at s5 ⊢
      have g5 := g4.same s5
      have s05 : Same H0 H5 := s2.trans (s3.trans (s4.trans s5))
      refine ⟨_, rfl, _, rfl, _, _, rfl, rfl, ⟨by decide, by decide⟩, _, _, rfl, rfl, (by show (0 : Int) < 4; decide), W, _, _, _, rfl, rfl, SqL.of (s05 _ _ eW), hw, ?_⟩
      refine ⟨_, rfl, m, hm, rfl, fun r ys H6 s6 er wy ly => ⟨_, rfl, _, rfl, .inl ⟨m, hm, rfl, fun t H7 s7 wt => ⟨bs 1, fun l gl => ?_⟩⟩⟩⟩
      have s8 := Same.upd (o := .lst [V.ref t]) gl
      have el : L2.upd H7 l (.lst [V.ref t]) l = some (.lst [V.ref t]) := upd_same
      generalize L2.upd H7 l _ = H8 at s8 el ⊢
      refine ⟨r, l, _, _, rfl, rfl, s8 _ _ (s7 _ _ er), el, b2 (by rw [List.length_map]; simp; omega), fun l2 g2 => ?_⟩
      have s9 := Same.upd (o := .lst (ys.map V.ref ++ [V.ref t])) g2
      have e9 : L2.upd H8 l2 (.lst (ys.map V.ref ++ [V.ref t])) l2 = some (.lst (ys.map V.ref ++ [V.ref t])) := upd_same
      generalize L2.upd H8 l2 _ = H9 at s9 e9 ⊢
      have em : ys.map V.ref ++ [V.ref t] = (ys ++ [t]).map V.ref := by rw [List.map_append]; rfl
      rw [em] at e9
      have wz : ∀ y ∈ ys ++ [t], WayAt tb H9 y m := fun y hy => by
        rcases List.mem_append.mp hy with z | z
        · exact ((wy y z).same s7).same (s8.trans s9)
        · rw [List.mem_singleton.mp z]; exact wt.same (s8.trans s9)
      have g9 := g5.same (s6.trans (s7.trans (s8.trans s9)))
      have s09 := s05.trans (s6.trans (s7.trans (s8.trans s9)))
      refine ⟨l2, rfl, ⟨_, SqL.of e9⟩, ?_⟩
      refine for_inv (ys ++ [t]).length (fun j σ H' => ∃ v7 : Option V, σ = [some (.ref a), some (.ref W), some (.int (0 + (i : Int))), some (.int n), some (.ref p), some (.int f), some (.str (wd m)), v7, none, none, none] ∧ Same H9 H') ⟨v7, rfl, Same.refl _⟩ ?_ ?_ ?_ ?_
      · rintro j σ Ha hj ⟨v7, rfl, sa⟩
        exact ⟨_, _, SqL.of (sa _ _ e9), List.getElem?_eq_getElem (by simpa using hj)⟩
      · rintro σ Ha ⟨v7, rfl, sa⟩
        exact ⟨_, SqL.of (sa _ _ e9), by simp⟩
      · rintro j σ Ha x Hb hj ⟨v7, rfl, sa⟩ ⟨rfl, hx⟩
        have hx' := hx _ (SqL.of (sa _ _ e9))
        rw [List.getElem?_map, List.getElem?_eq_getElem hj] at hx'
        cases hx'
        have wj := (wz _ (List.getElem_mem hj)).same sa
        obtain ⟨C, dx, ec, tc⟩ := id wj
        have Y := HY C m tc
        refine ⟨_, rfl, _, .ref CR, .ref C, .ref CR, true, rfl, rfl, .ins ec Y.cl Y.ha Y.hn Y.ht Y.hm, Y.kt, _, rfl, iteF ?_⟩
        refine ⟨_, rfl, _, rfl, _, rfl, _, rfl, _, p, m, u, v, f, hm, rfl, wj, g9.same sa, f0, f40, fun Hc sc => ⟨_, rfl, iteF ?_⟩⟩
        exact ⟨_, rfl, sa.trans sc⟩
      · rintro σ Ha ⟨v7, rfl, sa⟩
        exact ⟨_, _, _, _, _, _, rfl, s09.trans sa⟩
    · rintro σ H2 ⟨v2, v3, v4, v5, v6, v7, rfl, s2⟩
      refine ⟨_, rfl, a, ns, _, rfl, (s0.trans s2).seq hs, hl, by decide, by decide, fun n H3 s3 n0 n1 => ?_⟩
      have eW3 := s3 _ _ (s2 _ _ eW)
      -- things
      refine ⟨b2 (by decide), fun q1 k1 => ?_⟩
      have t1 := Same.upd (o := .lst [V.str "down"]) k1
      have x1 : L2.upd H3 q1 (.lst [V.str "down"]) q1 = some (.lst [V.str "down"]) := upd_same
      generalize L2.upd H3 q1 _ = I1 at t1 x1 ⊢
      refine ⟨b2 (by decide), fun q2 k2 => ?_⟩
      have t2 := Same.upd (o := .tup [V.str "up"]) k2
      have x2 : L2.upd I1 q2 (.tup [V.str "up"]) q2 = some (.tup [V.str "up"]) := upd_same
      generalize L2.upd I1 q2 _ = I2 at t2 x2 ⊢
      refine fun q3 k3 => ?_
      have t3 := Same.upd (o := .dK []) k3
      have x3 : L2.upd I2 q3 (.dK []) q3 = some (.dK []) := upd_same
      generalize L2.upd I2 q3 _ = I3 at t3 x3 ⊢
      refine ⟨bs 10, fun T kT => ?_⟩
      have t4 := Same.upd (o := .lst [V.str "", .str "Down", .str "half", .non, .bl true, .int 5, .ref q1, .ref q2, .ref q3, .str "evenly"]) kT
      have x4 : L2.upd I3 T (.lst [V.str "", .str "Down", .str "half", .non, .bl true, .int 5, .ref q1, .ref q2, .ref q3, .str "evenly"]) T = some (.lst _) := upd_same
      generalize L2.upd I3 T _ = I4 at t4 x4 ⊢
      obtain ⟨vt, ht, nw⟩ : ∃ v, atI [V.str "", .str "Down", .str "half", .non, .bl true, .int 5, .ref q1, .ref q2, .ref q3, .str "evenly"] (n % 10) = some v ∧ NoW K I4 v :=
        at_all (all_of ⟨.inl ⟨_, rfl, by decide +kernel, by decide +kernel, by decide +kernel, by decide +kernel⟩, .inl ⟨_, rfl, by decide +kernel, by decide +kernel, by decide +kernel, by decide +kernel⟩, .inl ⟨_, rfl, by decide +kernel, by decide +kernel, by decide +kernel, by decide +kernel⟩,
          .inr ⟨_, .non, k_none_str K⟩, .inr ⟨_, .bl true, k_bool_str K⟩, .inr ⟨_, .int 5, k_int_str K⟩, .inr ⟨_, .lst (t4 _ _ (t3 _ _ (t2 _ _ x1))), k_list_str K⟩, .inr ⟨_, .tup (t4 _ _ (t3 _ _ x2)), k_tuple_str K⟩, .inr ⟨_, .dK (t4 _ _ x3), k_dict_str K⟩,
          .inl ⟨_, rfl, by decide +kernel, by decide +kernel, by decide +kernel, by decide +kernel⟩, trivial⟩) rfl (by decide)
      refine ⟨_, rfl, _, rfl, _, _, rfl, rfl, (by show (0 : Int) < 10; decide), T, _, _, _, rfl, rfl, SqL.of x4, ht, vt, rfl, .inr ⟨nw, fun I5 t5 => ⟨rfl, _, rfl, ?_⟩⟩⟩
      rw [decide_eq_true rfl]
      refine iteF ?_
      have eW5 := t5 _ _ (t4 _ _ (t3 _ _ (t2 _ _ (t1 _ _ eW3))))
      -- wrong amounts
      refine ⟨b2 (by decide), fun r1 g1 => ?_⟩
      have u1 := Same.upd (o := .tup [V.int 2, .int 4]) g1
      have y1 : L2.upd I5 r1 (.tup [V.int 2, .int 4]) r1 = some (.tup [V.int 2, .int 4]) := upd_same
      generalize L2.upd I5 r1 _ = J1 at u1 y1 ⊢
      refine ⟨b2 (by decide), fun r2 g2 => ?_⟩
      have u2 := Same.upd (o := .tup [V.int 1, .int 0]) g2
      have y2 : L2.upd J1 r2 (.tup [V.int 1, .int 0]) r2 = some (.tup [V.int 1, .int 0]) := upd_same
      generalize L2.upd J1 r2 _ = J2 at u2 y2 ⊢
      refine ⟨_, rfl, b2 (by decide), fun r3 g3 => ?_⟩
      have u3 := Same.upd (o := .tup [V.int 1, .int (-2)]) g3
      have y3 : L2.upd J2 r3 (.tup [V.int 1, .int (-2)]) r3 = some (.tup [V.int 1, .int (-2)]) := upd_same
      generalize L2.upd J2 r3 _ = J3 at u3 y3 ⊢
      refine ⟨b2 (by decide), fun r4 g4 => ?_⟩
      have u4 := Same.upd (o := .tup [V.bl true, .int 1]) g4
      have y4 : L2.upd J3 r4 (.tup [V.bl true, .int 1]) r4 = some (.tup [V.bl true, .int 1]) := upd_same
      generalize L2.upd J3 r4 _ = J4 at u4 y4 ⊢
      refine ⟨b2 (by decide), fun r5 g5 => ?_⟩
      have u5 := Same.upd (o := .lst [V.int 1, .int 2]) g5
      have y5 : L2.upd J4 r5 (.lst [V.int 1, .int 2]) r5 = some (.lst [V.int 1, .int 2]) := upd_same
      generalize L2.upd J4 r5 _ = J5 at u5 y5 ⊢
      refine ⟨b2 (by decide), fun r6 g6 => ?_⟩
      have u6 := Same.upd (o := .tup [V.int 1]) g6
      have y6 : L2.upd J5 r6 (.tup [V.int 1]) r6 = some (.tup [V.int 1]) := upd_same
      generalize L2.upd J5 r6 _ = J6 at u6 y6 ⊢
      refine ⟨bs 9, fun r7 g7 => ?_⟩
      have u7 := Same.upd (o := .lst [V.non, .int 3, .ref r1, .ref r2, .ref r3, .ref r4, .ref r5, .str "1:2", .ref r6]) g7
      have y7 : L2.upd J6 r7 (.lst [V.non, .int 3, .ref r1, .ref r2, .ref r3, .ref r4, .ref r5, .str "1:2", .ref r6]) r7 = some (.lst _) := upd_same
      generalize L2.upd J6 r7 _ = J7 at u7 y7 ⊢
      have z6 := u7 _ _ y6
      have z5 := u7 _ _ (u6 _ _ y5)
      have z4 := u7 _ _ (u6 _ _ (u5 _ _ y4))
      have z3 := u7 _ _ (u6 _ _ (u5 _ _ (u4 _ _ y3)))
      have z2 := u7 _ _ (u6 _ _ (u5 _ _ (u4 _ _ (u3 _ _ y2))))
      have z1 := u7 _ _ (u6 _ _ (u5 _ _ (u4 _ _ (u3 _ _ (u2 _ _ y1)))))
      have sJ : Same I5 J7 := u1.trans (u2.trans (u3.trans (u4.trans (u5.trans (u6.trans u7)))))
      have ki : ∀ {x y : Int}, ∀ v ∈ [V.int x, .int y], Kd J7 v := fun v hv => by
        rcases List.mem_cons.mp hv with z | z
        · subst z; exact .int _
        · rw [List.mem_singleton.mp z]; exact .int _
      obtain ⟨vx, hx, bf⟩ : ∃ v, atI [V.non, .int 3, .ref r1, .ref r2, .ref r3, .ref r4, .ref r5, .str "1:2", .ref r6] (n / 10 % 9) = some v ∧ BadF J7 v :=
        at_all (all_of ⟨.inl .non, .inl (.int 3), .inr ⟨_, _, rfl, z1, ki, by decide⟩, .inr ⟨_, _, rfl, z2, ki, by decide⟩, .inr ⟨_, _, rfl, z3, ki, by decide⟩,
          .inr ⟨_, _, rfl, z4, fun v hv => by
            rcases List.mem_cons.mp hv with z | z
            · subst z; exact .bl _
            · rw [List.mem_singleton.mp z]; exact .int _, rfl⟩, .inl (.lst z5), .inl (.str _), .inr ⟨_, _, rfl, z6, fun v hv => by rw [List.mem_singleton.mp hv]; exact .int _, rfl⟩, trivial⟩) rfl (by decide)
      refine ⟨_, rfl, _, _, rfl, rfl, ⟨by decide, by decide⟩, _, _, rfl, rfl, (by show (0 : Int) < 9; decide), r7, _, _, _, rfl, rfl, SqL.of y7, hx, ?_⟩
      -- wrong counts
      refine ⟨_, rfl, 10, 20, rfl, rfl, ⟨by decide, by decide, by decide⟩, b2 (by decide), fun r8 g8 => ?_⟩
      have u8 := Same.upd (o := .lst [V.int (-1), .int 41, .bl true, .non, .str "2", .int (10 ^ (20 : Int).toNat)]) g8
      obtain ⟨vc, hc, kc, nc⟩ : ∃ v, atI [V.int (-1), .int 41, .bl true, .non, .str "2", .int (10 ^ (20 : Int).toNat)] (n / 90 % 6) = some v ∧ (∀ H', Kd H' v) ∧ okN v 0 (.int 40) = false :=
        at_all (all_of ⟨⟨fun _ => .int _, by decide⟩, ⟨fun _ => .int _, by decide⟩, ⟨fun _ => .bl _, rfl⟩, ⟨fun _ => .non, rfl⟩, ⟨fun _ => .str _, rfl⟩, ⟨fun _ => .int _, by decide⟩, trivial⟩) rfl (by decide)
      refine ⟨_, rfl, _, _, rfl, rfl, ⟨by decide, by decide⟩, _, _, rfl, rfl, (by show (0 : Int) < 6; decide), r8, _, _, _, rfl, rfl, SqL.of upd_same, hc, ?_⟩
      generalize L2.upd J7 r8 _ = J8 at u8 ⊢
      -- a way
      obtain ⟨vw, hw, m, hm, rfl⟩ := wd_at (n / 540)
      refine ⟨_, rfl, _, rfl, _, _, rfl, rfl, ⟨by decide, by decide⟩, _, _, rfl, rfl, (by show (0 : Int) < 4; decide), W, _, _, _, rfl, rfl, SqL.of (u8 _ _ (sJ _ _ eW5)), hw, _, rfl, .inl ⟨m, hm, rfl, fun r H9 s9 wt => ?_⟩⟩
      have bf9 : BadF H9 vx := by
        have sx : Same J7 H9 := u8.trans s9
        rcases bf with k | ⟨p, xs, rfl, e, kd, nf⟩
        · refine .inl ?_
          cases k with
          | non => exact .non
          | str x => exact .str _
          | int i => exact .int _
          | lst e => exact .lst (sx _ _ e)
        · refine .inr ⟨p, xs, rfl, sx _ _ e, fun y hy => ?_, nf⟩
          have k := kd y hy
          cases k with
          | non => exact .non
          | bl b => exact .bl b
          | int i => exact .int i
          | str x => exact .str x
          | lst e => exact .lst (sx _ _ e)
          | tup e => exact .tup (sx _ _ e)
      obtain ⟨v2, h2, _⟩ : ∃ v, atI [V.int 2, vc] (n / 7 % 2) = some v ∧ True := at_all (all_of ⟨trivial, trivial, trivial⟩) rfl (by decide)
      refine ⟨_, rfl, _, rfl, _, rfl, bs 2, fun r9 g9 => ?_⟩
      have s10 := Same.upd (o := .lst [V.int 2, vc]) g9
      refine ⟨_, rfl, _, _, rfl, rfl, ⟨by decide, by decide⟩, _, _, rfl, rfl, (by show (0 : Int) < 2; decide), r9, _, _, _, rfl, rfl, SqL.of upd_same, h2, ?_⟩
      generalize L2.upd H9 r9 _ = Ha at s10 ⊢
      have bfa : BadF Ha vx := by
        rcases bf9 with k | ⟨p, xs, rfl, e, kd, nf⟩
        · refine .inl ?_
          cases k with
          | non => exact .non
          | str x => exact .str _
          | int i => exact .int _
          | lst e => exact .lst (s10 _ _ e)
        · refine .inr ⟨p, xs, rfl, s10 _ _ e, fun y hy => ?_, nf⟩
          have k := kd y hy
          cases k with
          | non => exact .non
          | bl b => exact .bl b
          | int i => exact .int i
          | str x => exact .str x
          | lst e => exact .lst (s10 _ _ e)
          | tup e => exact .tup (s10 _ _ e)
      refine ⟨r, vx, v2, m, rfl, wt.same s10, .inr ⟨.inl bfa, fun ra Hb sb eb => ⟨b2 (by decide), fun rb gb => ?_⟩⟩⟩
      have sc := Same.upd (o := .lst [V.str "number"]) gb
      refine ⟨ra, rb, _, rfl, rfl, SqL.of (sc _ _ eb), SqL.of upd_same, flat1 _, _, rfl, iteF ?_⟩
      generalize L2.upd Hb rb _ = Hc at sc ⊢
      have wc := wt.same (s10.trans (sb.trans sc))
      refine ⟨_, rfl, b2 (by decide), fun rp gp => ?_⟩
      have sd := Same.upd (o := .tup [V.int 1, .int 3]) gp
      have ed : L2.upd Hc rp (.tup [V.int 1, .int 3]) rp = some (.tup [V.int 1, .int 3]) := upd_same
      generalize L2.upd Hc rp _ = Hd at sd ed ⊢
      refine ⟨_, rfl, r, _, vc, m, rfl, wc.same sd, .inr ⟨.inr ⟨rp, 1, 3, rfl, ⟨ed, by decide, ?_, ?_⟩, kc _, nc⟩, fun ra' Hb' sb' eb' => ⟨b2 (by decide), fun rb' gb' => ?_⟩⟩⟩
      · show (1 : Nat) < 2 ^ 140
        decide +kernel
      · show (3 : Nat) < 2 ^ 140
        decide +kernel
      have sc' := Same.upd (o := .lst [V.str "number"]) gb'
      exact ⟨ra', rb', _, rfl, rfl, SqL.of (sc' _ _ eb'), SqL.of upd_same, flat1 _, q _⟩
end
end Fr

set_option Elab.async false
set_option linter.all false
set_option maxRecDepth 100000
set_option maxHeartbeats 4000000
namespace Fr
open PySem PySem.Spec PyProof.Rows L2 FrM FrR
/-- what is asked of a class of refusals without an __init__ -/
def xOk (K : PySem.W.Frag) (C : Addr) : Bool := (PySem.W.clsIn K C).any (fun cd => PySem.W.excMro cd.mro) && PySem.W.hasDictIn K C &&
  PySem.W.findIn K (.ref C) "__getattribute__" == some (some (.builtin "BaseException.__getattribute__")) && PySem.W.findIn K (.ref C) "__getattr__" == some none && PySem.W.findIn K (.ref C) "__setattr__" == some (some (.builtin "object.__setattr__")) &&
  PySem.W.mroIn K C (.type "BaseException") == some true && PySem.W.mroIn K C (.type "object") == some true && PySem.W.findIn K (.ref C) "__class__" == some (some (.builtin "object.__class__"))
theorem x_mk {K : PySem.W.Frag} {C : Addr} (cg : PySem.W.specialIn K (.builtin "object.__class__") "__get__" = some (some (.builtin "getset_descriptor.__get__"))) (ct : PySem.W.takesIn K (.builtin "object.__class__") = some true) (h : xOk K C = true) : XCls K C := by
  unfold xOk at h
  simp only [Bool.and_eq_true, beq_iff_eq] at h
  obtain ⟨⟨⟨⟨⟨⟨⟨h4, h5⟩, h6⟩, h7⟩, h8⟩, h9⟩, h10⟩, h11⟩ := h
  exact ⟨h6, h7, h8, h9, h10, h4, h5, h11, cg, ct⟩
theorem kit_self (K : PySem.W.Frag) (C : Addr) : PySem.W.kitOne K (.ref C) (.ref C) = some true := by
  unfold PySem.W.kitOne
  rw [if_pos (by simp)]
theorem len1 {us : List Value} (h : us.length = 1) : ∃ a, us = [a] := List.length_eq_one_iff.mp h
theorem len2 {us : List Value} (h : us.length = 2) : ∃ a b, us = [a, b] := by
  cases us with
  | nil => cases h
  | cons a r =>
    obtain ⟨b, rfl⟩ := len1 (us := r) (by simpa using h)
    exact ⟨a, b, rfl⟩
theorem len3 {us : List Value} (h : us.length = 3) : ∃ a b c, us = [a, b, c] := by
  cases us with
  | nil => cases h
  | cons a r =>
    obtain ⟨b, c, rfl⟩ := len2 (us := r) (by simpa using h)
    exact ⟨a, b, c, rfl⟩
theorem len4 {us : List Value} (h : us.length = 4) : ∃ a b c d, us = [a, b, c, d] := by
  cases us with
  | nil => cases h
  | cons a r =>
    obtain ⟨b, c, d, rfl⟩ := len3 (us := r) (by simpa using h)
    exact ⟨a, b, c, d, rfl⟩
theorem all_mk {l : PySem.W.OpenLaw} {w : World} {K : PySem.W.Frag} {h : Heap} {mg : Str → Option Value} {fa f0 T1 f1 f2 f3 f4 f5 f6 f7 f8 f9 f10 f11 f12 f13 f14 f15 f16 f17 CR CD CU CA CE fs0 fsh fs1 fs2 fs3 y0 y1 y2 y3 y4 y5 y6 y7 y8 y9 y10 y11 y12 ME : Addr} (X : K.In h) (G : h.Ns mainGlobals mg) (hfa : mg "law" = some (.ref fa))
    {od0 an0 od1 an1 td1 od2 an2 od3 an3 od4 an4 od5 an5 od6 an6 od7 an7 od8 an8 od9 an9 od10 an10 od11 an11 od12 an12 od13 an13 od14 an14 od15 an15 od16 an16 od17 an17 ods0 ans0 odsh ansh ods1 ans1 ods2 ans2 ods3 ans3 : Option Addr} {sl0 sl1 ts1 sl2 sl3 sl4 sl5 sl6 sl7 sl8 sl9 sl10 sl11 sl12 sl13 sl14 sl15 sl16 sl17 sls0 slsh sls1 sls2 sls3 : Array (Option Value)} {oc0 kV0 dc0 pm0 cd0 ct0 oc1 kV1 dc1 pm1 cd1 ct1 to1 oc2 kV2 dc2 pm2 cd2 ct2 oc3 kV3 dc3 pm3 cd3 ct3 oc4 kV4 dc4 pm4 cd4 ct4 oc5 kV5 dc5 pm5 cd5 ct5 oc6 kV6 dc6 pm6 cd6 ct6 oc7 kV7 dc7 pm7 cd7 ct7 oc8 kV8 dc8 pm8 cd8 ct8 oc9 kV9 dc9 pm9 cd9 ct9 oc10 kV10 dc10 pm10 cd10 ct10 oc11 kV11 dc11 pm11 cd11 ct11 oc12 kV12 dc12 pm12 cd12 ct12 oc13 kV13 dc13 pm13 cd13 ct13 oc14 kV14 dc14 pm14 cd14 ct14 oc15 kV15 dc15 pm15 cd15 ct15 oc16 kV16 dc16 pm16 cd16 ct16 oc17 kV17 dc17 pm17 cd17 ct17 ocs0 kVs0 dcs0 pms0 cds0 cts0 ocsh kVsh dcsh pmsh cdsh ctsh ocs1 kVs1 dcs1 pms1 cds1 cts1 ocs2 kVs2 dcs2 pms2 cds2 cts2 ocs3 kVs3 dcs3 pms3 cds3 cts3 : Value} {tn1 : Nat} {t40 : Tok}
    (a0 : PySem.W.nsIn K mainGlobals "is_whole" = some (some (.ref f0)))
    (l0 : K.lookup f0 = some ⟨oc0, od0, .func (PySem.W.fnOf "is_whole" "is_whole" (defArgs sWhole) (defBody sWhole) (defScope sWhole) .none kV0 dc0 pm0 an0 cd0 ct0), sl0⟩)
    (c0 : PySem.W.codeIn K cd0 "is_whole" = true)
    (k0 : PySem.W.keepIn K (.ref f0) = true)
    (a1 : PySem.W.nsIn K mainGlobals "need_whole" = some (some (.ref f1)))
    (l1 : K.lookup f1 = some ⟨oc1, od1, .func (PySem.W.fnOf "need_whole" "need_whole" (defArgs sNeed) (defBody sNeed) (defScope sNeed) (.ref T1) kV1 dc1 pm1 an1 cd1 ct1), sl1⟩)
    (c1 : PySem.W.codeIn K cd1 "need_whole" = true)
    (k1 : PySem.W.keepIn K (.ref f1) = true)
    (d1 : K.lookup T1 = some ⟨to1, td1, .seq #[.none] tn1, ts1⟩)
    (a2 : PySem.W.nsIn K mainGlobals "common_divisor" = some (some (.ref f2)))
    (l2 : K.lookup f2 = some ⟨oc2, od2, .func (PySem.W.fnOf "common_divisor" "common_divisor" (defArgs sDiv) (defBody sDiv) (defScope sDiv) .none kV2 dc2 pm2 an2 cd2 ct2), sl2⟩)
    (c2 : PySem.W.codeIn K cd2 "common_divisor" = true)
    (k2 : PySem.W.keepIn K (.ref f2) = true)
    (a3 : PySem.W.nsIn K mainGlobals "is_fraction" = some (some (.ref f3)))
    (l3 : K.lookup f3 = some ⟨oc3, od3, .func (PySem.W.fnOf "is_fraction" "is_fraction" (defArgs sIsF) (defBody sIsF) (defScope sIsF) .none kV3 dc3 pm3 an3 cd3 ct3), sl3⟩)
    (c3 : PySem.W.codeIn K cd3 "is_fraction" = true)
    (k3 : PySem.W.keepIn K (.ref f3) = true)
    (a4 : PySem.W.nsIn K mainGlobals "whole_power" = some (some (.ref f4)))
    (l4 : K.lookup f4 = some ⟨oc4, od4, .func (PySem.W.fnOf "whole_power" "whole_power" (defArgs sWPow) (defBody sWPow) (defScope sWPow) .none kV4 dc4 pm4 an4 cd4 ct4), sl4⟩)
    (c4 : PySem.W.codeIn K cd4 "whole_power" = true)
    (k4 : PySem.W.keepIn K (.ref f4) = true)
    (a5 : PySem.W.nsIn K mainGlobals "way_of" = some (some (.ref f5)))
    (l5 : K.lookup f5 = some ⟨oc5, od5, .func (PySem.W.fnOf "way_of" "way_of" (defArgs sWay) (defBody sWay) (defScope sWay) .none kV5 dc5 pm5 an5 cd5 ct5), sl5⟩)
    (c5 : PySem.W.codeIn K cd5 "way_of" = true)
    (k5 : PySem.W.keepIn K (.ref f5) = true)
    (a6 : PySem.W.nsIn K mainGlobals "_law_mixed" = some (some (.ref f6)))
    (l6 : K.lookup f6 = some ⟨oc6, od6, .func (PySem.W.fnOf "_law_mixed" "_law_mixed" (defArgs lMix) (defBody lMix) (defScope lMix) .none kV6 dc6 pm6 an6 cd6 ct6), sl6⟩)
    (c6 : PySem.W.codeIn K cd6 "_law_mixed" = true)
    (k6 : PySem.W.keepIn K (.ref f6) = true)
    (a7 : PySem.W.nsIn K mainGlobals "_law_number" = some (some (.ref f7)))
    (l7 : K.lookup f7 = some ⟨oc7, od7, .func (PySem.W.fnOf "_law_number" "_law_number" (defArgs lNum) (defBody lNum) (defScope lNum) .none kV7 dc7 pm7 an7 cd7 ct7), sl7⟩)
    (c7 : PySem.W.codeIn K cd7 "_law_number" = true)
    (k7 : PySem.W.keepIn K (.ref f7) = true)
    (a8 : PySem.W.nsIn K mainGlobals "_law_common" = some (some (.ref f8)))
    (l8 : K.lookup f8 = some ⟨oc8, od8, .func (PySem.W.fnOf "_law_common" "_law_common" (defArgs lCom) (defBody lCom) (defScope lCom) .none kV8 dc8 pm8 an8 cd8 ct8), sl8⟩)
    (c8 : PySem.W.codeIn K cd8 "_law_common" = true)
    (k8 : PySem.W.keepIn K (.ref f8) = true)
    (a9 : PySem.W.nsIn K mainGlobals "_law_class" = some (some (.ref f9)))
    (l9 : K.lookup f9 = some ⟨oc9, od9, .func (PySem.W.fnOf "_law_class" "_law_class" (defArgs lCls) (defBody lCls) (defScope lCls) .none kV9 dc9 pm9 an9 cd9 ct9), sl9⟩)
    (c9 : PySem.W.codeIn K cd9 "_law_class" = true)
    (k9 : PySem.W.keepIn K (.ref f9) = true)
    (a10 : PySem.W.nsIn K mainGlobals "_law_shown" = some (some (.ref f10)))
    (l10 : K.lookup f10 = some ⟨oc10, od10, .func (PySem.W.fnOf "_law_shown" "_law_shown" (defArgs lShw) (defBody lShw) (defScope lShw) .none kV10 dc10 pm10 an10 cd10 ct10), sl10⟩)
    (c10 : PySem.W.codeIn K cd10 "_law_shown" = true)
    (k10 : PySem.W.keepIn K (.ref f10) = true)
    (a11 : PySem.W.nsIn K mainGlobals "_law_way" = some (some (.ref f11)))
    (l11 : K.lookup f11 = some ⟨oc11, od11, .func (PySem.W.fnOf "_law_way" "_law_way" (defArgs lWay) (defBody lWay) (defScope lWay) .none kV11 dc11 pm11 an11 cd11 ct11), sl11⟩)
    (c11 : PySem.W.codeIn K cd11 "_law_way" = true)
    (k11 : PySem.W.keepIn K (.ref f11) = true)
    (a12 : PySem.W.nsIn K mainGlobals "_law_settled" = some (some (.ref f12)))
    (l12 : K.lookup f12 = some ⟨oc12, od12, .func (PySem.W.fnOf "_law_settled" "_law_settled" (defArgs lSet) (defBody lSet) (defScope lSet) .none kV12 dc12 pm12 an12 cd12 ct12), sl12⟩)
    (c12 : PySem.W.codeIn K cd12 "_law_settled" = true)
    (k12 : PySem.W.keepIn K (.ref f12) = true)
    (a13 : PySem.W.nsIn K mainGlobals "_law_due" = some (some (.ref f13)))
    (l13 : K.lookup f13 = some ⟨oc13, od13, .func (PySem.W.fnOf "_law_due" "_law_due" (defArgs lDue) (defBody lDue) (defScope lDue) .none kV13 dc13 pm13 an13 cd13 ct13), sl13⟩)
    (c13 : PySem.W.codeIn K cd13 "_law_due" = true)
    (k13 : PySem.W.keepIn K (.ref f13) = true)
    (a14 : PySem.W.nsIn K mainGlobals "_law_amount" = some (some (.ref f14)))
    (l14 : K.lookup f14 = some ⟨oc14, od14, .func (PySem.W.fnOf "_law_amount" "_law_amount" (defArgs lAmt) (defBody lAmt) (defScope lAmt) .none kV14 dc14 pm14 an14 cd14 ct14), sl14⟩)
    (c14 : PySem.W.codeIn K cd14 "_law_amount" = true)
    (k14 : PySem.W.keepIn K (.ref f14) = true)
    (a15 : PySem.W.nsIn K mainGlobals "_law_right" = some (some (.ref f15)))
    (l15 : K.lookup f15 = some ⟨oc15, od15, .func (PySem.W.fnOf "_law_right" "_law_right" (defArgs lRight) (defBody lRight) (defScope lRight) .none kV15 dc15 pm15 an15 cd15 ct15), sl15⟩)
    (c15 : PySem.W.codeIn K cd15 "_law_right" = true)
    (k15 : PySem.W.keepIn K (.ref f15) = true)
    (a16 : PySem.W.nsIn K mainGlobals "_law_made" = some (some (.ref f16)))
    (l16 : K.lookup f16 = some ⟨oc16, od16, .func (PySem.W.fnOf "_law_made" "_law_made" (defArgs lMade) (defBody lMade) (defScope lMade) .none kV16 dc16 pm16 an16 cd16 ct16), sl16⟩)
    (c16 : PySem.W.codeIn K cd16 "_law_made" = true)
    (k16 : PySem.W.keepIn K (.ref f16) = true)
    (a17 : PySem.W.nsIn K mainGlobals "law" = some (some (.ref f17)))
    (l17 : K.lookup f17 = some ⟨oc17, od17, .func (PySem.W.fnOf "law" "law" (defArgs lLaw) (defBody lLaw) (defScope lLaw) .none kV17 dc17 pm17 an17 cd17 ct17), sl17⟩)
    (c17 : PySem.W.codeIn K cd17 "law" = true)
    (k17 : PySem.W.keepIn K (.ref f17) = true)
    (mCR : PySem.W.nsIn K mainGlobals "Rounding" = some (some (.ref CR)))
    (mCD : PySem.W.nsIn K mainGlobals "Down" = some (some (.ref CD)))
    (mCU : PySem.W.nsIn K mainGlobals "Up" = some (some (.ref CU)))
    (mCA : PySem.W.nsIn K mainGlobals "Away" = some (some (.ref CA)))
    (mCE : PySem.W.nsIn K mainGlobals "Even" = some (some (.ref CE)))
    (as0CR : PySem.W.findIn K (.ref CR) "settled" = some (some (.ref fs0)))
    (is0 : PySem.W.isFn K (.ref fs0) = true)
    (ls0 : K.lookup fs0 = some ⟨ocs0, ods0, .func (PySem.W.fnOf "settled" "Rounding.settled" (defArgs mSet0) (defBody mSet0) (defScope mSet0) .none kVs0 dcs0 pms0 ans0 cds0 cts0), sls0⟩)
    (cs0 : PySem.W.codeIn K cds0 "Rounding.settled" = true)
    (ks0 : PySem.W.keepIn K (.ref fs0) = true)
    (ashCR : PySem.W.findIn K (.ref CR) "shown" = some (some (.ref fsh)))
    (ish : PySem.W.isFn K (.ref fsh) = true)
    (lsh : K.lookup fsh = some ⟨ocsh, odsh, .func (PySem.W.fnOf "shown" "Rounding.shown" (defArgs mShown) (defBody mShown) (defScope mShown) .none kVsh dcsh pmsh ansh cdsh ctsh), slsh⟩)
    (csh : PySem.W.codeIn K cdsh "Rounding.shown" = true)
    (ksh : PySem.W.keepIn K (.ref fsh) = true)
    (as1CU : PySem.W.findIn K (.ref CU) "settled" = some (some (.ref fs1)))
    (is1 : PySem.W.isFn K (.ref fs1) = true)
    (ls1 : K.lookup fs1 = some ⟨ocs1, ods1, .func (PySem.W.fnOf "settled" "Up.settled" (defArgs mSet1) (defBody mSet1) (defScope mSet1) .none kVs1 dcs1 pms1 ans1 cds1 cts1), sls1⟩)
    (cs1 : PySem.W.codeIn K cds1 "Up.settled" = true)
    (ks1 : PySem.W.keepIn K (.ref fs1) = true)
    (as2CA : PySem.W.findIn K (.ref CA) "settled" = some (some (.ref fs2)))
    (is2 : PySem.W.isFn K (.ref fs2) = true)
    (ls2 : K.lookup fs2 = some ⟨ocs2, ods2, .func (PySem.W.fnOf "settled" "Away.settled" (defArgs mSet2) (defBody mSet2) (defScope mSet2) .none kVs2 dcs2 pms2 ans2 cds2 cts2), sls2⟩)
    (cs2 : PySem.W.codeIn K cds2 "Away.settled" = true)
    (ks2 : PySem.W.keepIn K (.ref fs2) = true)
    (as3CE : PySem.W.findIn K (.ref CE) "settled" = some (some (.ref fs3)))
    (is3 : PySem.W.isFn K (.ref fs3) = true)
    (ls3 : K.lookup fs3 = some ⟨ocs3, ods3, .func (PySem.W.fnOf "settled" "Even.settled" (defArgs mSet3) (defBody mSet3) (defScope mSet3) .none kVs3 dcs3 pms3 ans3 cds3 cts3), sls3⟩)
    (cs3 : PySem.W.codeIn K cds3 "Even.settled" = true)
    (ks3 : PySem.W.keepIn K (.ref fs3) = true)
    (pgCR : PySem.W.plainGet K CR Str.empty = true)
    (hdCR : PySem.W.hasDictIn K CR = true)
    (poCR : PySem.W.plainOver K CR = true)
    (saCR : PySem.W.findIn K (.ref CR) "__setattr__" = some (some (.builtin "object.__setattr__")))
    (mkCR : PySem.W.makesIn K CR = true)
    (kcCR : PySem.W.keepIn K (.ref CR) = true)
    (inCR : PySem.W.findIn K (.ref CR) "__init__" = some (some (.builtin "object.__init__")))
    (caCR : PySem.W.findIn K (.ref CR) "__class__" = some (some (.builtin "object.__class__")))
    (moCR : PySem.W.mroIn K CR (.type "object") = some true)
    (ktCR : PySem.W.kitOne K (.ref CR) (.ref CR) = some true)
    (as0CD : PySem.W.findIn K (.ref CD) "settled" = some (some (.ref fs0)))
    (ashCD : PySem.W.findIn K (.ref CD) "shown" = some (some (.ref fsh)))
    (pgCD : PySem.W.plainGet K CD Str.empty = true)
    (hdCD : PySem.W.hasDictIn K CD = true)
    (poCD : PySem.W.plainOver K CD = true)
    (saCD : PySem.W.findIn K (.ref CD) "__setattr__" = some (some (.builtin "object.__setattr__")))
    (mkCD : PySem.W.makesIn K CD = true)
    (kcCD : PySem.W.keepIn K (.ref CD) = true)
    (inCD : PySem.W.findIn K (.ref CD) "__init__" = some (some (.builtin "object.__init__")))
    (caCD : PySem.W.findIn K (.ref CD) "__class__" = some (some (.builtin "object.__class__")))
    (moCD : PySem.W.mroIn K CD (.type "object") = some true)
    (ktCD : PySem.W.kitOne K (.ref CD) (.ref CR) = some true)
    (ashCU : PySem.W.findIn K (.ref CU) "shown" = some (some (.ref fsh)))
    (pgCU : PySem.W.plainGet K CU Str.empty = true)
    (hdCU : PySem.W.hasDictIn K CU = true)
    (poCU : PySem.W.plainOver K CU = true)
    (saCU : PySem.W.findIn K (.ref CU) "__setattr__" = some (some (.builtin "object.__setattr__")))
    (mkCU : PySem.W.makesIn K CU = true)
    (kcCU : PySem.W.keepIn K (.ref CU) = true)
    (inCU : PySem.W.findIn K (.ref CU) "__init__" = some (some (.builtin "object.__init__")))
    (caCU : PySem.W.findIn K (.ref CU) "__class__" = some (some (.builtin "object.__class__")))
    (moCU : PySem.W.mroIn K CU (.type "object") = some true)
    (ktCU : PySem.W.kitOne K (.ref CU) (.ref CR) = some true)
    (ashCA : PySem.W.findIn K (.ref CA) "shown" = some (some (.ref fsh)))
    (pgCA : PySem.W.plainGet K CA Str.empty = true)
    (hdCA : PySem.W.hasDictIn K CA = true)
    (poCA : PySem.W.plainOver K CA = true)
    (saCA : PySem.W.findIn K (.ref CA) "__setattr__" = some (some (.builtin "object.__setattr__")))
    (mkCA : PySem.W.makesIn K CA = true)
    (kcCA : PySem.W.keepIn K (.ref CA) = true)
    (inCA : PySem.W.findIn K (.ref CA) "__init__" = some (some (.builtin "object.__init__")))
    (caCA : PySem.W.findIn K (.ref CA) "__class__" = some (some (.builtin "object.__class__")))
    (moCA : PySem.W.mroIn K CA (.type "object") = some true)
    (ktCA : PySem.W.kitOne K (.ref CA) (.ref CR) = some true)
    (ashCE : PySem.W.findIn K (.ref CE) "shown" = some (some (.ref fsh)))
    (pgCE : PySem.W.plainGet K CE Str.empty = true)
    (hdCE : PySem.W.hasDictIn K CE = true)
    (poCE : PySem.W.plainOver K CE = true)
    (saCE : PySem.W.findIn K (.ref CE) "__setattr__" = some (some (.builtin "object.__setattr__")))
    (mkCE : PySem.W.makesIn K CE = true)
    (kcCE : PySem.W.keepIn K (.ref CE) = true)
    (inCE : PySem.W.findIn K (.ref CE) "__init__" = some (some (.builtin "object.__init__")))
    (caCE : PySem.W.findIn K (.ref CE) "__class__" = some (some (.builtin "object.__class__")))
    (moCE : PySem.W.mroIn K CE (.type "object") = some true)
    (ktCE : PySem.W.kitOne K (.ref CE) (.ref CR) = some true)
    (mc0 : PySem.W.nsIn K mainGlobals "BadName" = some (some (.ref y0)))
    (mc1 : PySem.W.nsIn K mainGlobals "BadNumber" = some (some (.ref y1)))
    (mc2 : PySem.W.nsIn K mainGlobals "BadCount" = some (some (.ref y2)))
    (mc3 : PySem.W.nsIn K mainGlobals "BadRate" = some (some (.ref y3)))
    (mc4 : PySem.W.nsIn K mainGlobals "BadText" = some (some (.ref y4)))
    (mc5 : PySem.W.nsIn K mainGlobals "Clash" = some (some (.ref y5)))
    (mc6 : PySem.W.nsIn K mainGlobals "BadUnit" = some (some (.ref y6)))
    (mc7 : PySem.W.nsIn K mainGlobals "BadTable" = some (some (.ref y7)))
    (mc8 : PySem.W.nsIn K mainGlobals "NoName" = some (some (.ref y8)))
    (mc9 : PySem.W.nsIn K mainGlobals "NoRow" = some (some (.ref y9)))
    (mc10 : PySem.W.nsIn K mainGlobals "Steep" = some (some (.ref y10)))
    (mc11 : PySem.W.nsIn K mainGlobals "Twice" = some (some (.ref y11)))
    (mc12 : PySem.W.nsIn K mainGlobals "Unlike" = some (some (.ref y12)))
    (mME : PySem.W.nsIn K mainGlobals "MeasureError" = some (some (.ref ME)))
    (m40 : PySem.W.nsIn K mainGlobals "MOST_FIGURES" = some (some (.int 40 t40)))
    (iny0 : PySem.W.excIn K y0 [.type "ValueError", .type "Exception", .type "BaseException", .type "object"] "ValueError.__new__" = true)
    (xy0 : xOk K y0 = true)
    (exy0 : PySem.W.exmOne K (.ref y0) (.ref ME) = some true)
    (kvy0 : PySem.W.kitOne K (.ref y0) (.type "ValueError") = some true)
    (ky0_1 : PySem.W.kitOne K (.ref y0) (.ref y1) = some false)
    (ky0_2 : PySem.W.kitOne K (.ref y0) (.ref y2) = some false)
    (ky0_3 : PySem.W.kitOne K (.ref y0) (.ref y3) = some false)
    (ky0_4 : PySem.W.kitOne K (.ref y0) (.ref y4) = some false)
    (ky0_5 : PySem.W.kitOne K (.ref y0) (.ref y5) = some false)
    (ky0_6 : PySem.W.kitOne K (.ref y0) (.ref y6) = some false)
    (ky0_7 : PySem.W.kitOne K (.ref y0) (.ref y7) = some false)
    (ky0_8 : PySem.W.kitOne K (.ref y0) (.ref y8) = some false)
    (ky0_9 : PySem.W.kitOne K (.ref y0) (.ref y9) = some false)
    (ky0_10 : PySem.W.kitOne K (.ref y0) (.ref y10) = some false)
    (ky0_11 : PySem.W.kitOne K (.ref y0) (.ref y11) = some false)
    (ky0_12 : PySem.W.kitOne K (.ref y0) (.ref y12) = some false)
    (iny1 : PySem.W.excIn K y1 [.type "ValueError", .type "Exception", .type "BaseException", .type "object"] "ValueError.__new__" = true)
    (xy1 : xOk K y1 = true)
    (exy1 : PySem.W.exmOne K (.ref y1) (.ref ME) = some true)
    (kvy1 : PySem.W.kitOne K (.ref y1) (.type "ValueError") = some true)
    (ky1_0 : PySem.W.kitOne K (.ref y1) (.ref y0) = some false)
    (ky1_2 : PySem.W.kitOne K (.ref y1) (.ref y2) = some false)
    (ky1_3 : PySem.W.kitOne K (.ref y1) (.ref y3) = some false)
    (ky1_4 : PySem.W.kitOne K (.ref y1) (.ref y4) = some false)
    (ky1_5 : PySem.W.kitOne K (.ref y1) (.ref y5) = some false)
    (ky1_6 : PySem.W.kitOne K (.ref y1) (.ref y6) = some false)
    (ky1_7 : PySem.W.kitOne K (.ref y1) (.ref y7) = some false)
    (ky1_8 : PySem.W.kitOne K (.ref y1) (.ref y8) = some false)
    (ky1_9 : PySem.W.kitOne K (.ref y1) (.ref y9) = some false)
    (ky1_10 : PySem.W.kitOne K (.ref y1) (.ref y10) = some false)
    (ky1_11 : PySem.W.kitOne K (.ref y1) (.ref y11) = some false)
    (ky1_12 : PySem.W.kitOne K (.ref y1) (.ref y12) = some false)
    (cg : PySem.W.specialIn K (.builtin "object.__class__") "__get__" = some (some (.builtin "getset_descriptor.__get__")))
    (ct : PySem.W.takesIn K (.builtin "object.__class__") = some true)
    (zisi : PySem.W.nsIn K mainGlobals "isinstance" = some none)
    (zint : PySem.W.nsIn K mainGlobals "int" = some none)
    (zbool : PySem.W.nsIn K mainGlobals "bool" = some none)
    (ztuple : PySem.W.nsIn K mainGlobals "tuple" = some none)
    (zlen : PySem.W.nsIn K mainGlobals "len" = some none)
    (zrange : PySem.W.nsIn K mainGlobals "range" = some none)
    (zstr : PySem.W.nsIn K mainGlobals "str" = some none)
    (zabs : PySem.W.nsIn K mainGlobals "abs" = some none)
    (zverr : PySem.W.nsIn K mainGlobals "ValueError" = some none) :
    ∃ fd : FuncData, (∀ (s : Shared) (v : Value), BindsTo s fd ⟨[v], []⟩ [("_law_script", v)]) ∧ ∀ base : Heap, K.In base → base.Ns mainGlobals mg → FnOk l.prog w K mg base CX0 6 fa fd ["_law_script"] (spLaw K) := by
  have e := hfa.symm.trans (PySem.W.mg_of X G a17)
  cases e
  have B : Bn mg := ⟨PySem.W.mg_none_of X G zisi, PySem.W.mg_none_of X G zint, PySem.W.mg_none_of X G zbool, PySem.W.mg_none_of X G ztuple, PySem.W.mg_none_of X G zlen, PySem.W.mg_none_of X G zrange, PySem.W.mg_none_of X G zstr, PySem.W.mg_none_of X G zabs, PySem.W.mg_none_of X G zverr⟩
  have EX : Ex K mg y1 := ⟨PySem.W.mg_of X G mc1, iny1⟩
  have XA : ExA K mg y0 := ⟨PySem.W.mg_of X G mc0, iny0⟩
  have Z : ClsZ mg y0 y1 y2 y3 y4 y5 y6 y7 y8 y9 y10 y11 y12 := ⟨PySem.W.mg_of X G mc0, PySem.W.mg_of X G mc1, PySem.W.mg_of X G mc2, PySem.W.mg_of X G mc3, PySem.W.mg_of X G mc4, PySem.W.mg_of X G mc5, PySem.W.mg_of X G mc6, PySem.W.mg_of X G mc7, PySem.W.mg_of X G mc8, PySem.W.mg_of X G mc9, PySem.W.mg_of X G mc10, PySem.W.mg_of X G mc11, PySem.W.mg_of X G mc12⟩
  have M : Ways K mg CR CD CU CA CE := ⟨⟨mkCR, inCR, kcCR⟩, ⟨mkCD, inCD, kcCD⟩, ⟨mkCU, inCU, kcCU⟩, ⟨mkCA, inCA, kcCA⟩, ⟨mkCE, inCE, kcCE⟩, PySem.W.mg_of X G mCR, PySem.W.mg_of X G mCD, PySem.W.mg_of X G mCU, PySem.W.mg_of X G mCA, PySem.W.mg_of X G mCE⟩
  have L0 : LK K y0 y1 y2 y3 y4 y5 y6 y7 y8 y9 y10 y11 y12 y0 true false := ⟨x_mk cg ct xy0, kvy0, kit_self K y0, ky0_1, ky0_2, ky0_3, ky0_4, ky0_5, ky0_6, ky0_7, ky0_8, ky0_9, ky0_10, ky0_11, ky0_12⟩
  have L1 : LK K y0 y1 y2 y3 y4 y5 y6 y7 y8 y9 y10 y11 y12 y1 false true := ⟨x_mk cg ct xy1, kvy1, ky1_0, kit_self K y1, ky1_2, ky1_3, ky1_4, ky1_5, ky1_6, ky1_7, ky1_8, ky1_9, ky1_10, ky1_11, ky1_12⟩
  have QCR : Cls K CR := ⟨pgCR, hdCR, poCR, saCR⟩
  have YCR : TyC K CR CR := ⟨QCR, caCR, cg, ct, moCR, ktCR⟩
  have QCD : Cls K CD := ⟨pgCD, hdCD, poCD, saCD⟩
  have YCD : TyC K CR CD := ⟨QCD, caCD, cg, ct, moCD, ktCD⟩
  have QCU : Cls K CU := ⟨pgCU, hdCU, poCU, saCU⟩
  have YCU : TyC K CR CU := ⟨QCU, caCU, cg, ct, moCU, ktCU⟩
  have QCA : Cls K CA := ⟨pgCA, hdCA, poCA, saCA⟩
  have YCA : TyC K CR CA := ⟨QCA, caCA, cg, ct, moCA, ktCA⟩
  have QCE : Cls K CE := ⟨pgCE, hdCE, poCE, saCE⟩
  have YCE : TyC K CR CE := ⟨QCE, caCE, cg, ct, moCE, ktCE⟩
  have Fs0 := fun_mk (st := mSet0) ls0 cs0 ks0
  have Bs0 := Fs0.binds (ps := ["self", "above", "below"]) fun _ _ _ _ _ _ us hl => by
    obtain ⟨v0, v1, v2, rfl⟩ := len3 hl
    rfl
  have Fsh := fun_mk (st := mShown) lsh csh ksh
  have Bsh := Fsh.binds (ps := ["self", "amount", "figures"]) fun _ _ _ _ _ _ us hl => by
    obtain ⟨v0, v1, v2, rfl⟩ := len3 hl
    rfl
  have Fs1 := fun_mk (st := mSet1) ls1 cs1 ks1
  have Bs1 := Fs1.binds (ps := ["self", "above", "below"]) fun _ _ _ _ _ _ us hl => by
    obtain ⟨v0, v1, v2, rfl⟩ := len3 hl
    rfl
  have Fs2 := fun_mk (st := mSet2) ls2 cs2 ks2
  have Bs2 := Fs2.binds (ps := ["self", "above", "below"]) fun _ _ _ _ _ _ us hl => by
    obtain ⟨v0, v1, v2, rfl⟩ := len3 hl
    rfl
  have Fs3 := fun_mk (st := mSet3) ls3 cs3 ks3
  have Bs3 := Fs3.binds (ps := ["self", "above", "below"]) fun _ _ _ _ _ _ us hl => by
    obtain ⟨v0, v1, v2, rfl⟩ := len3 hl
    rfl
  have F0 := fun_mk (st := sWhole) l0 c0 k0
  have B0 := F0.binds (ps := ["thing"]) fun _ _ _ _ _ _ us hl => by
    obtain ⟨v0, rfl⟩ := len1 hl
    rfl
  have M0 := PySem.W.mg_of X G a0
  have F1 := funD_mk (st := sNeed) l1 c1 k1
  have B1 : L2.Binds K _ ["thing", "least", "most"] [] := fun s us KX hl => by
    rw [List.append_nil] at hl ⊢
    obtain ⟨v0, v1, v2, rfl⟩ := len3 hl
    exact PySem.W.binds_K (fd := PySem.W.fnOf "need_whole" "need_whole" (defArgs sNeed) (defBody sNeed) (defScope sNeed) (.ref T1) kV1 dc1 pm1 an1 cd1 ct1) KX rfl d1 rfl rfl rfl
  have M1 := PySem.W.mg_of X G a1
  have F2 := fun_mk (st := sDiv) l2 c2 k2
  have B2 := F2.binds (ps := ["above", "below"]) fun _ _ _ _ _ _ us hl => by
    obtain ⟨v0, v1, rfl⟩ := len2 hl
    rfl
  have M2 := PySem.W.mg_of X G a2
  have F3 := fun_mk (st := sIsF) l3 c3 k3
  have B3 := F3.binds (ps := ["thing"]) fun _ _ _ _ _ _ us hl => by
    obtain ⟨v0, rfl⟩ := len1 hl
    rfl
  have M3 := PySem.W.mg_of X G a3
  have F4 := fun_mk (st := sWPow) l4 c4 k4
  have B4 := F4.binds (ps := ["base", "exponent"]) fun _ _ _ _ _ _ us hl => by
    obtain ⟨v0, v1, rfl⟩ := len2 hl
    rfl
  have M4 := PySem.W.mg_of X G a4
  have F5 := fun_mk (st := sWay) l5 c5 k5
  have B5 := F5.binds (ps := ["word"]) fun _ _ _ _ _ _ us hl => by
    obtain ⟨v0, rfl⟩ := len1 hl
    rfl
  have M5 := PySem.W.mg_of X G a5
  have F6 := fun_mk (st := lMix) l6 c6 k6
  have B6 := F6.binds (ps := ["_law_number_here", "_law_k"]) fun _ _ _ _ _ _ us hl => by
    obtain ⟨v0, v1, rfl⟩ := len2 hl
    rfl
  have M6 := PySem.W.mg_of X G a6
  have F7 := fun_mk (st := lNum) l7 c7 k7
  have B7 := F7.binds (ps := ["_law_script", "_law_k"]) fun _ _ _ _ _ _ us hl => by
    obtain ⟨v0, v1, rfl⟩ := len2 hl
    rfl
  have M7 := PySem.W.mg_of X G a7
  have F8 := fun_mk (st := lCom) l8 c8 k8
  have B8 := F8.binds (ps := ["_law_one", "_law_other"]) fun _ _ _ _ _ _ us hl => by
    obtain ⟨v0, v1, rfl⟩ := len2 hl
    rfl
  have M8 := PySem.W.mg_of X G a8
  have F9 := fun_mk (st := lCls) l9 c9 k9
  have B9 := F9.binds (ps := ["_law_e"]) fun _ _ _ _ _ _ us hl => by
    obtain ⟨v0, rfl⟩ := len1 hl
    rfl
  have M9 := PySem.W.mg_of X G a9
  have F10 := fun_mk (st := lShw) l10 c10 k10
  have B10 := F10.binds (ps := ["_law_way_here", "_law_amount_here", "_law_figures"]) fun _ _ _ _ _ _ us hl => by
    obtain ⟨v0, v1, v2, rfl⟩ := len3 hl
    rfl
  have M10 := PySem.W.mg_of X G a10
  have F11 := fun_mk (st := lWay) l11 c11 k11
  have B11 := F11.binds (ps := ["_law_word"]) fun _ _ _ _ _ _ us hl => by
    obtain ⟨v0, rfl⟩ := len1 hl
    rfl
  have M11 := PySem.W.mg_of X G a11
  have F12 := fun_mk (st := lSet) l12 c12 k12
  have B12 := F12.binds (ps := ["_law_word", "_law_above", "_law_below"]) fun _ _ _ _ _ _ us hl => by
    obtain ⟨v0, v1, v2, rfl⟩ := len3 hl
    rfl
  have M12 := PySem.W.mg_of X G a12
  have F13 := fun_mk (st := lDue) l13 c13 k13
  have B13 := F13.binds (ps := ["_law_word", "_law_amount_here", "_law_figures"]) fun _ _ _ _ _ _ us hl => by
    obtain ⟨v0, v1, v2, rfl⟩ := len3 hl
    rfl
  have M13 := PySem.W.mg_of X G a13
  have F14 := fun_mk (st := lAmt) l14 c14 k14
  have B14 := F14.binds (ps := ["_law_number_here"]) fun _ _ _ _ _ _ us hl => by
    obtain ⟨v0, rfl⟩ := len1 hl
    rfl
  have M14 := PySem.W.mg_of X G a14
  have F15 := fun_mk (st := lRight) l15 c15 k15
  have B15 := F15.binds (ps := ["_law_way_here", "_law_word", "_law_amount_here", "_law_figures"]) fun _ _ _ _ _ _ us hl => by
    obtain ⟨v0, v1, v2, v3, rfl⟩ := len4 hl
    rfl
  have M15 := PySem.W.mg_of X G a15
  have F16 := fun_mk (st := lMade) l16 c16 k16
  have B16 := F16.binds (ps := ["_law_word"]) fun _ _ _ _ _ _ us hl => by
    obtain ⟨v0, rfl⟩ := len1 hl
    rfl
  have M16 := PySem.W.mg_of X G a16
  have F17 := fun_mk (st := lLaw) l17 c17 k17
  refine ⟨PySem.W.fnOf "law" "law" (defArgs lLaw) (defBody lLaw) (defScope lLaw) .none kV17 dc17 pm17 an17 cd17 ct17, fun s v => .of_eq rfl, fun base _ _ => ?_⟩
  have HT : HasSet l.prog w K mg base (tbOf CR CD CU CA CE) := fun C m h => by
    rcases h with ⟨rfl, rfl⟩ | ⟨rfl, rfl⟩ | ⟨rfl, rfl⟩ | ⟨rfl, rfl⟩ | ⟨rfl, rfl⟩
    · exact ⟨fs0, _, QCR, ⟨as0CR, is0, ks0⟩, Bs0, ok_set0 Fs0⟩
    · exact ⟨fs0, _, QCD, ⟨as0CD, is0, ks0⟩, Bs0, ok_set0 Fs0⟩
    · exact ⟨fs1, _, QCU, ⟨as1CU, is1, ks1⟩, Bs1, ok_set1 Fs1⟩
    · exact ⟨fs2, _, QCA, ⟨as2CA, is2, ks2⟩, Bs2, ok_set2 Fs2⟩
    · exact ⟨fs3, _, QCE, ⟨as3CE, is3, ks3⟩, Bs3, ok_set3 Fs3⟩
  have HS : HasShown K (tbOf CR CD CU CA CE) fsh := ⟨fun C m h => by
    rcases h with ⟨rfl, rfl⟩ | ⟨rfl, rfl⟩ | ⟨rfl, rfl⟩ | ⟨rfl, rfl⟩ | ⟨rfl, rfl⟩
    · exact QCR
    · exact QCD
    · exact QCU
    · exact QCA
    · exact QCE, fun C m h => by
    rcases h with ⟨rfl, rfl⟩ | ⟨rfl, rfl⟩ | ⟨rfl, rfl⟩ | ⟨rfl, rfl⟩ | ⟨rfl, rfl⟩
    · exact ⟨ashCR, ish, ksh⟩
    · exact ⟨ashCD, ish, ksh⟩
    · exact ⟨ashCU, ish, ksh⟩
    · exact ⟨ashCA, ish, ksh⟩
    · exact ⟨ashCE, ish, ksh⟩⟩
  have HY : ∀ C m, (tbOf CR CD CU CA CE) C m → TyC K CR C := fun C m h => by
    rcases h with ⟨rfl, rfl⟩ | ⟨rfl, rfl⟩ | ⟨rfl, rfl⟩ | ⟨rfl, rfl⟩ | ⟨rfl, rfl⟩
    · exact YCR
    · exact YCD
    · exact YCU
    · exact YCA
    · exact YCE
  have GN : FnOk l.prog w K mg base (Fly l.prog w) 2 f1 _ ["thing", "least", "most"] (spNeed y1) := ok_need F1 B EX F0 B0 M0
  have GI : FnOk l.prog w K mg base CX0 2 f3 _ ["thing"] spIsF := ok_isf F3 B F0 B0 M0 F2 B2 M2
  have GS : FnOk l.prog w K mg base (Fly l.prog w) 3 fsh _ ["self", "amount", "figures"] (spShown y1 (tbOf CR CD CU CA CE)) := ok_shown Fsh B EX (PySem.W.mg_of X G m40) HT F3 B3 M3 GI F1 B1 M1 GN F4 B4 M4
  have GW : FnOk l.prog w K mg base (Fly l.prog w) 1 f5 _ ["word"] (spWayOf K y0 (tbOf CR CD CU CA CE)) := ok_wayof F5 B XA M
  have GC : FnOkH l.prog w K mg base 1 f9 _ ["_law_e"] (spCls K y0 y1 y2 y3 y4 y5 y6 y7 y8 y9 y10 y11 y12) := ok_cls F9 B Z
  have GSh : FnOk l.prog w K mg base CX0 4 f10 _ ["_law_way_here", "_law_amount_here", "_law_figures"] (spLShw (tbOf CR CD CU CA CE)) := ok_lshw F10 B exy1 (PySem.W.mg_of X G mME) HS Bsh GS L1 F9 B9 M9 GC
  have GWa : FnOk l.prog w K mg base CX0 2 f11 _ ["_law_word"] (spLWay K (tbOf CR CD CU CA CE)) := ok_lway F11 B exy0 (PySem.W.mg_of X G mME) F5 B5 M5 GW L0 F9 B9 M9 GC
  have GD : FnOk l.prog w K mg base CX0 2 f13 _ ["_law_word", "_law_amount_here", "_law_figures"] spDue := ok_due F13 B F12 B12 M12
  have GA : FnOk l.prog w K mg base CX0 2 f14 _ ["_law_number_here"] spAmt := ok_amt F14 B F8 B8 M8
  have GR : FnOk l.prog w K mg base CX0 5 f15 _ ["_law_way_here", "_law_word", "_law_amount_here", "_law_figures"] (spRight (tbOf CR CD CU CA CE)) := ok_right F15 B HT HS Bsh GS F10 B10 M10 GSh F13 B13 M13 GD F12 B12 M12
  have GMa : FnOk l.prog w K mg base CX0 1 f16 _ ["_law_word"] (spMade (tbOf CR CD CU CA CE)) := ok_made F16 B M
  have GNu : FnOk l.prog w K mg base CX0 2 f7 _ ["_law_script", "_law_k"] (spNum K) := ok_num F7 B F6 B6 M6
  exact ok_law F17 B (PySem.W.mg_of X G mCR) HY F7 B7 M7 GNu F6 B6 M6 F14 B14 M14 GA F16 B16 M16 GMa F11 B11 M11 GWa F15 B15 M15 GR F10 B10 M10 GSh
theorem walk {l : PySem.W.OpenLaw} {q : Program} {loose : List Str} {XP : (Str → Option Value) → Heap → Prop} {YP : World → Heap → Prop} {d : DefRec} {K : Params → PySem.W.Frag} (hn : l.most = some 63) (hdf : d.params.defaults = [])
    (hY : ∀ (w : World) (h : Heap), YP w h → (K w.params).In h)
    (F : ∀ (w : World) (mg : Str → Option Value) (fa : Addr) (h : Heap), (K w.params).In h → h.Ns mainGlobals mg → mg d.name = some (.ref fa) →
      ∃ fd : FuncData, (∀ (s : Shared) (u : Value), BindsTo s fd ⟨[u], []⟩ [("_law_script", u)]) ∧ ∀ base : Heap, (K w.params).In base → base.Ns mainGlobals mg → FnOk l.prog w (K w.params) mg base CX0 6 fa fd ["_law_script"] (spLaw (K w.params))) :
    PySem.W.WalkO q loose XP YP l.row.toRowW d [] (fun f vs => PySem.call f vs) :=
  L2.walk_of (n := 63) (k := 6) (x := "_law_script") (CX := fun _ => CX0) (sp := fun w => spLaw (K w.params)) hn (by decide) hdf ⟨rfl, by decide, by decide, rfl⟩ hY F (fun _ _ a ns hl _ hS => ⟨a, ns, rfl, hS, hl, fun _ => rfl⟩) fun _ _ _ _ _ z => z
end Fr

set_option Elab.async false
set_option linter.all false
open PySem PySem.W PyProof.Rows
def PySem.W.Fast.tw8247350292264073078 : Nat := 0
def PySem.W.Fast.tw17321781854660547786 : Nat := 0
def PySem.W.Fast.tw10914588054986475114 : Nat := 0
def PySem.W.Fast.tw8896666645554405412 : Nat := 0
def PySem.W.Fast.tw15592201594181873843 : Nat := 0
def PySem.W.Fast.tw4794717323962691741 : Nat := 0
def PySem.W.Fast.tw13226870377942265870 : Nat := 0
def PySem.W.Fast.tw13230642528684592850 : Nat := 0
set_option maxRecDepth 100000 in
set_option maxHeartbeats 0 in
theorem PySem.Challenge.cw_measurewise_k25_rounding_holds : PySem.Challenge.rw_measurewise_k25_rounding.Holds := by
  w_on; o_law; k_head; (case hw => w_witness2)
  k_fill
  refine Fr.walk (l := PySem.Challenge.rw_measurewise_k25_rounding) rfl rfl (fun w h Y => PySem.W.kIn_of Y) ?F
  case F =>
    intro w mg fa h KX G hmg
    refine' Fr.all_mk KX G hmg ?a0 ?l0 ?c0 ?k0 ?a1 ?l1 ?c1 ?k1 ?d1 ?a2 ?l2 ?c2 ?k2 ?a3 ?l3 ?c3 ?k3 ?a4 ?l4 ?c4 ?k4 ?a5 ?l5 ?c5 ?k5 ?a6 ?l6 ?c6 ?k6 ?a7 ?l7 ?c7 ?k7 ?a8 ?l8 ?c8 ?k8 ?a9 ?l9 ?c9 ?k9 ?a10 ?l10 ?c10 ?k10 ?a11 ?l11 ?c11 ?k11 ?a12 ?l12 ?c12 ?k12 ?a13 ?l13 ?c13 ?k13 ?a14 ?l14 ?c14 ?k14 ?a15 ?l15 ?c15 ?k15 ?a16 ?l16 ?c16 ?k16 ?a17 ?l17 ?c17 ?k17 ?mCR ?mCD ?mCU ?mCA ?mCE ?as0CR ?is0 ?ls0 ?cs0 ?ks0 ?ashCR ?ish ?lsh ?csh ?ksh ?as1CU ?is1 ?ls1 ?cs1 ?ks1 ?as2CA ?is2 ?ls2 ?cs2 ?ks2 ?as3CE ?is3 ?ls3 ?cs3 ?ks3 ?pgCR ?hdCR ?poCR ?saCR ?mkCR ?kcCR ?inCR ?caCR ?moCR ?ktCR ?as0CD ?ashCD ?pgCD ?hdCD ?poCD ?saCD ?mkCD ?kcCD ?inCD ?caCD ?moCD ?ktCD ?ashCU ?pgCU ?hdCU ?poCU ?saCU ?mkCU ?kcCU ?inCU ?caCU ?moCU ?ktCU ?ashCA ?pgCA ?hdCA ?poCA ?saCA ?mkCA ?kcCA ?inCA ?caCA ?moCA ?ktCA ?ashCE ?pgCE ?hdCE ?poCE ?saCE ?mkCE ?kcCE ?inCE ?caCE ?moCE ?ktCE ?mc0 ?mc1 ?mc2 ?mc3 ?mc4 ?mc5 ?mc6 ?mc7 ?mc8 ?mc9 ?mc10 ?mc11 ?mc12 ?mME ?m40 ?iny0 ?xy0 ?exy0 ?kvy0 ?ky0_1 ?ky0_2 ?ky0_3 ?ky0_4 ?ky0_5 ?ky0_6 ?ky0_7 ?ky0_8 ?ky0_9 ?ky0_10 ?ky0_11 ?ky0_12 ?iny1 ?xy1 ?exy1 ?kvy1 ?ky1_0 ?ky1_2 ?ky1_3 ?ky1_4 ?ky1_5 ?ky1_6 ?ky1_7 ?ky1_8 ?ky1_9 ?ky1_10 ?ky1_11 ?ky1_12 ?cg ?ct ?zisi ?zint ?zbool ?ztuple ?zlen ?zrange ?zstr ?zabs ?zverr
    (case a0 => k_is)
    (case l0 => k_is)
    (case c0 => k_is)
    (case k0 => k_is)
    (case a1 => k_is)
    (case l1 => k_is)
    (case c1 => k_is)
    (case k1 => k_is)
    (case d1 => k_is)
    (case a2 => k_is)
    (case l2 => k_is)
    (case c2 => k_is)
    (case k2 => k_is)
    (case a3 => k_is)
    (case l3 => k_is)
    (case c3 => k_is)
    (case k3 => k_is)
    (case a4 => k_is)
    (case l4 => k_is)
    (case c4 => k_is)
    (case k4 => k_is)
    (case a5 => k_is)
    (case l5 => k_is)
    (case c5 => k_is)
    (case k5 => k_is)
    (case a6 => k_is)
    (case l6 => k_is)
    (case c6 => k_is)
    (case k6 => k_is)
    (case a7 => k_is)
    (case l7 => k_is)
    (case c7 => k_is)
    (case k7 => k_is)
    (case a8 => k_is)
    (case l8 => k_is)
    (case c8 => k_is)
    (case k8 => k_is)
    (case a9 => k_is)
    (case l9 => k_is)
    (case c9 => k_is)
    (case k9 => k_is)
    (case a10 => k_is)
    (case l10 => k_is)
    (case c10 => k_is)
    (case k10 => k_is)
    (case a11 => k_is)
    (case l11 => k_is)
    (case c11 => k_is)
    (case k11 => k_is)
    (case a12 => k_is)
    (case l12 => k_is)
    (case c12 => k_is)
    (case k12 => k_is)
    (case a13 => k_is)
    (case l13 => k_is)
    (case c13 => k_is)
    (case k13 => k_is)
    (case a14 => k_is)
    (case l14 => k_is)
    (case c14 => k_is)
    (case k14 => k_is)
    (case a15 => k_is)
    (case l15 => k_is)
    (case c15 => k_is)
    (case k15 => k_is)
    (case a16 => k_is)
    (case l16 => k_is)
    (case c16 => k_is)
    (case k16 => k_is)
    (case a17 => k_is)
    (case l17 => k_is)
    (case c17 => k_is)
    (case k17 => k_is)
    (case mCR => k_is)
    (case mCD => k_is)
    (case mCU => k_is)
    (case mCA => k_is)
    (case mCE => k_is)
    (case as0CR => k_is)
    (case is0 => k_is)
    (case ls0 => k_is)
    (case cs0 => k_is)
    (case ks0 => k_is)
    (case ashCR => k_is)
    (case ish => k_is)
    (case lsh => k_is)
    (case csh => k_is)
    (case ksh => k_is)
    (case as1CU => k_is)
    (case is1 => k_is)
    (case ls1 => k_is)
    (case cs1 => k_is)
    (case ks1 => k_is)
    (case as2CA => k_is)
    (case is2 => k_is)
    (case ls2 => k_is)
    (case cs2 => k_is)
    (case ks2 => k_is)
    (case as3CE => k_is)
    (case is3 => k_is)
    (case ls3 => k_is)
    (case cs3 => k_is)
    (case ks3 => k_is)
    (case pgCR => k_is)
    (case hdCR => k_is)
    (case poCR => k_is)
    (case saCR => k_is)
    (case mkCR => k_is)
    (case kcCR => k_is)
    (case inCR => k_is)
    (case caCR => k_is)
    (case moCR => k_is)
    (case ktCR => kernel_rfl)
    (case as0CD => k_is)
    (case ashCD => k_is)
    (case pgCD => k_is)
    (case hdCD => k_is)
    (case poCD => k_is)
    (case saCD => k_is)
    (case mkCD => k_is)
    (case kcCD => k_is)
    (case inCD => k_is)
    (case caCD => k_is)
    (case moCD => k_is)
    (case ktCD => kernel_rfl)
    (case ashCU => k_is)
    (case pgCU => k_is)
    (case hdCU => k_is)
    (case poCU => k_is)
    (case saCU => k_is)
    (case mkCU => k_is)
    (case kcCU => k_is)
    (case inCU => k_is)
    (case caCU => k_is)
    (case moCU => k_is)
    (case ktCU => kernel_rfl)
    (case ashCA => k_is)
    (case pgCA => k_is)
    (case hdCA => k_is)
    (case poCA => k_is)
    (case saCA => k_is)
    (case mkCA => k_is)
    (case kcCA => k_is)
    (case inCA => k_is)
    (case caCA => k_is)
    (case moCA => k_is)
    (case ktCA => kernel_rfl)
    (case ashCE => k_is)
    (case pgCE => k_is)
    (case hdCE => k_is)
    (case poCE => k_is)
    (case saCE => k_is)
    (case mkCE => k_is)
    (case kcCE => k_is)
    (case inCE => k_is)
    (case caCE => k_is)
    (case moCE => k_is)
    (case ktCE => kernel_rfl)
    (case mc0 => k_is)
    (case mc1 => k_is)
    (case mc2 => k_is)
    (case mc3 => k_is)
    (case mc4 => k_is)
    (case mc5 => k_is)
    (case mc6 => k_is)
    (case mc7 => k_is)
    (case mc8 => k_is)
    (case mc9 => k_is)
    (case mc10 => k_is)
    (case mc11 => k_is)
    (case mc12 => k_is)
    (case mME => k_is)
    (case m40 => k_is)
    (case iny0 => kernel_rfl)
    (case xy0 => kernel_rfl)
    (case exy0 => kernel_rfl)
    (case kvy0 => kernel_rfl)
    (case ky0_1 => kernel_rfl)
    (case ky0_2 => kernel_rfl)
    (case ky0_3 => kernel_rfl)
    (case ky0_4 => kernel_rfl)
    (case ky0_5 => kernel_rfl)
    (case ky0_6 => kernel_rfl)
    (case ky0_7 => kernel_rfl)
    (case ky0_8 => kernel_rfl)
    (case ky0_9 => kernel_rfl)
    (case ky0_10 => kernel_rfl)
    (case ky0_11 => kernel_rfl)
    (case ky0_12 => kernel_rfl)
    (case iny1 => kernel_rfl)
    (case xy1 => kernel_rfl)
    (case exy1 => kernel_rfl)
    (case kvy1 => kernel_rfl)
    (case ky1_0 => kernel_rfl)
    (case ky1_2 => kernel_rfl)
    (case ky1_3 => kernel_rfl)
    (case ky1_4 => kernel_rfl)
    (case ky1_5 => kernel_rfl)
    (case ky1_6 => kernel_rfl)
    (case ky1_7 => kernel_rfl)
    (case ky1_8 => kernel_rfl)
    (case ky1_9 => kernel_rfl)
    (case ky1_10 => kernel_rfl)
    (case ky1_11 => kernel_rfl)
    (case ky1_12 => kernel_rfl)
    (case cg => k_is)
    (case ct => k_is)
    (case zisi => k_is)
    (case zint => k_is)
    (case zbool => k_is)
    (case ztuple => k_is)
    (case zlen => k_is)
    (case zrange => k_is)
    (case zstr => k_is)
    (case zabs => k_is)
    (case zverr => k_is)
#print axioms PySem.Challenge.cw_measurewise_k25_rounding_holds
