import PyProof.Rows.All
import Wide.All
import OpenK.AllK
import Wide.FinOn
import Lean
import PyProof.EqAt
import PyProof.EqKinds
import PyProof.TupleCall
import OpenK.KMore
import PyProof.ExcInit
import PyProof.ExcClass2
import PyProof.InstStoreFacts
import PyProof.ExcArgsOwn
import PyProof.ExcAttrAll.ValueError
import PySem.Challenge.RW_measurewise_k03_measures
set_option Elab.async false
set_option linter.all false
set_option maxRecDepth 100000
/-! THE HAND LAYER, for ints, bools, texts, own classes, LISTS and tuples (index, slices, in, append, pop ..), calls, loops. Paste it whole ahead of your own text; what your proof does not reach may be deleted. -/
namespace L2
open PySem PySem.Spec PyProof.Rows

/-- a key: an int or a str -/
abbrev Key := Sum Int Str
def keyIs : Key → Value → Bool
  | .inl k, v => Value.isInt k v
  | .inr x, v => Value.isStrOf x v
def keyH (w : World) : Key → Int
  | .inl k => hashInt k
  | .inr x => hashStr w x
theorem keyIs_shape : ∀ {k : Key} {v : Value}, keyIs k v = true → (∃ i t, k = Sum.inl i ∧ v = Value.int i t) ∨ (∃ x t, k = Sum.inr x ∧ v = Value.str x t)
  | .inl i, v, h => by
    obtain ⟨t, e⟩ := Value.isInt_shape (k := i) (v := v) h
    exact .inl ⟨i, t, rfl, e⟩
  | .inr x, v, h => by
    obtain ⟨t, e⟩ := Value.isStrOf_shape (x := x) (v := v) h
    exact .inr ⟨x, t, rfl, e⟩
theorem keyIs_int (i : Int) (t : Tok) : keyIs (.inl i) (.int i t) = true := by simp [keyIs, Value.isInt]
theorem keyIs_str (x : Str) (t : Tok) : keyIs (.inr x) (.str x t) = true := by simp [keyIs, Value.isStrOf]
theorem key_ll (a b : Int) : decide ((Sum.inl a : Key) = Sum.inl b) = (a == b) := by
  by_cases e : a = b
  · subst e; simp
  · have h : ¬ (Sum.inl a : Key) = Sum.inl b := fun q => e (Sum.inl.inj q)
    rw [decide_eq_false h]
    exact (beq_eq_false_iff_ne.mpr e).symm
theorem key_rr (a b : Str) : decide ((Sum.inr a : Key) = Sum.inr b) = decide (a = b) := by
  by_cases e : a = b
  · subst e; simp
  · have h : ¬ (Sum.inr a : Key) = Sum.inr b := fun q => e (Sum.inr.inj q)
    rw [decide_eq_false h, decide_eq_false e]
theorem key_lr (a : Int) (b : Str) : decide ((Sum.inl a : Key) = Sum.inr b) = false := decide_eq_false (fun q => nomatch q)
theorem key_rl (a : Str) (b : Int) : decide ((Sum.inr a : Key) = Sum.inl b) = false := decide_eq_false (fun q => nomatch q)

def mixKind (prog : Program) (w : World) : PySem.KeyKind prog w Key where
  is := keyIs
  hash := keyH w
  inj := fun v a b ha hb => by
    rcases keyIs_shape ha with ⟨i, t, rfl, rfl⟩ | ⟨x, t, rfl, rfl⟩
    · rcases keyIs_shape hb with ⟨j, u, rfl, e⟩ | ⟨y, u, rfl, e⟩
      · injection e with e1 _; rw [e1]
      · exact nomatch e
    · rcases keyIs_shape hb with ⟨j, u, rfl, e⟩ | ⟨y, u, rfl, e⟩
      · exact nomatch e
      · injection e with e1 _; rw [e1]
  byValue := fun k v h => by
    rcases keyIs_shape h with ⟨i, t, rfl, rfl⟩ | ⟨x, t, rfl, rfl⟩ <;> rfl
  pyHash := fun hv h => by
    rcases keyIs_shape hv with ⟨i, t, rfl, rfl⟩ | ⟨x, t, rfl, rfl⟩
    · exact wpAny_pyHash_int h
    · exact wpAny_pyHash_str h
  eqBool := fun hu hv h => by
    rcases keyIs_shape hu with ⟨i, t, rfl, rfl⟩ | ⟨x, t, rfl, rfl⟩
    · rcases keyIs_shape hv with ⟨j, u, rfl, rfl⟩ | ⟨y, u, rfl, rfl⟩
      · rw [key_ll] at h; exact wpAny_eqBool_int h
      · rw [key_lr] at h; exact SeqAt.EqAt.int_str i t y u _ _ _ _ h
    · rcases keyIs_shape hv with ⟨j, u, rfl, rfl⟩ | ⟨y, u, rfl, rfl⟩
      · rw [key_rl] at h; exact SeqAt.EqAt.str_int x t j u _ _ _ _ h
      · rw [key_rr] at h; exact wpAny_eqBool_str h
  «strs» := fun k x t v h => by
    rcases keyIs_shape h with ⟨i, u, rfl, e⟩ | ⟨y, u, rfl, e⟩
    · exact nomatch e
    · injection e with e1 _
      subst e1
      cases v <;> rfl

theorem mixKind_int (prog : Program) (w : World) (i : Int) (t : Tok) : (mixKind prog w).is (.inl i) (.int i t) = true := keyIs_int i t
theorem mixKind_str (prog : Program) (w : World) (x : Str) (t : Tok) : (mixKind prog w).is (.inr x) (.str x t) = true := keyIs_str x t
end L2

namespace L2
open PySem PySem.Spec PyProof.Rows

/-- a value, without the heap -/
inductive V where
  | non | bl (b : Bool) | int (i : Int) | str (x : Str) | byt (b : Array UInt8) | flt (b : UInt64) | ref (a : Addr) | ty (n : String)
  deriving DecidableEq

def RelV : V → Value → Prop
  | .non, u => u = Value.none
  | .bl b, u => u = Value.bool b
  | .int i, u => ∃ t, u = Value.int i t
  | .str x, u => ∃ t, u = Value.str x t
  | .byt b, u => ∃ t, u = Value.bytes b t
  | .flt b, u => ∃ t, u = Value.float b t
  | .ref a, u => u = Value.ref a
  | .ty n, u => u = Value.type n

abbrev Vals : List V → List Value → Prop := Paired RelV
theorem Vals.length {xs : List V} {us : List Value} (r : Vals xs us) : xs.length = us.length := Paired.length r
theorem Vals.get : ∀ {xs : List V} {us : List Value} {i : Nat} {x : V}, Vals xs us → xs[i]? = some x → ∃ u, us[i]? = some u ∧ RelV x u
  | _, _, _, _, .nil, e => by simp at e
  | _, _, 0, _, .cons r _, e => by simp at e; subst e; exact ⟨_, rfl, r⟩
  | _, _, i + 1, x, .cons _ t, e => by
    obtain ⟨u, h1, h2⟩ := Vals.get (i := i) (x := x) t (by simpa using e)
    exact ⟨u, by simpa using h1, h2⟩
theorem Vals.append : ∀ {xs ys : List V} {us ws : List Value}, Vals xs us → Vals ys ws → Vals (xs ++ ys) (us ++ ws)
  | _, _, _, _, .nil, s => s
  | _, _, _, _, .cons r t, s => .cons r (Vals.append t s)
def RelO : Option V → Option Value → Prop
  | some v, some u => RelV v u
  | none, none => True
  | _, _ => False
def KV {κ : Type} : List (κ × V) → List (κ × Value) → Prop := Paired fun (p : κ × V) (q : κ × Value) => p.1 = q.1 ∧ RelV p.2 q.2

/-- a key of a dict (00_mix): an int or a text -/
def kV : Key → V
  | .inl i => .int i
  | .inr x => .str x

/-- what stands at a tracked address -/
inductive HO where
  /-- a list -/
  | lst (xs : List V)
  /-- a tuple (never changes) -/
  | tup (xs : List V)
  /-- a dict whose keys are ints and texts; one whose keys are tuples of ints and texts (the empty one is both) -/
  | dK (kvs : List (Key × V)) | dT (kvs : List (List Key × V))
  /-- a set of ints: its members, its size -/
  | set (S : Int → Bool) (n : Nat)
  /-- an instance of the class at C, its dict at dx, its attributes -/
  | ins (C dx : Addr) (fs : List (Str × V))
  /-- the dict of the instance at x -/
  | own (x : Addr)
  /-- the dict of an exception -/
  | xd (fs : List (Str × V))
  /-- a bound method, f of x -/
  | met (f x : Addr)
  /-- a range object lo, lo + 1, .. below hi -/
  | rng (lo hi : Int)
  /-- a thing that is known to the object (the script; a dict while a loop walks it): read, never written while it is so -/
  | frz (o : Obj) (u : HO)
  /-- a code object's table -/
  | tbl (ps : Array Value)
  /-- any other thing, by what is true of its one object (a def of one's own: SetO a S n := HO.ext fun h => ..) -/
  | ext (φ : Heap → Prop)

abbrev Hp := Addr → Option HO
def upd (H : Hp) (a : Addr) (o : HO) : Hp := fun b => if b = a then some o else H b
theorem upd_same {H : Hp} {a : Addr} {o : HO} : upd H a o a = some o := by unfold upd; rw [if_pos rfl]
theorem upd_ne {H : Hp} {a b : Addr} {o : HO} (h : b ≠ a) : upd H a o b = H b := by unfold upd; rw [if_neg h]
theorem upd_upd {H : Hp} {a : Addr} {o u : HO} : upd (upd H a o) a u = upd H a u := by
  funext b; unfold upd; split <;> rfl
/-- two objects of different content stand apart -/
theorem ne_of {H : Hp} {a b : Addr} {o u : HO} (h : H a = some o) (h' : H b = some u) (d : o ≠ u) : a ≠ b := by
  intro e; subst e; rw [h] at h'; exact d (Option.some.inj h')
theorem ne_of_none {H : Hp} {a b : Addr} {o : HO} (h : H a = some o) (h' : H b = none) : a ≠ b := by
  intro e; subst e; rw [h] at h'; cases h'

section
variable (P : Program) (w : World)
def ObjOk (H : Hp) (h : Heap) (a : Addr) : HO → Prop
  | .lst xs => xs.length ≤ sizeLine ∧ ∃ (its : List Value) (n : Nat), Vals xs its ∧ h.get? a = some { cls := .type "list", data := .seq its.toArray n }
  | .tup xs => xs.length ≤ sizeLine ∧ ∃ its : List Value, Vals xs its ∧ IsTup h a its.toArray
  | .dK kvs => kvs.length ≤ sizeLine ∧ (a == sysModules) = false ∧ ∃ vs, KV kvs vs ∧ h.DictOf (mixKind P w) a vs
  | .dT kvs => kvs.length ≤ sizeLine ∧ (a == sysModules) = false ∧ ∃ xs : List (List Key × Addr × Value),
      Paired (fun (p : List Key × V) (q : List Key × Addr × Value) => p.1 = q.1 ∧ H q.2.1 = some (.tup (p.1.map kV)) ∧ RelV p.2 q.2.2) kvs xs ∧
      ∃ o es ep, h.get? a = some o ∧ o.ExactDict ∧ o.data = .dict es ep ∧ es.toList = xs.map (entryOfKey (tupleKind (mixKind P w))) ∧ (xs.map (·.1)).Nodup
  | .set S n => h.SetOf (intKind P w) a S n
  | .ins C dx fs => H dx = some (.own a) ∧ fs.length ≤ 1000 ∧ dx ≠ a ∧ h.get? a = some (PySem.W.instObj C dx) ∧
      ∃ mA, h.Ns1 dx mA ∧ (∀ f, RelO (fs.lookup f) (mA f)) ∧ PySem.Within mA (fs.map (·.1))
  | .own _ => ∃ o, h.get? a = some o
  | .xd fs => ∃ mA, h.Ns1 a mA ∧ ∀ f, RelO (fs.lookup f) (mA f)
  | .rng lo hi => ∃ t u v, h.get? a = some { cls := .type "range", data := .fields #[.int lo t, .int hi u, .int 1 v] }
  | .frz o u => h.get? a = some o ∧ ObjOk H h a u
  | .tbl ps => h.get? a = some { cls := .none, data := .fields ps }
  | .met f x => h.get? a = some (PySem.W.methodObj (.ref f) (.ref x))
  | .ext φ => φ h ∧ (∃ o, h.get? a = some o) ∧ ∀ h1 h2 : Heap, φ h1 → (∀ o, h1.get? a = some o → h2.get? a = some o) → φ h2
/-- the abstract heap is held -/
def HOk (H : Hp) (h : Heap) : Prop := ∀ a o, H a = some o → ObjOk P w H h a o
end

section
variable {P : Program} {w : World} {H H' : Hp} {h h' : Heap} {a : Addr} {o : HO}
theorem ObjOk.lt (x : ObjOk P w H h a o) : a < h.objs.size := by
  cases o with
  | lst xs => obtain ⟨_, _, _, _, e⟩ := x; exact Heap.lt_size e
  | tup xs => obtain ⟨_, _, _, p⟩ := x; exact p.lt
  | dK kvs => obtain ⟨_, _, _, _, o, _, _, e, _⟩ := x; exact Heap.lt_size e
  | dT kvs => obtain ⟨_, _, _, _, o, _, _, e, _⟩ := x; exact Heap.lt_size e
  | set S n => obtain ⟨o, _, _, _, e, _⟩ := x; exact Heap.lt_size e
  | ins C dx fs => obtain ⟨_, _, _, e, _⟩ := x; exact Heap.lt_size e
  | own y => obtain ⟨_, e⟩ := x; exact Heap.lt_size e
  | xd fs => obtain ⟨_, ⟨_, _, _, e, _⟩, _⟩ := x; exact Heap.lt_size e
  | rng lo hi => obtain ⟨_, _, _, e⟩ := x; exact Heap.lt_size e
  | frz ob u => obtain ⟨e, _⟩ := x; exact Heap.lt_size e
  | tbl ps => exact Heap.lt_size (show h.get? a = some _ from x)
  | met f y => exact Heap.lt_size (show h.get? a = some _ from x)
  | ext φ => obtain ⟨_, ⟨_, e⟩, _⟩ := x; exact Heap.lt_size e
theorem Paired.mapP {α β : Type} {F G : α → β → Prop} : ∀ {l₁ : List α} {l₂ : List β}, Paired F l₁ l₂ → (∀ a b, F a b → G a b) → Paired G l₁ l₂
  | _, _, .nil, _ => .nil
  | _, _, .cons r t, f => .cons (f _ _ r) (Paired.mapP t f)
/-- what an object's description leans on: its own object, its own dict, the tuples -/
theorem ObjOk.stay (x : ObjOk P w H h a o) (k : ∀ b u, (b = a ∨ H b = some (.own a)) → h.get? b = some u → h'.get? b = some u)
    (ho : ∀ b, H b = some (.own a) → H' b = some (.own a)) (ht : ∀ b xs, H b = some (.tup xs) → H' b = some (.tup xs)) : ObjOk P w H' h' a o := by
  induction o with
  | lst xs => obtain ⟨z, its, n, r, e⟩ := x; exact ⟨z, its, n, r, k _ _ (.inl rfl) e⟩
  | tup xs => obtain ⟨z, its, r, ob, e, c⟩ := x; exact ⟨z, its, r, ob, k _ _ (.inl rfl) e, c⟩
  | dK kvs => obtain ⟨z, y, vs, r, ob, es, ep, e, c⟩ := x; exact ⟨z, y, vs, r, ob, es, ep, k _ _ (.inl rfl) e, c⟩
  | dT kvs =>
    obtain ⟨z, y, xs, r, ob, es, ep, e, c⟩ := x
    exact ⟨z, y, xs, Paired.mapP r fun p q z => ⟨z.1, ht _ _ z.2.1, z.2.2⟩, ob, es, ep, k _ _ (.inl rfl) e, c⟩
  | set S n => obtain ⟨ob, es, ep, t, e, c⟩ := x; exact ⟨ob, es, ep, t, k _ _ (.inl rfl) e, c⟩
  | ins C dx fs =>
    obtain ⟨d, z, ne, e, mA, ⟨od, es, ep, e2, c⟩, r⟩ := x
    exact ⟨ho _ d, z, ne, k _ _ (.inl rfl) e, mA, ⟨od, es, ep, k _ _ (.inr d) e2, c⟩, r⟩
  | own y => obtain ⟨ob, e⟩ := x; exact ⟨ob, k _ _ (.inl rfl) e⟩
  | xd fs => obtain ⟨mA, ⟨od, es, ep, e, c⟩, r⟩ := x; exact ⟨mA, ⟨od, es, ep, k _ _ (.inl rfl) e, c⟩, r⟩
  | rng lo hi => obtain ⟨t, u, v, e⟩ := x; exact ⟨t, u, v, k _ _ (.inl rfl) e⟩
  | frz ob u ih => obtain ⟨e, q⟩ := x; exact ⟨k _ _ (.inl rfl) e, ih q⟩
  | tbl ps =>
    have e : h.get? a = some { cls := .none, data := .fields ps } := x
    show h'.get? a = some { cls := .none, data := .fields ps }
    exact k a _ (.inl rfl) e
  | met f y =>
    have e : h.get? a = some (PySem.W.methodObj (.ref f) (.ref y)) := x
    show h'.get? a = some (PySem.W.methodObj (.ref f) (.ref y))
    exact k a _ (.inl rfl) e
  | ext φ => obtain ⟨p, ⟨o, e⟩, st⟩ := x; exact ⟨st _ _ p fun o q => k _ _ (.inl rfl) q, ⟨o, k _ _ (.inl rfl) e⟩, st⟩
theorem HOk.lt (x : HOk P w H h) (e : H a = some o) : a < h.objs.size := (x a o e).lt
theorem HOk.fresh (x : HOk P w H h) (e : h.objs.size ≤ a) : H a = none := by
  cases q : H a with
  | none => rfl
  | some u => exact absurd (Nat.lt_of_lt_of_le (x.lt q) e) (Nat.lt_irrefl _)
/-- every object of the heap is kept -/
theorem HOk.kept (x : HOk P w H h) (k : ∀ b u, h.get? b = some u → h'.get? b = some u) : HOk P w H h' := fun a o e =>
  (x a o e).stay (fun b u _ q => k b u q) (fun _ q => q) fun _ _ q => q
/-- a new object is laid and tracked -/
theorem HOk.laid (x : HOk P w H h) (k : ∀ b u, h.get? b = some u → h'.get? b = some u) (hp : h.objs.size ≤ a) (new : ObjOk P w (upd H a o) h' a o) : HOk P w (upd H a o) h' := fun b u e => by
  have hn := x.fresh hp
  by_cases hb : b = a
  · subst hb; rw [upd_same] at e; cases e; exact new
  · rw [upd_ne hb] at e
    exact (x b u e).stay (fun c v _ q => k c v q) (fun c q => by rw [upd_ne (ne_of_none q hn)]; exact q) fun c xs q => by rw [upd_ne (ne_of_none q hn)]; exact q
end

/-- what may be read as u: it is u, or a known u -/
def Rd (H : Hp) (a : Addr) (u : HO) : Prop := H a = some u ∨ ∃ o, H a = some (.frz o u)
theorem Rd.ok {P : Program} {w : World} {H : Hp} {h : Heap} {a : Addr} {u : HO} (r : Rd H a u) (x : HOk P w H h) : ObjOk P w H h a u := by
  rcases r with r | ⟨o, r⟩
  · exact x a u r
  · obtain ⟨_, q⟩ := x a _ r
    exact q
/-- what may be written -/
def Mut : Option HO → Prop
  | some (.lst _) => True
  | some (.dK _) => True
  | some (.dT _) => True
  | some (.set _ _) => True
  | some (.ins _ _ _) => True
  | some (.ext _) => True
  | _ => False
section
variable {P : Program} {w : World} {H : Hp} {h h' : Heap} {x e : Addr} {o' : HO}
/-- the object at e is changed: x itself, or the dict of the instance x -/
theorem HOk.write (ok : HOk P w H h) (mu : Mut (H x)) (he : e = x ∨ H e = some (.own x)) (k : ∀ b u, b ≠ e → h.get? b = some u → h'.get? b = some u) (heo : ∃ u, h'.get? e = some u)
    (new : ObjOk P w (upd H x o') h' x o') : HOk P w (upd H x o') h' := fun b u q => by
  have nown : ∀ c y, H c = some (.own y) → c ≠ x := fun c y r z => by subst z; rw [r] at mu; exact mu
  have ntup : ∀ c xs, H c = some (.tup xs) → c ≠ x := fun c xs r z => by subst z; rw [r] at mu; exact mu
  by_cases hb : b = x
  · subst hb; rw [upd_same] at q; cases q; exact new
  · rw [upd_ne hb] at q
    by_cases hbe : b = e
    · have q' : H b = some (.own x) := by
        rcases he with z | z
        · exact absurd (hbe.trans z) hb
        · rw [hbe]; exact z
      rw [q] at q'; cases q'
      obtain ⟨v, hv⟩ := heo
      exact ⟨v, by rw [hbe]; exact hv⟩
    · refine (ok b u q).stay (fun c v hc r => k c v ?_ r) (fun c r => by rw [upd_ne (nown c b r)]; exact r) fun c xs r => by rw [upd_ne (ntup c xs r)]; exact r
      rcases hc with rfl | hc
      · exact hbe
      · rintro rfl
        rcases he with z | z
        · exact nown c b hc z
        · rw [hc] at z; cases z; exact hb rfl
end

/-! ### kept unless tracked; of the frames at fs (the callers') the slots may change (an exception that passes writes there); of the records at ex (iterators) nothing is said -/
structure Un (fs ex : List Addr) (H H' : Hp) (h h' : Heap) : Prop where
  keep : ∀ b o, h.get? b = some o → H b = none → b ∉ fs → b ∉ ex → h'.get? b = some o
  slot : ∀ b o, h.get? b = some o → H b = none → b ∈ fs → b ∉ ex → ∃ sl, h'.get? b = some { o with slots := sl }
  free : ∀ b o, h.get? b = some o → H b = none → b ∉ ex → H' b = none
  there : ∀ b o, h.get? b = some o → b ∉ ex → ∃ o', h'.get? b = some o'
  tups : ∀ b xs, H b = some (.tup xs) → H' b = some (.tup xs)
  frzs : ∀ b o u, H b = some (.frz o u) → H' b = some (.frz o u)
  tbls : ∀ b ps, H b = some (.tbl ps) → ∃ more, H' b = some (.tbl (ps ++ more))
section
variable {fs fs' ex ex' : List Addr} {H H1 H2 : Hp} {h h1 h2 h' : Heap} {a x e : Addr} {o : HO}
theorem Un.any (u : Un fs ex H H1 h h1) {b : Addr} {ob : Obj} (q : h.get? b = some ob) (n : H b = none) (hx : b ∉ ex) : ∃ sl, h1.get? b = some { ob with slots := sl } := by
  by_cases hb : b ∈ fs
  · exact u.slot b ob q n hb hx
  · exact ⟨ob.slots, u.keep b ob q n hb hx⟩
theorem Un.kept (k : ∀ b u, h.get? b = some u → h'.get? b = some u) : Un fs ex H H h h' :=
  ⟨fun b ob q _ _ _ => k b ob q, fun b ob q _ _ _ => ⟨ob.slots, k b ob q⟩, fun _ _ _ n _ => n, fun b ob q _ => ⟨ob, k b ob q⟩, fun _ _ q => q, fun _ _ _ q => q, fun _ ps q => ⟨#[], by rw [q]; simp⟩⟩
theorem Un.refl : Un fs ex H H h h := Un.kept fun _ _ q => q
theorem Un.laid (k : ∀ b u, h.get? b = some u → h'.get? b = some u) (hp : h.objs.size ≤ a) (hn : H a = none) : Un fs ex H (upd H a o) h h' where
  keep := fun b u q _ _ _ => k b u q
  slot := fun b u q _ _ _ => ⟨u.slots, k b u q⟩
  free := fun b u q n _ => by rw [upd_ne (Nat.ne_of_lt (Nat.lt_of_lt_of_le (Heap.lt_size q) hp))]; exact n
  there := fun b u q _ => ⟨u, k b u q⟩
  tups := fun b xs q => by rw [upd_ne (ne_of_none q hn)]; exact q
  frzs := fun b u xs q => by rw [upd_ne (ne_of_none q hn)]; exact q
  tbls := fun b ps q => ⟨#[], by rw [upd_ne (ne_of_none q hn), q]; simp⟩
theorem Un.write (mu : Mut (H x)) (he : e = x ∨ H e = some (.own x)) (k : ∀ b u, b ≠ e → h.get? b = some u → h'.get? b = some u) (heo : ∃ u, h'.get? e = some u) : Un fs ex H (upd H x o) h h' := by
  have hx : ∀ b, H b = none → b ≠ x := fun b n z => by subst z; rw [n] at mu; exact mu
  have hb : ∀ b, H b = none → b ≠ e := fun b n z => by
    subst z
    rcases he with r | r
    · exact hx b n r
    · rw [n] at r; cases r
  have hm : ∀ b u, H b = some u → ¬ Mut (some u) → b ≠ x := fun b u q nm z => by subst z; rw [q] at mu; exact nm mu
  refine ⟨fun b u q n _ _ => k b u (hb b n) q, fun b u q n _ _ => ⟨u.slots, k b u (hb b n) q⟩, fun b u q n _ => by rw [upd_ne (hx b n)]; exact n, fun b u q _ => ?_,
    fun b xs q => by rw [upd_ne (hm b _ q fun z => z)]; exact q, fun b u xs q => by rw [upd_ne (hm b _ q fun z => z)]; exact q, fun b ps q => ⟨#[], by rw [upd_ne (hm b _ q fun z => z), q]; simp⟩⟩
  by_cases hbe : b = e
  · subst hbe; exact heo
  · exact ⟨u, k b u hbe q⟩
end

/-! ### the heap without what is tracked -/
def trk (h : Heap) (H : Hp) : List Addr := (List.range h.objs.size).filter fun a => (H a).isSome
def hidT (h : Heap) (H : Hp) : Heap := PySem.W.hideAll h (trk h H)
theorem hidT_size (h : Heap) (H : Hp) : (hidT h H).objs.size = h.objs.size := PySem.W.hideAll_size _ _
theorem hidT_get {h : Heap} {H : Hp} {b : Addr} {o : Obj} (e : h.get? b = some o) (n : H b = none) : (hidT h H).get? b = some o :=
  PySem.W.hideAll_get _ e fun hm => by
    have q : (H b).isSome = true := (List.mem_filter.mp hm).2
    rw [n] at q; simp at q
theorem of_hidT {h : Heap} {H : Hp} {b : Addr} {o : Obj} (e : (hidT h H).get? b = some o) : h.get? b = some o ∧ H b = none := by
  have e' : h.get? b = some o := PySem.W.of_hideAll (trk h H) e
  refine ⟨e', ?_⟩
  cases q : H b with
  | none => rfl
  | some x =>
    have hm : b ∈ trk h H := List.mem_filter.mpr ⟨List.mem_range.mpr (Heap.lt_size e'), by simp [q]⟩
    have z : (hidT h H).get? b = none := PySem.W.hideAll_none (trk h H) hm
    rw [z] at e; cases e

/-! ### OpenK's ledger, filled with every new object but one -/
end L2

namespace L2
open PySem PySem.Spec PyProof.Rows

/-- the module's facts, over the base: the heap at the law's entry without what is tracked there -/
structure Mod (K : PySem.W.Frag) (mg : Str → Option Value) (base : Heap) : Prop where
  kin : K.In base
  glob : base.Ns mainGlobals mg
  blt : ∃ mb, base.Ns builtinsNs mb ∧ ∀ x : Str, x ≠ "__name__" → mb x = bootBuiltins x
  nolimit : base.NoLimit

/-- the context: a def's body (or a comprehension's block) running. base: fixed through the whole law; s₀, H₀: the entry; outer: the frames whose slots others may change (a def's callers); stack: all frames that run;
   ex: iterators that were made ahead of the entry and are walked here (a comprehension's); fn: the names whose cells were made at the entry (a def: all; a comprehension's block: its own); calm: not within an except suite; pn: pins that every state bears; xe: what is wanted of an exception that leaves the code -/
structure Cx where
  prog : Program
  w : World
  K : PySem.W.Frag
  mg : Str → Option Value
  base : Heap
  A : Around
  N : List Str
  s₀ : Shared
  H₀ : Hp
  env : Env
  outer : List Env
  stack : List Env
  ex : List Addr
  fn : Str → Bool
  calm : Bool
  pn : List (Addr × Obj)
  xe : Value → Shared → Prop
/-- the callers' frames -/
def frs (l : List Env) : List Addr := l.filterMap (·.frame)
abbrev Cx.fs (X : Cx) : List Addr := frs X.outer

def Vis (sc : Scope) (x : Str) : Prop := sc.names.lookup x = some .local ∨ sc.names.lookup x = some .cell ∨ sc.names.lookup x = some .free
def Loc (sc : Scope) (x : Str) : Prop := sc.names.lookup x = some .local ∨ sc.names.lookup x = some .cell
def Look (env : Env) (h : Heap) (m : Str → Option Value) (x : Str) (u : Value) : Prop :=
  (env.kindOf x = some .local ∧ m x = some u) ∨ ((env.kindOf x = some .cell ∨ env.kindOf x = some .free) ∧ ∃ c, env.cells.lookup x = some c ∧ h.IsCell c (some u))

structure Cx.Ok (X : Cx) : Prop where
  mod : Mod X.K X.mg X.base
  kind : X.env.scope.kind = .function
  glob : X.env.globals = mainGlobals
  blt : X.env.builtins = builtinsNs
  above : X.s₀.heap.objs.size ≤ X.env.locals
  inj : ∀ x y c, X.env.cells.lookup x = some c → X.env.cells.lookup y = some c → x = y
  has : ∀ x, (X.env.kindOf x = some .cell ∨ X.env.kindOf x = some .free) → ∃ c, X.env.cells.lookup x = some c
  cab : ∀ x c, X.fn x = true → X.env.cells.lookup x = some c → X.s₀.heap.objs.size ≤ c
  hd : X.calm = true → X.A.handled = none
  frames : X.A.frames = some X.stack
  stk : X.stack = X.outer ∨ (X.stack = X.env :: X.outer ∧ X.env.frame = some X.env.locals)
  exf : ∀ b ∈ X.ex, b ≠ X.env.locals ∧ ∀ x c, X.env.cells.lookup x = some c → c ≠ b
  bs : ∀ b o, X.base.get? b = some o → X.s₀.heap.get? b = some o ∧ X.H₀ b = none
  bsz : X.base.objs.size ≤ X.s₀.heap.objs.size
  noex : ∀ b o, X.base.get? b = some o → b ∉ X.ex
  exfs : ∀ b ∈ X.ex, b ∉ X.fs
  funs : X.s₀.heap.FunFrames X.base X.outer
  frf : ∀ b ∈ X.fs, X.H₀ b = none

structure Inv (X : Cx) (pins : List (Addr × Obj)) (σ : List (Option V)) (H : Hp) (s : Shared) : Prop where
  ok : X.Ok
  os : s.os = X.s₀.os
  bare : AllBare s.gens
  base : Un X.fs X.ex X.H₀ H X.s₀.heap s.heap
  loc : ∃ m, s.heap.Ns X.env.locals m ∧ ∀ (i : Nat) (x : Str) (v : V), X.N[i]? = some x → σ[i]? = some (some v) → Vis X.env.scope x → ∃ u, RelV v u ∧ Look X.env s.heap m x u
  cell : ∀ x c, X.env.cells.lookup x = some c → ∃ v, s.heap.IsCell c v
  free : H X.env.locals = none
  freeC : ∀ x c, X.env.cells.lookup x = some c → H c = none
  pin : ∀ p ∈ X.pn ++ pins, s.heap.get? p.1 = some p.2 ∧ H p.1 = none ∧ p.1 ≠ X.env.locals ∧ p.1 ∉ X.fs ∧ ∀ v, p.2.data ≠ .cell v
  hok : HOk X.prog X.w H s.heap
  len : σ.length = X.N.length

section
variable {X : Cx} {pins : List (Addr × Obj)} {σ : List (Option V)} {H H' : Hp} {s : Shared} {h' : Heap}

theorem Cx.Ok.nofr (ok : X.Ok) {b : Addr} {o : Obj} (e : X.base.get? b = some o) : b ∉ X.fs := fun hb => by
  have := (ok.funs.mem hb).1
  rw [e] at this; cases this
theorem Inv.bs (I : Inv X pins σ H s) : ∀ b o, X.base.get? b = some o → s.heap.get? b = some o ∧ H b = none := fun b o e =>
  ⟨I.base.keep b o (I.ok.bs b o e).1 (I.ok.bs b o e).2 (I.ok.nofr e) (I.ok.noex b o e), I.base.free b o (I.ok.bs b o e).1 (I.ok.bs b o e).2 (I.ok.noex b o e)⟩
theorem Inv.bk (I : Inv X pins σ H s) : ∀ b o, X.base.get? b = some o → s.heap.get? b = some o := fun b o e => (I.bs b o e).1
theorem Inv.mod (I : Inv X pins σ H s) : Mod X.K X.mg X.base := I.ok.mod
theorem Inv.kIn (I : Inv X pins σ H s) : X.K.In s.heap := I.ok.mod.kin.keeps I.bk
theorem Inv.lt (I : Inv X pins σ H s) : X.env.locals < s.heap.objs.size := let ⟨_, hn, _⟩ := I.loc; hn.lt
theorem Inv.sz (I : Inv X pins σ H s) : X.s₀.heap.objs.size ≤ s.heap.objs.size := Nat.le_trans I.ok.above (Nat.le_of_lt I.lt)
theorem Inv.nofs (I : Inv X pins σ H s) {a : Addr} (h : s.heap.objs.size ≤ a) : a ∉ X.fs := fun hb => by
  obtain ⟨_, o, ho, _⟩ := I.ok.funs.mem hb
  exact absurd (Nat.lt_of_lt_of_le (Heap.lt_size ho) (Nat.le_trans I.sz h)) (Nat.lt_irrefl _)
theorem Inv.cne (I : Inv X pins σ H s) : ∀ x c, X.env.cells.lookup x = some c → c ≠ X.env.locals := fun x c e z => by
  obtain ⟨v, o, ho, hd⟩ := I.cell x c e
  obtain ⟨m, ⟨o', es, ep, ho', hd', _⟩, _⟩ := I.loc
  rw [z, ho'] at ho; cases ho; rw [hd'] at hd; cases hd
theorem Inv.funs (I : Inv X pins σ H s) : s.heap.FunFrames X.base X.outer := by
  have all : ∀ (l : List Env), (∀ b ∈ frs l, b ∈ X.fs) → X.s₀.heap.FunFrames X.base l → s.heap.FunFrames X.base l := by
    intro l
    induction l with
    | nil => intro _ _; trivial
    | cons env r ih =>
      intro hs hl
      obtain ⟨hk, ⟨L, o, hf, hn, ho, hd⟩, hr⟩ := hl
      have hL : L ∈ X.fs := hs L (by unfold frs; rw [List.filterMap_cons, hf]; exact List.mem_cons_self)
      obtain ⟨sl, e⟩ := I.base.slot L o ho (I.ok.frf L hL) hL fun z => I.ok.exfs L z hL
      exact ⟨hk, ⟨L, _, hf, hn, e, hd⟩, ih (fun b hb => hs b (by unfold frs; rw [List.filterMap_cons, hf]; exact List.mem_cons_of_mem _ hb)) hr⟩
  exact all X.outer (fun _ hb => hb) I.ok.funs

/-- the frames that run, for a call -/
theorem Inv.stack (I : Inv X pins σ H s) : s.heap.FunFrames X.base X.stack := by
  rcases I.ok.stk with e | ⟨e, hf⟩
  · rw [e]; exact I.funs
  · rw [e]
    obtain ⟨m, hn, _⟩ := I.loc
    refine .cons (by rw [I.ok.kind]; decide) hf hn ?_ I.funs
    exact Heap.get?_none_of_le (Nat.le_trans I.ok.bsz I.ok.above)
theorem Inv.stkSub (I : Inv X pins σ H s) : ∀ b ∈ frs X.stack, b ∈ X.env.locals :: X.fs := fun b hb => by
  rcases I.ok.stk with e | ⟨e, hf⟩
  · rw [e] at hb; exact List.mem_cons_of_mem _ hb
  · rw [e] at hb
    unfold frs at hb
    rw [List.filterMap_cons, hf] at hb
    exact hb
theorem Inv.stkFree (I : Inv X pins σ H s) : ∀ b ∈ frs X.stack, H b = none := fun b hb => by
  rcases List.mem_cons.mp (I.stkSub b hb) with e | hb
  · rw [e]; exact I.free
  · obtain ⟨_, o, ho, _⟩ := I.ok.funs.mem hb
    exact I.base.free b o ho (I.ok.frf b hb) fun z => I.ok.exfs b z hb

/-- THE STEP: the untracked objects but the frame and the records at ch are kept (the callers' frames up to slots), the frame's map is kept, the new abstract heap is held -/
theorem Inv.step {g' : Array GenState} {t' : Nat} {d' : Drawn} {ch : List Addr} (I : Inv X pins σ H s)
    (hch : ∀ b ∈ ch, (b ∈ X.ex ∨ X.s₀.heap.objs.size ≤ b) ∧ b ≠ X.env.locals ∧ (∀ x c, X.env.cells.lookup x = some c → c ≠ b) ∧ ∀ p ∈ X.pn ++ pins, p.1 ≠ b)
    (keep : ∀ b o, b ≠ X.env.locals → b ∉ X.fs → b ∉ ch → s.heap.get? b = some o → H b = none → h'.get? b = some o)
    (slot : ∀ b o, b ≠ X.env.locals → b ∈ X.fs → b ∉ ch → s.heap.get? b = some o → H b = none → ∃ sl, h'.get? b = some { o with slots := sl }) (free : ∀ b o, b ∉ ch → s.heap.get? b = some o → H b = none → H' b = none)
    (there : ∀ b o, b ∉ ch → s.heap.get? b = some o → ∃ o', h'.get? b = some o')
    (tups : ∀ b xs, H b = some (.tup xs) → H' b = some (.tup xs)) (frzs : ∀ b o u, H b = some (.frz o u) → H' b = some (.frz o u)) (tbls : ∀ b ps, H b = some (.tbl ps) → ∃ more, H' b = some (.tbl (ps ++ more)))
    (ns : ∀ m, s.heap.Ns X.env.locals m → h'.Ns X.env.locals m) (hok : HOk X.prog X.w H' h') (hg : AllBare g') :
    Inv X pins σ H' { s with heap := h', gens := g', drawn := d', toks := t' } := by
  have neL : ∀ b o, X.s₀.heap.get? b = some o → b ≠ X.env.locals := fun b o e => Nat.ne_of_lt (Nat.lt_of_lt_of_le (Heap.lt_size e) I.ok.above)
  have neC : ∀ b o, X.s₀.heap.get? b = some o → b ∉ X.ex → b ∉ ch := fun b o e hx hb => by
    rcases (hch b hb).1 with z | z
    · exact hx z
    · exact absurd (Nat.lt_of_lt_of_le (Heap.lt_size e) z) (Nat.lt_irrefl _)
  have cellK : ∀ x c, X.env.cells.lookup x = some c → ∀ v, s.heap.IsCell c v → h'.IsCell c v := fun x c e v ⟨o, ho, hd⟩ => by
    have nch : c ∉ ch := fun z => (hch c z).2.2.1 x c e rfl
    by_cases hc : c ∈ X.fs
    · obtain ⟨sl, q⟩ := slot c o (I.cne x c e) hc nch ho (I.freeC x c e)
      exact ⟨_, q, hd⟩
    · exact ⟨o, keep c o (I.cne x c e) hc nch ho (I.freeC x c e), hd⟩
  refine ⟨I.ok, I.os, hg, ⟨fun b o e n hb hx => ?_, fun b o e n hb hx => ?_, fun b o e n hx => ?_, fun b o e hx => ?_, fun b xs e => tups b xs (I.base.tups b xs e), fun b o xs e => frzs b o xs (I.base.frzs b o xs e), fun b ps e => ?_⟩, ?_, fun x c e => ?_, ?_, fun x c e => ?_, fun p hp => ?_, hok, I.len⟩
  · exact keep b o (neL b o e) hb (neC b o e hx) (I.base.keep b o e n hb hx) (I.base.free b o e n hx)
  · obtain ⟨sl, e1⟩ := I.base.slot b o e n hb hx
    obtain ⟨sl', e2⟩ := slot b _ (neL b o e) hb (neC b o e hx) e1 (I.base.free b o e n hx)
    exact ⟨sl', e2⟩
  · obtain ⟨o', e1⟩ := I.base.there b o e hx
    exact free b o' (neC b o e hx) e1 (I.base.free b o e n hx)
  · obtain ⟨o', e1⟩ := I.base.there b o e hx
    exact there b o' (neC b o e hx) e1
  · obtain ⟨m1, e1⟩ := I.base.tbls b ps e
    obtain ⟨m2, e2⟩ := tbls b _ e1
    exact ⟨m1 ++ m2, by rw [e2, Array.append_assoc]⟩
  · obtain ⟨m, hn, hl⟩ := I.loc
    refine ⟨m, ns m hn, fun i x v e1 e2 e3 => ?_⟩
    obtain ⟨u, r, l⟩ := hl i x v e1 e2 e3
    refine ⟨u, r, ?_⟩
    rcases l with l | ⟨k, c, e, z⟩
    · exact .inl l
    · exact .inr ⟨k, c, e, cellK x c e _ z⟩
  · obtain ⟨v, z⟩ := I.cell x c e
    exact ⟨v, cellK x c e v z⟩
  · obtain ⟨m, ⟨o, _, _, ho, _⟩, _⟩ := I.loc
    exact free _ o (fun z => (hch _ z).2.1 rfl) ho I.free
  · obtain ⟨v, o, ho, hd⟩ := I.cell x c e
    exact free c o (fun z => (hch c z).2.2.1 x c e rfl) ho (I.freeC x c e)
  · obtain ⟨e, n, ne, nf, d⟩ := I.pin p hp
    have nch : p.1 ∉ ch := fun z => (hch p.1 z).2.2.2 p hp rfl
    exact ⟨keep p.1 p.2 ne nf nch e n, free p.1 p.2 nch e n, ne, nf, d⟩
/-- .. where the frame's own object is kept too -/
theorem Inv.un {t' : Nat} (I : Inv X pins σ H s) (u : Un X.fs [] H H' s.heap h') (hok : HOk X.prog X.w H' h') : Inv X pins σ H' { s with heap := h', toks := t' } := by
  obtain ⟨m, ⟨o, es, ep, ho, r⟩, _⟩ := id I.loc
  obtain ⟨sl, hL⟩ := u.any ho I.free (by simp)
  exact I.step (g' := s.gens) (d' := s.drawn) (ch := []) (fun _ z => nomatch z) (fun b o _ hb _ e n => u.keep b o e n hb (by simp)) (fun b o _ hb _ e n => u.slot b o e n hb (by simp)) (fun b o _ e n => u.free b o e n (by simp)) (fun b o _ e => u.there b o e (by simp)) u.tups u.frzs u.tbls (fun m' hm => by
    obtain ⟨o', es', ep', ho', r'⟩ := hm
    rw [ho] at ho'; cases ho'
    exact ⟨_, es', ep', hL, r'⟩) hok I.bare
/-- behind a call (or a comprehension's block): the slots of this frame may have changed too, the records at ch may have turned -/
theorem Inv.call {g' : Array GenState} {t' : Nat} {d' : Drawn} {ch : List Addr} (I : Inv X pins σ H s) (u : Un (frs X.stack) ch H H' s.heap h') (hok : HOk X.prog X.w H' h') (hg : AllBare g')
    (hch : ∀ b ∈ ch, (b ∈ X.ex ∨ X.s₀.heap.objs.size ≤ b) ∧ b ≠ X.env.locals ∧ (∀ x c, X.env.cells.lookup x = some c → c ≠ b) ∧ ∀ p ∈ X.pn ++ pins, p.1 ≠ b) :
    Inv X pins σ H' { s with heap := h', gens := g', drawn := d', toks := t' } := by
  obtain ⟨m, ⟨o, es, ep, ho, r⟩, _⟩ := id I.loc
  obtain ⟨sl, hL⟩ := u.any ho I.free fun z => (hch _ z).2.1 rfl
  exact I.step (ch := ch) hch (fun b o hL hb hc e n => u.keep b o e n (fun z => (List.mem_cons.mp (I.stkSub b z)).elim hL hb) hc) (fun b o _ _ hc e n => u.any e n hc) (fun b o hc e n => u.free b o e n hc) (fun b o hc e => u.there b o e hc) u.tups u.frzs u.tbls (fun m' hm => by
    obtain ⟨o', es', ep', ho', r'⟩ := hm
    rw [ho] at ho'; cases ho'
    exact ⟨_, es', ep', hL, r'⟩) hok hg
/-- an untracked record of ours (an iterator) has turned -/
theorem Inv.turned {t' : Nat} {it : Addr} (I : Inv X pins σ H s) (k : ∀ b o, b ≠ it → s.heap.get? b = some o → h'.get? b = some o) (hn : H it = none) (hL : it ≠ X.env.locals)
    (h1 : it ∈ X.ex ∨ X.s₀.heap.objs.size ≤ it) (h2 : ∀ x c, X.env.cells.lookup x = some c → c ≠ it) (h3 : ∀ p ∈ X.pn ++ pins, p.1 ≠ it) : Inv X pins σ H { s with heap := h', toks := t' } := by
  have nit : ∀ b u, H b = some u → b ≠ it := fun b u e z => by rw [z, hn] at e; cases e
  refine I.step (g' := s.gens) (d' := s.drawn) (ch := [it]) (fun b hb => ?_) (fun b o _ _ hc e _ => k b o (fun z => hc (by simp [z])) e) (fun b o _ _ hc e _ => ⟨o.slots, k b o (fun z => hc (by simp [z])) e⟩) (fun _ _ _ _ n => n)
    (fun b o hc e => ⟨o, k b o (fun z => hc (by simp [z])) e⟩) (fun _ _ e => e) (fun _ _ _ e => e) (fun b ps e => ⟨#[], by rw [e]; simp⟩) (fun m hm => ?_) (fun b u e => ?_) I.bare
  · have e : b = it := by simpa using hb
    subst e
    exact ⟨h1, hL, h2, h3⟩
  · obtain ⟨o, es, ep, ho, r⟩ := hm
    exact ⟨o, es, ep, k _ o (Ne.symm hL) ho, r⟩
  · refine (I.hok b u e).stay (fun c v hc q => k c v ?_ q) (fun _ q => q) fun _ _ q => q
    rcases hc with z | z
    · rw [z]; exact nit b u e
    · exact nit c _ z
theorem Inv.tok (I : Inv X pins σ H s) (t : Nat) : Inv X pins σ H { s with toks := t } := I.un (h' := s.heap) (t' := t) Un.refl I.hok
/-- all objects kept -/
theorem Inv.kept {t' : Nat} (I : Inv X pins σ H s) (k : ∀ b u, s.heap.get? b = some u → h'.get? b = some u) : Inv X pins σ H { s with heap := h', toks := t' } := I.un (Un.kept k) (I.hok.kept k)
/-- a new object laid and tracked -/
theorem Inv.laid {a : Addr} {o : HO} {t' : Nat} (I : Inv X pins σ H s) (k : ∀ b u, s.heap.get? b = some u → h'.get? b = some u) (hp : s.heap.objs.size ≤ a) (new : ObjOk X.prog X.w (upd H a o) h' a o) :
    Inv X pins σ (upd H a o) { s with heap := h', toks := t' } := I.un (Un.laid k hp (I.hok.fresh hp)) (I.hok.laid k hp new)
/-- an object written -/
theorem Inv.write {x e : Addr} {o : HO} {t' : Nat} (I : Inv X pins σ H s) (mu : Mut (H x)) (he : e = x ∨ H e = some (.own x)) (k : ∀ b u, b ≠ e → s.heap.get? b = some u → h'.get? b = some u) (heo : ∃ u, h'.get? e = some u)
    (new : ObjOk X.prog X.w (upd H x o) h' x o) : Inv X pins σ (upd H x o) { s with heap := h', toks := t' } := I.un (Un.write mu he k heo) (I.hok.write mu he k heo new)
theorem Inv.pins_of {pins' : List (Addr × Obj)} (I : Inv X pins σ H s) (h : ∀ p ∈ pins', s.heap.get? p.1 = some p.2 ∧ H p.1 = none ∧ p.1 ≠ X.env.locals ∧ p.1 ∉ X.fs ∧ ∀ v, p.2.data ≠ .cell v) : Inv X pins' σ H s :=
  ⟨I.ok, I.os, I.bare, I.base, I.loc, I.cell, I.free, I.freeC, fun p hp => (List.mem_append.mp hp).elim (fun z => I.pin p (List.mem_append_left _ z)) (h p), I.hok, I.len⟩

theorem nodup_ix {N : List Str} (hN : N.Nodup) {i j : Nat} {x : Str} (a : N[i]? = some x) (b : N[j]? = some x) : i = j := by
  obtain ⟨h1, e1⟩ := List.getElem?_eq_some_iff.mp a
  obtain ⟨h2, e2⟩ := List.getElem?_eq_some_iff.mp b
  exact (List.getElem_inj hN).mp (e1.trans e2.symm)

/-- a name is stored; what changed -/
theorem store_ok2 {M : Model} {A : Around} {E : Value → Shared → Prop} {i : Nat} {x : Str} {v : V} {u : Value} {Q : Unit → Shared → Prop} (I : Inv X pins σ H s) (hN : X.N.Nodup) (hi : X.N[i]? = some x) (hx : Loc X.env.scope x) (r : RelV v u)
    (h : ∀ s', Inv X pins (σ.set i (some v)) H s' → (∃ a, Heap.SameBut a s.heap s'.heap ∧ (a = X.env.locals ∨ X.env.cells.lookup x = some a)) → Q () s') (hf : X.fn x = true ∨ X.env.scope.names.lookup x = some .local := by first | exact .inl rfl | exact .inr rfl | assumption) : wpAny M A (storeName X.env x u) Q E s := by
  obtain ⟨m, hn, hl⟩ := id I.loc
  have hcls : (X.env.scope.kind == .class || (X.env.scope.kind == .module && X.env.locals != X.env.globals)) = false := by rw [I.ok.kind]; rfl
  have hiσ : i < σ.length := by rw [I.len]; exact (List.getElem?_eq_some_iff.mp hi).1
  have cne := I.cne
  have tracked : ∀ {a : Addr} {h' : Heap}, (∃ o, s.heap.get? a = some o ∧ H a = none) → Heap.SameBut a s.heap h' → HOk X.prog X.w H h' := fun {a h'} ha hs b ob e => by
    obtain ⟨_, _, hfree⟩ := ha
    refine (I.hok b ob e).stay (fun c w' hc q => (hs.2 c ?_).trans q) (fun _ q => q) fun _ _ q => q
    rintro rfl
    rcases hc with rfl | hc
    · rw [hfree] at e; cases e
    · rw [hfree] at hc; cases hc
  rcases hx with hk | hk
  · refine wpAny_storeName_local hk hn (fun h' hn' hs => ?_) hcls
    obtain ⟨oL, _, _, hoL, _⟩ := id hn
    refine h _ ⟨I.ok, I.os, I.bare, ⟨fun b o e n hb hx => ?_, fun b o e n hb hx => ?_, I.base.free, fun b o e hx => ?_, I.base.tups, I.base.frzs, I.base.tbls⟩, ⟨_, hn', fun j y v' e1 e2 e3 => ?_⟩, fun y c e => ?_, I.free, I.freeC, fun p hp => ?_, tracked ⟨oL, hoL, I.free⟩ hs, by simpa using I.len⟩ ⟨_, hs, .inl rfl⟩
    · exact (hs.2 b (Nat.ne_of_lt (Nat.lt_of_lt_of_le (Heap.lt_size e) I.ok.above))).trans (I.base.keep b o e n hb hx)
    · obtain ⟨sl, e1⟩ := I.base.slot b o e n hb hx
      exact ⟨sl, (hs.2 b (Nat.ne_of_lt (Nat.lt_of_lt_of_le (Heap.lt_size e) I.ok.above))).trans e1⟩
    · obtain ⟨o', e1⟩ := I.base.there b o e hx
      exact ⟨o', (hs.2 b (Nat.ne_of_lt (Nat.lt_of_lt_of_le (Heap.lt_size e) I.ok.above))).trans e1⟩
    · by_cases hj : j = i
      · subst hj
        rw [hi] at e1; cases e1
        rw [List.getElem?_set_self hiσ] at e2
        cases e2
        exact ⟨u, r, .inl ⟨hk, by simp⟩⟩
      · rw [List.getElem?_set_ne (Ne.symm hj)] at e2
        obtain ⟨u', r', q⟩ := hl j y v' e1 e2 e3
        refine ⟨u', r', ?_⟩
        rcases q with ⟨k, e⟩ | ⟨k, c, e, z⟩
        · refine .inl ⟨k, ?_⟩
          have : y ≠ x := fun e => hj (nodup_ix hN e1 (e ▸ hi))
          simp [this, e]
        · exact .inr ⟨k, c, e, z.sameBut hs (cne y c e)⟩
    · obtain ⟨w', z⟩ := I.cell y c e
      exact ⟨w', z.sameBut hs (cne y c e)⟩
    · obtain ⟨e, n, ne, nf, d⟩ := I.pin p hp
      exact ⟨(hs.2 p.1 ne).trans e, n, ne, nf, d⟩
  · have hfn : X.fn x = true := by
      rcases hf with z | z
      · exact z
      · rw [z] at hk; cases hk
    obtain ⟨c, hc⟩ := I.ok.has x (.inl hk)
    obtain ⟨w', z⟩ := I.cell x c hc
    refine wpAny_storeName_cell I.ok.kind hk hc z (fun h' hc' hs => ?_)
    obtain ⟨oc, hoc, hocd⟩ := id z
    refine h { s with heap := h' } ⟨I.ok, I.os, I.bare, ⟨fun b o e n hb hx => ?_, fun b o e n hb hx => ?_, I.base.free, fun b o e hx => ?_, I.base.tups, I.base.frzs, I.base.tbls⟩, ⟨m, hn.sameBut hs (Ne.symm (cne x c hc)), fun j y v' e1 e2 e3 => ?_⟩, fun y c' e => ?_, I.free, I.freeC, fun p hp => ?_, tracked ⟨oc, hoc, I.freeC x c hc⟩ hs, by simpa using I.len⟩ ⟨c, hs, .inr hc⟩
    · exact (hs.2 b (Nat.ne_of_lt (Nat.lt_of_lt_of_le (Heap.lt_size e) (I.ok.cab x c hfn hc)))).trans (I.base.keep b o e n hb hx)
    · obtain ⟨sl, e1⟩ := I.base.slot b o e n hb hx
      exact ⟨sl, (hs.2 b (Nat.ne_of_lt (Nat.lt_of_lt_of_le (Heap.lt_size e) (I.ok.cab x c hfn hc)))).trans e1⟩
    · obtain ⟨o', e1⟩ := I.base.there b o e hx
      exact ⟨o', (hs.2 b (Nat.ne_of_lt (Nat.lt_of_lt_of_le (Heap.lt_size e) (I.ok.cab x c hfn hc)))).trans e1⟩
    · by_cases hj : j = i
      · subst hj
        rw [hi] at e1; cases e1
        rw [List.getElem?_set_self hiσ] at e2
        cases e2
        exact ⟨u, r, .inr ⟨.inl hk, c, hc, hc'⟩⟩
      · rw [List.getElem?_set_ne (Ne.symm hj)] at e2
        obtain ⟨u', r', q⟩ := hl j y v' e1 e2 e3
        refine ⟨u', r', ?_⟩
        rcases q with q | ⟨k, c', e, z'⟩
        · exact .inl q
        · refine .inr ⟨k, c', e, z'.sameBut hs ?_⟩
          rintro rfl
          exact hj (nodup_ix hN e1 (I.ok.inj _ _ _ e hc ▸ hi))
    · by_cases hcc : c' = c
      · subst hcc; exact ⟨_, hc'⟩
      · obtain ⟨w2, z2⟩ := I.cell y c' e
        exact ⟨w2, z2.sameBut hs hcc⟩
    · obtain ⟨e, n, ne, nf, d⟩ := I.pin p hp
      refine ⟨(hs.2 p.1 ?_).trans e, n, ne, nf, d⟩
      intro q
      rw [q, hoc] at e
      have q' : oc = p.2 := Option.some.inj e
      exact d w' (by rw [← q']; exact hocd)
theorem store_ok {M : Model} {A : Around} {E : Value → Shared → Prop} {i : Nat} {x : Str} {v : V} {u : Value} {Q : Unit → Shared → Prop} (I : Inv X pins σ H s) (hN : X.N.Nodup) (hi : X.N[i]? = some x) (hx : Loc X.env.scope x) (r : RelV v u)
    (h : ∀ s', Inv X pins (σ.set i (some v)) H s' → Q () s') (hf : X.fn x = true ∨ X.env.scope.names.lookup x = some .local := by first | exact .inl rfl | exact .inr rfl | assumption) : wpAny M A (storeName X.env x u) Q E s :=
  store_ok2 I hN hi hx r (fun s' I' _ => h s' I') hf
/-- behind a call or a block, the state as it is -/
theorem Inv.call' {s' : Shared} {ch : List Addr} (I : Inv X pins σ H s) (ho : s'.os = s.os) (u : Un (frs X.stack) ch H H' s.heap s'.heap) (hok : HOk X.prog X.w H' s'.heap) (hg : AllBare s'.gens)
    (hch : ∀ b ∈ ch, (b ∈ X.ex ∨ X.s₀.heap.objs.size ≤ b) ∧ b ≠ X.env.locals ∧ (∀ x c, X.env.cells.lookup x = some c → c ≠ b) ∧ ∀ p ∈ X.pn ++ pins, p.1 ≠ b) : Inv X pins σ H' s' := by
  obtain ⟨h', g', d', t', o'⟩ := s'
  have e : o' = s.os := ho
  subst e
  exact I.call (g' := g') (t' := t') (d' := d') u hok hg hch
end

/-! ### the judgements -/
/-- an exception: its class, its own dict's address (where it has one), the abstract heap behind it -/
abbrev XK := Value → Option Addr → Hp → Prop
abbrev St := List (Option V)
abbrev VK := V → Hp → Prop
/-- an expression's reading; a test's; an argument list's -/
abbrev TE := St → Hp → VK → Prop
abbrev TT := St → Hp → (Bool → Hp → Prop) → Prop
abbrev TA := St → Hp → (List V → Hp → Prop) → Prop
/-- what is wanted behind a statement -/
structure Ends where
  nx : St → Hp → Prop
  rt : VK
  bk : St → Hp → Prop := fun _ _ => False
  ct : St → Hp → Prop := fun _ _ => False
abbrev TS := Ends → St → Hp → Prop

def EP (X : Cx) (pins : List (Addr × Obj)) (σ : St) (Q : VK) (u : Value) (s' : Shared) : Prop := ∃ v H', Inv X pins σ H' s' ∧ RelV v u ∧ Q v H'
def TP (X : Cx) (pins : List (Addr × Obj)) (σ : St) (Q : Bool → Hp → Prop) (b : Bool) (s' : Shared) : Prop := ∃ H', Inv X pins σ H' s' ∧ Q b H'
def AP (X : Cx) (pins : List (Addr × Obj)) (σ : St) (Q : List V → Hp → Prop) (us : List Value) (s' : Shared) : Prop := ∃ vs H', Inv X pins σ H' s' ∧ Vals vs us ∧ Q vs H'
def SP (X : Cx) (pins : List (Addr × Obj)) (D : Ends) (f : Flow) (s' : Shared) : Prop :=
  match f with
  | .next => ∃ σ' H', Inv X pins σ' H' s' ∧ D.nx σ' H'
  | .brk => ∃ σ' H', Inv X pins σ' H' s' ∧ D.bk σ' H'
  | .cont => ∃ σ' H', Inv X pins σ' H' s' ∧ D.ct σ' H'
  | .ret u => ∃ v σ' H', Inv X pins σ' H' s' ∧ RelV v u ∧ D.rt v H'

def PE (X : Cx) (e : Expr) (t : TE) : Prop :=
  ∀ (pins : List (Addr × Obj)) (s : Shared) (σ : St) (H : Hp) (Q : VK), Inv X pins σ H s → t σ H Q → wpAny (model X.prog X.w) X.A (eval e X.env) (EP X pins σ Q) X.xe s
def PT (X : Cx) (e : Expr) (t : TT) : Prop :=
  ∀ (pins : List (Addr × Obj)) (s : Shared) (σ : St) (H : Hp) (Q : Bool → Hp → Prop), Inv X pins σ H s → t σ H Q → wpAny (model X.prog X.w) X.A (isTrue e X.env (eval e X.env)) (TP X pins σ Q) X.xe s
/-- a test whatever its 'whole' is (and, or) -/
def PW (X : Cx) (e : Expr) (t : TT) : Prop :=
  ∀ (whole : Sem Value) (pins : List (Addr × Obj)) (s : Shared) (σ : St) (H : Hp) (Q : Bool → Hp → Prop), Inv X pins σ H s → t σ H Q → wpAny (model X.prog X.w) X.A (isTrue e X.env whole) (TP X pins σ Q) X.xe s
theorem PW.pt {X : Cx} {e : Expr} {t : TT} (h : PW X e t) : PT X e t := h _
/-- an argument list (no star), from the left -/
def PA (X : Cx) (es : List Expr) (t : TA) : Prop :=
  ∀ (pos : Pos) (pins : List (Addr × Obj)) (s : Shared) (σ : St) (H : Hp) (Q : List V → Hp → Prop), Inv X pins σ H s → t σ H Q → wpAny (model X.prog X.w) X.A (spliced (backTo pos (starEach es X.env))) (AP X pins σ Q) X.xe s
def PS (X : Cx) (st : Stmt) (t : TS) : Prop :=
  ∀ (pins : List (Addr × Obj)) (s : Shared) (σ : St) (H : Hp) (D : Ends), Inv X pins σ H s → t D σ H → wpAny (model X.prog X.w) X.A (exec st X.env) (SP X pins D) X.xe s
def PSs (X : Cx) (st : List Stmt) (t : TS) : Prop :=
  ∀ (pins : List (Addr × Obj)) (s : Shared) (σ : St) (H : Hp) (D : Ends), Inv X pins σ H s → t D σ H → wpAny (model X.prog X.w) X.A (execs st X.env) (SP X pins D) X.xe s
/-- weaken the end -/
theorem thn {α : Type} {t : Sem α} {Q Q' : α → Shared → Prop} {M : Model} {A : Around} {E : Value → Shared → Prop} {s : Shared} (h : wpAny M A t Q E s) (hQ : ∀ a s, Q a s → Q' a s) : wpAny M A t Q' E s := wpAny_mono h hQ fun _ _ x => x
end L2

namespace L2
open PySem PySem.Spec PyProof.Rows
section
variable {X : Cx}

/-! ### names and constants -/
def tVar (i : Nat) : TE := fun σ H Q => ∃ v, σ[i]? = some (some v) ∧ Q v H
def tC (v : V) : TE := fun _ H Q => Q v H
theorem pe_var {i : Nat} {x : Str} {pos : Pos} (hN : X.N[i]? = some x) (hv : Vis X.env.scope x) (hd : (x == ("__debug__" : Str)) = false := by decide) (hcd : (x == ("__classdict__" : Str)) = false := by decide) : PE X (.Name x pos) (tVar i) := by
  intro pins s σ H Q I h
  obtain ⟨v, e, h⟩ := h
  obtain ⟨m, hn, hl⟩ := I.loc
  obtain ⟨u, r, l⟩ := hl i x v hN e hv
  have fin : EP X pins σ Q u s := ⟨v, H, I, r, h⟩
  rcases l with ⟨hk, hm⟩ | ⟨hk, c, hc, hcell⟩
  · exact wpAny_Name (wpAny_loadName_local I.ok.kind hk hn hm fin) hd
  · rcases hk with hk | hk
    · exact wpAny_Name (wpAny_loadName_cell I.ok.kind hk hc hcell fin) hd
    · exact wpAny_Name (wpAny_loadName_free I.ok.kind hk hc hcell fin hcd) hd
theorem pe_int {i j pos} : PE X (.Constant (.int i) j pos) (tC (.int i)) := fun _ _ _ H _ I h => wpAny_Constant_int ⟨.int i, H, I.tok _, ⟨_, rfl⟩, h⟩
theorem pe_bl {b j pos} : PE X (.Constant (.bool b) j pos) (tC (.bl b)) := fun _ _ _ H _ I h => Constant_bool ⟨.bl b, H, I, rfl, h⟩
theorem pe_non {j pos} : PE X (.Constant .none j pos) (tC .non) := fun _ _ _ H _ I h => Constant_none ⟨.non, H, I, rfl, h⟩
theorem pe_str {x j pos} : PE X (.Constant (.str x) j pos) (tC (.str x)) := fun _ _ _ H _ I h => Calls.Constant_str ⟨.str x, H, I.tok _, ⟨_, rfl⟩, h⟩

/-- a global name of the def -/
def Gl (X : Cx) (x : Str) : Prop := X.env.kindOf x = some .globalImplicit
theorem ld_glob {E : Value → Shared → Prop} {pins : List (Addr × Obj)} {s : Shared} {σ : St} {H : Hp} {x : Str} {u : Value} {pos : Pos} {Q : Value → Shared → Prop} (I : Inv X pins σ H s) (hg : Gl X x) (hm : X.mg x = some u) (h : Q u s)
    (hd : (x == ("__debug__" : Str)) = false := by decide) : wpAny (model X.prog X.w) X.A (eval (.Name x pos) X.env) Q E s :=
  Calls.Name_function_global I.ok.kind hg (Calls.loadGlobal_global (by rw [I.ok.glob]; exact I.mod.glob.keeps I.bk) hm h) hd
theorem ld_blt {E : Value → Shared → Prop} {pins : List (Addr × Obj)} {s : Shared} {σ : St} {H : Hp} {x : Str} {u : Value} {pos : Pos} {Q : Value → Shared → Prop} (I : Inv X pins σ H s) (hg : Gl X x) (hm : X.mg x = none) (hv : bootBuiltins x = some u) (h : Q u s)
    (hn : x ≠ "__name__" := by decide) (hd : (x == ("__debug__" : Str)) = false := by decide) : wpAny (model X.prog X.w) X.A (eval (.Name x pos) X.env) Q E s := by
  obtain ⟨mb, h1, h2⟩ := I.mod.blt
  exact Calls.Name_function_global I.ok.kind hg (Calls.loadGlobal_builtin (by rw [I.ok.glob]; exact I.mod.glob.keeps I.bk) hm (by rw [I.ok.blt]; exact h1.keeps I.bk) ((h2 x hn).trans hv) h) hd
/-- a module's constant, a class, a function, as a value -/
theorem pe_glob {x : Str} {v : V} {u : Value} {pos : Pos} (hg : Gl X x) (hm : X.mg x = some u) (r : RelV v u) (hd : (x == ("__debug__" : Str)) = false := by decide) : PE X (.Name x pos) (tC v) :=
  fun _ _ _ H _ I h => ld_glob I hg hm ⟨v, H, I, r, h⟩ hd
theorem pe_bltn {x : Str} {v : V} {u : Value} {pos : Pos} (hg : Gl X x) (hm : X.mg x = none) (hv : bootBuiltins x = some u) (r : RelV v u) (hn : x ≠ "__name__" := by decide) (hd : (x == ("__debug__" : Str)) = false := by decide) : PE X (.Name x pos) (tC v) :=
  fun _ _ _ H _ I h => ld_blt I hg hm hv ⟨v, H, I, r, h⟩ hn hd

/-! ### arithmetic -/
variable {a b : Expr} {ta tb : TE} {pos : Pos}
/-! ### comparisons -/
def PC (X : Cx) (op : CmpOp) (a b : Expr) (t : TE) : Prop :=
  ∀ (pins : List (Addr × Obj)) (s : Shared) (σ : St) (H : Hp) (Q : VK), Inv X pins σ H s → t σ H Q →
    wpAny (model X.prog X.w) X.A (eval a X.env) (fun v s₁ => wpAny (model X.prog X.w) X.A (eval b X.env) (fun u s₂ => wpAny (model X.prog X.w) X.A (compareOp op v u) (EP X pins σ Q) X.xe s₂) X.xe s₁) X.xe s
theorem nobehind (b : Expr) {op : CmpOp} (h : op ≠ .In) (h2 : op ≠ .NotIn) : behindInMarks op b = false := by
  have e1 : (op == CmpOp.In) = false := by cases op <;> first | rfl | exact absurd rfl h
  have e2 : (op == CmpOp.NotIn) = false := by cases op <;> first | rfl | exact absurd rfl h2
  cases b <;> simp [behindInMarks, e1, e2]
def tNotN (ta : TE) : TE := fun σ H Q => ta σ H fun x H1 => Q (.bl (!decide (x = .non))) H1
theorem RelV.none_iff {x : V} {v : Value} (r : RelV x v) : (v == Value.none) = decide (x = .non) := by
  cases x with
  | non => cases r; rfl
  | bl _ => cases r; rfl
  | int _ => obtain ⟨t, rfl⟩ := r; rfl
  | str _ => obtain ⟨t, rfl⟩ := r; rfl
  | byt _ => obtain ⟨t, rfl⟩ := r; rfl
  | flt _ => obtain ⟨t, rfl⟩ := r; rfl
  | ref _ => cases r; rfl
  | ty _ => cases r; rfl
theorem pc_notN {j pos'} (ha : PE X a ta) : PC X .IsNot a (.Constant .none j pos') (tNotN ta) := by
  intro pins s σ H Q I h
  refine thn (ha pins s σ H _ I h) fun v s1 ⟨x, H1, I1, r1, q1⟩ => ?_
  exact Constant_none (isnot_none_gen ⟨.bl _, H1, I1, by rw [r1.none_iff]; rfl, q1⟩)
/-- a comparison as a value, as a test -/
def tB (t : TE) : TT := fun σ H Q => t σ H fun x H1 => ∃ c, x = .bl c ∧ Q c H1
theorem pt_cmp {op : CmpOp} {t : TE} (h : PC X op a b t) (h1 : behindInMarks op b = false := by first | exact nobehind _ (by decide) (by decide) | rfl) : PT X (.Compare a [op] [b] pos) (tB t) := by
  intro pins s σ H Q I hw
  refine wpAny_isTrue_Compare1 (thn (h pins s σ H _ I hw) fun v s1 h1 => thn h1 fun u s2 h2 => thn h2 fun c s3 ⟨x, H1, I1, r1, q1⟩ => ?_) h1
  obtain ⟨d, rfl, q⟩ := q1
  cases r1
  exact wpAny_truthy_bool ⟨H1, I1, q⟩
/-- an expression whose value is a bool, as a test -/
theorem pt_val {e : Expr} {t : TE} (h : PE X e t) (he : ∀ whole, isTrue e X.env whole = (do let v ← whole; standAt e.pos; holding [v] (truthy v)) := by intro _; rfl) : PT X e (tB t) := by
  intro pins s σ H Q I hw
  refine isTrue_plain (thn (h pins s σ H _ I hw) fun v s1 ⟨x, H1, I1, r1, q1⟩ => ?_) (he _)
  obtain ⟨d, rfl, q⟩ := q1
  cases r1
  exact wpAny_truthy_bool ⟨H1, I1, q⟩

/-! ### and, or, not -/
variable {tA tB' : TT} {rest : List Expr}
def tAnd (t u : TT) : TT := fun σ H Q => t σ H fun c H1 => if c = true then u σ H1 Q else Q false H1
def tOr (t u : TT) : TT := fun σ H Q => t σ H fun c H1 => if c = true then Q true H1 else u σ H1 Q
def tNot (t : TT) : TT := fun σ H Q => t σ H fun c H1 => Q (!c) H1
theorem pw_and1 (ha : PT X a tA) : PW X (.BoolOp .And [a] pos) tA := by
  intro wh pins s σ H Q I h
  refine isTrue_and (thn (ha pins s σ H Q I h) fun c s1 e => ?_)
  cases c with
  | true => exact isTrue_and_nil e
  | false => exact e
theorem pw_or1 (ha : PT X a tA) : PW X (.BoolOp .Or [a] pos) tA := by
  intro wh pins s σ H Q I h
  refine isTrue_or (thn (ha pins s σ H Q I h) fun c s1 e => ?_)
  cases c with
  | false => exact isTrue_or_nil e
  | true => exact e
theorem pw_and (ha : PT X a tA) (hb : PW X (.BoolOp .And (b :: rest) pos) tB') : PW X (.BoolOp .And (a :: b :: rest) pos) (tAnd tA tB') := by
  intro wh pins s σ H Q I h
  refine isTrue_and (thn (ha pins s σ H _ I h) fun c s1 ⟨H1, I1, q1⟩ => ?_)
  cases c with
  | true => exact hb wh pins s1 σ H1 Q I1 q1
  | false => exact ⟨H1, I1, q1⟩
theorem pw_or (ha : PT X a tA) (hb : PW X (.BoolOp .Or (b :: rest) pos) tB') : PW X (.BoolOp .Or (a :: b :: rest) pos) (tOr tA tB') := by
  intro wh pins s σ H Q I h
  refine isTrue_or (thn (ha pins s σ H _ I h) fun c s1 ⟨H1, I1, q1⟩ => ?_)
  cases c with
  | true => exact ⟨H1, I1, q1⟩
  | false => exact hb wh pins s1 σ H1 Q I1 q1
theorem pt_not (ha : PT X a tA) : PT X (.UnaryOp .Not a pos) (tNot tA) := by
  intro pins s σ H Q I h
  exact isTrue_not (ha pins s σ H (fun c H1 => Q (!c) H1) I h)
/-- .. as values (bools) -/
def tAndV (ta tb : TE) : TE := fun σ H Q => ta σ H fun x H1 => ∃ c, x = .bl c ∧ if c = true then tb σ H1 Q else Q (.bl false) H1
def tNotV (ta : TE) : TE := fun σ H Q => ta σ H fun x H1 => ∃ c, x = .bl c ∧ Q (.bl (!c)) H1
theorem pe_one {op} {t : TE} (h : PE X a t) : PE X (.BoolOp op [a] pos) t := fun pins s σ H Q I hw => BoolOp_one (h pins s σ H Q I hw)
theorem pe_and (ha : PE X a ta) (hb : PE X (.BoolOp .And (b :: rest) pos) tb) : PE X (.BoolOp .And (a :: b :: rest) pos) (tAndV ta tb) := by
  intro pins s σ H Q I h
  refine BoolOp_and (thn (ha pins s σ H _ I h) fun v s1 ⟨x, H1, I1, r1, q1⟩ => ?_)
  obtain ⟨c, rfl, q1⟩ := q1
  cases r1
  refine wpAny_truthy_bool ?_
  cases c with
  | true => exact hb pins s1 σ H1 Q I1 q1
  | false => exact ⟨.bl false, H1, I1, rfl, q1⟩
theorem pe_not (ha : PE X a ta) : PE X (.UnaryOp .Not a pos) (tNotV ta) := by
  intro pins s σ H Q I h
  refine UnaryOp_ (thn (ha pins s σ H _ I h) fun v s1 ⟨x, H1, I1, r1, q1⟩ => ?_)
  obtain ⟨c, rfl, q1⟩ := q1
  cases r1
  exact not_of (wpAny_truthy_bool ⟨.bl (!c), H1, I1, rfl, q1⟩)
end
end L2

namespace L2
open PySem PySem.Spec PyProof.Rows

/-! ### a list, a tuple that is read: tracked, frozen, or an object of the module -/
def SqL (K : PySem.W.Frag) (H : Hp) (a : Addr) (xs : List V) : Prop :=
  Rd H a (.lst xs) ∨
    ∃ (o : Obj) (its : Array Value) (n : Nat), K.lookup a = some o ∧ o.cls = .type "list" ∧ o.dict = none ∧ o.data = .seq its n ∧ its.size ≤ sizeLine ∧ Vals xs its.toList
def SqT (K : PySem.W.Frag) (H : Hp) (a : Addr) (xs : List V) : Prop :=
  Rd H a (.tup xs) ∨
    ∃ (o : Obj) (its : Array Value) (n : Nat), K.lookup a = some o ∧ o.cls = .type "tuple" ∧ o.data = .seq its n ∧ its.size ≤ sizeLine ∧ Vals xs its.toList
def absV : Value → Option V
  | .none => some .non
  | .bool b => some (.bl b)
  | .int i _ => some (.int i)
  | .str x _ => some (.str x)
  | .bytes b _ => some (.byt b)
  | .float b _ => some (.flt b)
  | .ref a => some (.ref a)
  | .type n => some (.ty n)
  | _ => none
theorem RelV.abs {x : V} {u : Value} (r : RelV x u) : absV u = some x := by
  cases x with
  | non => cases r; rfl
  | bl _ => cases r; rfl
  | int _ => obtain ⟨t, rfl⟩ := r; rfl
  | str _ => obtain ⟨t, rfl⟩ := r; rfl
  | byt _ => obtain ⟨t, rfl⟩ := r; rfl
  | flt _ => obtain ⟨t, rfl⟩ := r; rfl
  | ref _ => cases r; rfl
  | ty _ => cases r; rfl
theorem RelV.inj {x y : V} {u : Value} (r : RelV x u) (q : RelV y u) : x = y := Option.some.inj (r.abs.symm.trans q.abs)
theorem Vals.inj : ∀ {xs ys : List V} {us : List Value}, Vals xs us → Vals ys us → xs = ys
  | _, _, _, .nil, .nil => rfl
  | _, _, _, .cons r t, .cons r' t' => by rw [r.inj r', Vals.inj t t']
section
variable {X : Cx} {pins : List (Addr × Obj)} {σ : St} {H : Hp} {s : Shared} {a : Addr} {xs ys : List V}
theorem SqL.of {K : PySem.W.Frag} (h : H a = some (.lst xs)) : SqL K H a xs := .inl (.inl h)
theorem SqT.of {K : PySem.W.Frag} (h : H a = some (.tup xs)) : SqT K H a xs := .inl (.inl h)
theorem Inv.list (I : Inv X pins σ H s) (h : SqL X.K H a xs) : ∃ its : List Value, Vals xs its ∧ PlainL s.heap a its.toArray ∧ xs.length ≤ sizeLine := by
  rcases h with h | ⟨o, its, n, hk, hc, hd, hs, hz, r⟩
  · obtain ⟨z, its, n, r, e⟩ := h.ok I.hok
    exact ⟨its, r, ⟨_, n, e, rfl, rfl, rfl⟩, z⟩
  · refine ⟨its.toList, r, ⟨o, n, I.kIn a o hk, hc, hd, by simpa using hs⟩, ?_⟩
    have e := r.length
    simp only [Array.length_toList] at e
    omega
theorem Inv.tuple (I : Inv X pins σ H s) (h : SqT X.K H a xs) : ∃ its : List Value, Vals xs its ∧ IsTup s.heap a its.toArray ∧ xs.length ≤ sizeLine := by
  rcases h with h | ⟨o, its, n, hk, hc, hs, hz, r⟩
  · obtain ⟨z, its, r, p⟩ := h.ok I.hok
    exact ⟨its, r, p, z⟩
  · refine ⟨its.toList, r, ⟨o, I.kIn a o hk, hc, n, by simpa using hs⟩, ?_⟩
    have e := r.length
    simp only [Array.length_toList] at e
    omega
theorem Inv.list_inj (I : Inv X pins σ H s) (h : SqL X.K H a xs) (h' : SqL X.K H a ys) : xs = ys := by
  obtain ⟨its, r, ⟨o, n, e, _, _, d⟩, _⟩ := I.list h
  obtain ⟨its', r', ⟨o', n', e', _, _, d'⟩, _⟩ := I.list h'
  rw [e] at e'; cases e'
  rw [d] at d'
  injection d' with d1 _
  have : its = its' := by simpa using congrArg Array.toList d1
  subst this
  exact r.inj r'
theorem Inv.tuple_inj (I : Inv X pins σ H s) (h : SqT X.K H a xs) (h' : SqT X.K H a ys) : xs = ys := by
  obtain ⟨its, r, ⟨o, e, _, n, d⟩, _⟩ := I.tuple h
  obtain ⟨its', r', ⟨o', e', _, n', d'⟩, _⟩ := I.tuple h'
  rw [e] at e'; cases e'
  rw [d] at d'
  injection d' with d1 _
  have : its = its' := by simpa using congrArg Array.toList d1
  subst this
  exact r.inj r'
end

/-! ### another wish about exceptions -/
abbrev Cx.wish (X : Cx) (E : Value → Shared → Prop) : Cx := { X with xe := E }
/-- no exception leaves -/
abbrev Cx.nox (X : Cx) : Cx := X.wish fun _ _ => False
theorem Cx.Ok.wish {X : Cx} (ok : X.Ok) (E : Value → Shared → Prop) : (X.wish E).Ok :=
  ⟨ok.mod, ok.kind, ok.glob, ok.blt, ok.above, ok.inj, ok.has, ok.cab, ok.hd, ok.frames, ok.stk, ok.exf, ok.bs, ok.bsz, ok.noex, ok.exfs, ok.funs, ok.frf⟩
theorem Cx.Ok.unwish {X : Cx} {E : Value → Shared → Prop} (ok : (X.wish E).Ok) : X.Ok :=
  ⟨ok.mod, ok.kind, ok.glob, ok.blt, ok.above, ok.inj, ok.has, ok.cab, ok.hd, ok.frames, ok.stk, ok.exf, ok.bs, ok.bsz, ok.noex, ok.exfs, ok.funs, ok.frf⟩
section
variable {X : Cx} {pins : List (Addr × Obj)} {σ : St} {H : Hp} {s : Shared} {E : Value → Shared → Prop}
theorem Inv.wish (I : Inv X pins σ H s) (E : Value → Shared → Prop) : Inv (X.wish E) pins σ H s := ⟨I.ok.wish E, I.os, I.bare, I.base, I.loc, I.cell, I.free, I.freeC, I.pin, I.hok, I.len⟩
theorem Inv.unwish (I : Inv (X.wish E) pins σ H s) : Inv X pins σ H s := ⟨I.ok.unwish, I.os, I.bare, I.base, I.loc, I.cell, I.free, I.freeC, I.pin, I.hok, I.len⟩
theorem SP.unwish {D : Ends} {f : Flow} {s' : Shared} (h : SP (X.wish E) pins D f s') : SP X pins D f s' := by
  cases f with
  | next => obtain ⟨σ', H', I, q⟩ := h; exact ⟨σ', H', I.unwish, q⟩
  | brk => obtain ⟨σ', H', I, q⟩ := h; exact ⟨σ', H', I.unwish, q⟩
  | cont => obtain ⟨σ', H', I, q⟩ := h; exact ⟨σ', H', I.unwish, q⟩
  | ret u => obtain ⟨v, σ', H', I, r, q⟩ := h; exact ⟨v, σ', H', I.unwish, r, q⟩
theorem PSs.nox {st : List Stmt} {t : TS} (h : PSs X.nox st t) : PSs X st t := fun pins s σ H D I hw =>
  wpAny_mono (h pins s σ H D (I.wish _) hw) (fun _ _ q => q.unwish) fun _ _ z => False.elim z
end

/-! ### blocks and small statements -/
section
variable {X : Cx} {st : Stmt} {rest : List Stmt} {t u : TS} {e : Expr} {te : TE} {pos : Pos}
def tNext : TS := fun D σ H => D.nx σ H
def tSeq (t u : TS) : TS := fun D σ H => t { D with nx := u D } σ H
theorem pss_nil : PSs X [] tNext := fun _ _ σ H _ I h => wpAny_execs_nil ⟨σ, H, I, h⟩
theorem pss_cons (h1 : PS X st t) (h2 : PSs X rest u) : PSs X (st :: rest) (tSeq t u) := by
  intro pins s σ H D I h
  refine wpAny_execs_cons (thn (h1 pins s σ H { D with nx := u D } I h) fun f s1 q => ?_)
  cases f with
  | next =>
    obtain ⟨σ', H', I', q⟩ := q
    exact h2 pins s1 σ' H' D I' q
  | ret v => exact q
  | brk => exact q
  | cont => exact q
theorem pss_one (h1 : PS X st t) : PSs X [st] t := by
  intro pins s σ H D I h
  refine wpAny_execs_cons (thn (h1 pins s σ H D I h) fun f s1 q => ?_)
  cases f with
  | next => exact wpAny_execs_nil q
  | ret v => exact q
  | brk => exact q
  | cont => exact q
/-- in a def's body nothing is shown -/
theorem Inv.quiet {pins : List (Addr × Obj)} {σ : St} {H : Hp} {s : Shared} (I : Inv X pins σ H s) : interactive X.env = false := by simp [interactive, I.ok.kind]
/-- an expression whose value is dropped -/
def tDrop (te : TE) : TS := fun D σ H => te σ H fun _ H1 => D.nx σ H1
theorem ps_expr (he : PE X e te) (hs : swapsWith e none pos.line X.env = pure false := by rfl) : PS X (.Expr e pos) (tDrop te) := by
  intro pins s σ H D I h
  exact wpAny_Expr_any (thn (he pins s σ H _ I h) fun v s1 ⟨x, H1, I1, r1, q1⟩ => ⟨σ, H1, I1, q1⟩) I.quiet hs
def tRet (te : TE) : TS := fun D σ H => te σ H D.rt
theorem ps_ret (he : PE X e te) : PS X (.Return (some e) pos) (tRet te) := by
  intro pins s σ H D I h
  exact wpAny_Return_some (thn (he pins s σ H _ I h) fun v s1 ⟨x, H1, I1, r1, q1⟩ => ⟨x, σ, H1, I1, r1, q1⟩)
def tIfS (c : TT) (t u : TS) : TS := fun D σ H => c σ H fun b H1 => if b = true then t D σ H1 else u D σ H1
theorem ps_if {c : Expr} {a b : List Stmt} {tc : TT} (hc : PT X c tc) (ha : PSs X a t) (hb : PSs X b u) : PS X (.If c a b pos) (tIfS tc t u) := by
  intro pins s σ H D I h
  refine wpAny_If (thn (hc pins s σ H _ I h) fun d s1 ⟨H1, I1, q1⟩ => ?_)
  cases d with
  | true => exact ha pins s1 σ H1 D I1 q1
  | false => exact hb pins s1 σ H1 D I1 q1
/-- code that the proof never comes to -/
def tNever : TS := fun _ _ _ => False
theorem pss_never {sts : List Stmt} : PSs X sts tNever := fun _ _ _ _ _ _ h => h.elim
end

/-! ### targets -/
abbrev TG := V → St → Hp → (St → Hp → Prop) → Prop
abbrev TGs := List V → St → Hp → (St → Hp → Prop) → Prop
def PG (X : Cx) (target : Expr) (t : TG) : Prop :=
  ∀ (pins : List (Addr × Obj)) (s : Shared) (σ : St) (H : Hp) (v : V) (u : Value) (Q : St → Hp → Prop), Inv X pins σ H s → RelV v u → t v σ H Q →
    wpAny (model X.prog X.w) X.A (assign target X.env u) (fun _ s' => ∃ σ' H', Inv X pins σ' H' s' ∧ Q σ' H') X.xe s
/-- several targets, one after another -/
def PGs (X : Cx) (ts : List Expr) (t : TGs) : Prop :=
  ∀ (pins : List (Addr × Obj)) (s : Shared) (σ : St) (H : Hp) (vs : List V) (us : List Value) (Q : St → Hp → Prop), Inv X pins σ H s → Vals vs us → t vs σ H Q →
    wpAny (model X.prog X.w) X.A (assignInOrder ((assignEach ts X.env).map (·.2)) us) (fun _ s' => ∃ σ' H', Inv X pins σ' H' s' ∧ Q σ' H') X.xe s
section
variable {X : Cx} {pos : Pos}
def gName (i : Nat) : TG := fun v σ H Q => Q (σ.set i (some v)) H
theorem pg_name {i : Nat} {x : Str} (hN : X.N.Nodup) (hi : X.N[i]? = some x) (hx : Loc X.env.scope x) (hf : X.fn x = true ∨ X.env.scope.names.lookup x = some .local := by first | exact .inl rfl | exact .inr rfl | assumption) : PG X (.Name x pos) (gName i) := by
  intro pins s σ H v u Q I r h
  exact wpAny_assign_Name (store_ok I hN hi hx r (fun s' I' => ⟨_, H, I', h⟩) hf)
def gNil : TGs := fun vs σ H Q => vs = [] ∧ Q σ H
def gCons (t : TG) (u : TGs) : TGs := fun vs σ H Q => ∃ v r, vs = v :: r ∧ t v σ H fun σ' H' => u r σ' H' Q
theorem pgs_nil : PGs X [] gNil := by
  intro pins s σ H vs us Q I r h
  obtain ⟨e, h⟩ := h
  subst e
  cases r
  exact assignInOrder_nil ⟨σ, H, I, h⟩
theorem pgs_cons {e : Expr} {es : List Expr} {t : TG} {u : TGs} (h1 : PG X e t) (h2 : PGs X es u)
    (hs : (assignEach (e :: es) X.env).map (·.2) = assign e X.env :: (assignEach es X.env).map (·.2) := by rfl) : PGs X (e :: es) (gCons t u) := by
  intro pins s σ H vs us Q I r h
  obtain ⟨v, vr, e1, h⟩ := h
  subst e1
  cases r with
  | cons r rr =>
    rw [hs]
    refine assignInOrder_cons (thn (h1 pins s σ H _ _ _ I r h) fun _ s1 ⟨σ1, H1, I1, q1⟩ => ?_)
    exact h2 pins s1 σ1 H1 _ _ Q I1 rr q1
/-- (a, b, ..) = a tuple of that length -/
def gTup (K : PySem.W.Frag) (n : Nat) (t : TGs) : TG := fun v σ H Q => ∃ a xs, v = .ref a ∧ SqT K H a xs ∧ xs.length = n ∧ t xs σ H Q
theorem pg_tup {es : List Expr} {k : Nat} {t : TGs} {n : Nat} (hc : X.calm = true) (h : PGs X es t)
    (hn : (assignEach es X.env).length = n := by rfl) (hst : (assignEach es X.env).findIdx? (·.1) = none := by rfl) : PG X (.Tuple es k pos) (gTup X.K n t) := by
  intro pins s σ H v u Q I r hw
  obtain ⟨a, xs, e1, hq, hl, hw⟩ := hw
  subst e1
  cases r
  obtain ⟨its, rv, ht, hz⟩ := I.tuple hq
  refine assign_Tuple_tuple (I.ok.hd hc) ht (by simp [hn, ← hl, rv.length]) hst fun h' hx => ?_
  have I1 : Inv X pins σ H { s with heap := h' } := I.kept (t' := s.toks) fun b o e => hx b o (Nat.ne_of_lt (Heap.lt_size e)) e
  exact h pins _ σ H xs _ Q I1 (by simpa using rv) hw
/-- target = value -/
def tAsg (te : TE) (g : TG) : TS := fun D σ H => te σ H fun x H1 => g x σ H1 D.nx
/-- name = value -/
theorem ps_set {i : Nat} {x : Str} {e : Expr} {te : TE} {pos' : Pos} (hN : X.N.Nodup) (hi : X.N[i]? = some x) (hx : Loc X.env.scope x) (he : PE X e te) (hs : swapsWith e (some (.Name x pos')) pos.line X.env = pure false := by rfl) (hf : X.fn x = true ∨ X.env.scope.names.lookup x = some .local := by first | exact .inl rfl | exact .inr rfl | assumption) :
    PS X (.Assign [.Name x pos'] e pos) (tAsg te (gName i)) := by
  intro pins s σ H D I h
  refine wpAny_Assign_Name (thn (he pins s σ H _ I h) fun v s1 ⟨y, H1, I1, r1, q1⟩ => ?_) hs
  exact store_ok I1 hN hi hx r1 (fun s2 I2 => ⟨_, H1, I2, q1⟩) hf
end

/-! ### while -/
section
variable {X : Cx} {pos : Pos}
/-- the invariant W with its measure -/
def tWhile (c : TT) (tb : TS) : TS := fun D σ H => ∃ W : Nat → St → Hp → Prop, (∃ m, W m σ H) ∧ ∀ m σ H, W m σ H →
  c σ H fun b H1 => if b = true then ∃ N : St → Hp → Prop, (∀ σ' H', N σ' H' → ∃ m', m' < m ∧ W m' σ' H') ∧ tb { D with nx := N, ct := N, bk := D.nx } σ H1 else D.nx σ H1
theorem ps_while {c : Expr} {body : List Stmt} {tc : TT} {tb : TS} (hp : PassesOwn (model X.prog X.w) X.A X.env X.xe) (hc : PT X c tc) (hb : PSs X body tb) : PS X (.While c body [] pos) (tWhile tc tb) := by
  intro pins s σ H D I h
  obtain ⟨W, ⟨m0, w0⟩, turn⟩ := h
  refine wpAny_While (codeAny_whileLoop (fun n s' => ∃ σ' H', Inv X pins σ' H' s' ∧ W n σ' H') ?_ m0 ⟨σ, H, I, w0⟩)
  rintro n s1 ⟨σ1, H1, I1, w1⟩
  refine wpAny_passesOwn hp (thn (hc pins s1 σ1 H1 _ I1 (turn n σ1 H1 w1)) fun b s2 ⟨H2, I2, q2⟩ => ?_)
  cases b with
  | true =>
    obtain ⟨N, hN, q2⟩ := q2
    rw [if_pos rfl]
    refine wpAny_passesOwn hp (thn (hb pins s2 σ1 H2 _ I2 q2) fun f s3 q3 => ?_)
    cases f with
    | next =>
      obtain ⟨σ3, H3, I3, n3⟩ := q3
      obtain ⟨m', hm, w3⟩ := hN σ3 H3 n3
      exact ⟨m', hm, σ3, H3, I3, w3⟩
    | cont =>
      obtain ⟨σ3, H3, I3, n3⟩ := q3
      obtain ⟨m', hm, w3⟩ := hN σ3 H3 n3
      exact ⟨m', hm, σ3, H3, I3, w3⟩
    | brk => exact q3
    | ret v => exact q3
  | false =>
    rw [if_neg Bool.false_ne_true]
    exact wpAny_execs_nil ⟨σ1, H2, I2, q2⟩
end

/-! ### what a loop or a comprehension walks -/
/-- at turn i: it yields x (the heap may grow), or it stops -/
structure It where
  go : Nat → Hp → Prop
  yld : Nat → Hp → V → Hp → Prop
  stop : Nat → Hp → Prop
/-- the iterator's own objects may turn: they are not the frame's, not pinned, younger than the entry (or a comprehension's own) -/
def FpOk (X : Cx) (pins : List (Addr × Obj)) (H : Hp) (b : Addr) : Prop :=
  H b = none ∧ b ≠ X.env.locals ∧ b ∉ X.fs ∧ (b ∈ X.ex ∨ X.s₀.heap.objs.size ≤ b) ∧ (∀ x c, X.env.cells.lookup x = some c → c ≠ b) ∧ ∀ p ∈ X.pn ++ pins, p.1 ≠ b
theorem Inv.fpOk {X : Cx} {pins : List (Addr × Obj)} {σ : St} {H H' : Hp} {s : Shared} {b : Addr} (I : Inv X pins σ H s) (hb : s.heap.objs.size ≤ b) (hn : H' b = none) : FpOk X pins H' b := by
  refine ⟨hn, Nat.ne_of_gt (Nat.lt_of_lt_of_le I.lt hb), I.nofs hb, .inr (Nat.le_trans I.sz hb), fun x c e z => ?_, fun p hp z => ?_⟩
  · obtain ⟨v, q⟩ := I.cell x c e
    exact absurd (Nat.lt_of_lt_of_le q.lt (by rw [z]; exact hb)) (Nat.lt_irrefl _)
  · exact absurd (Nat.lt_of_lt_of_le (Heap.lt_size (I.pin p hp).1) (by rw [z]; exact hb)) (Nat.lt_irrefl _)
structure Turn (P : Program) (w : World) (K : PySem.W.Frag) (tg : Expr) (J : It) (fp : List Addr) (it : Addr) (tn : Nat → Heap → Prop) : Prop where
  mem : it ∈ fp
  obj : ∀ i h, tn i h → ∀ b ∈ fp, ∃ o, h.get? b = some o ∧ ∀ v, o.data ≠ .cell v
  keep : ∀ i h h', tn i h → (∀ b ∈ fp, ∀ o, h.get? b = some o → h'.get? b = some o) → tn i h'
  item : ∀ (X : Cx), X.prog = P → X.w = w → X.K = K → X.calm = true → ∀ (i : Nat) (pins : List (Addr × Obj)) (s : Shared) (σ : St) (H : Hp) (E : Value → Shared → Prop), Inv X pins σ H s → (∀ b ∈ fp, FpOk X pins H b) → tn i s.heap → J.go i H →
    wpAny (model P w) X.A (pyNext (.ref it)) (fun r s1 => ∃ u, r = some u ∧
      wpAny (model P w) X.A (letOwnedTupleGo tg (.ref it) u) (fun _ s2 => ∃ x H', Inv X pins σ H' s2 ∧ RelV x u ∧ J.yld i H x H' ∧ tn (i + 1) s2.heap ∧ ∀ b ∈ fp, H' b = none) E s1) E s
  done : ∀ (X : Cx), X.prog = P → X.w = w → X.K = K → X.calm = true → ∀ (i : Nat) (pins : List (Addr × Obj)) (s : Shared) (σ : St) (H : Hp) (E : Value → Shared → Prop), Inv X pins σ H s → (∀ b ∈ fp, FpOk X pins H b) → tn i s.heap → J.stop i H →
    wpAny (model P w) X.A (pyNext (.ref it)) (fun r s1 => r = none ∧ Inv X pins σ H s1) E s
  self : ∀ (A : Around) (i : Nat) (s : Shared) (Q : Value → Shared → Prop) (E : Value → Shared → Prop), tn i s.heap → Q (.ref it) s → wpAny (model P w) A (pyIter (.ref it)) Q E s
abbrev TI := St → Hp → (It → Hp → Prop) → Prop
/-- an iterator has come -/
def PIE (X : Cx) (pins : List (Addr × Obj)) (σ : St) (tg : Expr) (R : It → Hp → Prop) (itv : Value) (s2 : Shared) : Prop :=
  ∃ (it : Addr) (fp : List Addr) (tn : Nat → Heap → Prop) (J : It) (H' : Hp), itv = .ref it ∧ Inv X pins σ H' s2 ∧ Turn X.prog X.w X.K tg J fp it tn ∧ tn 0 s2.heap ∧ (∀ b ∈ fp, FpOk X pins H' b) ∧ R J H'
def PI (X : Cx) (tg iter : Expr) (wi : TI) : Prop :=
  ∀ (pins : List (Addr × Obj)) (s : Shared) (σ : St) (H : Hp) (R : It → Hp → Prop), Inv X pins σ H s → wi σ H R →
    wpAny (model X.prog X.w) X.A (eval iter X.env) (fun v s1 => wpAny (model X.prog X.w) X.A (pyIter v) (PIE X pins σ tg R) X.xe s1) X.xe s

/-- the step ahead of the store is nothing for an iterator that keeps no tuple -/
theorem go_of {M : Model} {A : Around} {E : Value → Shared → Prop} {s : Shared} {tg : Expr} {it : Addr} {u : Value} {o : Obj} {n : String} {vs : Array Value} {Q : Unit → Shared → Prop} (ho : s.heap.get? it = some o) (hc : o.cls = .type n) (hd : o.data = .fields vs)
    (hn : ["enumerate", "zip", "dict_itemiterator", "dict_reverseitemiterator", "odict_iterator", "itertools.zip_longest", "itertools.pairwise"].contains n = false) (hQ : Q () s) : wpAny M A (letOwnedTupleGo tg (.ref it) u) Q E s := by
  unfold letOwnedTupleGo
  cases tg <;> first
    | exact wpAny_pure hQ
    | (cases u <;> first
        | exact wpAny_pure hQ
        | (refine wpAny_bind (wpAny_load ho ?_)
           rw [hc, hd]
           show wpAny M A (if (["enumerate", "zip", "dict_itemiterator", "dict_reverseitemiterator", "odict_iterator", "itertools.zip_longest", "itertools.pairwise"].contains n && vs[0]? == some (rawInt _)) = true then _ else _) Q E s
           rw [if_neg (by intro h; rw [hn, Bool.false_and] at h; cases h)]
           exact wpAny_pure hQ))

/-- the list at a, as it stands at each turn (a loop may append to it) -/
def Itl (K : PySem.W.Frag) (a : Addr) : It :=
  ⟨fun i H => ∃ xs x, SqL K H a xs ∧ xs[i]? = some x, fun i H x H' => H' = H ∧ ∀ xs, SqL K H a xs → xs[i]? = some x, fun i H => ∃ xs, SqL K H a xs ∧ xs.length ≤ i⟩
def Itt (K : PySem.W.Frag) (a : Addr) : It :=
  ⟨fun i H => ∃ xs x, SqT K H a xs ∧ xs[i]? = some x, fun i H x H' => H' = H ∧ ∀ xs, SqT K H a xs → xs[i]? = some x, fun i H => ∃ xs, SqT K H a xs ∧ xs.length ≤ i⟩
/-- lo, lo + 1, .. (n of them) -/
def Itr (lo : Int) (n : Nat) : It := ⟨fun i _ => i < n, fun i H x H' => H' = H ∧ x = .int (lo + i), fun i _ => n ≤ i⟩
theorem turn_list {P : Program} {w : World} {K : PySem.W.Frag} {tg : Expr} (a it : Addr) : Turn P w K tg (Itl K a) [it] it (fun i h => h.IsListIter it a i) where
  mem := by simp
  obj := fun i h st b hb => by
    have e : b = it := by simpa using hb
    subst e
    obtain ⟨o, e, c, d⟩ := st
    exact ⟨o, e, fun v z => by rw [d] at z; cases z⟩
  keep := fun i h h' st k => st.at fun o e => k it (by simp) o e
  item := by
    intro X hP hw hK hc i pins s σ H E I hf st hg
    subst hP hw hK
    obtain ⟨xs, x, hq, hx⟩ := hg
    obtain ⟨its, rv, p, hz⟩ := I.list hq
    obtain ⟨u, hu, ru⟩ := rv.get hx
    obtain ⟨f0, f1, f2, f3, f4, f5⟩ := hf it (by simp)
    refine wpAny_pyNext_list_item st p.isList (x := u) (by simpa using hu) fun h' st' sb => ?_
    have I1 : Inv X pins σ H { s with heap := h' } := I.turned (t' := s.toks) (fun b o hb e => (sb.2 b hb).trans e) f0 f1 f3 f4 f5
    obtain ⟨o, e, c, d⟩ := id st'
    exact ⟨u, rfl, go_of (s := { s with heap := h' }) e c d (by decide) ⟨x, H, I1, ru, ⟨rfl, fun ys hy => by rw [I.list_inj hy hq]; exact hx⟩, st', fun b hb => (hf b hb).1⟩⟩
  done := by
    intro X hP hw hK hc i pins s σ H E I hf st hg
    subst hP hw hK
    obtain ⟨xs, hq, hx⟩ := hg
    obtain ⟨its, rv, p, hz⟩ := I.list hq
    obtain ⟨f0, f1, f2, f3, f4, f5⟩ := hf it (by simp)
    have hl := rv.length
    exact wpAny_pyNext_list_end (I.ok.hd hc) st p.isList (by simp; omega) fun h' eb => ⟨rfl, I.turned (t' := s.toks) (fun b o hb e => eb b o hb e) f0 f1 f3 f4 f5⟩
  self := fun _ _ _ _ _ st h => wpAny_pyIter_listiter st h
theorem turn_tuple {P : Program} {w : World} {K : PySem.W.Frag} {tg : Expr} (a it : Addr) : Turn P w K tg (Itt K a) [it] it (fun i h => h.IsTupleIter it a i) where
  mem := by simp
  obj := fun i h st b hb => by
    have e : b = it := by simpa using hb
    subst e
    obtain ⟨o, e, c, d⟩ := st
    exact ⟨o, e, fun v z => by rw [d] at z; cases z⟩
  keep := fun i h h' st k => st.at fun o e => k it (by simp) o e
  item := by
    intro X hP hw hK hc i pins s σ H E I hf st hg
    subst hP hw hK
    obtain ⟨xs, x, hq, hx⟩ := hg
    obtain ⟨its, rv, p, hz⟩ := I.tuple hq
    obtain ⟨u, hu, ru⟩ := rv.get hx
    obtain ⟨f0, f1, f2, f3, f4, f5⟩ := hf it (by simp)
    refine wpAny_pyNext_tuple_item st (show s.heap.IsTuple a its.toArray from p) (x := u) (by simpa using hu) fun h' st' sb => ?_
    have I1 : Inv X pins σ H { s with heap := h' } := I.turned (t' := s.toks) (fun b o hb e => (sb.2 b hb).trans e) f0 f1 f3 f4 f5
    obtain ⟨o, e, c, d⟩ := id st'
    exact ⟨u, rfl, go_of (s := { s with heap := h' }) e c d (by decide) ⟨x, H, I1, ru, ⟨rfl, fun ys hy => by rw [I.tuple_inj hy hq]; exact hx⟩, st', fun b hb => (hf b hb).1⟩⟩
  done := by
    intro X hP hw hK hc i pins s σ H E I hf st hg
    subst hP hw hK
    obtain ⟨xs, hq, hx⟩ := hg
    obtain ⟨its, rv, p, hz⟩ := I.tuple hq
    obtain ⟨f0, f1, f2, f3, f4, f5⟩ := hf it (by simp)
    have hl := rv.length
    exact wpAny_pyNext_tuple_end (I.ok.hd hc) st (show s.heap.IsTuple a its.toArray from p) (by simp; omega) fun h' eb => ⟨rfl, I.turned (t' := s.toks) (fun b o hb e => eb b o hb e) f0 f1 f3 f4 f5⟩
  self := fun _ _ _ _ _ st h => wpAny_pyIter_tupleiter st h
theorem turn_range {P : Program} {w : World} {K : PySem.W.Frag} {tg : Expr} (it : Addr) (lo : Int) (n : Nat) : Turn P w K tg (Itr lo n) [it] it (fun i h => IsRangeIter h it (lo + (i : Nat) * 1) ((n : Int) - (i : Nat)) 1) where
  mem := by simp
  obj := fun i h st b hb => by
    have e : b = it := by simpa using hb
    subst e
    exact ⟨_, st, fun v z => by
      have z' : Data.fields _ = Data.cell v := z
      cases z'⟩
  keep := fun i h h' st k => k it (by simp) _ st
  item := by
    intro X hP hw hK hc i pins s σ H E I hf st hg
    subst hP hw hK
    obtain ⟨f0, f1, f2, f3, f4, f5⟩ := hf it (by simp)
    have W := Walks.range (prog := X.prog) (w := X.w) (I.ok.hd hc) it lo 1 n
    refine W.item i s _ _ hg st fun v h' tk hv st' kk => ?_
    obtain ⟨t, rfl⟩ := hv
    have I1 : Inv X pins σ H { s with heap := h', toks := tk } := I.turned (fun b o hb e => kk b o (by simpa using hb) e) f0 f1 f3 f4 f5
    refine ⟨_, rfl, go_of (s := { s with heap := h', toks := tk }) (n := "range_iterator") st' rfl rfl (by decide) ⟨.int (lo + i), H, I1, ⟨t, ?_⟩, ⟨rfl, rfl⟩, st', fun b hb => (hf b hb).1⟩⟩
    rw [Int.mul_one]
  done := by
    intro X hP hw hK hc i pins s σ H E I hf st hg
    subst hP hw hK
    obtain ⟨f0, f1, f2, f3, f4, f5⟩ := hf it (by simp)
    exact wpAny_pyNext_range_end (I.ok.hd hc) st (by have : n ≤ i := hg; omega) fun h' eb => ⟨rfl, I.turned (t' := s.toks) (fun b o hb e => eb b o hb e) f0 f1 f3 f4 f5⟩
  self := fun _ _ _ _ _ st h => wpAny_pyIter_rangeiter st h
end L2

namespace L2
open PySem PySem.Spec PyProof.Rows
section
variable {X : Cx} {tg : Expr}
def iList (K : PySem.W.Frag) (tl : TE) : TI := fun σ H R => tl σ H fun x H1 => ∃ a, x = .ref a ∧ (∃ xs, SqL K H1 a xs) ∧ R (Itl K a) H1
def iTup (K : PySem.W.Frag) (tl : TE) : TI := fun σ H R => tl σ H fun x H1 => ∃ a, x = .ref a ∧ (∃ xs, SqT K H1 a xs) ∧ R (Itt K a) H1
theorem pi_list {l : Expr} {tl : TE} (hl : PE X l tl) : PI X tg l (iList X.K tl) := by
  intro pins s σ H R I h
  refine thn (hl pins s σ H _ I h) fun v s1 ⟨x, H1, I1, r1, q1⟩ => ?_
  obtain ⟨a, e, ⟨xs, hq⟩, q⟩ := q1
  subst e
  cases r1
  obtain ⟨its, rv, p, hz⟩ := I1.list hq
  refine wpAny_pyIter_list p.isList ?_
  refine ⟨s1.heap.objs.size, [s1.heap.objs.size], _, _, H1, rfl, I1.kept (t' := s1.toks) fun b o e => Heap.get?_push_of_some _ e, turn_list a _, ⟨_, Heap.get?_push_size _ rfl, rfl, rfl⟩, fun b hb => ?_, q⟩
  have e : b = s1.heap.objs.size := by simpa using hb
  subst e
  exact I1.fpOk (Nat.le_refl _) (I1.hok.fresh (Nat.le_refl _))
theorem pi_tup {l : Expr} {tl : TE} (hl : PE X l tl) : PI X tg l (iTup X.K tl) := by
  intro pins s σ H R I h
  refine thn (hl pins s σ H _ I h) fun v s1 ⟨x, H1, I1, r1, q1⟩ => ?_
  obtain ⟨a, e, ⟨xs, hq⟩, q⟩ := q1
  subst e
  cases r1
  obtain ⟨its, rv, p, hz⟩ := I1.tuple hq
  refine wpAny_pyIter_tuple (show s1.heap.IsTuple a its.toArray from p) ?_
  refine ⟨s1.heap.objs.size, [s1.heap.objs.size], _, _, H1, rfl, I1.kept (t' := s1.toks) fun b o e => Heap.get?_push_of_some _ e, turn_tuple a _, ⟨_, Heap.get?_push_size _ rfl, rfl, rfl⟩, fun b hb => ?_, q⟩
  have e : b = s1.heap.objs.size := by simpa using hb
  subst e
  exact I1.fpOk (Nat.le_refl _) (I1.hok.fresh (Nat.le_refl _))
/-- a range object just made, walked -/
theorem range_it {pins : List (Addr × Obj)} {σ : St} {H : Hp} {s : Shared} {R : It → Hp → Prop} {E : Value → Shared → Prop} {lo hi : Int} {t u v : Tok} {tk : Nat} (I : Inv X pins σ H s) (h1 : -(2 ^ 62) ≤ lo) (h2 : lo < 2 ^ 62) (h3 : -(2 ^ 62) ≤ hi) (h4 : hi < 2 ^ 62)
    (q : R (Itr lo (hi - lo).toNat) H) : wpAny (model X.prog X.w) X.A (pyIter (.ref s.heap.objs.size)) (PIE X pins σ tg R) E { s with heap := s.heap.push { cls := .type "range", data := .fields #[.int lo t, .int hi u, .int 1 v] }, toks := tk } := by
  refine wpAny_pyIter_range (IsRange.new ..) (small_one h1 h2 h3 h4) ?_
  have I1 : Inv X pins σ H { s with heap := s.heap.push { cls := .type "range", data := .fields #[.int lo t, .int hi u, .int 1 v] }, toks := tk } := I.kept fun b o e => Heap.get?_push_of_some _ e
  refine ⟨(s.heap.push { cls := .type "range", data := .fields #[.int lo t, .int hi u, .int 1 v] }).objs.size, [(s.heap.push { cls := .type "range", data := .fields #[.int lo t, .int hi u, .int 1 v] }).objs.size], _, _, H, rfl,
    I1.kept (t' := tk) fun b o e => Heap.get?_push_of_some _ e, turn_range _ lo (hi - lo).toNat, ?_, fun b hb => ?_, q⟩
  · have e1 : lo + ((0 : Nat) : Int) * 1 = lo := by simp
    have e2 : (((hi - lo).toNat : Nat) : Int) - ((0 : Nat) : Int) = Builtin.Range.rangeSize lo hi 1 := by rw [rangeSize_one]; split <;> omega
    show IsRangeIter _ _ (lo + ((0 : Nat) : Int) * 1) ((((hi - lo).toNat : Nat) : Int) - ((0 : Nat) : Int)) 1
    rw [e1, e2]
    exact Heap.get?_push_size _ rfl
  · have e : b = (s.heap.push { cls := .type "range", data := .fields #[.int lo t, .int hi u, .int 1 v] }).objs.size := by simpa using hb
    subst e
    exact I1.fpOk (Nat.le_refl _) (I1.hok.fresh (Nat.le_refl _))
def iRng1 (ta : TA) : TI := fun σ H R => ta σ H fun vs H1 => ∃ j : Int, vs = [.int j] ∧ -(2 ^ 62) ≤ j ∧ j < 2 ^ 62 ∧ R (Itr 0 j.toNat) H1
theorem pi_range1 {a : Expr} {ta : TA} {p pos : Pos} (hg : Gl X "range") (hm : X.mg "range" = none) (ha : PA X [a] ta) (hs : starEach [a] X.env = [(false, eval a X.env)] := by rfl) : PI X tg (.Call (.Name "range" p) [a] [] pos) (iRng1 ta) := by
  intro pins s σ H R I h
  refine Call_ (ld_blt I hg hm boot_range (PyProof.Rows.callWith_type1 (thn (ha pos pins s σ H _ I h) fun us s1 ⟨vs, H1, I1, r1, q1⟩ => ?_) hs rfl))
  obtain ⟨j, e, q1, q2, q⟩ := q1
  subst e
  cases r1 with
  | cons r rr =>
    cases rr
    obtain ⟨t, rfl⟩ := r
    exact call_range_1 (range_it I1 (by omega) (by omega) q1 q2 (by simpa using q))
/-! ### for -/
/-- W: the invariant by the turn and a measure; N: what the body is to reach -/
def tFor (wi : TI) (g : TG) (tb : TS) : TS := fun D σ H => wi σ H fun J H1 => ∃ W : Nat → Nat → St → Hp → Prop, (∃ m, W 0 m σ H1) ∧ ∀ i m σ H, W i m σ H →
  (J.stop i H ∧ D.nx σ H) ∨ (J.go i H ∧ ∃ N : St → Hp → Prop, (∀ σ' H', N σ' H' → ∃ m', m' < m ∧ W (i + 1) m' σ' H') ∧ ∀ x H', J.yld i H x H' → g x σ H' fun σ2 H2 => tb { D with nx := N, ct := N, bk := D.nx } σ2 H2)
/-- the records at fp as they stand -/
def pinsAt (fp : List Addr) (h : Heap) : List (Addr × Obj) := fp.filterMap fun b => (h.get? b).map fun o => (b, o)
theorem mem_pinsAt {fp : List Addr} {h : Heap} {b : Addr} {o : Obj} (hb : b ∈ fp) (e : h.get? b = some o) : (b, o) ∈ pinsAt fp h := List.mem_filterMap.mpr ⟨b, hb, by rw [e]; rfl⟩
theorem of_pinsAt {fp : List Addr} {h : Heap} {p : Addr × Obj} (hp : p ∈ pinsAt fp h) : p.1 ∈ fp ∧ h.get? p.1 = some p.2 := by
  obtain ⟨b, hb, e⟩ := List.mem_filterMap.mp hp
  cases q : h.get? b with
  | none => rw [q] at e; cases e
  | some o =>
    rw [q] at e
    have e' : (b, o) = p := Option.some.inj e
    subst e'
    exact ⟨hb, q⟩
theorem Inv.pinned {pins : List (Addr × Obj)} {σ : St} {H : Hp} {s : Shared} {fp : List Addr} (I : Inv X pins σ H s) (hf : ∀ b ∈ fp, FpOk X pins H b) (ho : ∀ b ∈ fp, ∃ o, s.heap.get? b = some o ∧ ∀ v, o.data ≠ .cell v) : Inv X (pins ++ pinsAt fp s.heap) σ H s :=
  I.pins_of fun p hp => (List.mem_append.mp hp).elim (fun z => I.pin p (List.mem_append_right _ z)) fun z => by
    obtain ⟨hb, e⟩ := of_pinsAt z
    obtain ⟨f0, f1, f2, _⟩ := hf p.1 hb
    obtain ⟨o, e', d⟩ := ho p.1 hb
    rw [e] at e'; cases e'
    exact ⟨e, f0, f1, f2, d⟩
theorem Inv.unpinned {pins pl : List (Addr × Obj)} {σ : St} {H : Hp} {s : Shared} (I : Inv X (pins ++ pl) σ H s) : Inv X pins σ H s := I.pins_of fun p hp => I.pin p (List.mem_append_right _ (List.mem_append_left _ hp))
theorem ps_for {iter : Expr} {body : List Stmt} {wi : TI} {g : TG} {tb : TS} {pos : Pos} (hp : PassesOwn (model X.prog X.w) X.A X.env X.xe) (hc : X.calm = true) (hi : PI X tg iter wi) (hg : PG X tg g) (hb : PSs X body tb)
    (hs : ∀ x, foldedSetIterable iter X.env x = pure x := by intro _; rfl) : PS X (.For tg iter body [] pos) (tFor wi g tb) := by
  intro pins s σ H D I h
  refine wpAny_For (thn (hi pins s σ H _ I h) fun v s1 h1 => thn h1 fun itv s2 h2 => ?_) hs
  obtain ⟨it, fp, tn, J, H2, e, I2, T, st2, f2, W, ⟨m0, w0⟩, turn⟩ := h2
  subst e
  -- what stays true of the iterator's objects through the loop
  have stat : ∀ {H' : Hp}, (∀ b ∈ fp, H' b = none) → ∀ b ∈ fp, FpOk X pins H' b := fun hn b hb => ⟨hn b hb, (f2 b hb).2⟩
  refine codeAny_forLoop_any (fun n s' => ∃ i σ' H', Inv X pins σ' H' s' ∧ tn i s'.heap ∧ (∀ b ∈ fp, H' b = none) ∧ W i n σ' H') ?_ m0 ⟨0, σ, H2, I2, st2, fun b hb => (f2 b hb).1, w0⟩
  rintro n s3 ⟨i, σ3, H3, I3, st3, fr3, w3⟩
  rcases turn i n σ3 H3 w3 with ⟨stop, qn⟩ | ⟨go, N, hN, step⟩
  · refine wpAny_passesOwn hp (thn (T.done X rfl rfl rfl hc i pins s3 σ3 H3 X.xe I3 (stat fr3) st3 stop) fun r s4 ⟨hr, I4⟩ => ?_)
    subst hr
    exact wpAny_execs_nil ⟨σ3, H3, I4, qn⟩
  · refine wpAny_passesOwn hp (thn (T.item X rfl rfl rfl hc i pins s3 σ3 H3 X.xe I3 (stat fr3) st3 go) fun r s4 ⟨u, hr, h4⟩ => ?_)
    subst hr
    refine wpAny_passesOwn hp (thn h4 fun _ s5 ⟨x, H5, I5, r5, y5, st5, fr5⟩ => ?_)
    have I5' := I5.pinned (stat fr5) (T.obj _ _ st5)
    refine wpAny_passesOwn hp (thn (hg _ s5 σ3 H5 x u _ I5' r5 (step x H5 y5)) fun _ s6 ⟨σ6, H6, I6, q6⟩ => ?_)
    refine wpAny_passesOwn hp (thn (hb _ s6 σ6 H6 _ I6 q6) fun f s7 q7 => ?_)
    have again : ∀ {σ7 : St} {H7 : Hp}, Inv X (pins ++ pinsAt fp s5.heap) σ7 H7 s7 → N σ7 H7 → ∃ m, m < n ∧ ∃ i σ' H', Inv X pins σ' H' s7 ∧ tn i s7.heap ∧ (∀ b ∈ fp, H' b = none) ∧ W i m σ' H' := fun {σ7 H7} I7 n7 => by
      obtain ⟨m', hm, w7⟩ := hN σ7 H7 n7
      refine ⟨m', hm, i + 1, σ7, H7, I7.unpinned, T.keep _ _ _ st5 fun b hb o e => (I7.pin (b, o) (List.mem_append_right _ (List.mem_append_right _ (mem_pinsAt hb e)))).1, fun b hb => ?_, w7⟩
      obtain ⟨o, e, d⟩ := T.obj _ _ st5 b hb
      exact (I7.pin (b, o) (List.mem_append_right _ (List.mem_append_right _ (mem_pinsAt hb e)))).2.1
    cases f with
    | next => obtain ⟨σ7, H7, I7, n7⟩ := q7; exact again I7 n7
    | cont => obtain ⟨σ7, H7, I7, n7⟩ := q7; exact again I7 n7
    | brk => obtain ⟨σ7, H7, I7, q7⟩ := q7; exact ⟨σ7, H7, I7.unpinned, q7⟩
    | ret v => obtain ⟨x7, σ7, H7, I7, r7, q7⟩ := q7; exact ⟨x7, σ7, H7, I7.unpinned, r7, q7⟩
end

/-! ### the forms one uses -/
/-- while, by a word and a measure of the state -/
theorem while_by {c : TT} {tb : TS} {D : Ends} {σ : St} {H : Hp} (Pv : St → Hp → Prop) (μ : St → Hp → Nat) (h0 : Pv σ H)
    (hs : ∀ σ H, Pv σ H → c σ H fun b H1 => if b = true then tb { D with nx := fun σ' H' => Pv σ' H' ∧ μ σ' H' < μ σ H, ct := fun σ' H' => Pv σ' H' ∧ μ σ' H' < μ σ H, bk := D.nx } σ H1 else D.nx σ H1)
    (mono : ∀ σ H Q Q', (∀ b H1, Q b H1 → Q' b H1) → c σ H Q → c σ H Q') : tWhile c tb D σ H := by
  refine ⟨fun m σ H => m = μ σ H ∧ Pv σ H, ⟨_, rfl, h0⟩, ?_⟩
  rintro m σ H ⟨rfl, p⟩
  refine mono σ H _ _ (fun b H1 q => ?_) (hs σ H p)
  cases b with
  | true => exact ⟨_, fun σ' H' ⟨p', l⟩ => ⟨_, l, rfl, p'⟩, q⟩
  | false => exact q
end L2

namespace L2
open PySem PySem.Spec PyProof.Rows

abbrev R2 := V → V → Hp → VK → Prop
/-- a two-place operation on values: f is binaryOp op, inplaceOp op or compareOp op -/
def OpR (X : Cx) (f : Value → Value → Sem Value) (r : R2) : Prop :=
  ∀ (pins : List (Addr × Obj)) (s : Shared) (σ : St) (H : Hp) (x y : V) (v u : Value) (Q : VK), Inv X pins σ H s → RelV x v → RelV y u → r x y H Q →
    wpAny (model X.prog X.w) X.A (f v u) (EP X pins σ Q) X.xe s
/-- a one-place operation -/
def UnR (X : Cx) (f : Value → Sem Value) (r : V → Hp → VK → Prop) : Prop :=
  ∀ (pins : List (Addr × Obj)) (s : Shared) (σ : St) (H : Hp) (x : V) (v : Value) (Q : VK), Inv X pins σ H s → RelV x v → r x H Q →
    wpAny (model X.prog X.w) X.A (f v) (EP X pins σ Q) X.xe s
/-- a call of a value that is known (a builtin, a type) with values -/
def CallR (X : Cx) (f : Value) (r : List V → Hp → VK → Prop) : Prop :=
  ∀ (pins : List (Addr × Obj)) (s : Shared) (σ : St) (H : Hp) (xs : List V) (us : List Value) (Q : VK), Inv X pins σ H s → Vals xs us → r xs H Q →
    wpAny (model X.prog X.w) X.A (call f us) (EP X pins σ Q) X.xe s
def tOp (r : R2) (ta tb : TE) : TE := fun σ H Q => ta σ H fun x H1 => tb σ H1 fun y H2 => r x y H2 Q
def tUn (r : V → Hp → VK → Prop) (ta : TE) : TE := fun σ H Q => ta σ H fun x H1 => r x H1 Q
/-- ints in, under C, and a value out -/
def rI (C : Int → Int → Prop) (g : Int → Int → V) : R2 := fun x y H Q => ∃ i j, x = .int i ∧ y = .int j ∧ C i j ∧ Q (g i j) H
def rI0 (g : Int → Int → V) : R2 := fun x y H Q => ∃ i j, x = .int i ∧ y = .int j ∧ Q (g i j) H
def rU (g : Int → V) : V → Hp → VK → Prop := fun x H Q => ∃ i, x = .int i ∧ Q (g i) H

section
variable {X : Cx} {a b c : Expr} {ta tb tc : TE} {pos : Pos}

theorem binT (ha : PE X a ta) (hb : PE X b tb) {pins : List (Addr × Obj)} {s : Shared} {σ : St} {H : Hp} {R : V → V → Hp → Prop} (I : Inv X pins σ H s)
    (h : ta σ H fun x H1 => tb σ H1 fun y H2 => R x y H2) {Q : Value → Shared → Prop} {f : Value → Value → Sem Value}
    (hf : ∀ v u s2 x y H2, Inv X pins σ H2 s2 → RelV x v → RelV y u → R x y H2 → wpAny (model X.prog X.w) X.A (f v u) Q X.xe s2) :
    wpAny (model X.prog X.w) X.A (eval a X.env) (fun v s₁ => wpAny (model X.prog X.w) X.A (eval b X.env) (fun u s₂ => wpAny (model X.prog X.w) X.A (f v u) Q X.xe s₂) X.xe s₁) X.xe s := by
  refine thn (ha pins s σ H _ I h) fun v s1 ⟨x, H1, I1, r1, q1⟩ => ?_
  refine thn (hb pins s1 σ H1 _ I1 q1) fun u s2 ⟨y, H2, I2, r2, q2⟩ => ?_
  exact hf v u s2 x y H2 I2 r1 r2 q2

theorem pe_op {op : Operator} {r : R2} (ho : OpR X (binaryOp op) r) (ha : PE X a ta) (hb : PE X b tb) : PE X (.BinOp a op b pos) (tOp r ta tb) := by
  intro pins s σ H Q I h
  exact wpAny_BinOp (binT ha hb I h fun v u s2 x y H2 I2 rx ry q => ho pins s2 σ H2 x y v u Q I2 rx ry q)
theorem pe_un {op : UnaryOp} {r : V → Hp → VK → Prop} (ho : UnR X (unaryOp op) r) (ha : PE X a ta) : PE X (.UnaryOp op a pos) (tUn r ta) := by
  intro pins s σ H Q I h
  exact UnaryOp_ (thn (ha pins s σ H _ I h) fun v s1 ⟨x, H1, I1, r1, q1⟩ => ho pins s1 σ H1 x v Q I1 r1 q1)
/-! ### ints -/
theorem opI {f : Value → Value → Sem Value} {C : Int → Int → Prop} {g : Int → Int → Int}
    (rule : ∀ (i j : Int) (t u : Tok) (s : Shared) (Q : Value → Shared → Prop) (E : Value → Shared → Prop), C i j → Q (.int (g i j) s.toks) { s with toks := s.toks + 1 } → wpAny (model X.prog X.w) X.A (f (.int i t) (.int j u)) Q E s) :
    OpR X f (rI C fun i j => .int (g i j)) := by
  intro pins s σ H x y v u Q I rx ry h
  obtain ⟨i, j, rfl, rfl, hc, q⟩ := h
  obtain ⟨t, rfl⟩ := rx
  obtain ⟨t', rfl⟩ := ry
  exact rule i j t t' s _ _ hc ⟨.int (g i j), H, I.tok _, ⟨_, rfl⟩, q⟩
theorem opI0 {f : Value → Value → Sem Value} {g : Int → Int → Int}
    (rule : ∀ (i j : Int) (t u : Tok) (s : Shared) (Q : Value → Shared → Prop) (E : Value → Shared → Prop), Q (.int (g i j) s.toks) { s with toks := s.toks + 1 } → wpAny (model X.prog X.w) X.A (f (.int i t) (.int j u)) Q E s) :
    OpR X f (rI0 fun i j => .int (g i j)) := by
  intro pins s σ H x y v u Q I rx ry h
  obtain ⟨i, j, rfl, rfl, q⟩ := h
  obtain ⟨t, rfl⟩ := rx
  obtain ⟨t', rfl⟩ := ry
  exact rule i j t t' s _ _ ⟨.int (g i j), H, I.tok _, ⟨_, rfl⟩, q⟩
theorem opB0 {f : Value → Value → Sem Value} {g : Int → Int → Bool}
    (rule : ∀ (i j : Int) (t u : Tok) (s : Shared) (Q : Value → Shared → Prop) (E : Value → Shared → Prop), Q (.bool (g i j)) s → wpAny (model X.prog X.w) X.A (f (.int i t) (.int j u)) Q E s) :
    OpR X f (rI0 fun i j => .bl (g i j)) := by
  intro pins s σ H x y v u Q I rx ry h
  obtain ⟨i, j, rfl, rfl, q⟩ := h
  obtain ⟨t, rfl⟩ := rx
  obtain ⟨t', rfl⟩ := ry
  exact rule i j t t' s _ _ ⟨.bl (g i j), H, I, rfl, q⟩

def CDiv (i j : Int) : Prop := 0 < j ∧ j < 1073741824
def CPow (i j : Int) : Prop := 0 ≤ j ∧ j ≤ 1000000 ∧ i.natAbs < 2 ^ 64
def CMul (i j : Int) : Prop := (-(2 ^ 64) < i ∧ i < 2 ^ 64) ∨ (-(2 ^ 64) < j ∧ j < 2 ^ 64)
theorem CMul.ok {i j : Int} (h : CMul i j) : IntMulOk i j := by
  rcases h with ⟨h1, h2⟩ | ⟨h1, h2⟩
  · exact .of_left (intBits_le_64 h1 h2)
  · exact .of_right (intBits_le_64 h1 h2)
theorem op_add : OpR X (binaryOp .Add) (rI0 fun i j => .int (i + j)) := opI0 fun _ _ _ _ _ _ _ q => add_int q
theorem op_sub : OpR X (binaryOp .Sub) (rI0 fun i j => .int (i - j)) := opI0 fun _ _ _ _ _ _ _ q => sub_int q
theorem op_mul : OpR X (binaryOp .Mult) (rI CMul fun i j => .int (i * j)) := opI fun _ _ _ _ _ _ _ hc q => mul_int q hc.ok
/-- // by a positive divisor -/
theorem op_fdiv : OpR X (binaryOp .FloorDiv) (rI CDiv fun i j => .int (i / j)) := opI fun i j _ _ _ _ _ hc q => by
  have h1 : (0 : Int) < j := hc.1
  have h2 : j < 1073741824 := hc.2
  exact floordiv_int (by omega) (by rw [Int.fdiv_eq_ediv_of_nonneg i (by omega)]; exact q) (.inl (PyProof.noPylong_small (by omega)))
/-- % by a positive divisor of any size -/
theorem op_mod : OpR X (binaryOp .Mod) (rI (fun _ j => 0 < j) fun i j => .int (i % j)) := opI fun i j _ _ _ _ _ hc q => by
  have h1 : (0 : Int) < j := hc
  exact mod_int' (by omega) (by rw [Int.fmod_eq_emod_of_nonneg i (by omega)]; exact q)
theorem op_pow : OpR X (binaryOp .Pow) (rI CPow fun i j => .int (i ^ j.toNat)) := opI fun _ _ _ _ _ _ _ hc q => pow_int_small hc.1 hc.2.1 hc.2.2 q
theorem unI {f : Value → Sem Value} {g : Int → Int}
    (rule : ∀ (i : Int) (t : Tok) (s : Shared) (Q : Value → Shared → Prop) (E : Value → Shared → Prop), Q (.int (g i) s.toks) { s with toks := s.toks + 1 } → wpAny (model X.prog X.w) X.A (f (.int i t)) Q E s) :
    UnR X f (rU fun i => .int (g i)) := by
  intro pins s σ H x v Q I rx h
  obtain ⟨i, rfl, q⟩ := h
  obtain ⟨t, rfl⟩ := rx
  exact rule i t s _ _ ⟨.int (g i), H, I.tok _, ⟨_, rfl⟩, q⟩
theorem un_neg : UnR X (unaryOp .USub) (rU fun i => .int (-i)) := unI fun _ _ _ _ _ q => neg_int q
/-! ### bools among ints: n += (a < b) -/
end

/-! ### comparisons -/
/-- the scalars that == tells apart as data does -/
def scal : V → V → Bool
  | .non, .non => true | .non, .int _ => true | .int _, .non => true | .non, .bl _ => true | .bl _, .non => true | .non, .str _ => true | .str _, .non => true
  | .int _, .int _ => true | .bl _, .bl _ => true | .str _, .str _ => true | .byt _, .byt _ => true
  | .int _, .str _ => true | .str _, .int _ => true | .bl _, .str _ => true | .str _, .bl _ => true
  | _, _ => false
def rEq : R2 := fun x y H Q => scal x y = true ∧ Q (.bl (decide (x = y))) H
def rNe : R2 := fun x y H Q => scal x y = true ∧ Q (.bl (!decide (x = y))) H

theorem dec_int {i j : Int} : decide (V.int i = V.int j) = (i == j) := by
  rw [Bool.eq_iff_iff]
  simp
theorem dec_bl {i j : Bool} : decide (V.bl i = V.bl j) = (i == j) := by
  rw [Bool.eq_iff_iff]
  simp
theorem dec_str {i j : Str} : decide (V.str i = V.str j) = (i == j) := by
  rw [Bool.eq_iff_iff]
  simp
theorem dec_byt {i j : Array UInt8} : decide (V.byt i = V.byt j) = (i.toList == j.toList) := by
  rw [Bool.eq_iff_iff]
  cases i
  cases j
  simp

section
variable {X : Cx} {a b c : Expr} {ta tb tc : TE} {pos : Pos}
theorem fin_bl {pins : List (Addr × Obj)} {σ : St} {H : Hp} {s : Shared} {Q : VK} {k k' : Bool} (I : Inv X pins σ H s) (q : Q (.bl k) H) (e : k = k') : EP X pins σ Q (.bool k') s := by
  subst e
  exact ⟨.bl k, H, I, rfl, q⟩
theorem op_eq : OpR X (compareOp .Eq) rEq := by
  intro pins s σ H x y v u Q I rx ry h
  obtain ⟨hs, q⟩ := h
  cases x with
  | non =>
    cases rx
    cases y with
    | non => cases ry; exact PySem.EqNone.eq_none_none (fin_bl I q (by simp))
    | bl j => cases ry; exact PySem.EqNone.eq_none_bool (fin_bl I q (by simp))
    | int j => obtain ⟨t', rfl⟩ := ry; exact PySem.EqNone.eq_none_int (fin_bl I q (by simp))
    | str j => obtain ⟨t', rfl⟩ := ry; exact PySem.EqNone.eq_none_str (fin_bl I q (by simp))
    | _ => exact absurd (show false = true from hs) Bool.false_ne_true
  | bl i =>
    cases rx
    cases y with
    | non => cases ry; exact PySem.EqNone.eq_bool_none (fin_bl I q (by simp))
    | bl j => cases ry; exact eq_bool (fin_bl I q dec_bl)
    | str j => obtain ⟨t', rfl⟩ := ry; exact PySem.EqMixed.eq_bool_str (fin_bl I q (by simp))
    | _ => exact absurd (show false = true from hs) Bool.false_ne_true
  | int i =>
    obtain ⟨t, rfl⟩ := rx
    cases y with
    | non => cases ry; exact PySem.EqNone.eq_int_none (fin_bl I q (by simp))
    | int j => obtain ⟨t', rfl⟩ := ry; exact eq_int (fin_bl I q dec_int)
    | str j => obtain ⟨t', rfl⟩ := ry; exact PySem.EqMixed.eq_int_str (fin_bl I q (by simp))
    | _ => exact absurd (show false = true from hs) Bool.false_ne_true
  | str i =>
    obtain ⟨t, rfl⟩ := rx
    cases y with
    | non => cases ry; exact PySem.EqNone.eq_str_none (fin_bl I q (by simp))
    | bl j => cases ry; exact PySem.EqMixed.eq_str_bool (fin_bl I q (by simp))
    | int j => obtain ⟨t', rfl⟩ := ry; exact PySem.EqMixed.eq_str_int (fin_bl I q (by simp))
    | str j => obtain ⟨t', rfl⟩ := ry; exact eq_str (fin_bl I q dec_str)
    | _ => exact absurd (show false = true from hs) Bool.false_ne_true
  | byt i =>
    obtain ⟨t, rfl⟩ := rx
    cases y with
    | byt j => obtain ⟨t', rfl⟩ := ry; exact PySem.W.eq_bytes (fin_bl I q dec_byt)
    | _ => exact absurd (show false = true from hs) Bool.false_ne_true
  | _ => cases y <;> exact absurd (show false = true from hs) Bool.false_ne_true
theorem op_ne : OpR X (compareOp .NotEq) rNe := by
  intro pins s σ H x y v u Q I rx ry h
  obtain ⟨hs, q⟩ := h
  cases x with
  | non =>
    cases rx
    cases y with
    | non => cases ry; exact PySem.EqNone.ne_none_none (fin_bl I q (by simp))
    | bl j => cases ry; exact PySem.EqNone.ne_none_bool (fin_bl I q (by simp))
    | int j => obtain ⟨t', rfl⟩ := ry; exact PySem.EqNone.ne_none_int (fin_bl I q (by simp))
    | str j => obtain ⟨t', rfl⟩ := ry; exact PySem.EqNone.ne_none_str (fin_bl I q (by simp))
    | _ => exact absurd (show false = true from hs) Bool.false_ne_true
  | bl i =>
    cases rx
    cases y with
    | non => cases ry; exact PySem.EqNone.ne_bool_none (fin_bl I q (by simp))
    | bl j => cases ry; exact ne_bool (fin_bl I q (congrArg not dec_bl))
    | str j => obtain ⟨t', rfl⟩ := ry; exact PySem.EqMixed.ne_bool_str (fin_bl I q (by simp))
    | _ => exact absurd (show false = true from hs) Bool.false_ne_true
  | int i =>
    obtain ⟨t, rfl⟩ := rx
    cases y with
    | non => cases ry; exact PySem.EqNone.ne_int_none (fin_bl I q (by simp))
    | int j => obtain ⟨t', rfl⟩ := ry; exact ne_int (fin_bl I q (congrArg not dec_int))
    | str j => obtain ⟨t', rfl⟩ := ry; exact PySem.EqMixed.ne_int_str (fin_bl I q (by simp))
    | _ => exact absurd (show false = true from hs) Bool.false_ne_true
  | str i =>
    obtain ⟨t, rfl⟩ := rx
    cases y with
    | non => cases ry; exact PySem.EqNone.ne_str_none (fin_bl I q (by simp))
    | bl j => cases ry; exact PySem.EqMixed.ne_str_bool (fin_bl I q (by simp))
    | int j => obtain ⟨t', rfl⟩ := ry; exact PySem.EqMixed.ne_str_int (fin_bl I q (by simp))
    | str j => obtain ⟨t', rfl⟩ := ry; exact ne_str (fin_bl I q (congrArg not dec_str))
    | _ => exact absurd (show false = true from hs) Bool.false_ne_true
  | byt i =>
    obtain ⟨t, rfl⟩ := rx
    cases y with
    | byt j => obtain ⟨t', rfl⟩ := ry; exact PySem.W.ne_bytes (fin_bl I q (congrArg not dec_byt))
    | _ => exact absurd (show false = true from hs) Bool.false_ne_true
  | _ => cases y <;> exact absurd (show false = true from hs) Bool.false_ne_true

theorem op_lt : OpR X (compareOp .Lt) (rI0 fun i j => .bl (decide (i < j))) := opB0 fun _ _ _ _ _ _ _ q => lt_int q
theorem op_le : OpR X (compareOp .LtE) (rI0 fun i j => .bl (decide (i ≤ j))) := opB0 fun _ _ _ _ _ _ _ q => le_int q
theorem op_gt : OpR X (compareOp .Gt) (rI0 fun i j => .bl (decide (j < i))) := opB0 fun _ _ _ _ _ _ _ q => gt_int q
theorem op_ge : OpR X (compareOp .GtE) (rI0 fun i j => .bl (decide (j ≤ i))) := opB0 fun _ _ _ _ _ _ _ q => ge_int q
theorem nomark (b : Expr) {op : CmpOp} (h : op ≠ .In := by decide) (h2 : op ≠ .NotIn := by decide) : behindInMarks op b = false := by
  have e1 : (op == CmpOp.In) = false := by cases op <;> first | rfl | exact absurd rfl h
  have e2 : (op == CmpOp.NotIn) = false := by cases op <;> first | rfl | exact absurd rfl h2
  cases b <;> simp [behindInMarks, e1, e2]
/-- a comparison as a value; hm: nomark b, or (for in, not in) by with_unfolding_all rfl -/
theorem pe_cmpR {op : CmpOp} {r : R2} (ho : OpR X (compareOp op) r) (ha : PE X a ta) (hb : PE X b tb) (hm : behindInMarks op b = false) : PE X (.Compare a [op] [b] pos) (tOp r ta tb) := by
  intro pins s σ H Q I h
  exact wpAny_Compare1 (binT ha hb I h fun v u s2 x y H2 I2 rx ry q => ho pins s2 σ H2 x y v u Q I2 rx ry q) hm
/-- a reading of a value as a test -/
def tTest (t : TE) : TT := fun σ H Q => t σ H fun x H' => ∃ k, x = .bl k ∧ Q k H'
theorem pt_cmpR {op : CmpOp} {r : R2} (ho : OpR X (compareOp op) r) (ha : PE X a ta) (hb : PE X b tb) (hm : behindInMarks op b = false) : PT X (.Compare a [op] [b] pos) (tTest (tOp r ta tb)) := by
  intro pins s σ H Q I h
  refine wpAny_isTrue_Compare1 (thn (ha pins s σ H _ I h) fun v s1 ⟨x, H1, I1, r1, q1⟩ => thn (hb pins s1 σ H1 _ I1 q1) fun u s2 ⟨y, H2, I2, r2, q2⟩ =>
    thn (ho pins s2 σ H2 x y v u _ I2 r1 r2 q2) fun c s3 ⟨z, H3, I3, r3, k, e, q3⟩ => ?_) hm
  subst e
  cases r3
  exact wpAny_truthy_bool ⟨H3, I3, q3⟩
/-- a op1 b op2 c -/
def tChain (r r' : R2) (ta tb tc : TE) : TE := fun σ H Q => ta σ H fun x H1 => tb σ H1 fun y H2 => r x y H2 fun z H3 => ∃ k, z = .bl k ∧
  (if k = true then tc σ H3 fun w' H4 => r' y w' H4 Q else Q (.bl false) H3)
theorem pe_chain {op op' : CmpOp} {r r' : R2} (ho : OpR X (compareOp op) r) (ho' : OpR X (compareOp op') r') (ha : PE X a ta) (hb : PE X b tb) (hc : PE X c tc)
    (hm : lastMarks [op, op'] [b, c] = false := by with_unfolding_all rfl) : PE X (.Compare a [op, op'] [b, c] pos) (tChain r r' ta tb tc) := by
  intro pins s σ H Q I h
  refine Compare_chain (thn (ha pins s σ H _ I h) fun v s1 ⟨x, H1, I1, r1, q1⟩ => chain_link (thn (hb pins s1 σ H1 _ I1 q1) fun u s2 ⟨y, H2, I2, r2, q2⟩ =>
    thn (ho pins s2 σ H2 x y v u _ I2 r1 r2 q2) fun d s3 ⟨z, H3, I3, r3, k, e, q3⟩ => ?_)) hm
  subst e
  cases r3
  refine wpAny_truthy_bool ?_
  cases k with
  | false => exact ite_ff ⟨.bl false, H3, I3, rfl, q3⟩
  | true => exact ite_tt (chain_last (thn (hc pins s3 σ H3 _ I3 q3) fun w' s4 ⟨z', H4, I4, r4, q4⟩ => ho' pins s4 σ H4 y z' u w' Q I4 r2 r4 q4))
theorem pt_chain {op op' : CmpOp} {r r' : R2} (ho : OpR X (compareOp op) r) (ho' : OpR X (compareOp op') r') (ha : PE X a ta) (hb : PE X b tb) (hc : PE X c tc)
    (hm : lastMarks [op, op'] [b, c] = false := by with_unfolding_all rfl) : PT X (.Compare a [op, op'] [b, c] pos) (tTest (tChain r r' ta tb tc)) := by
  intro pins s σ H Q I h
  refine isTrue_chain (thn (ha pins s σ H _ I h) fun v s1 ⟨x, H1, I1, r1, q1⟩ => test_link (thn (hb pins s1 σ H1 _ I1 q1) fun u s2 ⟨y, H2, I2, r2, q2⟩ =>
    thn (ho pins s2 σ H2 x y v u _ I2 r1 r2 q2) fun d s3 ⟨z, H3, I3, r3, k, e, q3⟩ => ?_)) hm
  subst e
  cases r3
  refine wpAny_truthy_bool ?_
  cases k with
  | false =>
    obtain ⟨k', e', q'⟩ := q3
    cases e'
    exact ite_ff ⟨H3, I3, q'⟩
  | true =>
    refine ite_tt (test_last (thn (hc pins s3 σ H3 _ I3 q3) fun w' s4 ⟨z', H4, I4, r4, q4⟩ => thn (ho' pins s4 σ H4 y z' u w' _ I4 r2 r4 q4) fun d' s5 ⟨z2, H5, I5, r5, k2, e2, q5⟩ => ?_))
    subst e2
    cases r5
    exact wpAny_truthy_bool ⟨H5, I5, q5⟩

/-! ### truth -/
theorem line63 : (sizeLine : Nat) < 2 ^ 63 := by rw [sizeLine_eq]; decide
/-! ### strs and bytes -/
/-! ### scalar builtins, by CallR -/
theorem vals1 {x : V} {us : List Value} (r : Vals [x] us) : ∃ u, us = [u] ∧ RelV x u := by
  cases r with
  | cons r1 r2 => cases r2; exact ⟨_, rfl, r1⟩
theorem call_abs : CallR X (.builtin "abs") (fun xs H Q => ∃ i, xs = [.int i] ∧ Q (.int (if i < 0 then -i else i)) H) := by
  intro pins s σ H xs us Q I r h
  obtain ⟨i, rfl, q⟩ := h
  obtain ⟨u, rfl, t, rfl⟩ := vals1 r
  exact call_abs_int fun u tk => ⟨.int (if i < 0 then -i else i), H, I.tok _, ⟨_, rfl⟩, q⟩
theorem call_int1 : CallR X (.type "int") (fun xs H Q => (∃ i, xs = [.int i] ∧ Q (.int i) H) ∨ ∃ k, xs = [.bl k] ∧ Q (.int (if k then 1 else 0)) H) := by
  intro pins s σ H xs us Q I r h
  rcases h with ⟨i, rfl, q⟩ | ⟨k, rfl, q⟩
  · obtain ⟨u, rfl, t, rfl⟩ := vals1 r
    exact call_int_int ⟨.int i, H, I, ⟨_, rfl⟩, q⟩
  · obtain ⟨u, rfl, r1⟩ := vals1 r
    cases r1
    exact call_int_bool ⟨.int (if k then 1 else 0), H, I.tok _, ⟨_, rfl⟩, q⟩
theorem call_str_int : CallR X (.type "str") (fun xs H Q => ∃ i, xs = [.int i] ∧ i.natAbs.log2 < 1920 ∧ Q (.str (toString i)) H) := by
  intro pins s σ H xs us Q I r h
  obtain ⟨i, rfl, hz, q⟩ := h
  obtain ⟨u, rfl, t, rfl⟩ := vals1 r
  exact PySem.P.str_of_int hz ⟨.str _, H, I.tok _, ⟨_, rfl⟩, q⟩
end
end L2

namespace L2
open PySem PySem.Spec PyProof.Rows

/-! ### an instance, its attributes a map -/
structure ObjM (h : Heap) (x dx C : Addr) (mA : Str → Option Value) : Prop where
  obj : h.get? x = some (PySem.W.instObj C dx)
  ns : h.Ns1 dx mA
  ne : dx ≠ x

theorem lookIn_ns {h : Heap} {dx : Addr} {mA : Str → Option Value} (n : h.Ns1 dx mA) : ∃ od, h.get? dx = some od ∧ ∀ name, PySem.W.lookIn name od = some (mA name) := by
  obtain ⟨o, es, ep, ho, hd, hk, _, hm⟩ := n
  refine ⟨o, ho, fun name => ?_⟩
  have e := hm name
  unfold nsFind findBy at e
  rw [← Array.find?_toList] at e
  unfold PySem.W.lookIn
  rw [hd]
  dsimp only
  split
  · rename_i y q
    rw [q] at e
    exact congrArg some e
  · rename_i q
    rw [q] at e
    have a : es.toList.any (·.refKey) = false := by
      rw [List.any_eq_false]
      intro y hy
      obtain ⟨z, t, hkey⟩ := hk y (Array.mem_toList_iff.mp hy)
      simp [DictEntry.refKey, hkey]
    have a' : ¬ es.toList.any (·.refKey) = true := by rw [a]; exact Bool.false_ne_true
    rw [if_neg a']
    exact congrArg some e

theorem ObjM.look {h : Heap} {x dx C : Addr} {mA : Str → Option Value} (I : ObjM h x dx C mA) : ∃ od, PySem.W.InstAt h x (PySem.W.instObj C dx) C (some od) ∧ ∀ name, PySem.W.lookIn name od = some (mA name) :=
  let ⟨od, ho, hl⟩ := lookIn_ns I.ns
  ⟨od, ⟨I.obj, rfl, rfl, ho⟩, hl⟩

section
variable {prog : Program} {w : World} {A : Around} {E : Value → Shared → Prop} {s : Shared} {K : PySem.W.Frag} {x dx C f : Addr} {mA : Str → Option Value} {name : Str} {v : Value}

end

/-! ### the attributes as a list of pairs -/
theorem RelO.some_of {v : V} {o : Option Value} (r : RelO (some v) o) : ∃ u, o = some u ∧ RelV v u := by
  cases o with
  | none => exact (show False from r).elim
  | some u => exact ⟨u, rfl, r⟩
section
variable {P : Program} {w : World} {H H' : Hp} {h h' : Heap} {a C dx : Addr} {fs fs' : List (Str × V)}
theorem ins_get (hok : HOk P w H h) (e : H a = some (.ins C dx fs)) : ∃ mA, ObjM h a dx C mA ∧ (∀ f, RelO (fs.lookup f) (mA f)) ∧ PySem.Within mA (fs.map (·.1)) ∧ fs.length ≤ 1000 ∧ H dx = some (.own a) := by
  obtain ⟨d, z, ne, ob, mA, n, r, q⟩ := (show ObjOk P w H h a (.ins C dx fs) from hok a _ e)
  exact ⟨mA, ⟨ob, n, ne⟩, r, q, z, d⟩
end

/-! ### what of the text a class must have -/
structure Cls (K : PySem.W.Frag) (C : Addr) : Prop where
  pg : PySem.W.plainGet K C Str.empty = true
  hd : PySem.W.hasDictIn K C = true
  po : PySem.W.plainOver K C = true
  sa : PySem.W.findIn K (.ref C) "__setattr__" = some (some (.builtin "object.__setattr__"))
theorem Cls.get {K : PySem.W.Frag} {C : Addr} (c : Cls K C) (f : Str) : PySem.W.plainGet K C f = true := c.pg
section
variable {X : Cx} {pins : List (Addr × Obj)} {σ : St} {H : Hp} {s : Shared} {a C dx : Addr} {fs : List (Str × V)} {f : Str} {v : V} {A : Around} {E : Value → Shared → Prop}

end

/-! ### readings and rules -/
section
variable {X : Cx} {o e value : Expr} {f : Str} {pos pos' tpos : Pos} {ta tv : TE}
end

/-! ### isinstance -/
section
variable {X : Cx} {pins : List (Addr × Obj)} {σ : St} {H : Hp} {s : Shared} {A : Around} {E : Value → Shared → Prop} {Q : Value → Shared → Prop} {c : Value} {b : Bool}
/-- the type of a value, as the fragment's deciders take it; for an instance its class -/
inductive TyOf (K : PySem.W.Frag) (H : Hp) : V → Value → Prop where
  | non : TyOf K H .non (.type "NoneType")
  | bl (x : Bool) : TyOf K H (.bl x) (.type "bool")
  | int (i : Int) : TyOf K H (.int i) (.type "int")
  | str (x : Str) : TyOf K H (.str x) (.type "str")
  | flt (x : UInt64) : TyOf K H (.flt x) (.type "float")
  | lst {a : Addr} {xs : List V} (e : H a = some (.lst xs)) : TyOf K H (.ref a) (.type "list")
  | frz {a : Addr} {o : Obj} {xs : List V} (e : H a = some (.frz o (.lst xs))) : TyOf K H (.ref a) (.type "list")
  | tup {a : Addr} {xs : List V} (e : H a = some (.tup xs)) : TyOf K H (.ref a) (.type "tuple")
  | dK {a : Addr} {kvs : List (Key × V)} (e : H a = some (.dK kvs)) : TyOf K H (.ref a) (.type "dict")
  | dT {a : Addr} {kvs : List (List Key × V)} (e : H a = some (.dT kvs)) : TyOf K H (.ref a) (.type "dict")
  | ins {a C dx : Addr} {fs : List (Str × V)} (e : H a = some (.ins C dx fs)) (cl : Cls K C) (ha : PySem.W.findIn K (.ref C) "__class__" = some (some (.builtin "object.__class__")))
      (hn : PySem.W.specialIn K (.builtin "object.__class__") "__get__" = some (some (.builtin "getset_descriptor.__get__"))) (htk : PySem.W.takesIn K (.builtin "object.__class__") = some true)
      (hm : PySem.W.mroIn K C (.type "object") = some true) : TyOf K H (.ref a) (.ref C)
/-- isinstance(x, c) for one class c, a built-in or an own one: kitOne's answer -/
theorem isinst_ok {x : V} {u t : Value} (I : Inv X pins σ H s) (rx : RelV x u) (ty : TyOf X.K H x t) (e : PySem.W.kitOne X.K t c = some b) (h : ∀ tk, Q (.bool b) { s with toks := tk }) :
    wpAny (model X.prog X.w) A (call (.builtin "isinstance") [u, c]) Q E s := by
  cases ty with
  | non => cases (show u = Value.none from rx); exact PySem.W.kia_one PySem.W.kitx_none I.kIn True.intro e (fun z => nomatch z) h
  | bl y => cases (show u = Value.bool y from rx); exact PySem.W.kia_one PySem.W.kitx_bool I.kIn True.intro e (fun z => nomatch z) h
  | int i => obtain ⟨t, q⟩ := (show ∃ t, u = Value.int i t from rx); cases q; exact PySem.W.kia_one PySem.W.kitx_int I.kIn True.intro e (fun z => nomatch z) h
  | str y => obtain ⟨t, q⟩ := (show ∃ t, u = Value.str y t from rx); cases q; exact PySem.W.kia_one PySem.W.kitx_str I.kIn True.intro e (fun z => nomatch z) h
  | flt y => obtain ⟨t, q⟩ := (show ∃ t, u = Value.float y t from rx); cases q; exact PySem.W.kia_one PySem.W.kitx_float I.kIn True.intro e (fun z => nomatch z) h
  | @lst a xs ea =>
    cases (show u = Value.ref a from rx)
    obtain ⟨_, _, n, _, h1⟩ := (show ObjOk X.prog X.w H s.heap a (.lst xs) from I.hok a _ ea)
    exact PySem.W.kia_one PySem.W.kitx_list I.kIn ⟨_, h1, rfl⟩ e (fun z => nomatch z) h
  | @frz a ob xs ea =>
    cases (show u = Value.ref a from rx)
    obtain ⟨_, _, _, n, _, h1⟩ := (show ObjOk X.prog X.w H s.heap a (.frz ob (.lst xs)) from I.hok a _ ea)
    exact PySem.W.kia_one PySem.W.kitx_list I.kIn ⟨_, h1, rfl⟩ e (fun z => nomatch z) h
  | @tup a xs ea =>
    cases (show u = Value.ref a from rx)
    obtain ⟨_, _, _, p⟩ := (show ObjOk X.prog X.w H s.heap a (.tup xs) from I.hok a _ ea)
    obtain ⟨o, h1, h2, _⟩ := p
    exact PySem.W.kia_one PySem.W.kitx_tuple I.kIn ⟨o, h1, h2⟩ e (fun z => nomatch z) h
  | @dK a kvs ea =>
    cases (show u = Value.ref a from rx)
    obtain ⟨_, _, vs, _, p⟩ := (show ObjOk X.prog X.w H s.heap a (.dK kvs) from I.hok a _ ea)
    obtain ⟨o, es, ep, h1, h2, _⟩ := p
    exact PySem.W.kia_one PySem.W.kitx_dict I.kIn ⟨o, h1, h2.1⟩ e (fun z => nomatch z) h
  | @dT a kvs ea =>
    cases (show u = Value.ref a from rx)
    obtain ⟨_, _, xs, _, o, es, ep, h1, h2, _⟩ := (show ObjOk X.prog X.w H s.heap a (.dT kvs) from I.hok a _ ea)
    exact PySem.W.kia_one PySem.W.kitx_dict I.kIn ⟨o, h1, h2.1⟩ e (fun z => nomatch z) h
  | @ins a C dx fs ea cl ha hn htk hm =>
    cases (show u = Value.ref a from rx)
    obtain ⟨mA, O, _⟩ := ins_get I.hok ea
    obtain ⟨od, J, _⟩ := O.look
    exact PySem.W.kia_one (PySem.W.kitx_own (cl.get _) cl.hd ha hn htk hm) I.kIn J e (fun z => nomatch z) h
end
end L2

namespace L2
open PySem PySem.Spec PyProof.Rows

/-! ### room -/
structure Room (k : Nat) (A : Around) : Prop where
  hd : A.handled = none
  dp : A.depth + 3 * k + 5 < recursionLimit
  un : A.units + 16 * k + 200 < cLine
  gd : A.guards = some []
theorem Room.mono {j k : Nat} {A : Around} (r : Room k A) (h : j ≤ k) : Room j A := ⟨r.hd, by have := r.dp; omega, by have := r.un; omega, r.gd⟩
theorem Room.deeper {k : Nat} {A : Around} (r : Room (k + 1) A) (env : Env) : Room k (A.deeper env) :=
  ⟨r.hd, by have := r.dp; show A.depth + 1 + 3 * k + 5 < _; omega, by have := r.un; show A.units + 3 + 16 * k + 200 < _; omega, r.gd⟩
theorem Room.depth {k : Nat} {A : Around} (r : Room k A) : A.depth < recursionLimit := by have := r.dp; omega
theorem Room.units {k : Nat} {A : Around} (r : Room k A) : A.units + 64 < cLine := by have := r.un; omega
theorem Room.units0 {k : Nat} {A : Around} (r : Room k A) : A.units < cLine := by have := r.un; omega

/-! ### argument lists and displays -/
def tNil : TA := fun _ H Q => Q [] H
def tCons (ta : TE) (tr : TA) : TA := fun σ H Q => ta σ H fun x H1 => tr σ H1 fun xs H2 => Q (x :: xs) H2
section
variable {X : Cx} {e : Expr} {es : List Expr} {te : TE} {t : TA} {pos : Pos}
theorem pa_nil : PA X [] tNil := fun _ _ _ _ H Q I h => Calls.spliced_nil ⟨[], H, I, .nil, h⟩
theorem pa_cons (ha : PE X e te) (hr : PA X es t) (hs : starEach (e :: es) X.env = (false, eval e X.env) :: starEach es X.env := by rfl) : PA X (e :: es) (tCons te t) := by
  intro pos pins s σ H Q I h
  rw [hs]
  show wpAny _ _ (spliced ((false, eval e X.env) :: backTo pos (starEach es X.env))) _ _ s
  refine Calls.spliced_cons (thn (ha pins s σ H _ I h) fun u s1 ⟨x, H1, I1, r1, q1⟩ => ?_)
  exact thn (hr pos pins s1 σ H1 _ I1 q1) fun us s2 ⟨xs, H2, I2, r2, q2⟩ => ⟨x :: xs, H2, I2, .cons r1 r2, q2⟩

/-- a tuple, a list of written items -/
def tTup (t : TA) : TE := fun σ H Q => t σ H fun xs H1 => xs.length ≤ sizeLine ∧ ∀ p, H1 p = none → Q (.ref p) (upd H1 p (.tup xs))
def tLst (t : TA) : TE := fun σ H Q => t σ H fun xs H1 => xs.length ≤ sizeLine ∧ ∀ p, H1 p = none → Q (.ref p) (upd H1 p (.lst xs))
theorem pe_tup {x1} (h : PA X es t) : PE X (.Tuple es x1 pos) (tTup t) := by
  intro pins s σ H Q I hq
  refine wpAny_Tuple_spliced (thn (h pos pins s σ H _ I hq) fun us s1 ⟨xs, H1, I1, r, z, q⟩ => ⟨by rw [← r.length]; exact z, ?_⟩)
  have hf : H1 s1.heap.objs.size = none := I1.hok.fresh (Nat.le_refl _)
  refine ⟨.ref s1.heap.objs.size, upd H1 s1.heap.objs.size (.tup xs), I1.laid (t' := s1.toks) (fun b u e => Heap.get?_push_of_some _ e) (Nat.le_refl _) ?_, rfl, q _ hf⟩
  exact ⟨z, us, r, ⟨_, Heap.get?_push_size _ rfl, rfl, _, rfl⟩⟩
theorem pe_lst (h : PA X es t) : PE X (.List es pos) (tLst t) := by
  intro pins s σ H Q I hq
  refine wpAny_List_spliced (thn (h pos pins s σ H _ I hq) fun us s1 ⟨xs, H1, I1, r, z, q⟩ => ⟨by rw [← r.length]; exact z, ?_⟩)
  have hf : H1 s1.heap.objs.size = none := I1.hok.fresh (Nat.le_refl _)
  refine ⟨.ref s1.heap.objs.size, upd H1 s1.heap.objs.size (.lst xs), I1.laid (t' := s1.toks) (fun b u e => Heap.get?_push_of_some _ e) (Nat.le_refl _) ?_, rfl, q _ hf⟩
  exact ⟨z, us, 0, r, Heap.get?_push_size _ rfl⟩
end

/-! ### what a def promises -/
/-- a def's promise: the bound arguments in the parameters' order, the heap, the wanted end, the wanted exception -/
abbrev Sp := List V → Hp → VK → XK → Prop
/-- how an exception lies behind a call (file 08 gives it): the callers' frames, abstract heap and state ahead of the call, the wish, the exception, the state -/
abbrev CXT := List Env → Hp → Shared → XK → Value → Shared → Prop

/-- the state at a call -/
structure Env0 (P : Program) (w : World) (K : PySem.W.Frag) (mg : Str → Option Value) (base : Heap) (A : Around) (outer : List Env) (s : Shared) (H : Hp) : Prop where
  frames : A.frames = some outer
  mod : Mod K mg base
  bs : ∀ b o, base.get? b = some o → s.heap.get? b = some o ∧ H b = none
  bsz : base.objs.size ≤ s.heap.objs.size
  funs : s.heap.FunFrames base outer
  frf : ∀ b ∈ frs outer, H b = none
  hok : HOk P w H s.heap
  bare : AllBare s.gens
/-- a call's end -/
def CE (outer : List Env) (P : Program) (w : World) (H : Hp) (s : Shared) (Q : VK) (u : Value) (s' : Shared) : Prop :=
  ∃ v H', s'.os = s.os ∧ AllBare s'.gens ∧ Un (frs outer) [] H H' s.heap s'.heap ∧ HOk P w H' s'.heap ∧ RelV v u ∧ Q v H'
def CR (CX : CXT) (outer : List Env) (P : Program) (w : World) (H : Hp) (s : Shared) (Q : VK) (E : XK) (r : Result) (s' : Shared) : Prop :=
  match r with
  | .ok (.ret u) => CE outer P w H s Q u s'
  | .ok _ => False
  | .error e => CX outer H s E e s'
structure FnOk (P : Program) (w : World) (K : PySem.W.Frag) (mg : Str → Option Value) (base : Heap) (CX : CXT) (k : Nat) (f : Addr) (fd : FuncData) (ps : List Str) (sp : Sp) : Prop where
  len : ∀ vs H Q E, sp vs H Q E → vs.length = ps.length
  run : ∀ (A : Around) (outer : List Env) (s : Shared) (H : Hp) (args : Args) (us : List Value) (vs : List V) (Q : VK) (E : XK), Room k A → Env0 P w K mg base A outer s H → BindsTo s fd args (ps.zip us) → Vals vs us → sp vs H Q E →
    codeAny (model P w) A (.call (.ref f) args) (CR CX outer P w H s Q E) s
theorem FnOk.mono {P : Program} {w : World} {K : PySem.W.Frag} {mg : Str → Option Value} {base : Heap} {CX : CXT} {j k : Nat} {f : Addr} {fd : FuncData} {ps : List Str} {sp : Sp} (F : FnOk P w K mg base CX j f fd ps sp) (h : j ≤ k) :
    FnOk P w K mg base CX k f fd ps sp := ⟨F.len, fun A outer s H args us vs Q E hr => F.run A outer s H args us vs Q E (hr.mono h)⟩
section
variable {X : Cx} {pins : List (Addr × Obj)} {σ : St} {H : Hp} {s s' : Shared}
/-- from a body: what a callee wants -/
theorem Inv.env0 (I : Inv X pins σ H s) : Env0 X.prog X.w X.K X.mg X.base X.A X.stack s H :=
  ⟨I.ok.frames, I.ok.mod, I.bs, Nat.le_trans I.ok.bsz I.sz, I.stack, I.stkFree, I.hok, I.bare⟩
/-- behind a call -/
theorem Inv.after {Q : VK} {u : Value} (I : Inv X pins σ H s) (h : CE X.stack X.prog X.w H s Q u s') : EP X pins σ Q u s' := by
  obtain ⟨v, H', os, bare, un, hok, r, q⟩ := h
  obtain ⟨hh, g, d, t, os'⟩ := s'
  obtain rfl : os' = s.os := os
  exact ⟨v, H', I.call (h' := hh) (g' := g) (d' := d) (t' := t) (ch := []) un hok bare (fun b z => absurd z (by simp)), r, q⟩
end

/-! ### calls -/
/-- f(..): the written arguments, then the defaults dvs; E: what is wanted of an exception -/
def tCall (sp : Sp) (dvs : List V) (E : XK) (t : TA) : TE := fun σ H Q => t σ H fun vs H1 => sp (vs ++ dvs) H1 Q E
/-- how the parameters are bound: us the positional arguments, kw the keywords' values by name, ds the defaults that fill up -/
def Binds (K : PySem.W.Frag) (fd : FuncData) (ps : List Str) (ds : List Value) : Prop :=
  ∀ (s : Shared) (us : List Value), K.In s.heap → (us ++ ds).length = ps.length → BindsTo s fd ⟨us, []⟩ (ps.zip (us ++ ds))
/-- every parameter is given -/
theorem Binds.all {K : PySem.W.Frag} {fd : FuncData} {ps : List Str} (h : ∀ us : List Value, us.length = ps.length → bindArgs fd ⟨us, []⟩ = pure (ps.zip us)) : Binds K fd ps [] := fun s us _ hl => by
  rw [List.append_nil] at hl ⊢
  exact .of_eq (h us hl)

/-- an exception of a callee reaches what this body wants of exceptions -/
def Passes (CX : CXT) (X : Cx) (E : XK) : Prop := ∀ (pins : List (Addr × Obj)) (σ : St) (H : Hp) (s : Shared) (e : Value) (s' : Shared), Inv X pins σ H s → CX X.stack H s E e s' → X.xe e s'

section
variable {X : Cx} {CX : CXT} {k : Nat} {f C : Addr} {fd : FuncData} {ps : List Str} {sp : Sp} {dvs : List V} {ds : List Value} {E : XK} {x m : Str} {p pos apos : Pos} {e o : Expr} {es : List Expr} {ta : TE} {t : TA}

/-- the callee runs -/
theorem run_fn {pins : List (Addr × Obj)} {σ : St} {H : Hp} {s : Shared} {Q : VK} {us : List Value} {vs : List V} (F : FnOk X.prog X.w X.K X.mg X.base CX k f fd ps sp) (hr : Room k X.A) (hb : Binds X.K fd ps ds) (hd : Vals dvs ds) (hx : Passes CX X E)
    (I : Inv X pins σ H s) (r : Vals vs us) (h : sp (vs ++ dvs) H Q E) : wpAny (model X.prog X.w) X.A (call (.ref f) us) (EP X pins σ Q) X.xe s := by
  have r2 : Vals (vs ++ dvs) (us ++ ds) := r.append hd
  have hl : (us ++ ds).length = ps.length := by rw [← r2.length]; exact F.len _ _ _ _ h
  refine wpAny_call (codeAny_mono (F.run X.A X.stack s H ⟨us, []⟩ (us ++ ds) (vs ++ dvs) Q E hr I.env0 (hb s us I.kIn hl) r2 h) fun r s' hq => ?_)
  cases r with
  | error e => exact hx pins σ H s e s' I hq
  | ok fl =>
    cases fl with
    | ret u => exact I.after hq
    | next => exact False.elim hq
    | brk => exact False.elim hq
    | cont => exact False.elim hq

theorem pe_call (F : FnOk X.prog X.w X.K X.mg X.base CX k f fd ps sp) (hr : Room k X.A) (hg : Gl X x) (hm : X.mg x = some (.ref f)) (hk : PySem.W.keepIn X.K (.ref f) = true) (hb : Binds X.K fd ps ds) (hd : Vals dvs ds) (hx : Passes CX X E)
    (ha : PA X (e :: es) t) (hdb : (x == ("__debug__" : Str)) = false := by decide) (he : starEach (e :: es) X.env = (false, eval e X.env) :: starEach es X.env := by rfl) (hpl : (backTo pos (starEach es X.env)).any (·.1) = false := by rfl) :
    PE X (.Call (.Name x p) (e :: es) [] pos) (tCall sp dvs E t) := by
  intro pins s σ H Q I h
  refine wpAny_Call_Name_kw (ld_glob I hg hm ?_ hdb)
  refine PySem.W.callWith_K (h₀ := X.base) I.ok.mod.kin hk (thn (ha pos pins s σ H _ I h) fun us s1 ⟨vs, H1, I1, r, q⟩ => ⟨I1.kIn, ?_⟩) he hpl
  exact run_fn F hr hb hd hx I1 r q
end

/-! ### keywords -/
section
variable {X : Cx} {CX : CXT} {k : Nat} {f C : Addr} {fd : FuncData} {ps ks : List Str} {sp : Sp} {E : XK} {x m : Str} {p pos apos kpos : Pos} {e o : Expr} {es : List Expr} {kws : List Keyword} {te ta : TE} {t tk : TA} {nm : Option Str}
variable {g : List Value → List Value → List Value} {gV : List V → List V → List V}
end

/-! ### a def's body keeps its promise -/
/-- names: the parameters first -/
structure FnScope (N P : List Str) (sc : Scope) : Prop where
  kind : sc.kind = .function
  co : sc.isCoroutine = false
  gen : sc.isGenerator = false
  nd : N.Nodup
  pre : N.take P.length = P
  par : ∀ x ∈ P, sc.names.lookup x = some .local ∨ sc.names.lookup x = some .cell
  nofree : ∀ y ∈ sc.names, y.2 ≠ .free

theorem bindL_out {kindOf : Str → Option NameKind} {x : Str} : ∀ {binds : List (Str × Value)} {m : Str → Option Value}, (∀ v, (x, v) ∉ binds) → bindL kindOf binds m x = m x
  | [], _, _ => rfl
  | (n, v) :: r, m, h => by
    unfold bindL
    rw [bindL_out fun w hw => h w (List.mem_cons_of_mem _ hw)]
    split
    · have : x ≠ n := by rintro rfl; exact h v List.mem_cons_self
      simp [this]
    · rfl
theorem bindC_out {kindOf : Str → Option NameKind} {x : Str} : ∀ {binds : List (Str × Value)} {m : Str → Option Value}, (∀ v, (x, v) ∉ binds) → bindC kindOf binds m x = m x
  | [], _, _ => rfl
  | (n, v) :: r, m, h => by
    unfold bindC
    rw [bindC_out fun w hw => h w (List.mem_cons_of_mem _ hw)]
    split
    · rfl
    · have : x ≠ n := by rintro rfl; exact h v List.mem_cons_self
      simp [this]
theorem bindL_get {kindOf : Str → Option NameKind} {x : Str} {v : Value} : ∀ {P : List Str} {vs : List Value} {i : Nat} {m : Str → Option Value}, P.Nodup → P[i]? = some x → vs[i]? = some v → kindOf x = some .local →
    bindL kindOf (P.zip vs) m x = some v
  | [], _, _, _, _, h, _, _ => by simp at h
  | _ :: _, [], _, _, _, _, h, _ => by simp at h
  | p :: P, w :: vs, 0, m, nd, h1, h2, hk => by
    simp at h1 h2; subst h1; subst h2
    show bindL kindOf ((p, w) :: P.zip vs) m p = _
    unfold bindL
    rw [bindL_out fun v hv => (List.nodup_cons.mp nd).1 (List.of_mem_zip hv).1, if_pos hk]
    simp
  | p :: P, w :: vs, i + 1, m, nd, h1, h2, hk => by
    show bindL kindOf ((p, w) :: P.zip vs) m x = _
    unfold bindL
    exact bindL_get (i := i) (List.nodup_cons.mp nd).2 (by simpa using h1) (by simpa using h2) hk
theorem bindC_get {kindOf : Str → Option NameKind} {x : Str} {v : Value} : ∀ {P : List Str} {vs : List Value} {i : Nat} {m : Str → Option Value}, P.Nodup → P[i]? = some x → vs[i]? = some v → kindOf x ≠ some .local →
    bindC kindOf (P.zip vs) m x = some v
  | [], _, _, _, _, h, _, _ => by simp at h
  | _ :: _, [], _, _, _, _, h, _ => by simp at h
  | p :: P, w :: vs, 0, m, nd, h1, h2, hk => by
    simp at h1 h2; subst h1; subst h2
    show bindC kindOf ((p, w) :: P.zip vs) m p = _
    unfold bindC
    rw [bindC_out fun v hv => (List.nodup_cons.mp nd).1 (List.of_mem_zip hv).1, if_neg hk]
    simp
  | p :: P, w :: vs, i + 1, m, nd, h1, h2, hk => by
    show bindC kindOf ((p, w) :: P.zip vs) m x = _
    unfold bindC
    exact bindC_get (i := i) (List.nodup_cons.mp nd).2 (by simpa using h1) (by simpa using h2) hk

/-- the names' values at the entry -/
def start (N : List Str) (vs : List V) : St := vs.map some ++ List.replicate (N.length - vs.length) none

/-- the context of a def's body, at its entry; an exception leaves the frame, then lies as CX says -/
def cxOf (CX : CXT) (P : Program) (w : World) (K : PySem.W.Frag) (mg : Str → Option Value) (base : Heap) (N : List Str) (qual : Str) (scope : Scope) (f : Addr) (cd : Value) (A : Around) (outer : List Env) (s : Shared) (H : Hp) (E : XK) : Cx where
  prog := P
  w := w
  K := K
  mg := mg
  base := base
  A := A.deeper (envOfC qual scope s.heap.objs.size f cd)
  N := N
  s₀ := s
  H₀ := H
  env := envOfC qual scope s.heap.objs.size f cd
  outer := outer
  stack := envOfC qual scope s.heap.objs.size f cd :: outer
  ex := []
  calm := true
  fn := fun _ => true
  pn := []
  xe := fun e s' => wpAny (model P w) (A.deeper (envOfC qual scope s.heap.objs.size f cd)) (leaving (envOfC qual scope s.heap.objs.size f cd) e) (fun _ s'' => CX outer H s E e s'') (fun e' s'' => CX outer H s E e' s'') s'

theorem cell_has {sc : Scope} {n : Nat} {x : Str} (h : sc.names.lookup x = some .cell) : ∃ c, (cellsFrom n sc.names []).lookup x = some c := by
  have q := PySem.W.cellsFrom_some sc.names n [] (.inl h)
  exact Option.isSome_iff_exists.mp q

theorem inv_start {CX : CXT} {P : Program} {w : World} {K : PySem.W.Frag} {mg : Str → Option Value} {base : Heap} {N ps : List Str} {qual : Str} {scope : Scope} {f : Addr} {cd : Value} {A : Around} {outer : List Env} {s s1 : Shared} {H : Hp} {E : XK} {us : List Value} {vs : List V}
    (S : FnScope N ps scope) (hd : A.handled = none) (e0 : Env0 P w K mg base A outer s H) (hl : vs.length = ps.length) (r : Vals vs us)
    (x : InCallC s s.heap.objs.size (bindL (envOfC qual scope s.heap.objs.size f cd).kindOf (ps.zip us) fun _ => none) (cellsFrom (s.heap.objs.size + 1) scope.names []) (bindC (envOfC qual scope s.heap.objs.size f cd).kindOf (ps.zip us) fun _ => none) s1) :
    Inv (cxOf CX P w K mg base N qual scope f cd A outer s H E) [] (start N vs) H s1 := by
  have hpl : ps.length ≤ N.length := by have := congrArg List.length S.pre; rw [List.length_take] at this; omega
  obtain ⟨h1, tk, rfl, hk⟩ := x.done
  have noA : ∀ b : Addr, b ∉ (cxOf CX P w K mg base N qual scope f cd A outer s H E).ex := fun b z => absurd (show b ∈ ([] : List Addr) from z) (by simp)
  refine ⟨⟨e0.mod, S.kind, rfl, rfl, Nat.le_refl _, fun y z c h1 h2 => ?_, fun y hy => ?_, fun y c _ h => ?_, fun _ => hd, Around.frames_deeper e0.frames, .inr ⟨rfl, rfl⟩, fun b z => absurd z (noA b), e0.bs, e0.bsz, fun b _ _ => noA b, fun b z => absurd z (noA b), e0.funs, e0.frf⟩,
    rfl, e0.bare, Un.kept hk, ⟨_, x.toInCall.ns, fun i y v h1 h2 h3 => ?_⟩, fun y c h => ⟨_, x.cell y c h⟩, e0.hok.fresh (Nat.le_refl _), fun y c h => ?_, fun p hp => absurd (show p ∈ ([] : List (Addr × Obj)) from hp) (by simp), e0.hok.kept hk, ?_⟩
  · exact name_of_addr x.apart (PySem.mem_of_lookup h1) (PySem.mem_of_lookup h2)
  · have hy : scope.names.lookup y = some .cell ∨ scope.names.lookup y = some .free := hy
    rcases hy with hy | hy
    · exact cell_has hy
    · exact absurd rfl (S.nofree _ (PySem.mem_of_lookup hy))
  · exact Nat.le_of_lt (x.above y c (PySem.mem_of_lookup h))
  · have hi : i < vs.length := by
      unfold start at h2
      by_cases hi : i < vs.length
      · exact hi
      · rw [List.getElem?_append_right (by simpa using hi)] at h2
        rw [List.getElem?_replicate] at h2
        split at h2 <;> cases h2
    have ha : vs[i]? = some v := by
      unfold start at h2
      rw [List.getElem?_append_left (by simpa using hi), List.getElem?_map] at h2
      cases e : vs[i]? with
      | none => rw [e] at h2; cases h2
      | some a => rw [e] at h2; cases h2; rfl
    obtain ⟨u, hu, rv⟩ := r.get ha
    have hp : ps[i]? = some y := by
      rw [← S.pre, List.getElem?_take_of_lt (by omega)]; exact h1
    have ndP : ps.Nodup := by rw [← S.pre]; exact S.nd.sublist (List.take_sublist _ _)
    refine ⟨u, rv, ?_⟩
    rcases S.par y (List.mem_of_getElem? hp) with k | k
    · exact .inl ⟨k, bindL_get ndP hp hu k⟩
    · obtain ⟨c, e⟩ := cell_has (n := s.heap.objs.size + 1) k
      refine .inr ⟨.inl k, c, e, ?_⟩
      have q := x.cell y c e
      rw [bindC_get ndP hp hu (by show scope.names.lookup y ≠ _; rw [k]; decide)] at q
      exact q
  · exact e0.hok.fresh (Nat.le_of_lt (x.above y c (PySem.mem_of_lookup h)))
  · unfold start
    show _ = N.length
    rw [List.length_append, List.length_map, List.length_replicate]
    omega

/-- THE RULE: a def (or a method) of the text, by its body. The body's reading t is chosen for each entry; it is run at the parameters' values -/
theorem fn_of {CX : CXT} {P : Program} {w : World} {K : PySem.W.Frag} {mg : Str → Option Value} {base : Heap} {k : Nat} {f : Addr} {name qual : Str} {params : Arguments} {body : List Stmt} {scope : Scope} {dV kV doc pm cdv ct oc : Value} {an od : Option Addr}
    {osl : Array (Option Value)} {N ps : List Str} {sp : Sp} (lk : K.lookup f = some ⟨oc, od, .func (PySem.W.fnOf name qual params body scope dV kV doc pm an cdv ct), osl⟩) (hcd : PySem.W.codeIn K cdv qual = true) (S : FnScope N ps scope)
    (len : ∀ vs H Q E, sp vs H Q E → vs.length = ps.length)
    (hbody : ∀ (A : Around) (outer : List Env) (s : Shared) (H : Hp) (vs : List V) (Q : VK) (E : XK), Room k (A.deeper (envOfC qual scope s.heap.objs.size f cdv)) → sp vs H Q E →
      ∃ t, PSs (cxOf CX P w K mg base N qual scope f cdv A outer s H E) body t ∧ t { nx := fun _ H' => Q .non H', rt := Q } (start N vs) H) :
    FnOk P w K mg base CX (k + 1) f (PySem.W.fnOf name qual params body scope dV kV doc pm an cdv ct) ps sp := by
  refine ⟨len, fun A outer s H args us vs Q E hr e0 hb r hsp => ?_⟩
  have hl := len _ _ _ _ hsp
  have KX : K.In s.heap := e0.mod.kin.keeps fun b o e => (e0.bs b o e).1
  have lim : s.heap.NoLimit := e0.mod.nolimit.keeps fun b o e => (e0.bs b o e).1
  have hkind : ∀ y ∈ ps.zip us, scope.names.lookup y.1 = some .local ∨ (scope.names.lookup y.1 = some .cell ∧ ((cellsFrom (s.heap.objs.size + 1) scope.names []).lookup y.1).isSome = true) := fun ⟨n, v⟩ hy => by
    rcases S.par n (List.of_mem_zip hy).1 with q | q
    · exact .inl q
    · exact .inr ⟨q, PySem.W.cellsFrom_some _ _ _ (.inl q)⟩
  refine codeAny_call_function hr.depth (KX _ _ lk) rfl S.co S.gen rfl (PySem.W.codeRec_of KX hcd) (hb _ _ _ _ ?_)
  refine wpAny_newFunctionEnv_cells S.kind hkind fun env he s1 x => ?_
  subst he
  refine ⟨lim.keeps x.toInCall.keep, codeAny_func ?_⟩
  obtain ⟨t, ht, hq⟩ := hbody A outer s H vs Q E (hr.deeper _) hsp
  have I : Inv (cxOf CX P w K mg base N qual scope f cdv A outer s H E) [] (start N vs) H s1 := inv_start S hr.hd e0 hl r x
  refine wpAny_mono (ht [] s1 (start N vs) H _ I hq) (fun fl s' hs => ?_) fun e s' hs => hs
  have fin : ∀ {σ' : St} {H' : Hp} {v : V} {u : Value}, Inv (cxOf CX P w K mg base N qual scope f cdv A outer s H E) [] σ' H' s' → RelV v u → Q v H' → CE outer P w H s Q u s' :=
    fun {σ' H' v u} J rv q => ⟨v, H', J.os, J.bare, J.base, J.hok, rv, q⟩
  cases fl with
  | ret u =>
    obtain ⟨v, σ', H', J, rv, q⟩ := hs
    exact fin J rv q
  | next =>
    obtain ⟨σ', H', J, q⟩ := hs
    exact fin (v := V.non) (u := Value.none) J rfl q
  | brk =>
    obtain ⟨_, _, _, q⟩ := hs
    exact False.elim q
  | cont =>
    obtain ⟨_, _, _, q⟩ := hs
    exact False.elim q
end L2

namespace L2
open PySem PySem.Spec PyProof.Rows
section
variable {X : Cx} {x : Str} {p pos : Pos} {e : Expr} {es : List Expr} {t : TA} {id T : String} {r : List V → Hp → VK → Prop}

def tCB (r : List V → Hp → VK → Prop) (t : TA) : TE := fun σ H Q => t σ H fun vs H1 => r vs H1 Q
/-- f(e, ..), f a built-in function -/
theorem pe_callB (hc : CallR X (.builtin id) r) (hg : Gl X x) (hm : X.mg x = none) (hv : bootBuiltins x = some (.builtin id)) (ha : PA X (e :: es) t) (hn : x ≠ "__name__" := by decide) (hdb : (x == ("__debug__" : Str)) = false := by decide)
    (he : starEach (e :: es) X.env = (false, eval e X.env) :: starEach es X.env := by rfl) (hpl : (backTo pos (starEach es X.env)).any (·.1) = false := by rfl) : PE X (.Call (.Name x p) (e :: es) [] pos) (tCB r t) := by
  intro pins s σ H Q I h
  refine wpAny_Call_Name_kw (ld_blt I hg hm hv ?_ hn hdb)
  exact PyProof.Rows.callWith_builtin1 (thn (ha pos pins s σ H _ I h) fun us s1 ⟨vs, H1, I1, r1, q1⟩ => hc pins s1 σ H1 vs us Q I1 r1 q1) he hpl
/-- T(e, ..), T a built-in type -/
theorem pe_callTy (hc : CallR X (.type T) r) (hg : Gl X x) (hm : X.mg x = none) (hv : bootBuiltins x = some (.type T)) (ha : PA X (e :: es) t) (hn : x ≠ "__name__" := by decide) (hdb : (x == ("__debug__" : Str)) = false := by decide)
    (he : starEach (e :: es) X.env = (false, eval e X.env) :: starEach es X.env := by rfl) (hpl : (backTo pos (starEach es X.env)).any (·.1) = false := by rfl) : PE X (.Call (.Name x p) (e :: es) [] pos) (tCB r t) := by
  intro pins s σ H Q I h
  refine wpAny_Call_Name_kw (ld_blt I hg hm hv ?_ hn hdb)
  exact PyProof.Rows.callWith_type1 (thn (ha pos pins s σ H _ I h) fun us s1 ⟨vs, H1, I1, r1, q1⟩ => hc pins s1 σ H1 vs us Q I1 r1 q1) he hpl
end
end L2

namespace HT
open PySem PyProof.Rows

section
open PySem.SeqAt
open PySem.AutoSeq1 (wpAny_loadPart')
open PySem.MeetsSeq PySem.MeetsSeq2 PySem.MeetsSeq3

end

section
variable {prog : Program} {w : World} {A : Around} {E : Value → Shared → Prop} {s : Shared}

/-- t + u, t not empty -/
theorem cat_tup {t b : Addr} {vs ws : List Value} {Q : Value → Shared → Prop} (ht : IsTup s.heap t vs.toArray) (hb : IsTup s.heap b ws.toArray) (hv : vs ≠ [])
    (h1 : ws = [] → Q (.ref t) s) (h2 : ws ≠ [] → Q (.ref s.heap.objs.size) { s with heap := s.heap.push { cls := .type "tuple", data := .seq (vs ++ ws).toArray } })
    (hsz : vs.length + ws.length ≤ sizeLine) : wpAny (model prog w) A (binaryOp .Add (.ref t) (.ref b)) Q E s := by
  obtain ⟨⟨cls, dd, data, sl⟩, ho, hc, n, hd⟩ := id ht
  obtain ⟨⟨cls2, dd2, data2, sl2⟩, ho2, hc2, n2, hd2⟩ := id hb
  simp only at hc hd hc2 hd2
  subst hc hd hc2 hd2
  have e : vs.toArray ++ ws.toArray = (vs ++ ws).toArray := by simp
  by_cases hw : ws = []
  · exact concat_meets ⟨_, ho, rfl⟩ ⟨_, ho2, rfl⟩ noFill_tuple_add seq_tuple_add PySem.F.slot_tuple_add PySem.F.entry_tuple_add (PySem.F.args_tuple_add_2 _ _)
      (tuple_addW1 t b vs.toArray ws.toArray n n2 dd dd2 sl sl2 (by simpa using hv) (by simp [hw])) ⟨ho, ho2, h1 hw⟩
  · refine concat_meets ⟨_, ho, rfl⟩ ⟨_, ho2, rfl⟩ noFill_tuple_add seq_tuple_add PySem.F.slot_tuple_add PySem.F.entry_tuple_add (PySem.F.args_tuple_add_2 _ _)
      (tuple_addW2 t b vs.toArray ws.toArray n n2 dd dd2 sl sl2 (by simpa using hv) (by simpa using hw) (by rw [List.size_toArray, List.size_toArray]; exact hsz)) ⟨ho, ho2, ?_⟩
    rw [e]
    exact h2 hw

/-! ### t[a:b], not the whole -/
end
end HT

namespace L2
open PySem PySem.Spec PyProof.Rows

/-! ### the parts of a slice -/
section
variable {X : Cx} {e : Expr} {te : TE} {lo hi : Option Expr} {tl th : TO} {pos p2 : Pos}

/-! ### t < u, t + u -/
/-- t + u, t not empty: u empty gives t itself -/
def rCatT (K : PySem.W.Frag) : R2 := fun x y H Q => ∃ a b xs ys, x = .ref a ∧ y = .ref b ∧ SqT K H a xs ∧ SqT K H b ys ∧ xs ≠ [] ∧ xs.length + ys.length ≤ sizeLine ∧
  (ys = [] → Q (.ref a) H) ∧ (ys ≠ [] → ∀ p, H p = none → Q (.ref p) (upd H p (.tup (xs ++ ys))))
theorem Vals.nil_iff {xs : List V} {us : List Value} (r : Vals xs us) : us = [] ↔ xs = [] := by
  cases r with
  | nil => simp
  | cons _ _ => simp
theorem op_catT : OpR X (binaryOp .Add) (rCatT X.K) := by
  intro pins s σ H x y v u Q I rx ry h
  obtain ⟨a, b, xs, ys, rfl, rfl, ha, hb, hx, hz, q1, q2⟩ := h
  cases rx
  cases ry
  obtain ⟨its, r1, p1, _⟩ := I.tuple ha
  obtain ⟨its2, r2, p2, _⟩ := I.tuple hb
  refine HT.cat_tup p1 p2 (fun z => hx (r1.nil_iff.mp z)) (fun z => ⟨.ref a, H, I, rfl, q1 (r2.nil_iff.mp z)⟩) (fun z => ?_) (by rw [← r1.length, ← r2.length]; exact hz)
  refine ⟨.ref s.heap.objs.size, _, I.laid (t' := s.toks) (o := .tup (xs ++ ys)) (fun b ob q => Heap.get?_push_of_some _ q) (Nat.le_refl _) ?_, rfl, q2 (fun w => z (r2.nil_iff.mpr w)) _ (I.hok.fresh (Nat.le_refl _))⟩
  exact ⟨by rw [List.length_append]; exact hz, _, r1.append r2, IsTup.new _ _⟩
end
end L2

namespace L2
open PySem PySem.Spec PyProof.Rows

/-! ### places -/
/-- the place that an index of any sign means -/
def ixN (n : Nat) (i : Int) : Option Nat := if 0 ≤ i then (if i < n then some i.toNat else none) else if -(n : Int) ≤ i then some (i + n).toNat else none
def atI {α : Type} (xs : List α) (i : Int) : Option α := (ixN xs.length i).bind fun j => xs[j]?
theorem ixN_seq {n : Nat} {i : Int} {j : Nat} (h : ixN n i = some j) : seqIndex? i n = some j ∧ j < n ∧ -(n : Int) ≤ i ∧ i < n := by
  unfold ixN at h
  by_cases h0 : 0 ≤ i
  · rw [if_pos h0] at h
    by_cases h1 : i < n
    · rw [if_pos h1] at h
      have e : i.toNat = j := Option.some.inj h
      exact ⟨by rw [seqIndex_of h0 h1, e], by omega, by omega, h1⟩
    · rw [if_neg h1] at h; cases h
  · rw [if_neg h0] at h
    by_cases h1 : -(n : Int) ≤ i
    · rw [if_pos h1] at h
      have e : (i + n).toNat = j := Option.some.inj h
      exact ⟨by rw [seqIndex_neg (by omega) h1, e], by omega, h1, by omega⟩
    · rw [if_neg h1] at h; cases h
theorem atI_get {α : Type} {xs : List α} {i : Int} {v : α} (h : atI xs i = some v) : ∃ j, seqIndex? i xs.length = some j ∧ xs[j]? = some v ∧ j < xs.length ∧ -(xs.length : Int) ≤ i ∧ i < xs.length := by
  unfold atI at h
  cases e : ixN xs.length i with
  | none => rw [e] at h; cases h
  | some j =>
    rw [e] at h
    obtain ⟨h1, h2, h3, h4⟩ := ixN_seq e
    exact ⟨j, h1, h, h2, h3, h4⟩
theorem atI_nat {α : Type} {xs : List α} {j : Nat} {v : α} (h : xs[j]? = some v) : atI xs (j : Int) = some v := by
  have hj : j < xs.length := (List.getElem?_eq_some_iff.mp h).1
  have e : ixN xs.length (j : Int) = some j := by
    unfold ixN
    rw [if_pos (by omega), if_pos (by omega)]; simp
  unfold atI; rw [e]; exact h
/-! ### what may be subscripted -/
/-- what stands as an index of a plain subscript -/
def PlainIx (b : Expr) : Prop := ∀ o i, subscripted b false o i = operate [o, i] (getItem o i)
/-- a subscript by values -/
def IxR (X : Cx) (r : R2) : Prop :=
  ∀ (value slice : Expr) (pins : List (Addr × Obj)) (s : Shared) (σ : St) (H : Hp) (x y : V) (v u : Value) (Q : VK), Inv X pins σ H s → RelV x v → RelV y u → r x y H Q →
    subscripted slice false v u = operate [v, u] (getItem v u) → wpAny (model X.prog X.w) X.A (subscriptTail value slice v u) (EP X pins σ Q) X.xe s
/-- a call of a builtin's method by values: the receiver, the arguments -/
def MtR (X : Cx) (id : String) (r : V → List V → Hp → VK → Prop) : Prop :=
  ∀ (pins : List (Addr × Obj)) (s : Shared) (σ : St) (H : Hp) (x : V) (xs : List V) (v : Value) (us : List Value) (Q : VK), Inv X pins σ H s → RelV x v → Vals xs us → r x xs H Q →
    wpAny (model X.prog X.w) X.A (call (.builtin id) (v :: us)) (EP X pins σ Q) X.xe s
section
variable {X : Cx} {a b : Expr} {ta tb : TE} {pos : Pos}
/-- a[b] -/
theorem pe_ix {r : R2} (hr : IxR X r) (ha : PE X a ta) (hb : PE X b tb) (hs : PlainIx b) : PE X (.Subscript a b pos) (tOp r ta tb) := by
  intro pins s σ H Q I h
  exact Subscript_ (binT ha hb I h fun v u s2 x y H2 I2 rx ry q => hr a b pins s2 σ H2 x y v u Q I2 rx ry q (hs _ _))

def rIxL (K : PySem.W.Frag) : R2 := fun x y H Q => ∃ p xs i v, x = .ref p ∧ y = .int i ∧ SqL K H p xs ∧ atI xs i = some v ∧ Q v H
def rIxT (K : PySem.W.Frag) : R2 := fun x y H Q => ∃ p xs i v, x = .ref p ∧ y = .int i ∧ SqT K H p xs ∧ atI xs i = some v ∧ Q v H
theorem ix_list : IxR X (rIxL X.K) := by
  intro value slice pins s σ H x y v u Q I rx ry h hs
  obtain ⟨p, xs, i, z, rfl, rfl, hq, he, q⟩ := h
  cases rx
  obtain ⟨t, rfl⟩ := ry
  obtain ⟨its, r, pl, hz⟩ := I.list hq
  obtain ⟨j, h1, h2, h3, h4, h5⟩ := atI_get he
  obtain ⟨w, ew, rw'⟩ := r.get h2
  have hl := r.length
  have hn := line63
  have fin : EP X pins σ Q w s := ⟨z, H, I, rw', q⟩
  by_cases h0 : 0 ≤ i
  · have hj : i.toNat = j := by
      rw [seqIndex_of h0 h5] at h1
      exact Option.some.inj h1
    exact item_listR pl.isList h0 (by omega) (by rw [hj]; simpa using ew) fin hs
  · have hj : (i + (its.toArray.size : Int)).toNat = j := by
      rw [seqIndex_neg (by omega) h4] at h1
      rw [List.size_toArray, ← hl]
      exact Option.some.inj h1
    exact subscriptTail_builtinR (x := w) pl.isList.typeIs slot_list_getitem.lookup
      (wpAny_getItem_list_neg (Q := fun r s' => r = w ∧ EP X pins σ Q r s') pl.isList (by omega) (by rw [List.size_toArray] <;> omega) (by omega) (by rw [hj]; simpa using ew) ⟨rfl, fin⟩) hs
theorem ix_tup : IxR X (rIxT X.K) := by
  intro value slice pins s σ H x y v u Q I rx ry h hs
  obtain ⟨p, xs, i, z, rfl, rfl, hq, he, q⟩ := h
  cases rx
  obtain ⟨t, rfl⟩ := ry
  obtain ⟨its, r, pl, hz⟩ := I.tuple hq
  obtain ⟨j, h1, h2, h3, h4, h5⟩ := atI_get he
  obtain ⟨w, ew, rw'⟩ := r.get h2
  have hl := r.length
  have hn := line63
  have fin : EP X pins σ Q w s := ⟨z, H, I, rw', q⟩
  exact subscriptTail_builtinR (x := w) pl.typeIs slot_tuple_getitem.lookup
    (getItem_tuple (j := j) (Q := fun r s' => r = w ∧ EP X pins σ Q r s') pl (by omega) (by omega) (by rw [List.size_toArray, ← hl]; exact h1) (by simpa using ew) ⟨rfl, fin⟩) hs
/-! ### xs[i] = v, any sign -/
/-! ### slices -/
/-! ### in, not in: flat items -/
def flatV : V → Bool
  | .non => true
  | .bl _ => true
  | .int _ => true
  | .str _ => true
  | _ => false
/-- == of flat values -/
def eqV : V → V → Bool
  | .non, .non => true
  | .bl a, .bl b => a == b
  | .bl a, .int b => (if a then 1 else 0) == b
  | .int a, .bl b => a == (if b then 1 else 0)
  | .int a, .int b => a == b
  | .str a, .str b => a == b
  | _, _ => false
theorem eqAt_V {A : Around} {s : Shared} {y x : V} {u v : Value} (ry : RelV y u) (rx : RelV x v) (fy : flatV y = true) (fx : flatV x = true) : SeqAt.EqAt A s u v (eqV y x) := by
  cases y with
  | non =>
    cases ry
    cases x with
    | non => cases rx; exact SeqAt.EqAt.same _
    | bl b => cases rx; exact SeqAt.EqAt.none_bool b
    | int b => obtain ⟨t, rfl⟩ := rx; exact SeqAt.EqAt.none_int b t
    | str b => obtain ⟨t, rfl⟩ := rx; exact SeqAt.EqAt.none_str b t
    | _ => exact absurd (show false = true from fx) Bool.false_ne_true
  | bl a =>
    cases ry
    cases x with
    | non => cases rx; exact SeqAt.EqAt.bool_none a
    | bl b => cases rx; exact SeqAt.EqAt.bool_bool a b
    | int b => obtain ⟨t, rfl⟩ := rx; exact SeqAt.EqAt.bool_int a b t
    | str b => obtain ⟨t, rfl⟩ := rx; exact SeqAt.EqAt.bool_str a b t
    | _ => exact absurd (show false = true from fx) Bool.false_ne_true
  | int a =>
    obtain ⟨t', rfl⟩ := ry
    cases x with
    | non => cases rx; exact SeqAt.EqAt.int_none a t'
    | bl b => cases rx; exact SeqAt.EqAt.int_bool a t' b
    | int b => obtain ⟨t, rfl⟩ := rx; exact SeqAt.EqAt.int_int a t' b t
    | str b => obtain ⟨t, rfl⟩ := rx; exact SeqAt.EqAt.int_str a t' b t
    | _ => exact absurd (show false = true from fx) Bool.false_ne_true
  | str a =>
    obtain ⟨t', rfl⟩ := ry
    cases x with
    | non => cases rx; exact SeqAt.EqAt.str_none a t'
    | bl b => cases rx; exact SeqAt.EqAt.str_bool a t' b
    | int b => obtain ⟨t, rfl⟩ := rx; exact SeqAt.EqAt.str_int a t' b t
    | str b => obtain ⟨t, rfl⟩ := rx; exact SeqAt.EqAt.str_str a t' b t
    | _ => exact absurd (show false = true from fx) Bool.false_ne_true
  | _ => exact absurd (show false = true from fy) Bool.false_ne_true
/-- the items' answers, read off the values (a value's own answer does not lean on its token) -/
def eqU (x : V) (u : Value) : Bool := match u with
  | .none => eqV .non x
  | .bool b => eqV (.bl b) x
  | .int i _ => eqV (.int i) x
  | .str z _ => eqV (.str z) x
  | _ => false
theorem eqU_of {x y : V} {u : Value} (r : RelV y u) (f : flatV y = true) : eqU x u = eqV y x := by
  cases y with
  | non => cases r; rfl
  | bl b => cases r; rfl
  | int i => obtain ⟨t, rfl⟩ := r; rfl
  | str z => obtain ⟨t, rfl⟩ := r; rfl
  | _ => exact absurd (show false = true from f) Bool.false_ne_true
theorem any_eqU {x : V} : ∀ {xs : List V} {us : List Value}, Vals xs us → xs.all flatV = true → us.any (eqU x) = xs.any fun y => eqV y x
  | _, _, .nil, _ => rfl
  | y :: xs, u :: us, .cons r t, f => by
    rw [List.all_cons, Bool.and_eq_true] at f
    rw [List.any_cons, List.any_cons, eqU_of r f.1, any_eqU t f.2]
theorem mem_eqAt {A : Around} {s : Shared} {x : V} {v : Value} (rx : RelV x v) (fx : flatV x = true) : ∀ {xs : List V} {us : List Value}, Vals xs us → xs.all flatV = true → ∀ u ∈ us, SeqAt.EqAt A s u v (eqU x u)
  | _, _, .nil, _ => fun u hu => by cases hu
  | y :: xs, u :: us, .cons r t, f => fun u' hu => by
    rw [List.all_cons, Bool.and_eq_true] at f
    rcases List.mem_cons.mp hu with rfl | hu
    · rw [eqU_of r f.1]; exact eqAt_V r rx f.1 fx
    · exact mem_eqAt rx fx t f.2 u' hu
def inV (x : V) (xs : List V) : Bool := xs.any fun y => eqV y x
/-- x in a list or tuple of flat items -/
def rIn (K : PySem.W.Frag) (neg : Bool) : R2 := fun x y H Q => ∃ p xs, y = .ref p ∧ (SqL K H p xs ∨ SqT K H p xs) ∧ flatV x = true ∧ xs.all flatV = true ∧ Q (.bl (if neg then !inV x xs else inV x xs)) H
theorem op_notIn_seq : OpR X (compareOp .NotIn) (rIn X.K true) := by
  intro pins s σ H x y v u Q I rx ry h
  obtain ⟨p, xs, rfl, hq, fx, fs, q⟩ := h
  cases ry
  rcases hq with hq | hq
  · obtain ⟨its, r, pl, hz⟩ := I.list hq
    refine SeqAt.notIn_listAt (eqU x) pl.isList (fun w hw => mem_eqAt rx fx r fs w (by simpa using hw)) ⟨.bl _, H, I, rfl, ?_⟩
    rw [show its.toArray.any (eqU x) = its.any (eqU x) by simp, any_eqU r fs]
    exact q
  · obtain ⟨its, r, pl, hz⟩ := I.tuple hq
    refine SeqAt.notIn_tupleAt (eqU x) pl (fun w hw => mem_eqAt rx fx r fs w (by simpa using hw)) ⟨.bl _, H, I, rfl, ?_⟩
    rw [show its.toArray.any (eqU x) = its.any (eqU x) by simp, any_eqU r fs]
    exact q
/-! ### len, list(x), tuple(x) of any list or tuple that is read -/
theorem call_len_seq : CallR X (.builtin "len") (fun xs H Q => ∃ p ys, xs = [.ref p] ∧ (SqL X.K H p ys ∨ SqT X.K H p ys) ∧ Q (.int ys.length) H) := by
  intro pins s σ H xs us Q I r h
  obtain ⟨p, ys, rfl, hq, q⟩ := h
  obtain ⟨u, rfl, rx⟩ := vals1 r
  cases rx
  have hn := line63
  rcases hq with hq | hq
  · obtain ⟨its, r', pl, hz⟩ := I.list hq
    have hlen := r'.length
    exact Calls.call_len_list pl.isList (by simp only [List.size_toArray] <;> omega) ⟨.int ys.length, H, I.tok _, ⟨s.toks + 1, by rw [List.size_toArray, hlen]⟩, q⟩
  · obtain ⟨its, r', pl, hz⟩ := I.tuple hq
    have hlen := r'.length
    exact len_tuple pl (by simp only [List.size_toArray] <;> omega) ⟨.int ys.length, H, I.tok _, ⟨s.toks + 1, by rw [List.size_toArray, hlen]⟩, q⟩
theorem call_len_str : CallR X (.builtin "len") (fun xs H Q => ∃ z, xs = [.str z] ∧ z.length ≤ sizeLine ∧ Q (.int z.length) H) := by
  intro pins s σ H xs us Q I r h
  obtain ⟨z, rfl, hz, q⟩ := h
  obtain ⟨u, rfl, t, rfl⟩ := vals1 r
  have hn := line63
  exact len_str (by omega) ⟨.int z.length, H, I.tok _, ⟨_, rfl⟩, q⟩
theorem call_list_of : CallR X (.type "list") (fun xs H Q => ∃ p ys, xs = [.ref p] ∧ (SqL X.K H p ys ∨ SqT X.K H p ys) ∧ ∀ l, H l = none → Q (.ref l) (upd H l (.lst ys))) := by
  intro pins s σ H xs us Q I r h
  obtain ⟨p, ys, rfl, hq, q⟩ := h
  obtain ⟨u, rfl, rx⟩ := vals1 r
  cases rx
  have fin : ∀ (its : List Value), Vals ys its → ys.length ≤ sizeLine → ∀ (h' : Heap) (c' : Nat), (∀ b o', s.heap.get? b = some o' → h'.get? b = some o') →
      h'.get? s.heap.objs.size = some { cls := .type "list", dict := none, data := .seq its.toArray c', slots := #[] } → EP X pins σ Q (.ref s.heap.objs.size) { s with heap := h' } := fun its r' hz h' c' kp e =>
    ⟨.ref s.heap.objs.size, _, I.laid (t' := s.toks) kp (Nat.le_refl _) (show ObjOk X.prog X.w _ h' _ (.lst ys) from ⟨hz, its, c', r', e⟩), rfl, q _ (I.hok.fresh (Nat.le_refl _))⟩
  rcases hq with hq | hq
  · obtain ⟨its, r', pl, hz⟩ := I.list hq
    have hlen := r'.length
    obtain ⟨o, ho, hc, n, hd⟩ := pl.isList
    exact call_list_seq p (.inl rfl) ho hc hd (fun h' c' kp e => fin its r' hz h' c' kp e) (by simp only [List.size_toArray] <;> omega)
  · obtain ⟨its, r', pl, hz⟩ := I.tuple hq
    have hlen := r'.length
    obtain ⟨o, ho, hc, n, hd⟩ := pl
    exact call_list_seq p (.inr rfl) ho hc hd (fun h' c' kp e => fin its r' hz h' c' kp e) (by simp only [List.size_toArray] <;> omega)
theorem call_tuple_of : CallR X (.type "tuple") (fun xs H Q => ∃ p ys, xs = [.ref p] ∧ ((SqL X.K H p ys ∧ ∀ l, H l = none → Q (.ref l) (upd H l (.tup ys))) ∨ (SqT X.K H p ys ∧ Q (.ref p) H))) := by
  intro pins s σ H xs us Q I r h
  obtain ⟨p, ys, rfl, h⟩ := h
  obtain ⟨u, rfl, rx⟩ := vals1 r
  cases rx
  rcases h with ⟨hq, q⟩ | ⟨hq, q⟩
  · obtain ⟨its, r', pl, hz⟩ := I.list hq
    have hlen := r'.length
    refine call_tuple_list pl.isList (fun h' kp => ?_) (by simp only [List.size_toArray] <;> omega)
    have I1 : Inv X pins σ H { s with heap := h' } := I.kept (t' := s.toks) kp
    have I2 : Inv X pins σ (upd H h'.objs.size (.tup ys)) { s with heap := h'.push { cls := .type "tuple", data := .seq its.toArray } } :=
      I1.laid (t' := s.toks) (fun b o e => Heap.get?_push_of_some _ e) (Nat.le_refl _) (show ObjOk X.prog X.w _ _ _ (.tup ys) from ⟨hz, its, r', IsTup.new _ _⟩)
    exact ⟨.ref h'.objs.size, _, I2, rfl, q _ (I1.hok.fresh (Nat.le_refl _))⟩
  · obtain ⟨its, r', pl, hz⟩ := I.tuple hq
    exact call_tuple_same pl ⟨.ref p, H, I, rfl, q⟩

/-! ### the call of a builtin's method: o.m(..) -/
/-- the value is of that builtin type -/
def tyV (K : PySem.W.Frag) (T : String) (x : V) (H : Hp) : Prop := match x with
  | .str _ => T = "str"
  | .int _ => T = "int"
  | .ref p => (T = "list" ∧ ∃ xs, SqL K H p xs) ∨ (T = "tuple" ∧ ∃ o, K.lookup p = some o ∧ o.cls = .type "tuple" ∧ o.dict = none) ∨
      (T = "dict" ∧ ((∃ kvs, H p = some (.dK kvs)) ∨ ∃ kvs, H p = some (.dT kvs))) ∨ (T = "set" ∧ ∃ S n, H p = some (.set S n))
  | _ => False
theorem tyV_is {pins : List (Addr × Obj)} {σ : St} {H : Hp} {s : Shared} {T : String} {x : V} {v : Value} (I : Inv X pins σ H s) (r : RelV x v) (ty : tyV X.K T x H) :
    s.TypeIs v T ∧ ∀ a, v = .ref a → ∃ ob, s.heap.get? a = some ob ∧ ob.dict = none := by
  cases x with
  | str z =>
    obtain ⟨t, rfl⟩ := r
    cases (show T = "str" from ty)
    exact ⟨typeIs_str s z t, fun _ e => nomatch e⟩
  | int i =>
    obtain ⟨t, rfl⟩ := r
    cases (show T = "int" from ty)
    exact ⟨typeIs_int s i t, fun _ e => nomatch e⟩
  | ref p =>
    cases r
    rcases ty with ⟨rfl, xs, hq⟩ | ⟨rfl, o, hk, hc, hd⟩ | ⟨rfl, hk⟩ | ⟨rfl, S, n, hk⟩
    · obtain ⟨its, _, pl, _⟩ := I.list hq
      refine ⟨pl.isList.typeIs, fun a e => ?_⟩
      cases e
      obtain ⟨o, n, e, c, hd, _⟩ := pl
      exact ⟨o, e, hd⟩
    · refine ⟨⟨o, I.kIn p o hk, hc⟩, fun a e => ?_⟩
      cases e
      exact ⟨o, I.kIn _ o hk, hd⟩
    · have z : ∃ o, s.heap.get? p = some o ∧ o.ExactDict := by
        rcases hk with ⟨kvs, hk⟩ | ⟨kvs, hk⟩
        · obtain ⟨_, _, _, _, o, _, _, e, ex, _⟩ := I.hok p _ hk
          exact ⟨o, e, ex⟩
        · obtain ⟨_, _, _, _, o, _, _, e, ex, _⟩ := I.hok p _ hk
          exact ⟨o, e, ex⟩
      obtain ⟨o, e, ex⟩ := z
      refine ⟨⟨o, e, ex.1⟩, fun a e2 => ?_⟩
      cases e2
      exact ⟨o, e, ex.2.1⟩
    · obtain ⟨o, _, _, _, e, ex, _⟩ := I.hok p _ hk
      refine ⟨⟨o, e, ex.1⟩, fun a e2 => ?_⟩
      cases e2
      exact ⟨o, e, ex.2.1⟩
  | _ => exact False.elim ty
def tBM (K : PySem.W.Frag) (T : String) (r : V → List V → Hp → VK → Prop) (to : TE) (t : TA) : TE := fun σ H Q => to σ H fun x H1 => tyV K T x H1 ∧ t σ H1 fun xs H2 => r x xs H2 Q
variable {o e : Expr} {es : List Expr} {to : TE} {t : TA} {name : Str} {apos cpos : Pos} {T id : String} {r : V → List V → Hp → VK → Prop}
theorem pe_bm (pa : PlainAttrs T) (slot : Slot T name id) (hty : typeOf (.builtin id) = pure (.type "method_descriptor")) (hm : MtR X id r) (ho : PE X o to) (ha : PA X (e :: es) t)
    (hbase : attributeBase o name X.env (eval o X.env) = eval o X.env := by rfl)
    (hfew : ((backTo cpos (starEach (e :: es) X.env)).all (fun x => !x.1) && (backToKw cpos (keywordEach [] X.env)).all (fun x => x.1.isSome)
      && decide ((e :: es).length + ([] : List Keyword).length + (if ([] : List Keyword).isEmpty then 0 else 1) < 30)) = true := by rfl)
    (hline : (apos.endLine == cpos.line) = true := by rfl) (hs : starEach (e :: es) X.env = (false, eval e X.env) :: starEach es X.env := by rfl) (hplain : (backTo cpos (starEach es X.env)).any (·.1) = false := by rfl) :
    PE X (.Call (.Attribute o name apos) (e :: es) [] cpos) (tBM X.K T r to t) := by
  intro pins s σ H Q I h
  refine wpAny_Call_method_late hbase hfew hline rfl (thn (ho pins s σ H _ I h) fun v s1 ⟨x, H1, I1, r1, ty, q1⟩ => ?_)
  obtain ⟨h1, h2⟩ := tyV_is I1 r1 ty
  refine ⟨T, id, pa, slot, hty, h1, h2, ?_⟩
  have hA := ha cpos pins s1 σ H1 _ I1 q1
  rw [hs] at hA ⊢
  refine Calls.callWith_builtin (by show (false || (backTo cpos (starEach es X.env)).any (·.1)) = false; rw [hplain] <;> rfl) (Calls.evalArgs_plain ?_)
  exact thn hA fun us s2 ⟨vs, H2, I2, r2, q2⟩ => hm pins s2 σ H2 x vs v us Q I2 r1 r2 q2
/- xs.append(e), list.index on a module's tuple .. are MtR facts of 06m -/
end
end L2

namespace L2
open PySem PySem.Spec PyProof.Rows

def MtM (X : Cx) (id : String) (r : V → List V → Hp → VK → Prop) : Prop :=
  ∀ (pins : List (Addr × Obj)) (s : Shared) (σ : St) (H : Hp) (x : V) (xs : List V) (v : Value) (us : List Value) (Q : VK), Inv X pins σ H s → RelV x v → Vals xs us → r x xs H Q →
    wpAny (model X.prog X.w) X.A (call (.builtin id) (v :: us)) (EP X pins σ Q) X.xe s

/-! ### lists of values -/
theorem Vals.one : ∀ {x : V} {us : List Value}, Vals [x] us → ∃ u, us = [u] ∧ RelV x u
  | _, _, .cons r .nil => ⟨_, rfl, r⟩
theorem Vals.two : ∀ {x y : V} {us : List Value}, Vals [x, y] us → ∃ u v, us = [u, v] ∧ RelV x u ∧ RelV y v
  | _, _, _, .cons r (.cons q .nil) => ⟨_, _, rfl, r, q⟩
section
variable {X : Cx} {pins : List (Addr × Obj)} {σ : St} {H : Hp} {s : Shared} {l b : Addr} {xs ys zs : List V}

/-! ### the two steps: a tracked list is rewritten, a new list is laid -/
theorem Inv.lset {its its' : List Value} {n : Nat} {f : Array Value → Array Value} {t' : Nat} (I : Inv X pins σ H s) (hH : H l = some (.lst xs))
    (e : s.heap.get? l = some { cls := .type "list", data := .seq its.toArray n }) (hf : f its.toArray = its'.toArray) (hv : Vals ys its') (hz : ys.length ≤ sizeLine) :
    Inv X pins σ (upd H l (.lst ys)) { s with heap := s.heap.update l (Obj.mapSeq f), toks := t' } := by
  have q := PySem.IsL.update e f
  rw [hf] at q
  refine I.write (x := l) (e := l) (by rw [hH]; exact trivial) (.inl rfl) (fun b' u hb hu => (Heap.get?_update_other s.heap (Obj.mapSeq f) (Ne.symm hb)).trans hu) ⟨_, q⟩ ?_
  exact ⟨hz, its', _, hv, q⟩
theorem Inv.lstM (I : Inv X pins σ H s) (hH : H l = some (.lst xs)) : xs.length ≤ sizeLine ∧ ∃ (its : List Value) (n : Nat), Vals xs its ∧ xs.length = its.length ∧ s.heap.get? l = some { cls := .type "list", data := .seq its.toArray n } := by
  obtain ⟨z, its, n, r, e⟩ := I.hok l _ hH
  exact ⟨z, its, n, r, r.length, e⟩

end

section
variable {X : Cx}

/-! ### methods -/
def rAppend : V → List V → Hp → VK → Prop := fun x vs H Q => ∃ l xs y, x = .ref l ∧ vs = [y] ∧ H l = some (.lst xs) ∧ xs.length < sizeLine ∧ Q .non (upd H l (.lst (xs ++ [y])))
theorem mt_append : MtM X "list.append" rAppend := by
  intro pins s σ H x vs v us Q I rx rv h
  obtain ⟨l, xs, y, rfl, rfl, hH, hz, q⟩ := h
  cases rx
  obtain ⟨u, rfl, ru⟩ := rv.one
  obtain ⟨z, its, n, r, hl, e⟩ := I.lstM hH
  refine call_meets F.slot_list_append ⟨_, e, rfl⟩ F.entry_list_append (F.args_list_append_2 _ _) (PySem.list_append l its.toArray n u (by rw [List.size_toArray]; omega)) ⟨e, ?_⟩
  refine ⟨.non, _, I.lset (its' := its ++ [u]) hH e (by simp) (r.append (.cons ru .nil)) ?_, rfl, q⟩
  rw [List.length_append, List.length_singleton]
  omega

/-! ### list + list, list += list, list * int -/
/-! ### del xs[i] -/
end

/-! ### xs[a:b] = ys -/
section
variable {prog : Program} {w : World} {A : Around} {E : Value → Shared → Prop} {s : Shared}
set_option maxRecDepth 100000 in
end

section
variable {X : Cx}
end
end L2

namespace Att
open PySem PySem.W PySem.Calls PyProof.Rows

/-! ### the script -/
theorem ints_of_wellAll {P : Params} {h : Heap} : ∀ (ns : List Int) (vs : List Value), WellAll P h vs (ns.map WData.int) → IntsAre vs ns := by
  intro ns
  induction ns with
  | nil =>
    intro vs w
    rw [List.map_nil] at w
    cases w
    exact .nil
  | cons n ns ih =>
    intro vs w
    rw [List.map_cons] at w
    cases w with
    | cons a b =>
      cases a
      exact .cons _ _ (ih _ b)

theorem script_of {l : OpenLaw} {n : Nat} (hn : l.most = some n) {P : Params} {h : Heap} {args : List WData} {vals : List Value}
    (hpre : l.row.toRowW.claim.pre args = true) (hwl : WellAll P h vals args) :
    ∃ a vs ns, vals = [Value.ref a] ∧ args = [WData.list (ns.map WData.int)] ∧ h.get? a = some { cls := .type "list", data := .seq vs.toArray } ∧ IntsAre vs ns ∧ ns.length ≤ n := by
  have hsh : WShape.hasAll [] args [.list .int] = true := (pre_splitW hpre).1
  have hc : l.pre.holds [] { args := args } = true := (pre_splitW hpre).2
  obtain ⟨d, r, rfl, h1, h2⟩ := hasAllW_cons hsh
  obtain rfl := hasAllW_nil h2
  obtain ⟨xs, rfl, h3⟩ := hasW_list h1
  obtain ⟨ns, rfl⟩ := items_int h3
  have hlen : ns.length ≤ n := by
    unfold OpenLaw.pre at hc
    have h4 : (WTm.not (.lt (.lit (.int (n : Int))) (.len (.arg 0)))).holds [] { args := [.list (ns.map .int)] } = true := by
      have h4 := (holds_andW hc).1
      rw [hn] at h4
      exact h4
    have h5 := condW_of h4 (w_not (w_lt w_lit (w_len_list (w_arg rfl))))
    rw [List.length_map] at h5
    refine Nat.le_of_not_lt fun q => ?_
    have q' : (n : Int) < ((ns.length : Nat) : Int) := by omega
    first
      | (rw [decide_eq_true q'] at h5; exact absurd h5 (by decide))
      | (simp at h5; omega)
  cases hwl with
  | cons w1 w2 =>
    cases w2
    cases w1 with
    | list ho hall => exact ⟨_, _, ns, rfl, rfl, ho, ints_of_wellAll ns _ hall, hlen⟩

theorem post_true (l : OpenLaw) (args : List WData) : l.row.toRowW.claim.post args (.bool true) args = true :=
  postW_of (r := l.row.toRowW) (X := (true == true))
    (show WShape.has [] (.bool true) .bool = true by first | rfl | decide | simp [WShape.has, WShape.arms, WShape.armsAll])
    (show (WTm.eq .res (.lit (.bool true))).value [] { args := args, res := some (.bool true), after := args } = some (.bool (true == true)) from w_eq_bool (w_res rfl) w_lit) rfl

/-! ### the attachment: holds_open's last premise (the goal 'hc' behind k_head) from a wpAny of the law's body -/
/-- the same from a codeAny of the CALL (for a layer whose function contracts speak of calls) -/
theorem attach_call {l : OpenLaw} {n : Nat} {q : Program} {loose : List Str} {XP : (Str → Option Value) → Heap → Prop} {YP : World → Heap → Prop} {d : DefRec}
    (hn : l.most = some n) (hdf : d.params.defaults = [])
    (call : ∀ (w : World) (s₀ s₁ : Shared) (mg mb : Str → Option Value) (fa : Addr) (o : Obj) (pm cd doc : Value) (a : Addr) (vs : List Value) (ns : List Int),
      Ground q loose [] XP w s₀ mg mb s₁.heap → YP w s₁.heap →
      s₁.heap.get? fa = some o → o.data = .func (docDef d.name d.params d.body d.scope pm cd doc) → s₁.heap.CodeRec cd d.name → mg d.name = some (.ref fa) →
      s₁.heap.get? a = some { cls := .type "list", data := .seq vs.toArray } → IntsAre vs ns → ns.length ≤ n → s₁.gens = #[] →
      codeAny (model l.prog w) callerA (.call (.ref fa) ⟨[.ref a], []⟩) (fun r s' => r = .ok (.ret (.bool true)) ∧ OldK s₁.heap s'.heap ∧ s'.os = s₁.os ∧ AllBare s'.gens) s₁) :
    WalkO q loose XP YP l.row.toRowW d [] (fun f vs => PySem.call f vs) := by
  intro w s₀ s₁ mg mb G Y fa o pm cd doc dV kV ho hd hcd hD hmg hg args vals as hpre hlay hrd hwl hlo
  obtain rfl : dV = .none := Dflts.none hD hdf
  obtain rfl : kV = .none := Dflts.noKw hD
  obtain ⟨a, vs, ns, rfl, rfl, hobj, hints, hlen⟩ := script_of hn hpre hwl
  refine enter_call (codeAny_mono (call w s₀ s₁ mg mb fa o pm cd doc a vs ns G Y ho (fd_plain hd) hcd hmg hobj hints hlen hg) fun r s' hq => ?_)
  obtain ⟨rfl, h2, h3, h4⟩ := hq
  exact ⟨.inl ⟨.bool true, .bool true, [], rfl, fun _ => rfl, .bool true, post_true l _, fun _ => ⟨List.Pairwise.nil, fun _ hm => (nomatch hm)⟩⟩, h2, h3, h4⟩

/-! ### rules over ANY heap (no ledger) from facts about the written part K: the library's own take a ledger (News) for what they write -/
section
variable {prog : Program} {w : World} {A : Around} {E : Value → Shared → Prop} {s : Shared} {K : Frag}

/-! the whole heap as the ledger: makes every rule that writes through a ledger a rule over any heap -/
end
end Att

namespace L2
open PySem PySem.Spec PyProof.Rows

theorem vals_ints : ∀ {vs : List Value} {ns : List Int}, IntsAre vs ns → Vals (ns.map V.int) vs
  | _, _, .nil => .nil
  | _, _, .cons n t h => .cons ⟨t, rfl⟩ (vals_ints h)

/-- nothing is tracked but the script, known to the object (or it is an object of the module) -/
def Only (H : Hp) : Prop := ∀ b, H b = none ∨ ∃ o xs, H b = some (.frz o (.lst xs))

/-- THE HEAD: the law's promise, at the heap behind the top. F, the promise of the law's def, may use that base is part of the heap (so K.In base, base.Ns mainGlobals mg stand in Mod) -/
theorem law_call {P : Program} {w : World} {K : PySem.W.Frag} {mg mb : Str → Option Value} {CX : CXT} {k : Nat} {fa a : Addr} {fd : FuncData} {x : Str} {sp : Sp} {s₁ : Shared} {vs : List Value} {ns : List Int}
    (KX : K.In s₁.heap) (hns : s₁.heap.Ns mainGlobals mg) (hb : s₁.heap.Ns builtinsNs mb) (hbb : ∀ x : Str, x ≠ "__name__" → mb x = bootBuiltins x) (hlim : s₁.heap.NoLimit) (hg : s₁.gens = #[])
    (ha : s₁.heap.get? a = some { cls := .type "list", data := .seq vs.toArray }) (hi : IntsAre vs ns) (hl : ns.length ≤ sizeLine) (hr : Room k callerA)
    (F : ∀ base : Heap, K.In base → base.Ns mainGlobals mg → FnOk P w K mg base CX k fa fd [x] sp) (hbind : ∀ (s : Shared) (u : Value), BindsTo s fd ⟨[u], []⟩ [(x, u)])
    (hsp : ∀ H : Hp, Only H → SqL K H a (ns.map V.int) → sp [.ref a] H (fun v _ => v = .bl true) fun _ _ _ => False)
    (hCX : ∀ H e s', CX [] H s₁ (fun _ _ _ => False) e s' → False) :
    codeAny (model P w) callerA (.call (.ref fa) ⟨[.ref a], []⟩) (fun r s' => r = .ok (.ret (.bool true)) ∧ OldK s₁.heap s'.heap ∧ s'.os = s₁.os ∧ AllBare s'.gens) s₁ := by
  have rv := vals_ints hi
  have lenV := hi.length
  -- from an abstract heap in which nothing but the script may be tracked
  have core : ∀ H : Hp, Only H → SqL K H a (ns.map V.int) → HOk P w H s₁.heap → (∀ b, H b ≠ none → b = a) → (H a ≠ none → K.lookup a = none) →
      codeAny (model P w) callerA (.call (.ref fa) ⟨[.ref a], []⟩) (fun r s' => r = .ok (.ret (.bool true)) ∧ OldK s₁.heap s'.heap ∧ s'.os = s₁.os ∧ AllBare s'.gens) s₁ := by
    intro H hO hS hok hA hK
    have base_of : ∀ {b : Addr} {o : Obj}, s₁.heap.get? b = some o → H b = none → (hidT s₁.heap H).get? b = some o := fun e n => hidT_get e n
    have noA : ∀ {b : Addr} {o : Obj} {es : Array DictEntry} {ep : Nat}, s₁.heap.get? b = some o → o.data = .dict es ep → H b = none := fun {b o es ep} e d => by
      cases q : H b with
      | none => rfl
      | some u =>
        have e' : b = a := hA b (by rw [q]; simp)
        subst e'
        rw [ha] at e; cases e
        have d' : Data.seq vs.toArray _ = Data.dict es ep := d
        cases d'
    have nsK : ∀ {b : Addr} {m : Str → Option Value}, s₁.heap.Ns b m → (hidT s₁.heap H).Ns b m := fun {b m} ⟨o, es, ep, e, d, r⟩ => ⟨o, es, ep, base_of e (noA e d), d, r⟩
    have hKb : K.In (hidT s₁.heap H) := fun b o e => base_of (KX b o e) (by
      cases q : H b with
      | none => rfl
      | some u =>
        have e' : b = a := hA b (by rw [q]; simp)
        subst e'
        rw [hK (by rw [q]; simp)] at e; cases e)
    have hM : Mod K mg (hidT s₁.heap H) := ⟨hKb, nsK hns, ⟨mb, nsK hb, hbb⟩, let ⟨mc, h1, h2⟩ := hlim; ⟨mc, nsK h1, h2⟩⟩
    have e0 : Env0 P w K mg (hidT s₁.heap H) callerA [] s₁ H := ⟨rfl, hM, fun b o e => of_hidT e, Nat.le_of_eq (hidT_size _ _), trivial, fun b hb => absurd (show b ∈ ([] : List Addr) from hb) (by simp), hok, .of_eq hg⟩
    refine codeAny_mono ((F _ hKb (nsK hns)).run callerA [] s₁ H ⟨[.ref a], []⟩ [.ref a] [.ref a] _ _ hr e0 (hbind s₁ (.ref a)) (.cons rfl .nil) (hsp H hO hS)) fun r s' h => ?_
    cases r with
    | error e => exact (hCX H e s' h).elim
    | ok fl =>
      cases fl with
      | next => exact False.elim h
      | brk => exact False.elim h
      | cont => exact False.elim h
      | ret u =>
        obtain ⟨v, H', os, bare, un, hok', r', q⟩ := h
        have q' : v = .bl true := q
        subst q'
        obtain rfl : u = Value.bool true := r'
        refine ⟨rfl, OldK.of_keep fun b o e => ?_, os, bare⟩
        cases q : H b with
        | none => exact un.keep b o e q (by intro z; exact absurd (show b ∈ ([] : List Addr) from z) (by simp)) (by simp)
        | some u =>
          rcases hO b with z | ⟨ob, xs, z⟩
          · rw [q] at z; cases z
          · have z2 := un.frzs b ob _ z
            obtain ⟨e1, _⟩ := hok b _ z
            obtain ⟨e2, _⟩ := hok' b _ z2
            rw [e] at e1; cases e1
            exact e2
  cases hk : K.lookup a with
  | some o =>
    -- the script is one of the module's own objects
    have e := KX a o hk
    rw [ha] at e
    cases e
    refine core (fun _ => none) (fun _ => .inl rfl) (.inr ⟨_, vs.toArray, _, hk, rfl, rfl, rfl, by rw [List.size_toArray, lenV]; exact hl, by simpa using rv⟩) (fun b u z => by have z' : (none : Option HO) = some u := z; cases z') (fun b z => absurd rfl z) fun z => absurd rfl z
  | none =>
    refine core (fun b => if b = a then some (.frz { cls := .type "list", data := .seq vs.toArray } (.lst (ns.map V.int))) else none) (fun b => ?_) (.inl (.inr ⟨{ cls := .type "list", data := .seq vs.toArray }, if_pos rfl⟩)) (fun b u z => ?_) (fun b z => ?_) fun _ => hk
    · by_cases hb : b = a
      · exact .inr ⟨_, _, if_pos hb⟩
      · exact .inl (if_neg hb)
    · by_cases hb : b = a
      · have z' := (if_pos hb).symm.trans z
        cases z'
        subst hb
        exact ⟨ha, by rw [List.length_map]; exact hl, vs, _, rv, ha⟩
      · have z' := (if_neg hb).symm.trans z
        cases z'
    · by_cases hb : b = a
      · exact hb
      · exact absurd (if_neg hb) z
end L2

namespace L2
open PySem PySem.Spec PyProof.Rows

/-- the goal that k_head leaves (case hc), from the law's promise. F gives the function object fd (K's own) once, then the promise over every base -/
theorem walk_of {l : PySem.W.OpenLaw} {n k : Nat} {q : Program} {loose : List Str} {XP : (Str → Option Value) → Heap → Prop} {YP : World → Heap → Prop} {d : DefRec} {K : Params → PySem.W.Frag} {CX : World → CXT} {sp : World → Sp} {x : Str}
    (hn : l.most = some n) (hn2 : n ≤ sizeLine) (hdf : d.params.defaults = []) (hr : Room k callerA)
    (hY : ∀ (w : World) (h : Heap), YP w h → (K w.params).In h)
    (F : ∀ (w : World) (mg : Str → Option Value) (fa : Addr) (h : Heap), (K w.params).In h → h.Ns mainGlobals mg → mg d.name = some (.ref fa) →
      ∃ fd : FuncData, (∀ (s : Shared) (u : Value), BindsTo s fd ⟨[u], []⟩ [(x, u)]) ∧
        ∀ base : Heap, (K w.params).In base → base.Ns mainGlobals mg → FnOk l.prog w (K w.params) mg base (CX w) k fa fd [x] (sp w))
    (hsp : ∀ (w : World) (H : Hp) (a : Addr) (ns : List Int), ns.length ≤ n → Only H → SqL (K w.params) H a (ns.map V.int) → sp w [.ref a] H (fun v _ => v = .bl true) fun _ _ _ => False)
    (hCX : ∀ (w : World) (H : Hp) (s : Shared) (e : Value) (s' : Shared), CX w [] H s (fun _ _ _ => False) e s' → False) :
    PySem.W.WalkO q loose XP YP l.row.toRowW d [] (fun f vs => PySem.call f vs) := by
  refine Att.attach_call hn hdf fun w s₀ s₁ mg mb fa o pm cd doc a vs ns G Y ho hd hcd hmg hobj hints hlen hg => ?_
  have KX := hY w _ Y
  obtain ⟨fd, hb, hF⟩ := F w mg fa _ KX G.T.g hmg
  exact law_call KX G.T.g G.T.b G.T.builtins G.T.nolimit hg hobj hints (Nat.le_trans hlen hn2) hr hF hb (fun H hO hS => hsp w H a ns hlen hO hS) fun H e s' => hCX w H s₁ e s'
end L2

/- THE LAST THEOREM (shape; LID, My.* are yours):
   My.Adr: a structure of the addresses that your layer names (classes, functions); My.Txt K t: a structure (Prop) of the equations over K;
   My.txt_mk : {K} {implicit addresses ..} (e1 : nsIn K mainGlobals "law" = some (some (.ref f))) (e2 : K.lookup f = some ⟨oc, od, .func (fnOf "law" "law" params body scope dV kV doc pm an cdv ct), sl⟩) (e3 : codeIn K cdv "law" = true) .. : ∃ t, My.Txt K t

set_option maxRecDepth 100000 in
set_option maxHeartbeats 0 in
theorem PySem.Challenge.cw_LID_holds : PySem.Challenge.rw_LID.Holds := by
  w_on; o_law; k_head; (case hw => w_witness2)
  k_fill
  refine L2.walk_of (l := PySem.Challenge.rw_LID) (n := 63) (k := 40) (x := "script") (CX := fun w => ..) (sp := fun _ => My.sp_law) rfl (by decide) rfl ⟨rfl, by decide, by decide⟩ (fun w h Y => PySem.W.kIn_of Y) ?F ?S ?C
  case F =>
    intro w mg fa h KX G hmg
    have T : ∃ t, My.Txt (L2.KOf KX) t := by
      dsimp only [L2.KOf]                          -- K must stand as «<heap const> w.params» for k_is
      refine' My.txt_mk ?e1 ?e2 ?e3 ..
      (case e1 => PySem.W.k_is)                    -- in the order: a name -> its address -> its object -> its parts
      (case e2 => PySem.W.k_is)
      ..
    obtain ⟨t, T⟩ := T
    have e0 := hmg.symm.trans (PySem.W.mg_of KX G T.law)
    cases e0                                       -- fa is the law's own address
    exact ⟨_, fun s u => .of_eq rfl, fun base kb nb => My.law_fn T kb nb⟩     -- if «.of_eq rfl» comes too early: refine' ⟨_, ?b, fun base kb nb => My.law_fn T kb nb⟩; exact fun s u => .of_eq rfl
  case S => exact fun w H a ns hl hO hS => ..
  case C => exact ..
(the tactic k_is has no namespace: write k_is) -/

/-! SHORT WORDS over the layer: a def of the text, its body, what a loop and a test want. -/
namespace L2
open PySem PySem.Spec PyProof.Rows

/-! ### the text by places -/
def defArgs (s : Stmt) : Arguments := match s with
  | .FunctionDef _ a _ _ _ _ _ _ _ _ => a
  | _ => { posonlyargs := [], args := [], vararg := none, kwonlyargs := [], kw_defaults := [], kwarg := none, defaults := [] }
def defBody (s : Stmt) : List Stmt := match s with
  | .FunctionDef _ _ b _ _ _ _ _ _ _ => b
  | _ => []
def defScope (s : Stmt) : Scope := match s with
  | .FunctionDef _ _ _ _ _ _ sc _ _ _ => sc
  | _ => { kind := .function, names := [], isGenerator := false, isCoroutine := false }

/-! ### no exception leaves a def -/
abbrev CX0 : CXT := fun _ _ _ _ _ _ => False
abbrev E0 : XK := fun _ _ _ => False
theorem pass0 {X : Cx} : Passes CX0 X E0 := fun _ _ _ _ _ _ _ h => h.elim

/-! ### a def (or method) of the text as it stands behind the top -/
structure Fun (K : PySem.W.Frag) (x qual : Str) (st : Stmt) (f : Addr) (fd : FuncData) : Prop where
  ex : ∃ (oc : Value) (od : Option Addr) (kV doc pm : Value) (an : Option Addr) (cdv ct : Value) (osl : Array (Option Value)),
    fd = PySem.W.fnOf x qual (defArgs st) (defBody st) (defScope st) .none kV doc pm an cdv ct ∧ K.lookup f = some ⟨oc, od, .func fd, osl⟩ ∧ PySem.W.codeIn K cdv qual = true
  kp : PySem.W.keepIn K (.ref f) = true
section
variable {P : Program} {w : World} {K : PySem.W.Frag} {mg : Str → Option Value} {base : Heap}
/-- THE RULE for a def: its body as a term of rules, and the reading of that term -/
theorem Fun.ok {x qual : Str} {st : Stmt} {f : Addr} {fd : FuncData} {N ps : List Str} {k : Nat} {sp : Sp} (F : Fun K x qual st f fd) (S : FnScope N ps (defScope st)) (len : ∀ vs H Q E, sp vs H Q E → vs.length = ps.length)
    (hbody : ∀ (cdv : Value) (A : Around) (outer : List Env) (s : Shared) (H : Hp) (vs : List V) (Q : VK) (E : XK), Room k (A.deeper (envOfC qual (defScope st) s.heap.objs.size f cdv)) → sp vs H Q E →
      ∃ t, PSs (cxOf CX0 P w K mg base N qual (defScope st) f cdv A outer s H E).nox (defBody st) t ∧ t { nx := fun _ H' => Q .non H', rt := Q } (start N vs) H) : FnOk P w K mg base CX0 (k + 1) f fd ps sp := by
  obtain ⟨oc, od, kV, doc, pm, an, cdv, ct, osl, rfl, lk, hcd⟩ := F.ex
  refine fn_of lk hcd S len fun A outer s H vs Q E hr hsp => ?_
  obtain ⟨t, h, q⟩ := hbody cdv A outer s H vs Q E hr hsp
  exact ⟨t, h.nox, q⟩
/-- how its arguments bind (no defaults): h is «fun _ _ _ _ _ _ us hl => match us, hl with | [_, _], _ => rfl», one _ a parameter -/
theorem Fun.binds {x qual : Str} {st : Stmt} {f : Addr} {fd : FuncData} {ps : List Str} (F : Fun K x qual st f fd)
    (h : ∀ (kV doc pm : Value) (an : Option Addr) (cdv ct : Value) (us : List Value), us.length = ps.length → bindArgs (PySem.W.fnOf x qual (defArgs st) (defBody st) (defScope st) .none kV doc pm an cdv ct) ⟨us, []⟩ = pure (ps.zip us)) : Binds K fd ps [] := by
  obtain ⟨oc, od, kV, doc, pm, an, cdv, ct, osl, rfl, lk, hcd⟩ := F.ex
  exact .all (h kV doc pm an cdv ct)
theorem fun_mk {x qual : Str} {st : Stmt} {f : Addr} {oc : Value} {od an : Option Addr} {osl : Array (Option Value)} {kV doc pm cdv ct : Value} (l : K.lookup f = some ⟨oc, od, .func (PySem.W.fnOf x qual (defArgs st) (defBody st) (defScope st) .none kV doc pm an cdv ct), osl⟩)
    (c : PySem.W.codeIn K cdv qual = true) (k : PySem.W.keepIn K (.ref f) = true) : Fun K x qual st f (PySem.W.fnOf x qual (defArgs st) (defBody st) (defScope st) .none kV doc pm an cdv ct) := ⟨⟨oc, od, kV, doc, pm, an, cdv, ct, osl, rfl, l, c⟩, k⟩
end
theorem hu_of {A : Around} {k : Nat} (hr : Room k A) : A.units + 1 < cLine := Nat.lt_of_le_of_lt (Nat.add_le_add_left (by decide : 1 ≤ 64) _) hr.units
/-! ### expressions in short: the name that stands in the i-th slot -/
section
variable {X : Cx}
theorem pv (i : Nat) {x : Str} {pos : Pos} (hN : X.N[i]? = some x := by rfl) (hv : Vis X.env.scope x := by first | exact Or.inl rfl | exact Or.inr (Or.inl rfl) | exact Or.inr (Or.inr rfl)) (hd : (x == ("__debug__" : Str)) = false := by decide)
    (hcd : (x == ("__classdict__" : Str)) = false := by decide) : PE X (.Name x pos) (tVar i) := pe_var hN hv hd hcd
end

/-! ### tests -/
theorem iteF {A B : Prop} (h : B) : if false = true then A else B := by
  rw [if_neg Bool.false_ne_true]
  exact h
theorem iteT {A B : Prop} (h : A) : if true = true then A else B := by
  rw [if_pos rfl]
  exact h
theorem ite2 {c A B : Prop} [Decidable c] (h1 : c → A) (h2 : ¬ c → B) : if c then A else B := by
  by_cases h : c
  · rw [if_pos h]
    exact h1 h
  · rw [if_neg h]
    exact h2 h
theorem iteNS {c A B : Prop} [Decidable c] (hc : c) (h : B) : if (!decide c) = true then A else B := by
  rw [decide_eq_true hc]
  exact iteF h

/-! ### heaps -/
/-- all that was tracked is as it was -/
def Same (H H' : Hp) : Prop := ∀ b o, H b = some o → H' b = some o
theorem Same.refl (H : Hp) : Same H H := fun _ _ h => h
theorem Same.trans {H H1 H2 : Hp} (a : Same H H1) (b : Same H1 H2) : Same H H2 := fun c o h => b c o (a c o h)
theorem Same.free {H H' : Hp} (e : Same H H') {l : Addr} (h : H' l = Option.none) : H l = Option.none := by
  cases q : H l with
  | none => rfl
  | some o =>
    rw [e l o q] at h
    cases h
theorem Same.seq {K : PySem.W.Frag} {H H' : Hp} {a : Addr} {xs : List V} (e : Same H H') (h : SqL K H a xs) : SqL K H' a xs := by
  rcases h with (h | ⟨o, h⟩) | h
  · exact .inl (.inl (e _ _ h))
  · exact .inl (.inr ⟨o, e _ _ h⟩)
  · exact .inr h

end L2

set_option Elab.async false
set_option linter.all false
set_option maxRecDepth 100000
set_option maxHeartbeats 4000000
namespace L2
open PySem PySem.Spec PyProof.Rows
/-! ### lists of pairs as tables -/
section
variable {κ : Type} [DecidableEq κ]
def valV (kvs : List (κ × V)) (k : κ) : Option V := (kvs.find? fun kv => decide (kv.1 = k)).map (·.2)
/-- in its place, or at the end -/
def putK (kvs : List (κ × V)) (k : κ) (v : V) : List (κ × V) :=
  if (kvs.any fun kv => decide (kv.1 = k)) = true then kvs.map (fun kv => if kv.1 = k then (kv.1, v) else kv) else kvs ++ [(k, v)]
def dropK (kvs : List (κ × V)) (k : κ) : List (κ × V) := kvs.filter fun kv => decide (kv.1 ≠ k)

theorem valV_nil {k : κ} : valV ([] : List (κ × V)) k = none := rfl
theorem valV_pos {p : κ × V} {r : List (κ × V)} {k : κ} (e : p.1 = k) : valV (p :: r) k = some p.2 := by simp [valV, List.find?_cons, e]
theorem valV_neg {p : κ × V} {r : List (κ × V)} {k : κ} (e : ¬ p.1 = k) : valV (p :: r) k = valV r k := by simp [valV, List.find?_cons, e]
theorem valV_any (k : κ) : ∀ kvs : List (κ × V), (kvs.any fun kv => decide (kv.1 = k)) = (valV kvs k).isSome
  | [] => rfl
  | p :: r => by
    rw [List.any_cons]
    by_cases e : p.1 = k
    · simp only [valV_pos e, decide_eq_true e, Bool.true_or, Option.isSome_some]
    · rw [valV_neg e, decide_eq_false e, Bool.false_or]; exact valV_any k r
theorem length_putK (kvs : List (κ × V)) (k : κ) (v : V) : (putK kvs k v).length ≤ kvs.length + 1 := by
  unfold putK
  split
  · rw [List.length_map]; omega
  · rw [List.length_append, List.length_cons, List.length_nil]; omega
theorem putK_new {kvs : List (κ × V)} {k : κ} (v : V) (h : valV kvs k = none) : putK kvs k v = kvs ++ [(k, v)] := by
  unfold putK
  rw [valV_any, h]
  exact if_neg (by decide)

theorem RelO.isSome_eq {o : Option V} {u : Option Value} (r : RelO o u) : o.isSome = u.isSome := by
  cases o with
  | none => cases u with
    | none => rfl
    | some _ => exact (show False from r).elim
  | some _ => cases u with
    | none => exact (show False from r).elim
    | some _ => rfl
theorem RelO.getD {o : Option V} {u : Option Value} {d : V} {d' : Value} (r : RelO o u) (rd : RelV d d') : RelV (o.getD d) (u.getD d') := by
  cases o with
  | none => cases u with
    | none => exact rd
    | some _ => exact (show False from r).elim
  | some _ => cases u with
    | none => exact (show False from r).elim
    | some _ => exact r

/-- raw tables of the same keys -/
theorem KV.val {kvs : List (κ × V)} {vs : List (κ × Value)} (r : KV kvs vs) (k : κ) : RelO (valV kvs k) (valueAt vs k) := by
  unfold KV at r
  induction r with
  | nil => exact True.intro
  | @cons p q ps qs h t ih =>
    obtain ⟨h1, h2⟩ := h
    by_cases e : p.1 = k
    · have e' : q.1 = k := h1.symm.trans e
      have b : valueAt (q :: qs) k = some q.2 := by simp [valueAt, List.find?_cons, e']
      rw [valV_pos e, b]; exact h2
    · have e' : ¬ q.1 = k := fun z => e (h1.trans z)
      have b : valueAt (q :: qs) k = valueAt qs k := by simp [valueAt, List.find?_cons, e']
      rw [valV_neg e, b]; exact ih
theorem KV.any {kvs : List (κ × V)} {vs : List (κ × Value)} (r : KV kvs vs) (k : κ) : (kvs.any fun kv => decide (kv.1 = k)) = vs.any fun kv => decide (kv.1 = k) := by
  unfold KV at r
  induction r with
  | nil => rfl
  | cons h t ih => rw [List.any_cons, List.any_cons, ih, h.1]
theorem KV.repl {kvs : List (κ × V)} {vs : List (κ × Value)} (r : KV kvs vs) (k : κ) {y : V} {u : Value} (ry : RelV y u) :
    KV (kvs.map fun kv => if kv.1 = k then (kv.1, y) else kv) (vs.map fun kv => if kv.1 = k then (kv.1, u) else kv) := by
  unfold KV at r ⊢
  induction r with
  | nil => exact .nil
  | @cons p q ps qs h t ih =>
    rw [List.map_cons, List.map_cons]
    refine .cons ?_ ih
    obtain ⟨h1, h2⟩ := h
    by_cases e : p.1 = k
    · rw [if_pos e, if_pos (h1.symm.trans e)]; exact ⟨h1, ry⟩
    · rw [if_neg e, if_neg (fun z => e (h1.trans z))]; exact ⟨h1, h2⟩
theorem KV.put {kvs : List (κ × V)} {vs : List (κ × Value)} (r : KV kvs vs) (k : κ) {y : V} {u : Value} (ry : RelV y u) : KV (putK kvs k y) (stored vs k u) := by
  unfold putK stored
  rw [r.any k]
  by_cases e : (vs.any fun kv => decide (kv.1 = k)) = true
  · rw [if_pos e, if_pos e]; exact r.repl k ry
  · rw [if_neg e, if_neg e]; exact Paired.snoc r ⟨rfl, ry⟩
theorem KV.drop {kvs : List (κ × V)} {vs : List (κ × Value)} (r : KV kvs vs) (k : κ) : KV (dropK kvs k) (without vs k) := by
  unfold KV at r ⊢
  unfold dropK without
  induction r with
  | nil => exact .nil
  | @cons p q ps qs h t ih =>
    obtain ⟨h1, h2⟩ := h
    rw [List.filter_cons, List.filter_cons]
    by_cases e : p.1 = k
    · have a : ¬ decide (p.1 ≠ k) = true := by simp [e]
      have b : ¬ decide (q.1 ≠ k) = true := by simp [h1.symm.trans e]
      rw [if_neg a, if_neg b]; exact ih
    · have e' : ¬ q.1 = k := fun z => e (h1.trans z)
      have a : decide (p.1 ≠ k) = true := by simp [e]
      have b : decide (q.1 ≠ k) = true := by simp [e']
      rw [if_pos a, if_pos b]; exact .cons ⟨h1, h2⟩ ih
theorem KV.keys {kvs : List (κ × V)} {vs : List (κ × Value)} (r : KV kvs vs) : kvs.map (·.1) = vs.map (·.1) := by
  unfold KV at r
  induction r with
  | nil => rfl
  | cons h t ih => rw [List.map_cons, List.map_cons, ih, h.1]
theorem KV.length {kvs : List (κ × V)} {vs : List (κ × Value)} (r : KV kvs vs) : kvs.length = vs.length := Paired.length r
theorem dropK_le (kvs : List (κ × V)) (k : κ) : (dropK kvs k).length ≤ kvs.length := List.length_filter_le _ _
end


/-! ### a tracked dict, its keys ints and texts or tuples of these -/
theorem kV_is {P : Program} {w : World} {k : Key} {u : Value} (r : RelV (kV k) u) : (mixKind P w).is k u = true := by
  cases k with
  | inl i => obtain ⟨t, e⟩ := (show ∃ t, u = Value.int i t from r); subst e; exact mixKind_int P w i t
  | inr x => obtain ⟨t, e⟩ := (show ∃ t, u = Value.str x t from r); subst e; exact mixKind_str P w x t
theorem items_are {P : Program} {w : World} : ∀ {ks : List Key} {us : List Value}, Vals (ks.map kV) us → ItemsAre (mixKind P w) ks us
  | [], _, r => by rw [List.map_nil] at r; cases r; exact .nil
  | k :: ks, _, r => by
    rw [List.map_cons] at r
    cases r with
    | cons h t => exact .cons (kV_is h) (items_are t)

/-- raw entries of a dict with tuple keys -/
abbrev KT (H : Hp) : List (List Key × V) → List (List Key × Addr × Value) → Prop := Paired fun p q => p.1 = q.1 ∧ H q.2.1 = some (.tup (p.1.map kV)) ∧ RelV p.2 q.2.2
theorem KT.val {H : Hp} {kvs : List (List Key × V)} {xs : List (List Key × Addr × Value)} (r : KT H kvs xs) (k : List Key) : RelO (valV kvs k) ((atKey xs k).map (·.2)) := by
  induction r with
  | nil => exact True.intro
  | @cons p q ps qs h t ih =>
    obtain ⟨h1, _, h2⟩ := h
    by_cases e : p.1 = k
    · have e' : q.1 = k := h1.symm.trans e
      have b : atKey (q :: qs) k = some q.2 := by simp [atKey, List.find?_cons, e']
      rw [valV_pos e, b]; exact h2
    · have e' : ¬ q.1 = k := fun z => e (h1.trans z)
      have b : atKey (q :: qs) k = atKey qs k := by simp [atKey, List.find?_cons, e']
      rw [valV_neg e, b]; exact ih
theorem KT.repl {H : Hp} {kvs : List (List Key × V)} {xs : List (List Key × Addr × Value)} (r : KT H kvs xs) (k : List Key) {y : V} {u : Value} (ry : RelV y u) :
    KT H (kvs.map fun kv => if kv.1 = k then (kv.1, y) else kv) (xs.map (putAt k u)) := by
  induction r with
  | nil => exact .nil
  | @cons p q ps qs h t ih =>
    rw [List.map_cons, List.map_cons]
    refine .cons ?_ ih
    obtain ⟨h1, h2, h3⟩ := h
    unfold putAt
    by_cases e : p.1 = k
    · rw [if_pos e, if_pos (h1.symm.trans e)]; exact ⟨h1, h2, ry⟩
    · rw [if_neg e, if_neg (fun z => e (h1.trans z))]; exact ⟨h1, h2, h3⟩
theorem KT.put {H : Hp} {kvs : List (List Key × V)} {xs : List (List Key × Addr × Value)} (r : KT H kvs xs) (k : List Key) {b : Addr} {y : V} {u : Value} (hb : H b = some (.tup (k.map kV))) (ry : RelV y u) :
    KT H (putK kvs k y) (storedH xs k b u) := by
  have e : (kvs.any fun kv => decide (kv.1 = k)) = (atKey xs k).isSome := by
    rw [valV_any, (r.val k).isSome_eq, Option.isSome_map]
  unfold putK storedH
  rw [e]
  by_cases q : (atKey xs k).isSome = true
  · rw [if_pos q, if_pos q]; exact r.repl k ry
  · rw [if_neg q, if_neg q]; exact Paired.snoc r ⟨rfl, hb, ry⟩
theorem KT.keeps {H H' : Hp} {kvs : List (List Key × V)} {xs : List (List Key × Addr × Value)} (r : KT H kvs xs) (ht : ∀ b ys, H b = some (.tup ys) → H' b = some (.tup ys)) : KT H' kvs xs :=
  Paired.mapP r fun _ _ z => ⟨z.1, ht _ _ z.2.1, z.2.2⟩

section
variable {P : Program} {w : World} {H : Hp} {h : Heap} {a : Addr}
theorem rd_of {u : HO} (ok : HOk P w H h) (e : Rd H a u) : ObjOk P w H h a u := e.ok ok
theorem dk_rd {kvs : List (Key × V)} (ok : HOk P w H h) (e : Rd H a (.dK kvs)) : kvs.length ≤ sizeLine ∧ (a == sysModules) = false ∧ ∃ vs, KV kvs vs ∧ h.DictOf (mixKind P w) a vs :=
  show ObjOk P w H h a (.dK kvs) from rd_of ok e
theorem dk_of {kvs : List (Key × V)} (ok : HOk P w H h) (e : H a = some (.dK kvs)) : kvs.length ≤ sizeLine ∧ (a == sysModules) = false ∧ ∃ vs, KV kvs vs ∧ h.DictOf (mixKind P w) a vs := dk_rd ok (.inl e)
/-- a tracked tuple of ints and texts is a key -/
theorem key_of {ks : List Key} (ok : HOk P w H h) (e : H a = some (.tup (ks.map kV))) : (tupleKind (mixKind P w)).is h ks a := by
  obtain ⟨_, its, r, o, h1, h2, n, h3⟩ := (show ObjOk P w H h a (.tup (ks.map kV)) from ok a _ e)
  exact ⟨o, its.toArray, n, h1, h2, h3, by simpa using items_are r⟩
theorem dt_rd {kvs : List (List Key × V)} (ok : HOk P w H h) (e : Rd H a (.dT kvs)) : kvs.length ≤ sizeLine ∧ (a == sysModules) = false ∧
    ∃ xs, KT H kvs xs ∧ h.DictOfH (tupleKind (mixKind P w)) a xs := by
  obtain ⟨z, y, xs, r, o, es, ep, h1, h2, h3, h4, h5⟩ := (show ObjOk P w H h a (.dT kvs) from rd_of ok e)
  refine ⟨z, y, xs, r, o, es, ep, h1, h2, h3, h4, fun x hx => ?_, h5⟩
  have all : ∀ {l : List (List Key × V)} {m : List (List Key × Addr × Value)}, KT H l m → ∀ x ∈ m, (tupleKind (mixKind P w)).is h x.1 x.2.1 := by
    intro l m q
    induction q with
    | nil => intro x hx; exact nomatch hx
    | @cons p q ps qs hq t ih =>
      intro x hx
      rcases List.mem_cons.mp hx with e | hx
      · subst e
        exact key_of ok (by rw [← hq.1]; exact hq.2.1)
      · exact ih x hx
  exact all r x hx
theorem dt_of {kvs : List (List Key × V)} (ok : HOk P w H h) (e : H a = some (.dT kvs)) : kvs.length ≤ sizeLine ∧ (a == sysModules) = false ∧
    ∃ xs, KT H kvs xs ∧ h.DictOfH (tupleKind (mixKind P w)) a xs := dt_rd ok (.inl e)
end

/-- what the dict at a holds at the key y -/
def DGet (H : Hp) (a : Addr) (y : V) (r : Option V) : Prop :=
  (∃ kvs k, Rd H a (.dK kvs) ∧ y = kV k ∧ r = valV kvs k) ∨ ∃ kvs k b, Rd H a (.dT kvs) ∧ y = .ref b ∧ H b = some (.tup (k.map kV)) ∧ r = valV kvs k
/-- the heap behind a[y] = v -/
def DPut (H : Hp) (a : Addr) (y v : V) (H' : Hp) : Prop :=
  (∃ kvs k, H a = some (.dK kvs) ∧ y = kV k ∧ kvs.length < sizeLine ∧ H' = upd H a (.dK (putK kvs k v))) ∨
  ∃ kvs k b, H a = some (.dT kvs) ∧ y = .ref b ∧ H b = some (.tup (k.map kV)) ∧ kvs.length < sizeLine ∧ H' = upd H a (.dT (putK kvs k v))
theorem DGet.k {H : Hp} {a : Addr} {kvs : List (Key × V)} {k : Key} (e : H a = some (.dK kvs)) : DGet H a (kV k) (valV kvs k) := .inl ⟨kvs, k, .inl e, rfl, rfl⟩
theorem DPut.k {H : Hp} {a : Addr} {kvs : List (Key × V)} {k : Key} {v : V} (e : H a = some (.dK kvs)) (hl : kvs.length < sizeLine) : DPut H a (kV k) v (upd H a (.dK (putK kvs k v))) := .inl ⟨kvs, k, e, rfl, hl, rfl⟩
section
variable {X : Cx} {pins : List (Addr × Obj)} {σ : St} {H : Hp} {s : Shared} {a : Addr} {y v : V} {u r : Value} {o : Option V} {A : Around} {E : Value → Shared → Prop}

theorem Inv.big (I : Inv X pins σ H s) : sysModules < s.heap.objs.size := by
  have h : mainGlobals < s.heap.objs.size := (I.mod.glob.keeps I.bk).lt
  exact Nat.lt_trans (by decide) h

/-- d[y], there -/
theorem d_getItem {Q : Value → Shared → Prop} (hu : A.units + 1 < cLine) (I : Inv X pins σ H s) (g : DGet H a y (some v)) (ry : RelV y u) (h : ∀ w' s', Inv X pins σ H s' → RelV v w' → Q w' s') :
    wpAny (model X.prog X.w) A (getItem (.ref a) u) Q E s := by
  rcases g with ⟨kvs, k, e, ey, l⟩ | ⟨kvs, k, b, e, ey, eb, l⟩
  · subst ey
    obtain ⟨z, hd, vs, rel, dd⟩ := dk_rd I.hok e
    obtain ⟨w', hw, rw'⟩ := RelO.some_of (v := v) (o := valueAt vs k) (by rw [l]; exact rel.val k)
    exact wpAny_getItem_of (kV_is ry) dd.mapOf hw (h w' _ (I.tok _) rw')
  · subst ey
    cases (show u = Value.ref b from ry)
    obtain ⟨z, hd, xs, rel, dd⟩ := dt_rd I.hok e
    obtain ⟨w', hw, rw'⟩ := RelO.some_of (v := v) (o := (atKey xs k).map (·.2)) (by rw [l]; exact rel.val k)
    obtain ⟨p, hp, hp2⟩ := Option.map_eq_some_iff.mp hw
    refine wpAny_getItem_heap (tupleKind_room_in1 hu) (key_of I.hok eb) dd hp ?_
    rw [hp2]
    exact h w' _ (I.tok _) rw'
theorem d_notIn {Q : Value → Shared → Prop} (hu : A.units + 1 < cLine) (I : Inv X pins σ H s) (g : DGet H a y o) (ry : RelV y u) (h : ∀ s', Inv X pins σ H s' → Q (.bool (!o.isSome)) s') :
    wpAny (model X.prog X.w) A (compareOp .NotIn u (.ref a)) Q E s := by
  rcases g with ⟨kvs, k, e, ey, l⟩ | ⟨kvs, k, b, e, ey, eb, l⟩
  · subst ey
    obtain ⟨z, hd, vs, rel, dd⟩ := dk_rd I.hok e
    refine wpAny_notIn_of (kV_is ry) hd dd.mapOf ?_
    rw [← (rel.val k).isSome_eq, ← l]
    exact h _ (I.tok _)
  · subst ey
    cases (show u = Value.ref b from ry)
    obtain ⟨z, hd, xs, rel, dd⟩ := dt_rd I.hok e
    refine wpAny_notIn_heap (tupleKind_room_in1 hu) (key_of I.hok eb) hd dd ?_
    have q := (rel.val k).isSome_eq
    rw [Option.isSome_map] at q
    rw [← q, ← l]
    exact h _ (I.tok _)
/-- a dict's object is replaced -/
theorem d_write {h' : Heap} {t' : Nat} {ob : HO} (I : Inv X pins σ H s) (mu : Mut (H a)) (hs : Heap.SameBut a s.heap h') (he : ∃ q, h'.get? a = some q) (new : ObjOk X.prog X.w (upd H a ob) h' a ob) :
    Inv X pins σ (upd H a ob) { s with heap := h', toks := t' } :=
  I.write (x := a) (e := a) mu (.inl rfl) (fun b q hb z => (hs.2 b hb).trans z) he new
theorem dk_new {P : Program} {w : World} {H' : Hp} {h' : Heap} {kvs : List (Key × V)} {vs : List (Key × Value)} (z : kvs.length ≤ sizeLine) (hd : (a == sysModules) = false) (rel : KV kvs vs) (dd : h'.DictOf (mixKind P w) a vs) :
    ObjOk P w H' h' a (.dK kvs) := ⟨z, hd, vs, rel, dd⟩
/-- d[y] = v -/
theorem d_setItem {H' : Hp} {Q : Unit → Shared → Prop} (hu : A.units + 1 < cLine) (I : Inv X pins σ H s) (g : DPut H a y v H') (ry : RelV y u) (rv : RelV v r) (h : ∀ s', Inv X pins σ H' s' → Q () s') :
    wpAny (model X.prog X.w) A (setItem (.ref a) u r) Q E s := by
  rcases g with ⟨kvs, k, e, ey, l, eH⟩ | ⟨kvs, k, b, e, ey, eb, l, eH⟩
  · subst ey eH
    obtain ⟨z, hd, vs, rel, dd⟩ := dk_of I.hok e
    have hz : vs.length ≤ sizeLine := by rw [← rel.length]; exact z
    have hl : (putK kvs k v).length ≤ sizeLine := by have := length_putK kvs k v; omega
    refine wpAny_setItem_pairs (hsz := hz) (kV_is ry) dd fun h' dd' hs => h _ ?_
    have he : ∃ q, h'.get? a = some q := let ⟨q, _, _, hq, _⟩ := dd'; ⟨q, hq⟩
    exact d_write I (by rw [e]; exact True.intro) hs he (dk_new hl hd (rel.put k rv) dd')
  · subst ey eH
    cases (show u = Value.ref b from ry)
    obtain ⟨z, hd, xs, rel, dd⟩ := dt_of I.hok e
    have hz : xs.length ≤ sizeLine := by rw [← Paired.length rel]; exact z
    have hl : (putK kvs k v).length ≤ sizeLine := by have := length_putK kvs k v; omega
    refine wpAny_setItem_heap (hsz := hz) (tupleKind_room_in1 hu) (key_of I.hok eb) dd fun h' dd' hs => h _ ?_
    obtain ⟨q, es, ep, hq, h2, h3, h4, _, h5⟩ := dd'
    refine d_write I (by rw [e]; exact True.intro) hs ⟨q, hq⟩ ⟨hl, hd, _, (rel.put k eb rv).keeps fun c ys ec => ?_, q, es, ep, hq, h2, h3, h4, h5⟩
    rw [upd_ne (ne_of ec e (fun z => nomatch z))]
    exact ec
end

section
variable {X : Cx} {pins : List (Addr × Obj)} {σ : St} {H : Hp} {s : Shared} {a : Addr} {kvs : List (Key × V)} {k : Key} {u : Value} {A : Around} {E : Value → Shared → Prop}
/-- d.pop(k[, x]), there -/
theorem d_pop {v : V} {more : List Value} {Q : Value → Shared → Prop} (I : Inv X pins σ H s) (e : H a = some (.dK kvs)) (ry : RelV (kV k) u) (l : valV kvs k = some v) (hm : more = [] ∨ ∃ x, more = [x])
    (h : ∀ w' s', Inv X pins σ (upd H a (.dK (dropK kvs k))) s' → RelV v w' → Q w' s') : wpAny (model X.prog X.w) A (call (.builtin "dict.pop") (.ref a :: u :: more)) Q E s := by
  obtain ⟨z, hd, vs, rel, dd⟩ := dk_of I.hok e
  obtain ⟨w', hw, rw'⟩ := RelO.some_of (v := v) (o := valueAt vs k) (by rw [← l]; exact rel.val k)
  have hp : (keyPart u).isSome = true := by
    cases k with
    | inl i => obtain ⟨t, q⟩ := (show ∃ t, u = Value.int i t from ry); subst q; rfl
    | inr x => obtain ⟨t, q⟩ := (show ∃ t, u = Value.str x t from ry); subst q; rfl
  have ha : argsOk "dict.pop" ⟨.ref a :: u :: more, []⟩ := by
    rcases hm with q | ⟨x, q⟩
    · subst q; exact PySem.F.args_dict_pop_2 _ _
    · subst q; exact PySem.F.args_dict_pop_3 _ _ _
  refine call_meetsIn PySem.F.slot_dict_pop dd.typeIs PySem.F.entry_dict_pop ha (meets_dict_pop_there (mixKind X.prog X.w) a (kV_is ry) more hm hp)
    ⟨vs, w', dd, by rw [← rel.length]; exact z, hw, fun h' dd' hs => h w' _ ?_ rw'⟩
  have he : ∃ q, h'.get? a = some q := let ⟨q, _, _, hq, _⟩ := dd'; ⟨q, hq⟩
  exact d_write I (by rw [e]; exact True.intro) hs he (dk_new (Nat.le_trans (dropK_le kvs k) z) hd (rel.drop k) dd')
/-- len(d) -/
theorem d_len {Q : Value → Shared → Prop} (I : Inv X pins σ H s) (e : Rd H a (.dK kvs)) (h : ∀ t s', Inv X pins σ H s' → Q (.int kvs.length t) s') : wpAny (model X.prog X.w) A (call (.builtin "len") [.ref a]) Q E s := by
  obtain ⟨z, hd, vs, rel, dd⟩ := dk_rd I.hok e
  refine call_len_dict hd dd (by rw [← rel.length]; rw [sizeLine_eq] at z; omega) ?_
  rw [← rel.length]
  exact h _ _ (I.tok _)
end


/-! ### readings and rules -/
/-- the element of a subscription, not a slice -/
def NoSl (i : Expr) : Prop := ∀ ov iv, subscripted i false ov iv = operate [ov, iv] (getItem ov iv)
theorem subD_of {prog : Program} {w : World} {A : Around} {E : Value → Shared → Prop} {s : Shared} {env : Env} {value slice : Expr} {pos : Pos} {T id : String} {Q : Value → Shared → Prop}
    (hl : typeLookup (.type T) "__getitem__" = pure (some (.builtin id))) (hs : NoSl slice)
    (h : wpAny (model prog w) A (eval value env) (fun o s₁ => wpAny (model prog w) A (eval slice env) (fun i s₂ => s₂.TypeIs o T ∧ wpAny (model prog w) A (getItem o i) Q E s₂) E s₁) E s) :
    wpAny (model prog w) A (eval (.Subscript value slice pos) env) Q E s := by
  refine Subscript_ (wpAny_mono h (fun o s₁ h₁ => wpAny_mono h₁ (fun i s₂ h₂ => ?_) fun _ _ x => x) fun _ _ x => x)
  obtain ⟨hT, h₂⟩ := h₂
  unfold subscriptTail
  refine wpAny_bind ?_
  rw [getitemInPython_of_ne hT.not_modules]
  refine wpAny_bind (wpAny_specialOf hT hl ?_)
  have fin : wpAny (model prog w) A (subscripted slice false o i) (fun r s₃ => wpAny (model prog w) A (letTemporaryGo value o r >>= fun _ => pure r) Q E s₃) E s₂ := by
    rw [hs o i]
    exact wpAny_operating (wpAny_mono h₂ (fun r s₃ h₃ => wpAny_bind (wpAny_letTemporaryGo (wpAny_pure h₃))) fun _ _ x => x)
  first
    | exact wpAny_pure (wpAny_bind fin)
    | exact wpAny_bind (wpAny_pure (wpAny_bind fin))
    | exact wpAny_bind fin

theorem dict_typeIs {X : Cx} {pins : List (Addr × Obj)} {σ : St} {H : Hp} {s : Shared} {a : Addr} {y : V} {o : Option V} (I : Inv X pins σ H s) (g : DGet H a y o) : s.TypeIs (.ref a) "dict" := by
  rcases g with ⟨kvs, k, e, _, _⟩ | ⟨kvs, k, b, e, _, _, _⟩
  · obtain ⟨_, _, vs, _, dd⟩ := dk_rd I.hok e
    exact dd.typeIs
  · obtain ⟨_, _, xs, _, dd⟩ := dt_rd I.hok e
    exact dd.typeIs
/-- d[y] -/
def tDGet (td ty : TE) : TE := fun σ H Q => td σ H fun x H1 => ty σ H1 fun y H2 => ∃ a v, x = .ref a ∧ DGet H2 a y (some v) ∧ Q v H2
def tDNotIn (ty td : TE) : TE := fun σ H Q => ty σ H fun y H1 => td σ H1 fun x H2 => ∃ a o, x = .ref a ∧ DGet H2 a y o ∧ Q (.bl (!o.isSome)) H2
/-- d[y] = v -/
def sDPut (td ty tv : TE) : TS := fun D σ H => tv σ H fun v H1 => td σ H1 fun x H2 => ty σ H2 fun y H3 => ∃ a H4, x = .ref a ∧ DPut H3 a y v H4 ∧ D.nx σ H4
section
variable {X : Cx} {o i e value : Expr} {pos pos' tpos : Pos} {td ty tv : TE}
theorem pe_dget (hu : X.A.units + 1 < cLine) (ho : PE X o td) (hi : PE X i ty) (hs : NoSl i) : PE X (.Subscript o i pos) (tDGet td ty) := by
  intro pins s σ H Q I h
  refine subD_of PySem.F.slot_dict_getitem.lookup hs (thn (ho pins s σ H _ I h) fun u s1 ⟨x, H1, I1, rx, q1⟩ => thn (hi pins s1 σ H1 _ I1 q1) fun iv s2 ⟨y, H2, I2, ry, a, v, ex, g, q2⟩ => ?_)
  subst ex
  obtain rfl : u = Value.ref a := rx
  exact ⟨dict_typeIs I2 g, d_getItem hu I2 g ry fun w' s3 I3 rw' => ⟨v, H2, I3, rw', q2⟩⟩
theorem pc_dnotin (hu : X.A.units + 1 < cLine) (hi : PE X i ty) (ho : PE X o td) : PC X .NotIn i o (tDNotIn ty td) := by
  intro pins s σ H Q I h
  refine thn (hi pins s σ H _ I h) fun iv s1 ⟨y, H1, I1, ry, q1⟩ => thn (ho pins s1 σ H1 _ I1 q1) fun u s2 ⟨x, H2, I2, rx, a, ov, ex, g, q2⟩ => ?_
  subst ex
  obtain rfl : u = Value.ref a := rx
  exact d_notIn hu I2 g ry fun s3 I3 => ⟨.bl (!ov.isSome), H2, I3, rfl, q2⟩
theorem ps_dput (hu : X.A.units + 1 < cLine) (ho : PE X o td) (hi : PE X i ty) (hv : PE X value tv) (hs : swapsWith value (some (.Subscript o i pos')) pos.line X.env = pure false) :
    PS X (.Assign [.Subscript o i pos'] value pos) (sDPut td ty tv) := by
  intro pins s σ H D I h
  refine wpAny_Assign_Subscript (thn (hv pins s σ H _ I h) fun r s1 ⟨v, H1, I1, rv, q1⟩ => thn (ho pins s1 σ H1 _ I1 q1) fun u s2 ⟨x, H2, I2, rx, q2⟩ => thn (hi pins s2 σ H2 _ I2 q2) fun iv s3 ⟨y, H3, I3, ry, a, H4, ex, g, q3⟩ => ?_) hs
  subst ex
  obtain rfl : u = Value.ref a := rx
  exact d_setItem hu I3 g ry rv fun s4 I4 => ⟨σ, H4, I4, q3⟩
end


/-! ### displays -/
theorem dk_empty {P : Program} {w : World} {H : Hp} (h : Heap) (hb : sysModules < h.objs.size) : ObjOk P w H (h.push { cls := .type "dict", data := .dict #[] }) h.objs.size (.dK []) :=
  ⟨Nat.zero_le _, beq_eq_false_iff_ne.mpr (Ne.symm (Nat.ne_of_lt hb)), [], .nil, Heap.DictOf.new h⟩
/-- {}, to be a dict of the kind that is wanted -/
def tDNewK : TE := fun _ H Q => ∀ p, H p = none → Q (.ref p) (upd H p (.dK []))
section
variable {X : Cx} {pos : Pos}
theorem pe_dnewK : PE X (.Dict [] [] pos) tDNewK := fun pins s σ H Q I h =>
  wpAny_Dict_empty ⟨.ref s.heap.objs.size, _, I.laid (a := s.heap.objs.size) (o := .dK []) (t' := s.toks) (fun _ _ q => Heap.get?_push_of_some _ q) (Nat.le_refl _) (dk_empty s.heap I.big), rfl, h _ (I.hok.fresh (Nat.le_refl _))⟩
end

/-! ### methods -/
/-- a method call o.m(e) of a built-in, with one argument: what must be seen of the text -/
structure M1 (X : Cx) (o : Expr) (m : Str) (apos : Pos) (e : Expr) (cpos : Pos) : Prop where
  base : attributeBase o m X.env (eval o X.env) = eval o X.env
  few : ((backTo cpos (starEach [e] X.env)).all (fun x => !x.1) && (backToKw cpos (keywordEach [] X.env)).all (fun x => x.1.isSome)
    && decide (([e] : List Expr).length + ([] : List Keyword).length + (if ([] : List Keyword).isEmpty then 0 else 1) < 30)) = true
  line : (apos.endLine == cpos.line) = true
  trees : backTo cpos (starEach [e] X.env) = [(false, eval e X.env)]
structure M2 (X : Cx) (o : Expr) (m : Str) (apos : Pos) (e f : Expr) (cpos : Pos) : Prop where
  base : attributeBase o m X.env (eval o X.env) = eval o X.env
  few : ((backTo cpos (starEach [e, f] X.env)).all (fun x => !x.1) && (backToKw cpos (keywordEach [] X.env)).all (fun x => x.1.isSome)
    && decide (([e, f] : List Expr).length + ([] : List Keyword).length + (if ([] : List Keyword).isEmpty then 0 else 1) < 30)) = true
  line : (apos.endLine == cpos.line) = true
  trees : backTo cpos (starEach [e, f] X.env) = [(false, eval e X.env), (false, eval f X.env)]

/-- a is a dict, whatever its keys -/
def IsD (H : Hp) (a : Addr) : Prop := (∃ kvs, Rd H a (.dK kvs)) ∨ ∃ kvs, Rd H a (.dT kvs)
theorem isD_at {X : Cx} {pins : List (Addr × Obj)} {σ : St} {H : Hp} {s : Shared} {a : Addr} (I : Inv X pins σ H s) (d : IsD H a) :
    s.TypeIs (.ref a) "dict" ∧ (∀ b, Value.ref a = .ref b → ∃ ob, s.heap.get? b = some ob ∧ ob.dict = none) ∧ (a == sysModules) = false := by
  rcases d with ⟨kvs, e⟩ | ⟨kvs, e⟩
  · obtain ⟨_, hd, vs, _, dd⟩ := dk_rd I.hok e
    refine ⟨dd.typeIs, fun b q => ?_, hd⟩
    cases q
    obtain ⟨ob, _, _, h1, h2, _⟩ := dd
    exact ⟨ob, h1, h2.2.1⟩
  · obtain ⟨_, hd, xs, _, dd⟩ := dt_rd I.hok e
    refine ⟨dd.typeIs, fun b q => ?_, hd⟩
    cases q
    obtain ⟨ob, _, _, h1, h2, _⟩ := dd
    exact ⟨ob, h1, h2.2.1⟩

section
variable {X : Cx} {pins : List (Addr × Obj)} {σ : St} {H : Hp} {s : Shared} {a : Addr} {y d : V} {u r : Value} {o : Option V} {A : Around} {E : Value → Shared → Prop}
/-- d.get(y, x) -/
theorem d_get2 {Q : Value → Shared → Prop} (hu : A.units + 1 < cLine) (I : Inv X pins σ H s) (g : DGet H a y o) (ry : RelV y u) (rd : RelV d r) (h : ∀ w' s', Inv X pins σ H s' → RelV (o.getD d) w' → Q w' s') :
    wpAny (model X.prog X.w) A (call (.builtin "dict.get") [.ref a, u, r]) Q E s := by
  rcases g with ⟨kvs, k, e, ey, l⟩ | ⟨kvs, k, b, e, ey, eb, l⟩
  · subst ey
    obtain ⟨z, hd, vs, rel, dd⟩ := dk_rd I.hok e
    refine call_meetsIn PySem.F.slot_dict_get dd.typeIs PySem.F.entry_dict_get (PySem.F.args_dict_get_3 _ _ _) (meets_dict_get_default (mixKind X.prog X.w) a (kV_is ry) hd r) ⟨_, dd.mapOf, h _ _ (I.tok _) ?_⟩
    rw [l]
    exact (rel.val k).getD rd
  · subst ey
    cases (show u = Value.ref b from ry)
    obtain ⟨z, hd, xs, rel, dd⟩ := dt_rd I.hok e
    refine call_meetsIn PySem.F.slot_dict_get dd.typeIs PySem.F.entry_dict_get (PySem.F.args_dict_get_3 _ _ _) (meetsH_dict_get_default (tupleKind (mixKind X.prog X.w)) a b hd r) ⟨tupleKind_room_in1 hu, k, xs, key_of I.hok eb, dd, h _ _ (I.tok _) ?_⟩
    rw [l]
    exact (rel.val k).getD rd
end

def tDGet2 (td ty tx : TE) : TE := fun σ H Q => td σ H fun x H1 => ∃ a, x = .ref a ∧ IsD H1 a ∧ ty σ H1 fun y H2 => tx σ H2 fun z H3 => ∃ o, DGet H3 a y o ∧ Q (o.getD z) H3
/-- d.pop(k): there; d.pop(k, x): there or not -/
def tDPop1 (td ty : TE) : TE := fun σ H Q => td σ H fun x H1 => ∃ a, x = .ref a ∧ IsD H1 a ∧ ty σ H1 fun y H2 => ∃ kvs k v, H2 a = some (.dK kvs) ∧ y = kV k ∧ valV kvs k = some v ∧ Q v (upd H2 a (.dK (dropK kvs k)))
section
variable {X : Cx} {o e f : Expr} {apos cpos : Pos} {td ty tx : TE}
theorem pe_dget2 (hu : X.A.units + 1 < cLine) (ho : PE X o td) (he : PE X e ty) (hf : PE X f tx) (m : M2 X o "get" apos e f cpos) : PE X (.Call (.Attribute o "get" apos) [e, f] [] cpos) (tDGet2 td ty tx) := by
  intro pins s σ H Q I h
  refine wpAny_Call_method m.base m.few m.line PySem.F.plainAttrs_dict PySem.F.slot_dict_get PySem.F.type_dict_get (thn (ho pins s σ H _ I h) fun u s1 ⟨x, H1, I1, rx, a, ex, d, q1⟩ => ?_)
  subst ex
  obtain rfl : u = Value.ref a := rx
  obtain ⟨t1, t2, _⟩ := isD_at I1 d
  refine ⟨t1, t2, ?_⟩
  rw [m.trees]
  refine Calls.callWith_builtin rfl (Calls.evalArgs_plain (Calls.spliced_cons (thn (he pins s1 σ H1 _ I1 q1) fun iv s2 ⟨y, H2, I2, ry, q2⟩ =>
    Calls.spliced_cons (thn (hf pins s2 σ H2 _ I2 q2) fun fv s3 ⟨z, H3, I3, rz, ov, g, q3⟩ => Calls.spliced_nil ?_))))
  exact d_get2 hu I3 g ry rz fun w' s4 I4 rw' => ⟨_, H3, I4, rw', q3⟩
theorem pe_dpop1 (ho : PE X o td) (he : PE X e ty) (m : M1 X o "pop" apos e cpos) : PE X (.Call (.Attribute o "pop" apos) [e] [] cpos) (tDPop1 td ty) := by
  intro pins s σ H Q I h
  refine wpAny_Call_method m.base m.few m.line PySem.F.plainAttrs_dict PySem.F.slot_dict_pop PySem.F.type_dict_pop (thn (ho pins s σ H _ I h) fun u s1 ⟨x, H1, I1, rx, a, ex, d, q1⟩ => ?_)
  subst ex
  obtain rfl : u = Value.ref a := rx
  obtain ⟨t1, t2, _⟩ := isD_at I1 d
  refine ⟨t1, t2, ?_⟩
  rw [m.trees]
  refine Calls.callWith_builtin rfl (Calls.evalArgs_plain (Calls.spliced_cons (thn (he pins s1 σ H1 _ I1 q1) fun iv s2 ⟨y, H2, I2, ry, kvs, k, v, ea, ey, l, q2⟩ => Calls.spliced_nil ?_)))
  subst ey
  exact d_pop I2 ea ry l (.inl rfl) fun w' s3 I3 rw' => ⟨v, _, I3, rw', q2⟩
end

/-! ### dict(d): a copy -/
section
variable {X : Cx} {pins : List (Addr × Obj)} {σ : St} {H : Hp} {s : Shared} {a : Addr} {kvs : List (Key × V)} {A : Around} {E : Value → Shared → Prop}
theorem d_copyOf {Q : Value → Shared → Prop} (I : Inv X pins σ H s) (e : Rd H a (.dK kvs)) (h : ∀ p s', H p = none → Inv X pins σ (upd H p (.dK kvs)) s' → Q (.ref p) s') : wpAny (model X.prog X.w) A (call (.type "dict") [.ref a]) Q E s := by
  obtain ⟨z, hd, vs, rel, dd⟩ := dk_rd I.hok e
  refine kt_call_dict hd dd (by rw [← rel.length]; exact z) fun h' dd' hs => ?_
  refine h _ _ (I.hok.fresh (Nat.le_refl _)) (I.laid (a := s.heap.objs.size) (o := .dK kvs) (t' := s.toks) (fun b q hq => ?_) (Nat.le_refl _) (dk_new z (beq_eq_false_iff_ne.mpr (Ne.symm (Nat.ne_of_lt I.big))) rel dd'))
  exact (hs.2 b (Nat.ne_of_lt (Heap.lt_size hq))).trans (Heap.get?_push_of_some _ hq)
end


section
variable {X : Cx} {pins : List (Addr × Obj)} {σ : St} {H : Hp} {s : Shared} {a : Addr} {y : V} {u : Value} {A : Around} {E : Value → Shared → Prop}
end
end L2


set_option maxRecDepth 100000
namespace FrM
/-- below 2 ^ n in size -/
def Sz (n : Nat) (a : Int) : Prop := a.natAbs < 2 ^ n
theorem Sz.mono {m n : Nat} {a : Int} (h : Sz m a) (hmn : m ≤ n) : Sz n a := Nat.lt_of_lt_of_le h (Nat.pow_le_pow_right (by decide) hmn)
theorem Sz.mul {m n : Nat} {a b : Int} (ha : Sz m a) (hb : Sz n b) : Sz (m + n) (a * b) := by
  unfold Sz at *
  rw [Int.natAbs_mul, Nat.pow_add]
  exact Nat.mul_lt_mul'' ha hb
theorem Sz.neg {m : Nat} {a : Int} (ha : Sz m a) : Sz m (-a) := by
  unfold Sz at *; rw [Int.natAbs_neg]; exact ha
theorem Sz.pow {m : Nat} {a : Int} (ha : Sz m a) : ∀ n : Nat, Sz (m * n + 1) (a ^ n)
  | 0 => by unfold Sz; simp
  | n + 1 => by
    have h := (Sz.pow ha n).mul ha
    rw [Int.pow_succ]
    exact h.mono (by rw [Nat.mul_succ]; omega)
theorem Sz.div {m : Nat} {a g : Int} (ha : Sz m a) (_hg : 0 < g) : Sz m (a / g) := by
  unfold Sz at *
  refine Nat.lt_of_le_of_lt ?_ ha
  exact Int.natAbs_ediv_le_natAbs a g
theorem gcd_step (a b : Int) (_hb : 0 < b) : Int.gcd b (a % b) = Int.gcd a b := by
  rw [Int.gcd_comm, Int.emod_def, Int.gcd_sub_mul_left_left]
theorem gcd_zero (g : Int) (h : 0 ≤ g) : ((Int.gcd g 0 : Nat) : Int) = g := by
  rw [Int.gcd_zero_right]; omega
theorem gcd_pos (a : Int) {b : Int} (hb : 0 < b) : 0 < ((Int.gcd a b : Nat) : Int) := by
  have := Int.gcd_pos_of_ne_zero_right a (b := b) (by omega)
  omega
/-- what fraction tells -/
def fa (a b : Int) : Int := a / ((Int.gcd a b : Nat) : Int)
def fb (a b : Int) : Int := b / ((Int.gcd a b : Nat) : Int)
theorem fa_mul (a b : Int) : fa a b * ((Int.gcd a b : Nat) : Int) = a := Int.ediv_mul_cancel (Int.gcd_dvd_left a b)
theorem fb_mul (a b : Int) : fb a b * ((Int.gcd a b : Nat) : Int) = b := Int.ediv_mul_cancel (Int.gcd_dvd_right a b)
theorem fb_pos (a : Int) {b : Int} (hb : 0 < b) : 0 < fb a b := by
  have h1 := fb_mul a b
  have h2 := gcd_pos a hb
  rcases Int.lt_trichotomy (fb a b) 0 with h | h | h
  · have := Int.mul_neg_of_neg_of_pos h h2; omega
  · rw [h, Int.zero_mul] at h1; omega
  · exact h
theorem f_across (a b : Int) : fa a b * b = a * fb a b := by
  have h1 := fa_mul a b
  have h2 := fb_mul a b
  calc fa a b * b = fa a b * (fb a b * ((Int.gcd a b : Nat) : Int)) := by rw [h2]
    _ = (fa a b * ((Int.gcd a b : Nat) : Int)) * fb a b := by rw [Int.mul_assoc, Int.mul_comm (fb a b)]
    _ = a * fb a b := by rw [h1]
theorem f_gcd (a : Int) {b : Int} (hb : 0 < b) : Int.gcd (fa a b) (fb a b) = 1 := by
  unfold fa fb
  exact Int.gcd_ediv_gcd_ediv_gcd (by have := gcd_pos a hb; omega)
theorem fa_one (a : Int) : fa a 1 = a := by unfold fa; rw [Int.gcd_one_right]; simp
theorem fb_one (a : Int) : fb a 1 = 1 := by unfold fb; rw [Int.gcd_one_right]; simp
theorem fa_sz {n : Nat} {a b : Int} (h : Sz n a) (hb : 0 < b) : Sz n (fa a b) := h.div (gcd_pos a hb)
theorem fb_sz {n : Nat} {a b : Int} (h : Sz n b) (hb : 0 < b) : Sz n (fb a b) := h.div (gcd_pos a hb)
theorem pow_pos' {b : Int} (h : 0 < b) : ∀ n : Nat, 0 < b ^ n
  | 0 => by simp
  | n + 1 => by rw [Int.pow_succ]; exact Int.mul_pos (pow_pos' h n) h
/-- the going on of a power by squares: product = base ^ i, square = base ^ j, i + j * left = e -/
structure PowI (base : Int) (e : Nat) (product square left : Int) : Prop where
  nn : 0 ≤ left
  ex : ∃ i j : Nat, product = base ^ i ∧ square = base ^ j ∧ i + j * left.toNat = e
theorem PowI.start (base : Int) {e : Int} (h : 0 ≤ e) : PowI base e.toNat 1 base e := ⟨h, 0, 1, by rw [Int.pow_zero], by rw [Int.pow_succ, Int.pow_zero, Int.one_mul], by omega⟩
theorem PowI.done {base product square : Int} {e : Nat} (h : PowI base e product square 0) : product = base ^ e := by
  obtain ⟨_, i, j, h1, h2, h3⟩ := h
  have : i = e := by simpa using h3
  rw [h1, this]
theorem PowI.sz {base product square left : Int} {e m : Nat} (h : PowI base e product square left) (hl : 0 < left) (hb : Sz m base) : Sz (m * e + 1) product ∧ Sz (m * e + 1) square := by
  obtain ⟨_, i, j, h1, h2, h3⟩ := h
  have hn : 1 ≤ left.toNat := by omega
  have hi : i ≤ e := by omega
  have hj : j ≤ e := by
    have : j * 1 ≤ j * left.toNat := Nat.mul_le_mul_left j hn
    omega
  subst h1 h2
  exact ⟨(hb.pow i).mono (by have := Nat.mul_le_mul_left m hi; omega), (hb.pow j).mono (by have := Nat.mul_le_mul_left m hj; omega)⟩
theorem PowI.odd_last {base product square left : Int} {e : Nat} (h : PowI base e product square left) (ho : left % 2 = 1) (hz : ¬ 0 < left / 2) : PowI base e (product * square) square (left / 2) := by
  obtain ⟨nn, i, j, h1, h2, h3⟩ := h
  have e1 : left = 1 := by omega
  subst e1
  refine ⟨by decide, i + j, j, by rw [h1, h2, ← Int.pow_add], h2, ?_⟩
  simp at h3 ⊢; omega
theorem PowI.odd {base product square left : Int} {e : Nat} (h : PowI base e product square left) (ho : left % 2 = 1) : PowI base e (product * square) (square * square) (left / 2) := by
  obtain ⟨nn, i, j, h1, h2, h3⟩ := h
  obtain ⟨m, hm⟩ : ∃ m : Nat, left = 2 * m + 1 := ⟨(left / 2).toNat, by omega⟩
  have hd : left / 2 = m := by omega
  refine ⟨by omega, i + j, j + j, by rw [h1, h2, ← Int.pow_add], by rw [h2, ← Int.pow_add], ?_⟩
  have ht : left.toNat = 2 * m + 1 := by omega
  rw [ht] at h3
  rw [hd]
  simp only [Int.toNat_natCast]
  rw [← h3, Nat.add_mul, Nat.mul_add, Nat.mul_one, Nat.two_mul, Nat.mul_add]; omega
theorem PowI.even {base product square left : Int} {e : Nat} (h : PowI base e product square left) (ho : ¬ left % 2 = 1) : PowI base e product (square * square) (left / 2) := by
  obtain ⟨nn, i, j, h1, h2, h3⟩ := h
  obtain ⟨m, hm⟩ : ∃ m : Nat, left = 2 * m := ⟨(left / 2).toNat, by omega⟩
  have hd : left / 2 = m := by omega
  refine ⟨by omega, i, j + j, h1, by rw [h2, ← Int.pow_add], ?_⟩
  have ht : left.toNat = 2 * m := by omega
  rw [ht] at h3
  rw [hd]
  simp only [Int.toNat_natCast]
  rw [← h3, Nat.add_mul, Nat.two_mul, Nat.mul_add]
theorem PowI.even_last {base product square left : Int} {e : Nat} (h : PowI base e product square left) (hl : 0 < left) (ho : ¬ left % 2 = 1) : 0 < left / 2 := by
  have := h.nn; omega
end FrM

set_option Elab.async false
set_option linter.all false
set_option maxRecDepth 100000
set_option maxHeartbeats 4000000
/-! Exceptions over the hand layer: raised, passing, caught. -/
namespace L2
open PySem PySem.Spec PyProof.Rows

theorem ObjOk.there {P : Program} {w : World} {H : Hp} {h : Heap} {a : Addr} {o : HO} (x : ObjOk P w H h a o) : ∃ u, h.get? a = some u := by
  cases o with
  | lst xs => obtain ⟨_, _, _, _, e⟩ := x; exact ⟨_, e⟩
  | tup xs => obtain ⟨_, _, _, _, e, _⟩ := x; exact ⟨_, e⟩
  | dK kvs => obtain ⟨_, _, _, _, _, _, _, e, _⟩ := x; exact ⟨_, e⟩
  | dT kvs => obtain ⟨_, _, _, _, _, _, _, e, _⟩ := x; exact ⟨_, e⟩
  | set S n => obtain ⟨_, _, _, _, e, _⟩ := x; exact ⟨_, e⟩
  | ins C dx fs => obtain ⟨_, _, _, e, _⟩ := x; exact ⟨_, e⟩
  | own y => obtain ⟨_, e⟩ := x; exact ⟨_, e⟩
  | xd fs => obtain ⟨_, ⟨_, _, _, e, _⟩, _⟩ := x; exact ⟨_, e⟩
  | rng lo hi => obtain ⟨_, _, _, e⟩ := x; exact ⟨_, e⟩
  | frz ob u => obtain ⟨e, _⟩ := x; exact ⟨_, e⟩
  | tbl ps => exact ⟨_, (show h.get? a = some _ from x)⟩
  | met f y => exact ⟨_, (show h.get? a = some _ from x)⟩
  | ext φ => obtain ⟨_, ⟨_, e⟩, _⟩ := x; exact ⟨_, e⟩
theorem HOk.untracked {P : Program} {w : World} {H : Hp} {h : Heap} {a : Addr} (x : HOk P w H h) (e : h.get? a = none) : H a = none := by
  cases q : H a with
  | none => rfl
  | some o =>
    obtain ⟨u, z⟩ := (x a o q).there
    rw [e] at z
    cases z

/-- what stands through an exception's flight: B is the part of the heap that the flight never touches -/
structure FlyU (fs : List Addr) (H H' : Hp) (h B h' : Heap) : Prop where
  keep : ∀ b o, h.get? b = some o → H b = none → b ∉ fs → B.get? b = some o
  slot : ∀ b o, h.get? b = some o → H b = none → b ∈ fs → ∃ sl, h'.get? b = some { o with slots := sl }
  inB : ∀ b o, h.get? b = some o → b ∉ fs → ∃ o', B.get? b = some o'
  free : ∀ b o, h.get? b = some o → H b = none → H' b = none
  tups : ∀ b xs, H b = some (.tup xs) → H' b = some (.tup xs)
  frzs : ∀ b o u, H b = some (.frz o u) → H' b = some (.frz o u)
  tbls : ∀ b ps, H b = some (.tbl ps) → ∃ more, H' b = some (.tbl (ps ++ more))
theorem FlyU.un {fs : List Addr} {H H' : Hp} {h B h' : Heap} (U : FlyU fs H H' h B h') (st : B.StaysIn h') (hf : ∀ b ∈ fs, H b = none) : Un fs [] H H' h h' where
  keep := fun b o e n hb _ => st b o (U.keep b o e n hb)
  slot := fun b o e n hb _ => U.slot b o e n hb
  free := fun b o e n _ => U.free b o e n
  there := fun b o e _ => by
    by_cases hb : b ∈ fs
    · obtain ⟨sl, q⟩ := U.slot b o e (hf b hb) hb
      exact ⟨_, q⟩
    · obtain ⟨o', q⟩ := U.inB b o e hb
      exact ⟨o', st b o' q⟩
  tups := U.tups
  frzs := U.frzs
  tbls := U.tbls
theorem FlyU.land {l : List Env} {H H' : Hp} {h B h1 h2 : Heap} (U : FlyU (frs l) H H' h B h1) (ff : h1.FunFrames B l) (up : h1.UpToSlots h2) : FlyU (frs l) H H' h B h2 :=
  ⟨U.keep, fun b o e n hb => by
    obtain ⟨sl, q⟩ := U.slot b o e n hb
    obtain ⟨_, o', e', hd⟩ := ff.mem hb
    rw [q] at e'
    cases e'
    obtain ⟨sl3, z3⟩ := up b _ q hd
    exact ⟨sl3, z3⟩, U.inB, U.free, U.tups, U.frzs, U.tbls⟩

/-- an exception behind a call -/
def Fly (P : Program) (w : World) : CXT := fun outer H s E e s' =>
  ∃ (ea : Addr) (cls a0 : Value) (H' : Hp) (B : Heap), e = .ref ea ∧ s'.os = s.os ∧ AllBare s'.gens ∧ Heap.FlyingW B outer ea cls a0 s'.heap ∧ HOk P w H' B ∧ FlyU (frs outer) H H' s.heap B s'.heap ∧ E cls none H'

/-- an exception of a callee, of a raise: what the body wants, by the names' values where it comes -/
def PassesS (CX : CXT) (X : Cx) (E : St → XK) : Prop := ∀ (pins : List (Addr × Obj)) (σ : St) (H : Hp) (s : Shared) (e : Value) (s' : Shared), Inv X pins σ H s → CX X.stack H s (E σ) e s' → X.xe e s'
def RaisesS (X : Cx) (E : St → XK) : Prop := ∀ (pins : List (Addr × Obj)) (σ : St) (H : Hp) (s : Shared) (h1 : Heap) (ea : Addr) (cls : Value) (args : List Value), Inv X pins σ H s → Heap.MadeExcOf s.heap h1 ea cls args → E σ cls none H → X.xe (.ref ea) { s with heap := h1 }

section
variable {P : Program} {w : World} {K : PySem.W.Frag} {mg : Str → Option Value} {base : Heap} {N : List Str} {qual : Str} {scope : Scope} {f : Addr} {cd : Value} {A : Around} {outer : List Env} {s₀ : Shared} {H₀ : Hp} {E : XK}
theorem frs_cons {env : Env} {l : List Env} {b : Addr} (h : b ∈ frs l) : b ∈ frs (env :: l) := by
  obtain ⟨e, he, q⟩ := List.mem_filterMap.mp h
  exact List.mem_filterMap.mpr ⟨e, .tail _ he, q⟩
theorem pass_fly : PassesS (Fly P w) (cxOf (Fly P w) P w K mg base N qual scope f cd A outer s₀ H₀ E) (fun _ => E) := by
  intro pins σ H s e s' I h
  obtain ⟨ea, cls, a0, H', B, he, hos, hb, hfl, hok, U, q⟩ := h
  subst he
  show wpAny (model P w) (A.deeper (envOfC qual scope s₀.heap.objs.size f cd)) (leaving (envOfC qual scope s₀.heap.objs.size f cd) (.ref ea)) (fun _ s'' => Fly P w outer H₀ s₀ E (.ref ea) s'') (fun e' s'' => Fly P w outer H₀ s₀ E e' s'') s'
  have hfr : (A.deeper (envOfC qual scope s₀.heap.objs.size f cd)).frames = some (envOfC qual scope s₀.heap.objs.size f cd :: outer) := I.ok.frames
  have nx : ∀ b : Addr, b ∉ ([] : List Addr) := fun b => by simp
  have nst : ∀ b o, s₀.heap.get? b = some o → b ∉ frs outer → b ∉ frs (envOfC qual scope s₀.heap.objs.size f cd :: outer) := fun b o e hb z => by
    rcases List.mem_cons.mp (I.stkSub b z) with y | y
    · exact Nat.ne_of_lt (Nat.lt_of_lt_of_le (Heap.lt_size e) I.ok.above) y
    · exact hb y
  refine wpAny_leaves_onW hfr rfl hfl fun h' x1 x2 => ?_
  refine ⟨ea, cls, a0, H', B, rfl, hos.trans I.os, hb, x1, hok, ⟨fun b o e n hb => ?_, fun b o e n hb => ?_, fun b o e hb => ?_, fun b o e n => ?_, fun b xs e => U.tups b xs (I.base.tups b xs e), fun b o u e => U.frzs b o u (I.base.frzs b o u e), fun b ps e => ?_⟩, q⟩
  · exact U.keep b o (I.base.keep b o e n hb (nx b)) (I.base.free b o e n (nx b)) (nst b o e hb)
  · obtain ⟨sl, e1⟩ := I.base.slot b o e n hb (nx b)
    obtain ⟨sl2, e2⟩ := U.slot b _ e1 (I.base.free b o e n (nx b)) (frs_cons hb)
    obtain ⟨_, o', e3, hd⟩ := hfl.2.2.1.mem (frs_cons hb)
    rw [e2] at e3
    cases e3
    obtain ⟨sl3, z3⟩ := x2 b _ e2 hd
    exact ⟨sl3, z3⟩
  · obtain ⟨o1, e1⟩ := I.base.there b o e (nx b)
    exact U.inB b o1 e1 (nst b o e hb)
  · obtain ⟨o1, e1⟩ := I.base.there b o e (nx b)
    exact U.free b o1 e1 (I.base.free b o e n (nx b))
  · obtain ⟨m1, e1⟩ := I.base.tbls b ps e
    obtain ⟨m2, e2⟩ := U.tbls b _ e1
    exact ⟨m1 ++ m2, by rw [e2, Array.append_assoc]⟩
theorem raises_fly : RaisesS (cxOf (Fly P w) P w K mg base N qual scope f cd A outer s₀ H₀ E) (fun _ => E) := by
  intro pins σ H s h1 ea cls args I hx q
  show wpAny (model P w) (A.deeper (envOfC qual scope s₀.heap.objs.size f cd)) (leaving (envOfC qual scope s₀.heap.objs.size f cd) (.ref ea)) (fun _ s'' => Fly P w outer H₀ s₀ E (.ref ea) s'') (fun e' s'' => Fly P w outer H₀ s₀ E e' s'') { s with heap := h1 }
  have hfr : (A.deeper (envOfC qual scope s₀.heap.objs.size f cd)).frames = some (envOfC qual scope s₀.heap.objs.size f cd :: outer) := I.ok.frames
  have nx : ∀ b : Addr, b ∉ ([] : List Addr) := fun b => by simp
  have nst : ∀ b o, s₀.heap.get? b = some o → b ∉ frs outer → b ∉ frs (envOfC qual scope s₀.heap.objs.size f cd :: outer) := fun b o e hb z => by
    rcases List.mem_cons.mp (I.stkSub b z) with y | y
    · exact Nat.ne_of_lt (Nat.lt_of_lt_of_le (Heap.lt_size e) I.ok.above) y
    · exact hb y
  have ff : s.heap.FunFrames base (envOfC qual scope s₀.heap.objs.size f cd :: outer) := I.stack
  have hin : ∀ env ∈ (envOfC qual scope s₀.heap.objs.size f cd :: outer), ∀ b, env.frame = some b → b ∈ frs (envOfC qual scope s₀.heap.objs.size f cd :: outer) := fun env he b hb => List.mem_filterMap.mpr ⟨env, he, hb⟩
  have hokB : HOk P w H (PySem.W.hideAll s.heap (frs (envOfC qual scope s₀.heap.objs.size f cd :: outer))) := fun a o e => (I.hok a o e).stay (fun b u hb e1 => PySem.W.hideAll_get _ e1 fun hm => by
      have z := I.stkFree b hm
      rcases hb with y | y
      · rw [y, e] at z; cases z
      · rw [y] at z; cases z) (fun _ q => q) fun _ _ q => q
  refine wpAny_leaves_madeW (base := PySem.W.hideAll s.heap (frs (envOfC qual scope s₀.heap.objs.size f cd :: outer))) (h := s.heap) hfr rfl (fun b o q => PySem.W.of_hideAll _ q) (PySem.W.funFrames_hide ff hin) hx fun h' t x1 x2 x3 x4 => ?_
  refine ⟨ea, cls, .ref t, H, _, rfl, I.os, I.bare, x1, hokB, ⟨fun b o e n hb => ?_, fun b o e n hb => ?_, fun b o e hb => ?_, fun b o e n => I.base.free b o e n (nx b), I.base.tups, I.base.frzs, I.base.tbls⟩, q⟩
  · exact PySem.W.hideAll_get _ (I.base.keep b o e n hb (nx b)) (nst b o e hb)
  · obtain ⟨sl, e1⟩ := I.base.slot b o e n hb (nx b)
    obtain ⟨_, o', e3, hd⟩ := ff.mem (frs_cons hb)
    rw [e1] at e3
    cases e3
    obtain ⟨sl3, z3⟩ := x4 b _ (hx.keeps b _ e1) hd
    exact ⟨sl3, z3⟩
  · obtain ⟨o1, e1⟩ := I.base.there b o e (nx b)
    exact ⟨o1, PySem.W.hideAll_get _ e1 (nst b o e hb)⟩
end

section
variable {X : Cx} {CX : CXT} {k : Nat} {f C : Addr} {fd : FuncData} {ps : List Str} {sp : Sp} {dvs : List V} {ds : List Value} {E : St → XK} {x : Str} {p pos : Pos} {e : Expr} {es : List Expr} {t : TA}
/-- f(..) that may raise -/
def tCallS (sp : Sp) (dvs : List V) (E : St → XK) (t : TA) : TE := fun σ H Q => t σ H fun vs H1 => sp (vs ++ dvs) H1 Q (E σ)
theorem run_fnS {pins : List (Addr × Obj)} {σ : St} {H : Hp} {s : Shared} {Q : VK} {us : List Value} {vs : List V} (F : FnOk X.prog X.w X.K X.mg X.base CX k f fd ps sp) (hr : Room k X.A) (hb : Binds X.K fd ps ds) (hd : Vals dvs ds) (hx : PassesS CX X E)
    (I : Inv X pins σ H s) (r : Vals vs us) (h : sp (vs ++ dvs) H Q (E σ)) : wpAny (model X.prog X.w) X.A (call (.ref f) us) (EP X pins σ Q) X.xe s := by
  have r2 : Vals (vs ++ dvs) (us ++ ds) := r.append hd
  have hl : (us ++ ds).length = ps.length := by rw [← r2.length]; exact F.len _ _ _ _ h
  refine wpAny_call (codeAny_mono (F.run X.A X.stack s H ⟨us, []⟩ (us ++ ds) (vs ++ dvs) Q (E σ) hr I.env0 (hb s us I.kIn hl) r2 h) fun r s' hq => ?_)
  cases r with
  | error e => exact hx pins σ H s e s' I hq
  | ok fl =>
    cases fl with
    | ret u => exact I.after hq
    | next => exact False.elim hq
    | brk => exact False.elim hq
    | cont => exact False.elim hq
theorem pe_callS (F : FnOk X.prog X.w X.K X.mg X.base CX k f fd ps sp) (hr : Room k X.A) (hg : Gl X x) (hm : X.mg x = some (.ref f)) (hk : PySem.W.keepIn X.K (.ref f) = true) (hb : Binds X.K fd ps ds) (hd : Vals dvs ds) (hx : PassesS CX X E)
    (ha : PA X (e :: es) t) (hdb : (x == ("__debug__" : Str)) = false := by decide) (he : starEach (e :: es) X.env = (false, eval e X.env) :: starEach es X.env := by rfl) (hpl : (backTo pos (starEach es X.env)).any (·.1) = false := by rfl) :
    PE X (.Call (.Name x p) (e :: es) [] pos) (tCallS sp dvs E t) := by
  intro pins s σ H Q I h
  refine wpAny_Call_Name_kw (ld_glob I hg hm ?_ hdb)
  refine PySem.W.callWith_K (h₀ := X.base) I.ok.mod.kin hk (thn (ha pos pins s σ H _ I h) fun us s1 ⟨vs, H1, I1, r, q⟩ => ⟨I1.kIn, ?_⟩) he hpl
  exact run_fnS F hr hb hd hx I1 r q
end

/-! ### an own exception class without __init__ -/
theorem exc_in {K : PySem.W.Frag} {h : Heap} {C : Addr} {bmB : List Value} {newId : String} (X : K.In h) (q : PySem.W.excIn K C bmB newId = true) :
    ∃ bm N nm qn bs hdct sn sub ab col dd k0 k1 k2 k3 k5 mN, h.get? C = some (excClassObj nm qn C N bs bm hdct sn sub ab col dd k0 k1 k2 k3 k5 newId) ∧ h.Ns N mN ∧ mN "__init__" = none ∧ OwnTail h bmB bm := by
  unfold PySem.W.excIn at q
  split at q
  · rename_i dd cd sl ho
    split at q
    · rename_i C' bm k0 k1 k2 k3 n k5 hm hs
      simp only [Bool.and_eq_true, beq_iff_eq, Bool.not_eq_true'] at q
      obtain ⟨⟨⟨⟨⟨z1, z2⟩, hdel⟩, ht⟩, hok⟩, hni⟩ := q
      subst z1 z2
      obtain ⟨nm, bs, mro, ns, qn, hd, sn, sub, ab, col, del⟩ := cd
      dsimp only at hm hdel hok hni
      subst hm hdel
      have hsl : sl = #[k0, k1, k2, k3, some (.builtin n), k5] := by
        obtain ⟨l⟩ := sl
        simp only at hs
        rw [hs]
      subst hsl
      exact ⟨bm, ns, nm, qn, bs, hd, sn, sub, ab, col, dd, k0, k1, k2, k3, k5, _, X _ _ ho, .of_isNs (PySem.W.isNs_of_in X hok), PySem.W.nsMap_none_of_in X hok hni, PySem.W.tail_of_in X ht⟩
    · cases q
  · cases q
/-- raise C(..) -/
def tRaise (C : Addr) (E : St → XK) (t : TA) : TS := fun _ σ H => t σ H fun vs H1 => vs.length ≤ sizeLine ∧ E σ (.ref C) none H1
theorem ps_raise {X : Cx} {x : Str} {C : Addr} {e₀ : Expr} {rest : List Expr} {t : TA} {E : St → XK} {B newId initId : String} {bmB : List Value} {np cpos pos : Pos}
    (FB : ExcBaseFacts B newId initId bmB) (q : PySem.W.excIn X.K C bmB newId = true) (hr : RaisesS X E) (hc : X.calm = true) (hg : Gl X x) (hm : X.mg x = some (.ref C)) (ha : PA X (e₀ :: rest) t)
    (hdb : (x == ("__debug__" : Str)) = false := by decide) (he : starEach (e₀ :: rest) X.env = (false, eval e₀ X.env) :: starEach rest X.env := by rfl)
    (hpl : (backTo cpos (starEach rest X.env)).any (·.1) = false := by rfl) : PS X (.Raise (some (.Call (.Name x np) (e₀ :: rest) [] cpos)) none pos) (tRaise C E t) := by
  intro pins s σ H D I h
  obtain ⟨tl, N, nm, qn, bs, hdct, sn, sub, ab, col, dd, k0, k1, k2, k3, k5, mN, hC, hN, hni, T⟩ := exc_in I.ok.mod.kin q
  refine wpAny_Raise_call_subT (C := C) (nm := nm) (q := qn) (N := N) (bs := bs) (bm := tl) (hdct := hdct) (sn := sn) (sub := sub) (ab := ab) (col := col) (dd := dd) (k0 := k0) (k1 := k1) (k2 := k2) (k3 := k3) (k5 := k5)
    FB (mN := mN) (T.hasType FB.hasBase) (I.ok.hd hc) (by rw [he]; show (false || (backTo cpos (starEach rest X.env)).any (·.1)) = false; rw [hpl]; rfl) hni (ld_glob I hg hm ⟨rfl, ?_⟩ hdb)
  have h2 := ha cpos pins s σ H _ I h
  rw [he] at h2 ⊢
  exact Calls.evalArgs_plain (thn h2 fun us s2 ⟨vs, H2, I2, r2, hl, q2⟩ => ⟨rfl, by rw [← r2.length]; exact hl, I2.bk _ _ hC, hN.keeps I2.bk, T.keeps I2.bk, fun h' ea hm => hr pins σ H2 s2 h' ea _ _ I2 hm q2⟩)
end L2

set_option Elab.async false
set_option linter.all false
set_option maxRecDepth 100000
set_option maxHeartbeats 4000000
/-! try .. except C as n: one handler, no else, no finally. -/
namespace L2
open PySem PySem.Spec PyProof.Rows

/-- an object of the class C stands at a -/
def KAt (a : Addr) (C : Value) (h : Heap) : Prop := ∃ o, h.get? a = some o ∧ o.cls = C
/-- a caught exception -/
def ExcO (a : Addr) (C : Value) : HO := .ext (KAt a C)
theorem excO_ok {P : Program} {w : World} {H : Hp} {h : Heap} {a : Addr} {C : Value} (x : KAt a C h) : ObjOk P w H h a (ExcO a C) := by
  obtain ⟨o, e, c⟩ := x
  exact ⟨⟨o, e, c⟩, ⟨o, e⟩, fun h1 h2 ⟨o1, e1, c1⟩ k => ⟨o1, k o1 e1, c1⟩⟩
/-- the context of an except suite -/
abbrev Cx.inExc (X : Cx) (e : Addr) : Cx := { X with A := X.A.mark (some (.ref e)), calm := false, xe := fun _ _ => False }
theorem Cx.Ok.inExc {X : Cx} (ok : X.Ok) (e : Addr) : (X.inExc e).Ok :=
  ⟨ok.mod, ok.kind, ok.glob, ok.blt, ok.above, ok.inj, ok.has, ok.cab, (fun z => Bool.noConfusion z), ok.frames, ok.stk, ok.exf, ok.bs, ok.bsz, ok.noex, ok.exfs, ok.funs, ok.frf⟩
theorem Inv.inExc {X : Cx} {pins : List (Addr × Obj)} {σ : St} {H : Hp} {s : Shared} (I : Inv X pins σ H s) (e : Addr) : Inv (X.inExc e) pins σ H s := ⟨I.ok.inExc e, I.os, I.bare, I.base, I.loc, I.cell, I.free, I.freeC, I.pin, I.hok, I.len⟩
theorem Inv.outExc {X : Cx} {pins : List (Addr × Obj)} {σ : St} {H : Hp} {s : Shared} {e : Addr} (ok : X.Ok) (I : Inv (X.inExc e) pins σ H s) : Inv X pins σ H s := ⟨ok, I.os, I.bare, I.base, I.loc, I.cell, I.free, I.freeC, I.pin, I.hok, I.len⟩

/-- the context of a try's body: the pins of the outer state stay -/
abbrev Cx.tryB (X : Cx) (pins : List (Addr × Obj)) (E : Value → Shared → Prop) : Cx := { X with xe := E, pn := X.pn ++ pins }
theorem Cx.Ok.tryB {X : Cx} (ok : X.Ok) (pins : List (Addr × Obj)) (E : Value → Shared → Prop) : (X.tryB pins E).Ok :=
  ⟨ok.mod, ok.kind, ok.glob, ok.blt, ok.above, ok.inj, ok.has, ok.cab, ok.hd, ok.frames, ok.stk, ok.exf, ok.bs, ok.bsz, ok.noex, ok.exfs, ok.funs, ok.frf⟩
theorem Inv.tryB {X : Cx} {pins : List (Addr × Obj)} {σ : St} {H : Hp} {s : Shared} (I : Inv X pins σ H s) (E : Value → Shared → Prop) : Inv (X.tryB pins E) [] σ H s :=
  ⟨I.ok.tryB pins E, I.os, I.bare, I.base, I.loc, I.cell, I.free, I.freeC, fun p hp => I.pin p (by simpa using hp), I.hok, I.len⟩
theorem Inv.untry {X : Cx} {pins ps : List (Addr × Obj)} {σ : St} {H : Hp} {s : Shared} {E : Value → Shared → Prop} (ok : X.Ok) (I : Inv (X.tryB pins E) ps σ H s) : Inv X pins σ H s :=
  ⟨ok, I.os, I.bare, I.base, I.loc, I.cell, I.free, I.freeC, fun p hp => I.pin p (List.mem_append_left _ hp), I.hok, I.len⟩
theorem SP.untry {X : Cx} {pins ps : List (Addr × Obj)} {E : Value → Shared → Prop} {D : Ends} {f : Flow} {s' : Shared} (ok : X.Ok) (h : SP (X.tryB pins E) ps D f s') : SP X pins D f s' := by
  cases f with
  | next => obtain ⟨σ', H', I, q⟩ := h; exact ⟨σ', H', I.untry ok, q⟩
  | brk => obtain ⟨σ', H', I, q⟩ := h; exact ⟨σ', H', I.untry ok, q⟩
  | cont => obtain ⟨σ', H', I, q⟩ := h; exact ⟨σ', H', I.untry ok, q⟩
  | ret u => obtain ⟨v, σ', H', I, r, q⟩ := h; exact ⟨v, σ', H', I.untry ok, r, q⟩

/-- a name goes -/
theorem name_gone {X : Cx} {pins : List (Addr × Obj)} {σ : St} {H : Hp} {s : Shared} {E : Value → Shared → Prop} {A : Around} {i : Nat} {n : Str} {pos : Pos} {Q : Unit → Shared → Prop} (I : Inv X pins σ H s) (hN : X.N.Nodup) (hi : X.N[i]? = some n) (hx : X.env.scope.names.lookup n = some .local)
    (h : ∀ s', Inv X pins (σ.set i none) H s' → Q () s') : wpAny (model X.prog X.w) A (do bindName X.env n .none; unbindBehindTheSuite X.env n pos) Q E s := by
  obtain ⟨m, hn, hl⟩ := id I.loc
  have hcls : (X.env.scope.kind == .class || (X.env.scope.kind == .module && X.env.locals != X.env.globals)) = false := by rw [I.ok.kind]; rfl
  have hiσ : i < σ.length := by rw [I.len]; exact (List.getElem?_eq_some_iff.mp hi).1
  obtain ⟨oL, _, _, hoL, _⟩ := id hn
  refine wpAny_nameGoes_keeps hx hn hcls fun h' v hn' hs => h _ ?_
  refine ⟨I.ok, I.os, I.bare, ⟨fun b o e n hb hx => ?_, fun b o e n hb hx => ?_, I.base.free, fun b o e hx => ?_, I.base.tups, I.base.frzs, I.base.tbls⟩, ⟨_, hn', fun j y v' e1 e2 e3 => ?_⟩, fun y c e => ?_, I.free, I.freeC, fun p hp => ?_, fun b ob e => ?_, by simpa using I.len⟩
  · exact (hs.2 b (Nat.ne_of_lt (Nat.lt_of_lt_of_le (Heap.lt_size e) I.ok.above))).trans (I.base.keep b o e n hb hx)
  · obtain ⟨sl, e1⟩ := I.base.slot b o e n hb hx
    exact ⟨sl, (hs.2 b (Nat.ne_of_lt (Nat.lt_of_lt_of_le (Heap.lt_size e) I.ok.above))).trans e1⟩
  · obtain ⟨o', e1⟩ := I.base.there b o e hx
    exact ⟨o', (hs.2 b (Nat.ne_of_lt (Nat.lt_of_lt_of_le (Heap.lt_size e) I.ok.above))).trans e1⟩
  · by_cases hj : j = i
    · subst hj
      rw [List.getElem?_set_self hiσ] at e2
      cases e2
    · rw [List.getElem?_set_ne (Ne.symm hj)] at e2
      obtain ⟨u', r', q⟩ := hl j y v' e1 e2 e3
      refine ⟨u', r', ?_⟩
      rcases q with ⟨k, e⟩ | ⟨k, c, e, z⟩
      · refine .inl ⟨k, ?_⟩
        have hne : y ≠ n := fun e => hj (nodup_ix hN e1 (e ▸ hi))
        simp [hne, e]
      · exact .inr ⟨k, c, e, z.sameBut hs (I.cne y c e)⟩
  · obtain ⟨w', z⟩ := I.cell y c e
    exact ⟨w', z.sameBut hs (I.cne y c e)⟩
  · obtain ⟨e, n, ne, nf, d⟩ := I.pin p hp
    exact ⟨(hs.2 p.1 ne).trans e, n, ne, nf, d⟩
  · refine (I.hok b ob e).stay (fun c w' hc q => (hs.2 c ?_).trans q) (fun _ q => q) fun _ _ q => q
    intro z
    subst z
    rcases hc with y | y
    · rw [← y, I.free] at e; cases e
    · rw [I.free] at y; cases y

/-- try: body / except C as n: suite. What the body wants of an exception: its class is caught, and the suite goes on from there -/
def tTryE (K : PySem.W.Frag) (Cv : Value) (i : Nat) (ts : TS) (D : Ends) : St → XK := fun σ cls _ H => PySem.W.exmOne K cls Cv = some true ∧ ∀ ea, H ea = none →
  ts { nx := fun σ' H' => D.nx (σ'.set i none) H', rt := D.rt, bk := fun σ' H' => D.bk (σ'.set i none) H', ct := fun σ' H' => D.ct (σ'.set i none) H' } (σ.set i (some (.ref ea))) (upd H ea (ExcO ea cls))
def tTry (K : PySem.W.Frag) (Cv : Value) (i : Nat) (tb : (St → XK) → TS) (ts : TS) : TS := fun D σ H => tb (tTryE K Cv i ts D) D σ H

theorem ps_try {X : Cx} {body : List Stmt} {xc n : Str} {np hpos pos : Pos} {b₀ : Stmt} {suite : List Stmt} {tb : (St → XK) → TS} {ts : TS} {Cv : Value} {i : Nat} (hst : X.stack = X.env :: X.outer) (hfr : X.env.frame = some X.env.locals) (hN : X.N.Nodup) (hi : X.N[i]? = some n) (hn : X.env.scope.names.lookup n = some .local)
    (hg : Gl X xc) (hm : X.mg xc = some Cv ∨ (X.mg xc = none ∧ bootBuiltins xc = some Cv ∧ xc ≠ "__name__"))
    (hb : ∀ ps xe E, PassesS (Fly X.prog X.w) (X.tryB ps xe) E → PSs (X.tryB ps xe) body (tb E)) (hs : ∀ e, PSs (X.inExc e) (b₀ :: suite) ts) (hdb : (xc == ("__debug__" : Str)) = false := by decide) :
    PS X (.Try body [.ExceptHandler (some (.Name xc np)) (some n) (b₀ :: suite) hpos] [] [] pos) (tTry X.K Cv i tb ts) := by
  intro pins s σ H D I h
  have fall : ∀ (σ1 : St) (H1 H' : Hp) (s1 s' : Shared) (ea : Addr) (cls a0 : Value) (B : Heap), Inv X pins σ1 H1 s1 → s'.os = s1.os → AllBare s'.gens → Heap.FlyingW B X.stack ea cls a0 s'.heap → HOk X.prog X.w H' B → FlyU (frs X.stack) H1 H' s1.heap B s'.heap → tTryE X.K Cv i ts D σ1 cls none H' →
      wpAny (model X.prog X.w) X.A (noteFrame (.ref ea) X.env) (fun _ s₂ => wpAny (model X.prog X.w) X.A (setFlight (.ref ea) none) (fun _ s₃ => wpAny (model X.prog X.w) X.A (handleBy (.ref ea) X.env [.ExceptHandler (some (.Name xc np)) (some n) (b₀ :: suite) hpos]) (SP X pins D) X.xe s₃) X.xe s₂) X.xe s' := by
    intro σ1 H1 H' s1 s' ea cls a0 B I1 hos hbare hfl hok U q
    obtain ⟨he, q⟩ := q
    have ff := hfl.2.2.1
    rw [hst] at hfl
    refine wpAny_looks_onW (by rw [I1.ok.frames, hst]) hfr hfl fun h4 x4 u4 => ?_
    refine wpAny_landsW x4 fun h5 x5 u5 => ?_
    have U5 : FlyU (frs X.stack) H1 H' s1.heap B h5 := U.land ff (u4.trans u5)
    have hf1 : ∀ b ∈ frs X.stack, H1 b = none := I1.stkFree
    have I5 : Inv X pins σ1 H' { s' with heap := h5 } := I1.call' (s' := { s' with heap := h5 }) hos (U5.un x5.1 hf1) (hok.kept x5.1) hbare fun b z => nomatch z
    have ty5 : PySem.W.Looks (model X.prog X.w) h5 (typeOf (.ref ea)) cls := by
      obtain ⟨ob, hob, hc⟩ := x5.there
      subst hc
      exact (PySem.W.Looks.ld hob).andThen .now
    have I5' := I5.inExc ea
    refine wpAny_handleBy_cons (codeAny_handlers_test ?_) (by intro z; cases z)
    have go : wpAny (model X.prog X.w) (X.A.mark (some (.ref ea))) (eval (.Name xc np) X.env) (fun c s₁ => c = Cv ∧ s₁ = { s' with heap := h5 }) (notedBy (model X.prog X.w) (X.A.mark (some (.ref ea))) X.env (cameBackBy (model X.prog X.w) X.A X.env X.xe)) { s' with heap := h5 } := by
      rcases hm with hm | ⟨hm, hv, hnn⟩
      · exact ld_glob (X := X.inExc ea) I5' hg hm ⟨rfl, rfl⟩ hdb
      · exact ld_blt (X := X.inExc ea) I5' hg hm hv ⟨rfl, rfl⟩ hnn hdb
    refine wpAny_mono go (fun c s₁ hc => ?_) fun _ _ z => z
    obtain ⟨hc1, hc2⟩ := hc
    subst hc1 hc2
    refine (PySem.W.exm_one I5.kIn ty5 he).here ?_
    show codeAny _ _ _ _ _
    refine codeAny_handlers_suite_as ?_
    refine lands_againW x5 fun h6 x6 u6 => ?_
    have ff5 := x5.2.2.1
    rw [← hst] at ff5
    have U6 : FlyU (frs X.stack) H1 H' s1.heap B h6 := U5.land ff5 u6
    have hBe : B.get? ea = none := x6.2.1
    have he' : H' ea = none := hok.untracked hBe
    obtain ⟨oe, hoe, hoc⟩ := x6.there
    obtain ⟨oe', vs', hoe', _, hod', _⟩ := x6.first
    have ns1 : s1.heap.get? ea = none := by
      cases z : s1.heap.get? ea with
      | none => rfl
      | some o =>
        by_cases y : ea ∈ frs X.stack
        · have y' := y
          rw [hst] at y'
          obtain ⟨_, o2, e2, d2⟩ := x6.2.2.1.mem y'
          rw [hoe'] at e2
          cases e2
          exact absurd hod' (d2 vs')
        · obtain ⟨o', e'⟩ := U6.inB ea o z y
          rw [hBe] at e'
          cases e'
    have nu : ∀ b o, s1.heap.get? b = some o → b ≠ ea := fun b o e z => by rw [z, ns1] at e; cases e
    have hok6 : HOk X.prog X.w H' h6 := hok.kept x6.1
    have hokE : HOk X.prog X.w (upd H' ea (ExcO ea cls)) h6 := fun b u e => by
      by_cases y : b = ea
      · subst y
        rw [upd_same] at e
        cases e
        exact excO_ok ⟨oe, hoe, hoc⟩
      · rw [upd_ne y] at e
        exact (hok6 b u e).stay (fun _ _ _ z => z) (fun c z => by rw [upd_ne (ne_of_none z he')]; exact z) fun c xs z => by rw [upd_ne (ne_of_none z he')]; exact z
    have un6 := U6.un x6.1 hf1
    have unE : Un (frs X.stack) [] H1 (upd H' ea (ExcO ea cls)) s1.heap h6 :=
      ⟨un6.keep, un6.slot, fun b o e n hx => by rw [upd_ne (nu b o e)]; exact un6.free b o e n hx, un6.there, fun b xs e => by
        have z := un6.tups b xs e
        rw [upd_ne (ne_of_none z he')]; exact z, fun b o u e => by
        have z := un6.frzs b o u e
        rw [upd_ne (ne_of_none z he')]; exact z, fun b ps e => by
        obtain ⟨m, z⟩ := un6.tbls b ps e
        exact ⟨m, by rw [upd_ne (ne_of_none z he')]; exact z⟩⟩
    have I6 : Inv X pins σ1 (upd H' ea (ExcO ea cls)) { s' with heap := h6 } := I1.call' (s' := { s' with heap := h6 }) hos unE hokE hbare fun b z => nomatch z
    refine store_ok (X := X.inExc ea) (I6.inExc ea) hN hi (.inl hn) (v := .ref ea) rfl (fun s7 I7 => ?_) (.inr hn)
    refine wpAny_mono (hs ea pins s7 _ _ _ I7 (q ea he')) (fun f s8 h8 => ?_) fun _ _ z => z.elim
    cases f with
    | next =>
      obtain ⟨σ', H8, I8, q8⟩ := h8
      exact name_gone (I8.outExc I.ok) hN hi hn fun s9 I9 => ⟨_, H8, I9, q8⟩
    | brk =>
      obtain ⟨σ', H8, I8, q8⟩ := h8
      exact name_gone (I8.outExc I.ok) hN hi hn fun s9 I9 => ⟨_, H8, I9, q8⟩
    | cont =>
      obtain ⟨σ', H8, I8, q8⟩ := h8
      exact name_gone (I8.outExc I.ok) hN hi hn fun s9 I9 => ⟨_, H8, I9, q8⟩
    | ret u =>
      obtain ⟨v, σ', H8, I8, r8, q8⟩ := h8
      exact name_gone (I8.outExc I.ok) hN hi hn fun s9 I9 => ⟨v, _, H8, I9, r8, q8⟩
  refine wpAny_Try_except ?_
  refine wpAny_mono (hb pins (fun e s₁ => wpAny (model X.prog X.w) X.A (noteFrame e X.env) (fun _ s₂ => wpAny (model X.prog X.w) X.A (setFlight e none) (fun _ s₃ => wpAny (model X.prog X.w) X.A (handleBy e X.env [.ExceptHandler (some (.Name xc np)) (some n) (b₀ :: suite) hpos]) (SP X pins D) X.xe s₃) X.xe s₂) X.xe s₁)
    (tTryE X.K Cv i ts D) ?_ [] s σ H D (I.tryB _) h) (fun f s1 q => ?_) fun _ _ z => z
  · intro ps σ1 H1 s1 e s' I1 hfly
    obtain ⟨ea, cls, a0, H', B, he, hos, hbare, hfl, hok, U, q⟩ := hfly
    subst he
    exact fall σ1 H1 H' s1 s' ea cls a0 B (I1.untry I.ok) hos hbare hfl hok U q
  · have q' := q.untry I.ok
    cases f with
    | next => exact wpAny_execs_nil q'
    | ret v => exact q'
    | brk => exact q'
    | cont => exact q'
end L2

set_option Elab.async false
set_option linter.all false
set_option maxRecDepth 100000
set_option maxHeartbeats 4000000
/-! More operations: sizes, isinstance, is, tuples and lists compared, f-strings. -/
namespace L2
open PySem PySem.Spec PyProof.Rows FrM

theorem sz_bits {a : Int} {n : Nat} (h : Sz n a) : Builtin.Int.intBits a ≤ n := by
  unfold Builtin.Int.intBits
  split
  · exact Nat.zero_le _
  · rcases Nat.eq_zero_or_pos a.natAbs with h0 | hp
    · have hn : 0 < n := by
        cases n with
        | zero => exact absurd (show a = 0 by omega) (by rename_i q; simpa using q)
        | succ n => exact Nat.succ_pos n
      have : a.natAbs.log2 = 0 := by rw [h0]; rfl
      omega
    · have : a.natAbs.log2 < n := (Nat.log2_lt (Nat.ne_of_gt hp)).mpr h
      omega
theorem sz_log {a : Int} {n : Nat} (h : Sz n a) (hn : 0 < n) : a.natAbs.log2 < n := by
  rcases Nat.eq_zero_or_pos a.natAbs with h0 | hp
  · rw [h0]; exact hn
  · exact (Nat.log2_lt (Nat.ne_of_gt hp)).mpr h
section
variable {X : Cx} {pos : Pos}
theorem op_mulS : OpR X (binaryOp .Mult) (rI (fun i j => Sz 4000 i ∧ Sz 4000 j) fun i j => .int (i * j)) :=
  opI fun _ _ _ _ _ _ _ hc q => mul_int q (IntMulOk.of_bits (Nat.le_trans (sz_bits hc.1) (by decide)) (Nat.le_trans (sz_bits hc.2) (by decide)))
theorem op_fdivS : OpR X (binaryOp .FloorDiv) (rI (fun _ j => 0 < j ∧ Sz 4000 j) fun i j => .int (i / j)) := opI fun i j _ _ _ _ _ hc q => by
  have h1 : (0 : Int) < j := hc.1
  have e : i.fdiv j = i / j := Int.fdiv_eq_ediv_of_nonneg i (Int.le_of_lt h1)
  refine floordiv_int (by omega) ?_ (.inl (PyProof.noPylong_of_log2 (Nat.lt_of_lt_of_le (sz_log hc.2 (by decide)) (by decide))))
  rw [e]
  exact q
/-- a class as a value -/
def ClsV : V → Value → Prop
  | .ref a, c => c = .ref a
  | .ty n, c => c = .type n
  | _, _ => False
theorem ClsV.eq {cv : V} {c v : Value} (h : ClsV cv c) (r : RelV cv v) : v = c := by
  cases cv <;> first | exact h.elim | (cases (show v = _ from r); cases (show c = _ from h); rfl)
/-- isinstance of a value whose kind is known -/
def rIsi (K : PySem.W.Frag) : List V → Hp → VK → Prop := fun xs H Q => ∃ x cv t c b, xs = [x, cv] ∧ ClsV cv c ∧ TyOf K H x t ∧ PySem.W.kitOne K t c = some b ∧ Q (.bl b) H
theorem call_isi : CallR X (.builtin "isinstance") (rIsi X.K) := by
  intro pins s σ H xs us Q I r h
  obtain ⟨x, cv, t, c, b, rfl, rc, ty, e, q⟩ := h
  obtain ⟨u, v, rfl, ru, rv⟩ := Vals.two r
  have ec : v = c := rc.eq rv
  subst ec
  exact isinst_ok I ru ty e fun tk => ⟨.bl b, H, I.tok tk, rfl, q⟩

/-- a list compared with an empty one -/
theorem op_eqNil (hu : X.A.units < cLine) : OpR X (compareOp .Eq) (fun x y H Q => ∃ a b xs, x = .ref a ∧ y = .ref b ∧ SqL X.K H a xs ∧ SqL X.K H b [] ∧ Q (.bl xs.isEmpty) H) := by
  intro pins s σ H x y v u Q I rx ry h
  obtain ⟨a, b, xs, rfl, rfl, ha, hb, q⟩ := h
  cases rx
  cases ry
  obtain ⟨its, r, pl, _⟩ := I.list ha
  obtain ⟨its', r', pl', _⟩ := I.list hb
  cases r'
  cases r with
  | nil => exact SeqAt.eq_listAt (e := fun _ => true) pl.isList pl'.isList rfl hu (fun j h1 _ => absurd h1 (by simp)) ⟨.bl true, H, I, rfl, q⟩
  | cons r1 r2 => exact SeqAt.eq_list_lengthsAt pl.isList pl'.isList (by simp) hu ⟨.bl false, H, I, rfl, q⟩
/-! ### data: ints, texts, tuples of these at any depth -/
theorem Inv.tupl {pins : List (Addr × Obj)} {σ : St} {H : Hp} {s : Shared} {p : Addr} {xs : List V} (I : Inv X pins σ H s) (h : H p = some (.tup xs)) : ∃ its : List Value, Vals xs its ∧ s.heap.IsTuple p its.toArray := by
  obtain ⟨its, r, pl, _⟩ := I.tuple (SqT.of (K := X.K) h)
  exact ⟨its, r, pl⟩
theorem all_true (n : Nat) : (List.range n).all (fun _ => true) = true := by
  rw [List.all_eq_true]
  intro _ _
  rfl
/-! ### f-strings of ints and texts -/
end
end L2

set_option Elab.async false
set_option linter.all false
set_option maxRecDepth 100000
set_option maxHeartbeats 4000000
/-! [e for x in xs if c]: one clause, one test, a plain name; names of the def around it through cells. -/
namespace L2
open PySem PySem.Spec PyProof.Rows

theorem lt_sz {h : Heap} {b : Addr} {o : Obj} (e : h.get? b = some o) : @LT.lt Nat _ b h.objs.size := Heap.lt_size e
/-- the context of a comprehension's block: C its names' dict, cl its cells, fp the iterator's records -/
abbrev Cx.comp (X : Cx) (scope : Scope) (cl : List (Str × Addr)) (C : Addr) (N : List Str) (s₂ : Shared) (H₂ : Hp) (fp : List Addr) : Cx :=
  { X with N := N, s₀ := s₂, H₀ := H₂, env := compEnvC scope cl C X.env, outer := X.stack, ex := fp, fn := fun _ => false, pn := [], xe := fun _ _ => False }
/-- the values of the names around it -/
def around (fr : List Nat) (σ : St) : St := fr.map fun i => (σ[i]?).getD none
end L2

set_option Elab.async false
set_option linter.all false
set_option maxRecDepth 100000
set_option maxHeartbeats 4000000
namespace PySem
open PySem.Spec

section
variable {prog : Program} {w : World} {A : Around} {E : Value → Shared → Prop} {h : Heap} {g : Array GenState} {d : Drawn} {t : Nat} {os : OsState}
variable {nm q : Str} {C N : Addr} {bs bm bmB : List Value} {hdct : Bool} {sn : List Str} {sub : List Value} {ab : Bool} {col : Option Bool} {dd : Option Addr} {k0 k1 k2 k3 k5 : Option Value} {B newId initId : String}

end
end PySem
namespace PySem.W
open PySem PySem.Calls PyProof.Rows Builtin Builtin.ObjectAttr Builtin.Getset_descriptor
def excMro : List Value → Bool
  | .ref _ :: r => excMro r
  | l => l == [.type "ValueError", .type "Exception", .type "BaseException", .type "object"]
section
variable {prog : Program} {w : World} {A : Around} {E : Value → Shared → Prop} {s : Shared} {K : Frag} {x C : Addr} {ox : Obj} {od : Option Obj} {name : Str} {R : Result → Shared → Prop}
theorem xget_by {tk : Tok} {fill expr : Bool} {Q : Value → Shared → Prop} (X : K.In s.heap) (L0 : Looks (model prog w) s.heap (typeOf (.ref x)) (.ref C)) (hga : findIn K (.ref C) "__getattribute__" = some (some (.builtin "BaseException.__getattribute__")))
    (hgn : findIn K (.ref C) "__getattr__" = some none) (hbe : mroIn K C (.type "BaseException") = some true)
    (h : wpAny (model prog w) A.in1 (Builtin.«object.__getattribute__» ⟨[.ref x, .str name tk], []⟩) (fun fin s' => match fin with | .done (.ret v) => wpAny (model prog w) A (handedOut v) Q E s' | _ => False) (fun _ _ => False) s) :
    wpAny (model prog w) A (getAttrBy (.ref x) (.str name tk) fill expr) Q E s := by
  have L1 := looks_findIn (M := model prog w) X hga
  have L2 := looks_findIn (M := model prog w) X hgn
  have sub : Looks (model prog w) s.heap (isInstance (.ref x) (.type "BaseException")) true := L0.andThen (looks_mroIn X hbe)
  have hx2 : (Value.builtin "BaseException.__getattribute__" == Value.builtin "object.__getattribute__") = false := by decide +kernel
  have FB := PySem.F.attr_ValueError
  unfold getAttrBy
  refine wpAny_holding (wpAny_bind (L0.here (wpAny_bind (L1.here ?_))))
  dsimp only
  rw [hx2, Bool.and_false, if_neg (by decide)]
  unfold getAttrByItsOwn hookBefore
  rw [if_pos (show onTheHeap (.ref C) = true from rfl)]
  refine wpAny_bind (L2.here (wpAny_bind (wpAny_attempt (wpAny_holding ?_))))
  unfold callGetattribute
  rw [if_neg (by cases expr <;> decide)]
  unfold boundAndCalled
  rw [FB.ga.bind (.ref x)]
  refine wpAny_bind (wpAny_pure (wpAny_call (codeAny_call_builtin FB.ga.plain PySem.F.entry_bexc_ga (@check_slot (model prog w) _ _ s "BaseException.__getattribute__" "BaseException" "__getattribute__" (.ref x) [.str name tk] [] _ (by decide +kernel) (by decide +kernel) sub (PySem.F.args_bexc_ga (.ref x) (.str name tk)) ?_))))
  refine wpAny_mono h (fun fin s' z => ?_) fun _ _ z => z.elim
  rcases fin with (_ | _ | _ | _) | _ <;> first | exact z | exact z.elim

theorem xclass_get {tp : Value} (X : K.In s.heap) (L0 : ∀ M, Looks M s.heap (typeOf (.ref x)) (.ref C)) (hm : mroIn K C (.type "object") = some true)
    (h : R (.ok (.ret (.ref C))) s) : codeAny (model prog w) A (.call (.builtin "getset_descriptor.__get__") ⟨[.builtin "object.__class__", .ref x, tp], []⟩) R s := by
  obtain ⟨hh, g, dr, t, os⟩ := s
  have L0 := L0 (model prog w)
  have L1 := looks_mroIn (M := model prog w) X hm
  refine codeAny_call_builtin KF.slot_gs.plain KF.entry_gs (KF.slot_gs.check _ _ _ _ _ _ _ _ KF.type_class (KF.args_gs _ _ _) ?_)
  unfold Builtin.«getset_descriptor.__get__» descrGet
  rw [dga_obj]
  refine wpAny_bind (wpAny_pure ?_)
  unfold descrGetter descrCheckInstance descrNameAndClass isInstance
  simp only [KF.owner_class]
  repeat lk
  refine ⟨Code.quiet_builtin _ (by decide +kernel), codeAny_builtin KF.entry_class ?_⟩
  unfold Builtin.«object.__class__» shownTypeOf
  repeat lk
  exact h
theorem xfind_class (X : K.In s.heap) (ha : findIn K (.ref C) "__class__" = some (some (.builtin "object.__class__")))
    (hn : specialIn K (.builtin "object.__class__") "__get__" = some (some (.builtin "getset_descriptor.__get__"))) (htk : takesIn K (.builtin "object.__class__") = some true) (M : Model) :
    Looks M s.heap (find (.ref x) (.ref C) "__class__") (.bind (.builtin "getset_descriptor.__get__") (.builtin "object.__class__")) := by
  have L1 := looks_findIn (M := M) X ha
  have L2 : Looks M s.heap (getOf (some (.builtin "object.__class__"))) (some (.builtin "getset_descriptor.__get__")) := looks_specialIn X hn
  have L3 := looks_takesIn (M := M) X htk
  refine L1.andThen (L2.andThen ?_)
  refine Looks.andThen (L3.andThen .now) ?_
  exact Looks.tag .now

theorem xclass {Q : Option Value → Shared → Prop} (X : K.In s.heap) (L0 : ∀ M, Looks M s.heap (typeOf (.ref x)) (.ref C)) (hga : findIn K (.ref C) "__getattribute__" = some (some (.builtin "BaseException.__getattribute__")))
    (hgn : findIn K (.ref C) "__getattr__" = some none) (hbe : mroIn K C (.type "BaseException") = some true) (hob : mroIn K C (.type "object") = some true)
    (ha : findIn K (.ref C) "__class__" = some (some (.builtin "object.__class__"))) (hn : specialIn K (.builtin "object.__class__") "__get__" = some (some (.builtin "getset_descriptor.__get__"))) (htk : takesIn K (.builtin "object.__class__") = some true)
    (h : Q (some (.ref C)) { s with toks := s.toks + 1 }) : wpAny (model prog w) A (getAttr? (.ref x) "__class__") Q E s := by
  have L1 := xfind_class (x := x) X ha hn htk (model prog w)
  obtain ⟨hp0, g, d, t, os⟩ := s
  unfold getAttr? getAttrBy?
  refine wpAny_bind (wpAny_mkText (wpAny_bind (wpAny_attempt (xget_by (s := ⟨hp0, g, d, t + 1, os⟩) X (L0 _) hga hgn hbe ?_))))
  refine wpAny_bind (wpAny_pure (wpAny_bind (wpAny_pure (wpAny_bind ((L0 _).at (wpAny_bind (L1.at ?_)))))))
  show wpAny _ _ (bindTo _ _ _ _) _ _ _
  unfold bindTo
  refine wpAny_bind (wpAny_holding (wpAny_call (xclass_get (s := ⟨hp0, g, d, t + 1, os⟩) X L0 hob ?_)))
  refine wpAny_pure ?_
  show wpAny _ _ (handedOut (.ref C)) _ _ _
  rw [handedOut_of rfl]; exact wpAny_pure (wpAny_pure h)
end
end PySem.W

set_option Elab.async false
set_option linter.all false
set_option maxRecDepth 100000
set_option maxHeartbeats 4000000
/-! Own exceptions that are made, with fields: made, stored into, read, asked for their class. -/
namespace L2
open PySem PySem.Spec PyProof.Rows

/-- what is asked of a class of refusals -/
structure XCls (K : PySem.W.Frag) (C : Addr) : Prop where
  ga : PySem.W.findIn K (.ref C) "__getattribute__" = some (some (.builtin "BaseException.__getattribute__"))
  gn : PySem.W.findIn K (.ref C) "__getattr__" = some none
  sa : PySem.W.findIn K (.ref C) "__setattr__" = some (some (.builtin "object.__setattr__"))
  be : PySem.W.mroIn K C (.type "BaseException") = some true
  ob : PySem.W.mroIn K C (.type "object") = some true
  mro : (PySem.W.clsIn K C).any (fun cd => PySem.W.excMro cd.mro) = true
  hd : PySem.W.hasDictIn K C = true
  ca : PySem.W.findIn K (.ref C) "__class__" = some (some (.builtin "object.__class__"))
  cg : PySem.W.specialIn K (.builtin "object.__class__") "__get__" = some (some (.builtin "getset_descriptor.__get__"))
  ct : PySem.W.takesIn K (.builtin "object.__class__") = some true

theorem kat_looks {a C : Addr} {h : Heap} (k : KAt a (.ref C) h) (M : Model) : PySem.W.Looks M h (typeOf (.ref a)) (.ref C) := by
  obtain ⟨o, h1, h2⟩ := k
  exact h2 ▸ (PySem.W.Looks.ld h1).andThen .now
theorem kitx_exc {K : PySem.W.Frag} {a C : Addr} (c : XCls K C) : PySem.W.KitX K (.ref a) (.ref C) (KAt a (.ref C)) where
  ty := fun M h _ p => kat_looks p M
  it := fun _ _ X _ => by
    obtain ⟨cdD, hcD, _⟩ := PySem.W.any_some c.hd
    unfold PySem.W.clsIn at hcD
    split at hcD
    · rename_i c' d' cd' sl' ho
      intro A' Q' E' s' k q
      unfold isType loadHead
      exact wpAny_bind (wpAny_loadPart (k _ _ (X _ _ ho)) (wpAny_pure q))
    · cases hcD
  ne := fun h tp dd its n sl X htp => by
    obtain ⟨cdD, hcD, _⟩ := PySem.W.any_some c.hd
    refine Bool.eq_false_iff.mpr fun q => ?_
    have e : C = tp := Value.ref.inj (beq_iff_eq.mp q)
    subst e
    unfold PySem.W.clsIn at hcD
    split at hcD
    · rename_i c' d' cd' sl' ho
      have z := (X _ _ ho).symm.trans htp
      cases z
    · cases hcD
  ca := fun X p k => PySem.W.xclass X (kat_looks p) c.ga c.gn c.be c.ob c.ca c.cg c.ct k

/-- isinstance of an exception whose class is known -/
def rIsiX (K : PySem.W.Frag) : List V → Hp → VK → Prop := fun xs H Q => ∃ ea C cv c b φ, xs = [.ref ea, cv] ∧ ClsV cv c ∧ H ea = some (.ext φ) ∧ (∀ h, φ h → KAt ea (.ref C) h) ∧ XCls K C ∧ PySem.W.kitOne K (.ref C) c = some b ∧ Q (.bl b) H
theorem call_isiX {X : Cx} : CallR X (.builtin "isinstance") (rIsiX X.K) := by
  intro pins s σ H xs us Q I r h
  obtain ⟨ea, C, cv, c, b, φ, rfl, rc, hH, hφ, xc, e, q⟩ := h
  obtain ⟨u, v, rfl, ru, rv⟩ := Vals.two r
  cases (show u = _ from ru)
  have ec : v = c := rc.eq rv
  subst ec
  obtain ⟨p, _⟩ := (show ObjOk X.prog X.w H s.heap ea (.ext φ) from I.hok ea _ hH)
  exact PySem.W.kia_one (kitx_exc xc) I.kIn (hφ _ p) e (fun z => nomatch z) fun tk => ⟨.bl b, H, I.tok tk, rfl, q⟩

/-- the same where the context's own facts are known by another name -/
theorem call_isiK {X : Cx} {K : PySem.W.Frag} (h : X.K = K) : CallR X (.builtin "isinstance") (rIsi K) := by
  subst h
  exact call_isi
theorem call_isiXK {X : Cx} {K : PySem.W.Frag} (h : X.K = K) : CallR X (.builtin "isinstance") (rIsiX K) := by
  subst h
  exact call_isiX
/-- a weaker reading -/
theorem PE.imp {X : Cx} {e : Expr} {t t' : TE} (h : PE X e t) (f : ∀ σ H Q, t' σ H Q → t σ H Q) : PE X e t' := fun pins s σ H Q I q => h pins s σ H Q I (f σ H Q q)
/-! ### a made exception: the object, its dict -/
section
variable {X : Cx} {o e value : Expr} {f : Str} {pos pos' : Pos} {ta tv : TE}
end

/-! ### made by a call of its class -/
section
variable {X : Cx} {CX : CXT} {k : Nat} {f C : Addr} {fd : FuncData} {ps : List Str} {sp : Sp} {E : XK} {x : Str} {p pos : Pos} {e : Expr} {es : List Expr} {t : TA}
end
end L2

set_option Elab.async false
set_option linter.all false
set_option maxRecDepth 100000
set_option maxHeartbeats 4000000
/-! The judgements closed up (so that no elaborator looks into them): displays, an item at a time. -/
namespace L2
open PySem PySem.Spec PyProof.Rows
def noStar : Expr → Bool
  | .Starred .. => false
  | _ => true
theorem star_cons {e : Expr} {es : List Expr} {env : Env} (h : noStar e = true) : starEach (e :: es) env = (false, eval e env) :: starEach es env := by
  cases e <;> first | rfl | cases h
structure QE (X : Cx) (e : Expr) (t : TE) : Prop where
  out : PE X e t
structure QA (X : Cx) (es : List Expr) (t : TA) : Prop where
  out : PA X es t
section
variable {X : Cx} {a : Expr} {es : List Expr} {ta : TE} {t : TA} {j : Nat} {pos : Pos}
theorem qc (ha : QE X a ta) (hr : QA X es t) (h : noStar a = true) : QA X (a :: es) (tCons ta t) := ⟨pa_cons ha.out hr.out (star_cons h)⟩
theorem q_nil : QA X [] tNil := ⟨pa_nil⟩
theorem q_int {i : Int} : QE X (.Constant (.int i) j pos) (tC (.int i)) := ⟨pe_int⟩
theorem q_bl {b : Bool} : QE X (.Constant (.bool b) j pos) (tC (.bl b)) := ⟨pe_bl⟩
theorem q_str {x : Str} : QE X (.Constant (.str x) j pos) (tC (.str x)) := ⟨pe_str⟩
theorem q_non : QE X (.Constant .none j pos) (tC .non) := ⟨pe_non⟩
theorem q_tup (h : QA X es t) : QE X (.Tuple es j pos) (tTup t) := ⟨pe_tup h.out⟩
theorem q_lst (h : QA X es t) : QE X (.List es pos) (tLst t) := ⟨pe_lst h.out⟩
theorem q_neg (h : QE X a ta) : QE X (.UnaryOp .USub a pos) (tUn (rU fun i => .int (-i)) ta) := ⟨pe_un un_neg h.out⟩
end
end L2

set_option Elab.async false
set_option linter.all false
set_option maxRecDepth 100000
set_option maxHeartbeats 4000000
/-! The layer's rules over closed judgements: no elaborator looks into them, every side condition is handed in. -/
namespace L2
open PySem PySem.Spec PyProof.Rows FrM
structure QT (X : Cx) (e : Expr) (t : TT) : Prop where
  out : PT X e t
structure QW (X : Cx) (e : Expr) (t : TT) : Prop where
  out : PW X e t
structure QS (X : Cx) (st : Stmt) (t : TS) : Prop where
  out : PS X st t
structure QB (X : Cx) (b : List Stmt) (t : TS) : Prop where
  out : PSs X b t
structure QI (X : Cx) (tg iter : Expr) (t : TI) : Prop where
  out : PI X tg iter t
structure QG (X : Cx) (tg : Expr) (t : TG) : Prop where
  out : PG X tg t
structure QGs (X : Cx) (tg : List Expr) (t : TGs) : Prop where
  out : PGs X tg t
def noStars : List Expr → Bool
  | [] => true
  | e :: es => noStar e && noStars es
theorem stars_any {pos : Pos} {env : Env} : ∀ {es : List Expr}, noStars es = true → (backTo pos (starEach es env)).any (·.1) = false
  | [], _ => rfl
  | e :: es, h => by
    have h2 : noStar e = true ∧ noStars es = true := by simpa [noStars] using h
    rw [star_cons h2.1]
    show (false || (backTo pos (starEach es env)).any (·.1)) = false
    rw [stars_any h2.2]
    rfl
section
variable {X : Cx} {K : PySem.W.Frag} {a b c e o : Expr} {es rest : List Expr} {ta tb tc te to : TE} {tA tB' : TT} {t : TA} {x : Str} {p pos pos' apos cpos : Pos} {j i : Nat}
/-! names -/
theorem qv (i : Nat) (hN : X.N[i]? = some x) (hv : Vis X.env.scope x) (hd : (x == ("__debug__" : Str)) = false) (hc : (x == ("__classdict__" : Str)) = false) : QE X (.Name x pos) (tVar i) := ⟨pe_var hN hv hd hc⟩
theorem q_glob {v : V} {u : Value} (hg : Gl X x) (hm : X.mg x = some u) (r : RelV v u) (hd : (x == ("__debug__" : Str)) = false) : QE X (.Name x pos) (tC v) := ⟨pe_glob hg hm r hd⟩
theorem q_bltn {v : V} {u : Value} (hg : Gl X x) (hm : X.mg x = none) (hv : bootBuiltins x = some u) (r : RelV v u) (hn : x ≠ "__name__") (hd : (x == ("__debug__" : Str)) = false) : QE X (.Name x pos) (tC v) := ⟨pe_bltn hg hm hv r hn hd⟩
/-! operators -/
theorem q_op {op : Operator} {r : R2} (ho : OpR X (binaryOp op) r) (ha : QE X a ta) (hb : QE X b tb) : QE X (.BinOp a op b pos) (tOp r ta tb) := ⟨pe_op ho ha.out hb.out⟩
theorem q_add (ha : QE X a ta) (hb : QE X b tb) : QE X (.BinOp a .Add b pos) (tOp (rI0 fun i j => .int (i + j)) ta tb) := q_op op_add ha hb
theorem q_sub (ha : QE X a ta) (hb : QE X b tb) : QE X (.BinOp a .Sub b pos) (tOp (rI0 fun i j => .int (i - j)) ta tb) := q_op op_sub ha hb
theorem q_mul (ha : QE X a ta) (hb : QE X b tb) : QE X (.BinOp a .Mult b pos) (tOp (rI CMul fun i j => .int (i * j)) ta tb) := q_op op_mul ha hb
theorem q_mulS (ha : QE X a ta) (hb : QE X b tb) : QE X (.BinOp a .Mult b pos) (tOp (rI (fun i j => Sz 4000 i ∧ Sz 4000 j) fun i j => .int (i * j)) ta tb) := q_op op_mulS ha hb
theorem q_fdiv (ha : QE X a ta) (hb : QE X b tb) : QE X (.BinOp a .FloorDiv b pos) (tOp (rI CDiv fun i j => .int (i / j)) ta tb) := q_op op_fdiv ha hb
theorem q_mod (ha : QE X a ta) (hb : QE X b tb) : QE X (.BinOp a .Mod b pos) (tOp (rI (fun _ j => 0 < j) fun i j => .int (i % j)) ta tb) := q_op op_mod ha hb
theorem q_pow (ha : QE X a ta) (hb : QE X b tb) : QE X (.BinOp a .Pow b pos) (tOp (rI CPow fun i j => .int (i ^ j.toNat)) ta tb) := q_op op_pow ha hb
theorem q_not (ha : QE X a ta) : QE X (.UnaryOp .Not a pos) (tNotV ta) := ⟨pe_not ha.out⟩
theorem q_one {op : BoolOp} (h : QE X a ta) : QE X (.BoolOp op [a] pos) ta := ⟨pe_one h.out⟩
theorem q_and (ha : QE X a ta) (hb : QE X (.BoolOp .And (b :: rest) pos) tb) : QE X (.BoolOp .And (a :: b :: rest) pos) (tAndV ta tb) := ⟨pe_and ha.out hb.out⟩
/-! comparisons, as values and as tests -/
theorem q_cmp {op : CmpOp} {r : R2} (ho : OpR X (compareOp op) r) (ha : QE X a ta) (hb : QE X b tb) (hm : behindInMarks op b = false) : QE X (.Compare a [op] [b] pos) (tOp r ta tb) := ⟨pe_cmpR ho ha.out hb.out hm⟩
theorem t_cmp {op : CmpOp} {r : R2} (ho : OpR X (compareOp op) r) (ha : QE X a ta) (hb : QE X b tb) (hm : behindInMarks op b = false) : QT X (.Compare a [op] [b] pos) (tTest (tOp r ta tb)) := ⟨pt_cmpR ho ha.out hb.out hm⟩
theorem q_chain {op op' : CmpOp} {r r' : R2} (ho : OpR X (compareOp op) r) (ho' : OpR X (compareOp op') r') (ha : QE X a ta) (hb : QE X b tb) (hc : QE X c tc) (hm : lastMarks [op, op'] [b, c] = false) : QE X (.Compare a [op, op'] [b, c] pos) (tChain r r' ta tb tc) := ⟨pe_chain ho ho' ha.out hb.out hc.out hm⟩
theorem t_chain {op op' : CmpOp} {r r' : R2} (ho : OpR X (compareOp op) r) (ho' : OpR X (compareOp op') r') (ha : QE X a ta) (hb : QE X b tb) (hc : QE X c tc) (hm : lastMarks [op, op'] [b, c] = false) : QT X (.Compare a [op, op'] [b, c] pos) (tTest (tChain r r' ta tb tc)) := ⟨pt_chain ho ho' ha.out hb.out hc.out hm⟩
/-! tests -/
theorem t_val (h : QE X e te) (he : ∀ whole, isTrue e X.env whole = (do let v ← whole; standAt e.pos; holding [v] (truthy v))) : QT X e (tB te) := ⟨pt_val h.out he⟩
theorem t_not (h : QT X a tA) : QT X (.UnaryOp .Not a pos) (tNot tA) := ⟨pt_not h.out⟩
theorem w_or1 (h : QT X a tA) : QW X (.BoolOp .Or [a] pos) tA := ⟨pw_or1 h.out⟩
theorem w_or (ha : QT X a tA) (hb : QW X (.BoolOp .Or (b :: rest) pos) tB') : QW X (.BoolOp .Or (a :: b :: rest) pos) (tOr tA tB') := ⟨pw_or ha.out hb.out⟩
theorem t_w (h : QW X e tA) : QT X e tA := ⟨h.out.pt⟩
/-! items -/
theorem q_ixl (hK : X.K = K) (ha : QE X a ta) (hb : QE X b tb) (hs : PlainIx b) : QE X (.Subscript a b pos) (tOp (rIxL K) ta tb) := by
  subst hK
  exact ⟨pe_ix ix_list ha.out hb.out hs⟩
theorem q_ixt (hK : X.K = K) (ha : QE X a ta) (hb : QE X b tb) (hs : PlainIx b) : QE X (.Subscript a b pos) (tOp (rIxT K) ta tb) := by
  subst hK
  exact ⟨pe_ix ix_tup ha.out hb.out hs⟩
/-! calls -/
section
variable {CX : CXT} {k : Nat} {f C : Addr} {fd : FuncData} {ps : List Str} {sp : Sp} {dvs : List V} {ds : List Value} {E : XK} {ES : St → XK} {id T : String} {r : List V → Hp → VK → Prop}
theorem q_call (F : FnOk X.prog X.w X.K X.mg X.base CX k f fd ps sp) (hr : Room k X.A) (hg : Gl X x) (hm : X.mg x = some (.ref f)) (hk : PySem.W.keepIn X.K (.ref f) = true) (hb : Binds X.K fd ps ds) (hd : Vals dvs ds) (hx : Passes CX X E)
    (ha : QA X (e :: es) t) (h1 : (x == ("__debug__" : Str)) = false) (h2 : noStar e = true) (h3 : noStars es = true) : QE X (.Call (.Name x p) (e :: es) [] pos) (tCall sp dvs E t) := ⟨pe_call F hr hg hm hk hb hd hx ha.out h1 (star_cons h2) (stars_any h3)⟩
theorem q_callS (F : FnOk X.prog X.w X.K X.mg X.base CX k f fd ps sp) (hr : Room k X.A) (hg : Gl X x) (hm : X.mg x = some (.ref f)) (hk : PySem.W.keepIn X.K (.ref f) = true) (hb : Binds X.K fd ps ds) (hd : Vals dvs ds) (hx : PassesS CX X ES)
    (ha : QA X (e :: es) t) (h1 : (x == ("__debug__" : Str)) = false) (h2 : noStar e = true) (h3 : noStars es = true) : QE X (.Call (.Name x p) (e :: es) [] pos) (tCallS sp dvs ES t) := ⟨pe_callS F hr hg hm hk hb hd hx ha.out h1 (star_cons h2) (stars_any h3)⟩
theorem q_callB (hc : CallR X (.builtin id) r) (hg : Gl X x) (hm : X.mg x = none) (hv : bootBuiltins x = some (.builtin id)) (ha : QA X (e :: es) t) (h0 : x ≠ "__name__") (h1 : (x == ("__debug__" : Str)) = false) (h2 : noStar e = true) (h3 : noStars es = true) :
    QE X (.Call (.Name x p) (e :: es) [] pos) (tCB r t) := ⟨pe_callB hc hg hm hv ha.out h0 h1 (star_cons h2) (stars_any h3)⟩
theorem q_callTy (hc : CallR X (.type T) r) (hg : Gl X x) (hm : X.mg x = none) (hv : bootBuiltins x = some (.type T)) (ha : QA X (e :: es) t) (h0 : x ≠ "__name__") (h1 : (x == ("__debug__" : Str)) = false) (h2 : noStar e = true) (h3 : noStars es = true) :
    QE X (.Call (.Name x p) (e :: es) [] pos) (tCB r t) := ⟨pe_callTy hc hg hm hv ha.out h0 h1 (star_cons h2) (stars_any h3)⟩
end
theorem call_lenK (hK : X.K = K) : CallR X (.builtin "len") (fun xs H Q => ∃ p ys, xs = [.ref p] ∧ (SqL K H p ys ∨ SqT K H p ys) ∧ Q (.int ys.length) H) := by
  subst hK
  exact call_len_seq
theorem q_append (hK : X.K = K) (ho : QE X o to) (ha : QE X e te) (hb : attributeBase o "append" X.env (eval o X.env) = eval o X.env) (h2 : noStar e = true) (hl : (apos.endLine == cpos.line) = true) :
    QE X (.Call (.Attribute o "append" apos) [e] [] cpos) (tBM K "list" rAppend to (tCons te tNil)) := by
  subst hK
  exact ⟨pe_bm PySem.F.plainAttrs_list PySem.F.slot_list_append PySem.F.type_list_append mt_append ho.out (pa_cons ha.out pa_nil (star_cons h2)) hb (by rw [star_cons h2]; rfl) hl (star_cons h2) rfl⟩
theorem q_imp {t' : TE} (h : QE X e te) (f : ∀ σ H Q, t' σ H Q → te σ H Q) : QE X e t' := ⟨PE.imp h.out f⟩
/-! statements -/
section
variable {st : Stmt} {sts b1 b2 : List Stmt} {u v : TS} {g : TG} {gs : TGs} {wi : TI} {tg iter : Expr}
theorem b_nil : QB X [] tNext := ⟨pss_nil⟩
theorem b_one (h : QS X st u) : QB X [st] u := ⟨pss_one h.out⟩
theorem b_cons (h : QS X st u) (h2 : QB X sts v) : QB X (st :: sts) (tSeq u v) := ⟨pss_cons h.out h2.out⟩
theorem s_ret (h : QE X e te) : QS X (.Return (some e) pos) (tRet te) := ⟨ps_ret h.out⟩
theorem s_expr (h : QE X e te) (hs : swapsWith e none pos.line X.env = pure false) : QS X (.Expr e pos) (tDrop te) := ⟨ps_expr h.out hs⟩
theorem s_if (hc : QT X c tA) (ha : QB X b1 u) (hb : QB X b2 v) : QS X (.If c b1 b2 pos) (tIfS tA u v) := ⟨ps_if hc.out ha.out hb.out⟩
theorem s_set (i : Nat) (hN : X.N.Nodup) (hi : X.N[i]? = some x) (hx : Loc X.env.scope x) (he : QE X e te) (hs : swapsWith e (some (.Name x pos')) pos.line X.env = pure false) (hf : X.fn x = true ∨ X.env.scope.names.lookup x = some .local) :
    QS X (.Assign [.Name x pos'] e pos) (tAsg te (gName i)) := ⟨ps_set hN hi hx he.out hs hf⟩
theorem g_name (i : Nat) (hN : X.N.Nodup) (hi : X.N[i]? = some x) (hx : Loc X.env.scope x) (hf : X.fn x = true ∨ X.env.scope.names.lookup x = some .local) : QG X (.Name x pos) (gName i) := ⟨pg_name hN hi hx hf⟩
theorem g_nil : QGs X [] gNil := ⟨pgs_nil⟩
theorem g_cons (h1 : QG X e g) (h2 : QGs X es gs) (hs : (assignEach (e :: es) X.env).map (·.2) = assign e X.env :: (assignEach es X.env).map (·.2)) : QGs X (e :: es) (gCons g gs) := ⟨pgs_cons h1.out h2.out hs⟩
theorem g_tup {n : Nat} (hK : X.K = K) (hc : X.calm = true) (h : QGs X es gs) (hn : (assignEach es X.env).length = n) (hst : (assignEach es X.env).findIdx? (·.1) = none) : QG X (.Tuple es j pos) (gTup K n gs) := by
  subst hK
  exact ⟨pg_tup hc h.out hn hst⟩
theorem i_list (hK : X.K = K) (h : QE X e te) : QI X tg e (iList K te) := by
  subst hK
  exact ⟨pi_list h.out⟩
theorem i_tup (hK : X.K = K) (h : QE X e te) : QI X tg e (iTup K te) := by
  subst hK
  exact ⟨pi_tup h.out⟩
theorem i_rng1 (hg : Gl X "range") (hm : X.mg "range" = none) (h : QA X [a] t) (h2 : noStar a = true) : QI X tg (.Call (.Name "range" p) [a] [] pos) (iRng1 t) := ⟨pi_range1 hg hm h.out (by rw [star_cons h2]; rfl)⟩
theorem s_for (hp : PassesOwn (model X.prog X.w) X.A X.env X.xe) (hc : X.calm = true) (hi : QI X tg iter wi) (hg : QG X tg g) (hb : QB X b1 u) (hs : ∀ x, foldedSetIterable iter X.env x = pure x) : QS X (.For tg iter b1 [] pos) (tFor wi g u) := ⟨ps_for hp hc hi.out hg.out hb.out hs⟩
end
end
end L2

set_option Elab.async false
set_option linter.all false
set_option maxRecDepth 100000
set_option maxHeartbeats 4000000
/-! [e for target in xs], [e for target in xs if c]: any target of n names, at most one test; names of the def around it through cells. -/
namespace L2
open PySem PySem.Spec PyProof.Rows
/-- what a clause's tests are in the model -/
abbrev compTests (ifs : List Expr) (env : Env) : Sem Bool := forIn ifs true fun c r => if r = true then do let ok ← isTrue c env (eval c env); pure (ForInStep.yield ok) else pure (ForInStep.yield r)
theorem false_noted {P : Program} {w : World} {A : Around} {env : Env} {E : Value → Shared → Prop} {α : Type} {t : Sem α} {Q : α → Shared → Prop} {s : Shared} (h : wpAny (model P w) A t Q (fun _ _ => False) s) : wpAny (model P w) A t Q (notedBy (model P w) A env E) s := wpAny_mono h (fun _ _ z => z) fun _ _ z => z.elim
/-- the turns of a comprehension, whatever its target is, where nothing is raised -/
theorem comp_turns {P : Program} {w : World} {A : Around} {R : Result → Shared → Prop} {s : Shared} {elt target iter : Expr} {ifs : List Expr} {scope : Scope} {pos : Pos} {it acc : Value} {env : Env} (J : Nat → Shared → Prop)
    (turn : ∀ n s, J n s → wpAny (model P w) A (pyNext it) (fun r s1 => match r with
      | none => R (.ok .next) s1
      | some v => wpAny (model P w) A (letOwnedTupleGo target it v) (fun _ s1' => wpAny (model P w) A (assign target env v) (fun _ s2 => wpAny (model P w) A (compTests ifs env) (fun ok s3 =>
          if ok = true then wpAny (model P w) A (eval elt env) (fun x s4 => wpAny (model P w) A (call (.builtin "list.append") [acc, x]) (fun _ s5 => ∃ m, m < n ∧ J m s5) (fun _ _ => False) s4) (fun _ _ => False) s3
          else ∃ m, m < n ∧ J m s3) (fun _ _ => False) s2) (fun _ _ => False) s1') (fun _ _ => False) s1) (fun _ _ => False) s)
    (n : Nat) (h : J n s) : codeAny (model P w) A (.compLoop (.ListComp elt [⟨target, iter, ifs, 0⟩] scope pos) 0 it acc env) R s := by
  refine codeAny_loop rfl J (fun n s hJ => ?_) n h
  show wpAny _ A ((compTurn (.ListComp elt [⟨target, iter, ifs, 0⟩] scope pos) 0 it acc env).onRaise _) _ _ s
  refine wpAny_noted ?_
  rw [compTurn_list]
  refine wpAny_bind (wpAny_standAt (wpAny_bind (wpAny_mono (false_noted (turn n s hJ)) (fun r s1 h1 => ?_) fun _ _ z => z)))
  cases r with
  | none => exact wpAny_pure h1
  | some v =>
    refine wpAny_bind (wpAny_mono (false_noted h1) (fun _ s2 h3 => wpAny_bind (wpAny_mono (false_noted h3) (fun _ s3 h4 => wpAny_bind (wpAny_mono (false_noted h4) (fun ok s4 h5 => ?_) fun _ _ z => z)) fun _ _ z => z)) fun _ _ z => z)
    cases ok with
    | false => exact wpAny_pure ⟨rfl, h5⟩
    | true => exact wpAny_bind (wpAny_bind (wpAny_mono (false_noted h5) (fun x s5 h6 => wpAny_bind (wpAny_mono (false_noted h6) (fun _ s6 h7 => wpAny_pure (wpAny_pure ⟨rfl, h7⟩)) fun _ _ z => z)) fun _ _ z => z))
/-- the tests of a clause -/
def PTs (X : Cx) (ifs : List Expr) (t : TT) : Prop := (ifs = [] ∧ t = fun _ H Q => Q true H) ∨ ∃ c, ifs = [c] ∧ PT X c t
def tCompG (wi : TI) (g : TG) (tt : TT) (te : TE) (n : Nat) (fr : List Nat) : TE := fun σ H Q => wi σ H fun J H1 => ∀ D, H1 D = none → ∃ W : Nat → Nat → List V → Hp → Prop, (∃ m, W 0 m [] (upd H1 D (.lst []))) ∧ ∀ i m ys H, W i m ys H →
  H D = some (.lst ys) ∧ ((J.stop i H ∧ Q (.ref D) H) ∨ (J.go i H ∧ ys.length < sizeLine ∧ ∃ N : List V → Hp → Prop, (∀ ys' H', N ys' H' → ∃ m', m' < m ∧ W (i + 1) m' ys' H') ∧
    ∀ x H', J.yld i H x H' → ∀ pre : St, pre.length = n → g x (pre ++ around fr σ) H' fun σ2 H2 => (∃ pre2 : St, pre2.length = n ∧ σ2 = pre2 ++ around fr σ) ∧
      tt σ2 H2 fun b H3 => if b = true then te σ2 H3 fun y H4 => H4 D = some (.lst ys) ∧ N (ys ++ [y]) (upd H4 D (.lst (ys ++ [y]))) else N ys H3))

theorem pe_compG {X : Cx} {elt iter tg : Expr} {ifs : List Expr} {zs : List Str} {pos : Pos} {scope : Scope} {cl : List (Str × Addr)} {ys : List Str} {fr : List Nat} {wi : TI} {g : TG} {tt : TT} {te : TE} (hcm : X.calm = true)
    (hi : PI X tg iter wi) (hclos : closureFor scope X.env = pure cl) (hcell : ∀ y ∈ scope.names, y.2 ≠ .cell) (hkind : scope.kind = .function) (hnames : ∀ y ∈ scope.names, y.2 = .local → scope.names.lookup y.1 = some .local) 
    (hcl : ∀ y a, cl.lookup y = some a → X.env.cells.lookup y = some a)
    (hlen : ys.length = fr.length) (hfr : ∀ (j : Nat) y i, ys[j]? = some y → fr[j]? = some i → X.N[i]? = some y ∧ X.env.kindOf y = some .cell ∧ (relabel scope X.env).names.lookup y = some .cell ∧ ∃ a, cl.lookup y = some a ∧ X.env.cells.lookup y = some a)
    (hhas : ∀ y, ((relabel scope X.env).names.lookup y = some .cell ∨ (relabel scope X.env).names.lookup y = some .free) → ∃ a, cl.lookup y = some a)
    (hg : ∀ C s₂ H₂ fp, PG (X.comp scope cl C (zs ++ ys) s₂ H₂ fp) tg g) (hc : ∀ C s₂ H₂ fp, PTs (X.comp scope cl C (zs ++ ys) s₂ H₂ fp) ifs tt) (he : ∀ C s₂ H₂ fp, PE (X.comp scope cl C (zs ++ ys) s₂ H₂ fp) elt te) (hs : ∀ v, foldedSetIterable iter X.env v = pure v := by intro _; rfl) :
    PE X (.ListComp elt [⟨tg, iter, ifs, 0⟩] scope pos) (tCompG wi g tt te zs.length fr) := by
  intro pins s σ H Q I h
  rw [eval_ListComp]
  refine wpAny_comprehension_free (use := none) rfl hs hclos hkind hnames (thn (hi pins s σ H _ I h) fun v s1 h1 => thn h1 fun itv s2 h2 => ?_)
  obtain ⟨it, fp, tn, J, H2, e, I2, T, st2, f2, h2⟩ := h2
  subst e
  have hD : H2 s2.heap.objs.size = none := I2.hok.fresh (Nat.le_refl _)
  obtain ⟨W, ⟨m0, w0⟩, turn⟩ := h2 s2.heap.objs.size hD
  refine wpAny_newObj_type (wpAny_newFunctionEnv hcell (by intro y hy; simp at hy) (fun h₁ hns₁ hsb₁ => ?_) hkind)
  dsimp only at hns₁ hsb₁ ⊢
  generalize hH3 : s2.heap.push { cls := .type "list", dict := none, data := .seq ([] : List Value).toArray } = H3 at hns₁ hsb₁ ⊢
  have hCs : H3.objs.size = s2.heap.objs.size + 1 := by rw [← hH3, Heap.size_push]
  have old : ∀ b o, s2.heap.get? b = some o → h₁.get? b = some o := fun b o e =>
    hsb₁.extBut b o (Nat.ne_of_lt (by have := lt_sz e; omega)) (Heap.get?_push_of_some _ (hH3 ▸ Heap.get?_push_of_some _ e))
  have hacc : h₁.get? s2.heap.objs.size = some { cls := .type "list", dict := none, data := .seq ([] : List Value).toArray } :=
    hsb₁.extBut _ _ (Nat.ne_of_lt (by omega)) (Heap.get?_push_of_some _ (hH3 ▸ Heap.get?_push_size _ rfl))
  have fplt : ∀ b ∈ fp, @LT.lt Nat _ b s2.heap.objs.size := fun b hb => by
    obtain ⟨o, e, _⟩ := T.obj _ _ st2 b hb
    exact lt_sz e
  have okC : (X.comp scope cl H3.objs.size (zs ++ ys) s2 H2 fp).Ok := by
    refine ⟨I2.ok.mod, hkind, I2.ok.glob, I2.ok.blt, ?_, fun y z a h1 h2 => I2.ok.inj y z a (hcl y a h1) (hcl z a h2), fun y hy => hhas y hy, fun y a z _ => (nomatch z), I2.ok.hd, I2.ok.frames, .inl rfl, fun b hb => ⟨?_, fun y a e z => ?_⟩, I2.bs, Nat.le_trans I2.ok.bsz I2.sz, fun b o e hb => ?_, fun b hb z => ?_, I2.stack, I2.stkFree⟩
    · show s2.heap.objs.size ≤ H3.objs.size
      omega
    · show b ≠ H3.objs.size
      have := fplt b hb
      exact Nat.ne_of_lt (by omega)
    · exact (f2 b hb).2.2.2.2.1 y a (hcl y a e) z
    · rcases (f2 b hb).2.2.2.1 with z | z
      · exact I2.ok.noex b o e z
      · have z' : @LE.le Nat _ X.s₀.heap.objs.size b := z
        have : @LT.lt Nat _ b X.base.objs.size := lt_sz e
        have := I2.ok.bsz
        omega
    · rcases List.mem_cons.mp (I2.stkSub b z) with y | y
      · exact (f2 b hb).2.1 y
      · exact (f2 b hb).2.2.1 y
  have fpok : ∀ {H' : Hp}, (∀ b ∈ fp, H' b = none) → ∀ b ∈ fp, FpOk (X.comp scope cl H3.objs.size (zs ++ ys) s2 H2 fp) [] H' b := fun hn b hb =>
    ⟨hn b hb, (okC.exf b hb).1, okC.exfs b hb, .inl hb, (okC.exf b hb).2, fun p hp => absurd hp (by simp)⟩
  have cellC : ∀ y a, cl.lookup y = some a → ∃ v, s2.heap.IsCell a v := fun y a e => I2.cell y a (hcl y a e)
  have start : Inv (X.comp scope cl H3.objs.size (zs ++ ys) s2 H2 fp) [] (List.replicate zs.length none ++ around fr σ) (upd H2 s2.heap.objs.size (.lst [])) { s2 with heap := h₁, toks := s2.toks + ([] : List (Str × Value)).length } := by
    refine ⟨okC, rfl, I2.bare, Un.laid old (Nat.le_refl _) hD, ⟨_, hns₁, fun j y v e1 e2 e3 => ?_⟩, fun y a e => ?_, ?_, fun y a e => ?_, fun p hp => absurd hp (by simp), I2.hok.laid old (Nat.le_refl _) ⟨Nat.zero_le _, [], _, .nil, hacc⟩, ?_⟩
    · by_cases hj : j < zs.length
      · rw [List.getElem?_append_left (by simpa using hj), List.getElem?_replicate] at e2
        rw [if_pos hj] at e2
        cases e2
      · obtain ⟨j, rfl⟩ : ∃ k, j = zs.length + k := ⟨j - zs.length, by omega⟩
        have e1' : ys[j]? = some y := by
          have z := e1
          simp only [Cx.comp] at z
          rw [List.getElem?_append_right (by omega)] at z
          simpa using z
        have e2' : (around fr σ)[j]? = some (some v) := by
          rw [List.getElem?_append_right (by simp)] at e2
          simpa using e2
        unfold around at e2'
        rw [List.getElem?_map] at e2'
        cases q : fr[j]? with
        | none => rw [q] at e2'; cases e2'
        | some i =>
          rw [q] at e2'
          have e4 : (σ[i]?).getD none = some v := Option.some.inj e2'
          have e5 : σ[i]? = some (some v) := by
            cases q2 : σ[i]? with
            | none => rw [q2] at e4; cases e4
            | some z => rw [q2] at e4; exact congrArg some e4
          obtain ⟨hN, hk, hl, a, ha, ha'⟩ := hfr j y i e1' q
          obtain ⟨m, _, hl2⟩ := I2.loc
          obtain ⟨u, r, l⟩ := hl2 i y v hN e5 (.inr (.inl hk))
          refine ⟨u, r, .inr ⟨.inl hl, a, ha, ?_⟩⟩
          rcases l with ⟨k, _⟩ | ⟨_, a2, ea, z⟩
          · rw [hk] at k; cases k
          · rw [ha'] at ea
            cases ea
            obtain ⟨o, ho, hd⟩ := z
            exact ⟨o, old _ _ ho, hd⟩
    · obtain ⟨v, o, ho, hd⟩ := cellC y a e
      exact ⟨v, o, old _ _ ho, hd⟩
    · show upd H2 s2.heap.objs.size (.lst []) H3.objs.size = none
      rw [upd_ne (by first | exact Nat.ne_of_lt (by omega) | exact Nat.ne_of_gt (by omega))]
      exact I2.hok.fresh (by omega)
    · obtain ⟨v, o, ho, hd⟩ := cellC y a e
      have := lt_sz ho
      rw [upd_ne (by first | exact Nat.ne_of_lt (by omega) | exact Nat.ne_of_gt (by omega))]
      exact I2.freeC y a (hcl y a e)
    · show (List.replicate zs.length none ++ around fr σ).length = (zs ++ ys).length
      unfold around
      simp [hlen]
  have loop : ∀ s₃ : Shared, s₃ = { s2 with heap := h₁, toks := s2.toks + ([] : List (Str × Value)).length } →
      codeAny (model X.prog X.w) X.A (.compLoop (.ListComp elt [⟨tg, iter, ifs, 0⟩] scope pos) 0 (.ref it) (.ref s2.heap.objs.size) (compEnvC scope cl H3.objs.size X.env)) (compPost (model X.prog X.w) X.A X.xe none (EP X pins σ Q) (.ref s2.heap.objs.size) H3.objs.size) s₃ := by
    rintro s₃ rfl
    refine comp_turns (fun n s' => ∃ i pre ys' H', pre.length = zs.length ∧ Inv (X.comp scope cl H3.objs.size (zs ++ ys) s2 H2 fp) [] (pre ++ around fr σ) H' s' ∧ tn i s'.heap ∧ (∀ b ∈ fp, H' b = none) ∧ W i n ys' H') ?_ m0
      ⟨0, List.replicate zs.length none, [], _, by simp, start, T.keep _ _ _ st2 fun b hb o e => old b o e, fun b hb => by
        have := fplt b hb
        rw [upd_ne (by first | exact Nat.ne_of_lt (by omega) | exact Nat.ne_of_gt (by omega))]
        exact (f2 b hb).1, w0⟩
    rintro n s3 ⟨i, pre, ys3, H', hpl, I3, st3, fr3, w3⟩
    obtain ⟨hl3, alt⟩ := turn i n ys3 H' w3
    rcases alt with ⟨stop, qn⟩ | ⟨go, hz, N, hN, step⟩
    · refine wpAny_mono (T.done (X.comp scope cl H3.objs.size (zs ++ ys) s2 H2 fp) rfl rfl rfl hcm i [] s3 _ H' (fun _ _ => False) I3 (fpok fr3) st3 stop) (fun r s4 h4 => ?_) fun _ _ z => z.elim
      obtain ⟨hr, I4⟩ := h4
      subst hr
      obtain ⟨m4, hn4, _⟩ := id I4.loc
      refine ⟨m4, hn4, fun h'' hs'' => ?_⟩
      have hb : ∀ b o, b ≠ H3.objs.size → s4.heap.get? b = some o → h''.get? b = some o := fun b o hb e => (hs''.2 b hb).trans e
      have I5 : Inv X pins σ H' { s4 with heap := h'' } := by
        refine I2.call' (s' := { s4 with heap := h'' }) (ch := fp) I4.os ⟨fun b o e n hb' hx' => ?_, fun b o e n hb' hx' => ?_, fun b o e n hx' => I4.base.free b o e n hx', fun b o e hx' => ?_, I4.base.tups, I4.base.frzs, I4.base.tbls⟩ (fun b u e => ?_) I4.bare fun b hb' => ⟨(f2 b hb').2.2.2.1, (f2 b hb').2.1, (f2 b hb').2.2.2.2.1, (f2 b hb').2.2.2.2.2⟩
        · exact hb b o (Nat.ne_of_lt (by have := lt_sz e; omega)) (I4.base.keep b o e n hb' hx')
        · obtain ⟨sl, q⟩ := I4.base.slot b o e n hb' hx'
          exact ⟨sl, hb b _ (Nat.ne_of_lt (by have := lt_sz e; omega)) q⟩
        · obtain ⟨o', q⟩ := I4.base.there b o e hx'
          exact ⟨o', hb b _ (Nat.ne_of_lt (by have := lt_sz e; omega)) q⟩
        · refine (I4.hok b u e).stay (fun c' w' hc' q => hb c' w' ?_ q) (fun _ q => q) fun _ _ q => q
          intro z
          have fz : H' H3.objs.size = none := I4.free
          rcases hc' with y | y
          · rw [← y, z, fz] at e; cases e
          · rw [z, fz] at y; cases y
      exact ⟨.ref s2.heap.objs.size, H', I5, rfl, qn⟩
    · refine wpAny_mono (T.item (X.comp scope cl H3.objs.size (zs ++ ys) s2 H2 fp) rfl rfl rfl hcm i [] s3 _ H' (fun _ _ => False) I3 (fpok fr3) st3 go) (fun r s4 h4 => ?_) fun _ _ z => z.elim
      obtain ⟨u, hr, h4⟩ := h4
      subst hr
      dsimp only
      have asg : wpAny (model X.prog X.w) X.A (letOwnedTupleGo tg (.ref it) u) (fun _ s5 => wpAny (model X.prog X.w) X.A (assign tg (compEnvC scope cl H3.objs.size X.env) u)
          (fun _ s6 => ∃ σ5 H6, (∃ pn5, Inv (X.comp scope cl H3.objs.size (zs ++ ys) s2 H2 fp) pn5 σ5 H6 s6 ∧ (∀ b ∈ fp, ∃ o, (b, o) ∈ pn5)) ∧ ((∃ pre2 : St, pre2.length = zs.length ∧ σ5 = pre2 ++ around fr σ) ∧
            tt σ5 H6 fun b H3' => if b = true then te σ5 H3' fun y H4 => H4 s2.heap.objs.size = some (.lst ys3) ∧ N (ys3 ++ [y]) (upd H4 s2.heap.objs.size (.lst (ys3 ++ [y]))) else N ys3 H3') ∧ tn (i + 1) s6.heap ∧ ∀ b ∈ fp, H6 b = none) (fun _ _ => False) s5) (fun _ _ => False) s4 := by
        refine (thn h4 fun _ s5 ⟨x5, H5, I5, r5, y5, st5, fr5⟩ => ?_)
        have I5' := I5.pinned (fpok fr5) (T.obj _ _ st5)
        refine wpAny_mono (hg _ _ _ _ _ s5 _ H5 x5 u _ I5' r5 (step x5 H5 y5 pre hpl)) (fun _ s6 ⟨σ6, H6, I6, q6⟩ => ?_) fun _ _ z => z.elim
        exact ⟨σ6, H6, ⟨_, I6, fun b hb => by
          obtain ⟨o, e, _⟩ := T.obj _ _ st5 b hb
          exact ⟨o, List.mem_append_right _ (mem_pinsAt hb e)⟩⟩, q6, T.keep _ _ _ st5 fun b hb o e => (I6.pin (b, o) (List.mem_append_right _ (List.mem_append_right _ (mem_pinsAt hb e)))).1, fun b hb => by
          obtain ⟨o, e, _⟩ := T.obj _ _ st5 b hb
          exact (I6.pin (b, o) (List.mem_append_right _ (List.mem_append_right _ (mem_pinsAt hb e)))).2.1⟩
      refine wpAny_mono asg (fun _ s5 h5 => wpAny_mono h5 (fun _ s6 h6 => ?_) fun _ _ z => z.elim) fun _ _ z => z.elim
      obtain ⟨σ5, H5, ⟨pn5, I6, hp6⟩, ⟨⟨pre2, hl2, rfl⟩, q6⟩, st6, fr5⟩ := h6
      have keepTurn : ∀ {σ7 : St} {H7 : Hp} {s7 : Shared}, Inv (X.comp scope cl H3.objs.size (zs ++ ys) s2 H2 fp) pn5 σ7 H7 s7 → tn (i + 1) s7.heap ∧ ∀ b ∈ fp, H7 b = none := fun {σ7 H7 s7} I7 => by
        refine ⟨T.keep _ _ _ st6 fun b hb o e => ?_, fun b hb => ?_⟩
        · obtain ⟨o', hm⟩ := hp6 b hb
          have a1 := (I6.pin (b, o') (List.mem_append_right _ hm)).1
          rw [e] at a1
          cases a1
          exact (I7.pin (b, _) (List.mem_append_right _ hm)).1
        · obtain ⟨o', hm⟩ := hp6 b hb
          exact (I7.pin (b, o') (List.mem_append_right _ hm)).2.1
      have drop : ∀ {σ7 : St} {H7 : Hp} {s7 : Shared}, Inv (X.comp scope cl H3.objs.size (zs ++ ys) s2 H2 fp) pn5 σ7 H7 s7 → Inv (X.comp scope cl H3.objs.size (zs ++ ys) s2 H2 fp) [] σ7 H7 s7 := fun I7 => I7.pins_of fun p hp => absurd hp (by simp)
      have tests : wpAny (model X.prog X.w) X.A (compTests ifs (compEnvC scope cl H3.objs.size X.env)) (fun b s7 => ∃ H7, Inv (X.comp scope cl H3.objs.size (zs ++ ys) s2 H2 fp) pn5 (pre2 ++ around fr σ) H7 s7 ∧
          (if b = true then te (pre2 ++ around fr σ) H7 fun y H4 => H4 s2.heap.objs.size = some (.lst ys3) ∧ N (ys3 ++ [y]) (upd H4 s2.heap.objs.size (.lst (ys3 ++ [y]))) else N ys3 H7)) (fun _ _ => False) s6 := by
        rcases hc H3.objs.size s2 H2 fp with ⟨rfl, rfl⟩ | ⟨c, rfl, hc2⟩
        · exact wpAny_tests_nil ⟨H5, I6, q6⟩
        · exact wpAny_tests_one (wpAny_mono (hc2 pn5 s6 _ H5 _ I6 q6) (fun b s7 ⟨H7, I7, q7⟩ => ⟨H7, I7, q7⟩) fun _ _ z => z.elim)
      refine wpAny_mono tests (fun b s7 h7 => ?_) fun _ _ z => z.elim
      obtain ⟨H7, I7, q7⟩ := h7
      cases b with
      | false =>
        obtain ⟨m', hm, w'⟩ := hN _ _ q7
        obtain ⟨k1, k2⟩ := keepTurn I7
        exact ⟨m', hm, i + 1, pre2, ys3, H7, hl2, drop I7, k1, k2, w'⟩
      | true =>
        refine wpAny_mono (he _ _ _ _ pn5 s7 _ H7 _ I7 q7) (fun y s8 h8 => ?_) fun _ _ z => z.elim
        obtain ⟨yv, H8, I8, r8, hl8, n8⟩ := h8
        refine wpAny_mono (mt_append (X := X.comp scope cl H3.objs.size (zs ++ ys) s2 H2 fp) pn5 s8 _ H8 (.ref s2.heap.objs.size) [yv] (.ref s2.heap.objs.size) [y] (fun z H9 => N (ys3 ++ [yv]) H9) I8 rfl (.cons r8 .nil) ⟨s2.heap.objs.size, ys3, yv, rfl, rfl, hl8, hz, n8⟩) (fun _ s9 h9 => ?_) fun _ _ z => z.elim
        obtain ⟨_, H9, I9, _, n9⟩ := h9
        obtain ⟨m', hm, w'⟩ := hN _ _ n9
        obtain ⟨k1, k2⟩ := keepTurn I9
        exact ⟨m', hm, i + 1, pre2, ys3 ++ [yv], H9, hl2, drop I9, k1, k2, w'⟩
  exact codeAny_compStart_list (loop _ rfl) (T.self X.A 0 _ _ _ (T.keep _ _ _ st2 fun b hb o e => old b o e) (loop _ rfl))

/-! ### the closed judgement, and the readings that one uses -/
structure QTs (X : Cx) (ifs : List Expr) (t : TT) : Prop where
  out : PTs X ifs t
theorem ts_nil {X : Cx} : QTs X [] (fun _ H Q => Q true H) := ⟨.inl ⟨rfl, rfl⟩⟩
theorem ts_one {X : Cx} {c : Expr} {t : TT} (h : QT X c t) : QTs X [c] t := ⟨.inr ⟨c, rfl, h.out⟩⟩
theorem q_compG {X : Cx} {elt iter tg : Expr} {ifs : List Expr} (zs : List Str) {pos : Pos} {scope : Scope} {cl : List (Str × Addr)} (ys : List Str) (fr : List Nat) {wi : TI} {g : TG} {tt : TT} {te : TE} (hcm : X.calm = true)
    (hi : QI X tg iter wi) (hclos : closureFor scope X.env = pure cl) (hcell : ∀ y ∈ scope.names, y.2 ≠ .cell) (hkind : scope.kind = .function) (hnames : ∀ y ∈ scope.names, y.2 = .local → scope.names.lookup y.1 = some .local)
    (hcl : ∀ y a, cl.lookup y = some a → X.env.cells.lookup y = some a)
    (hlen : ys.length = fr.length) (hfr : ∀ (j : Nat) y i, ys[j]? = some y → fr[j]? = some i → X.N[i]? = some y ∧ X.env.kindOf y = some .cell ∧ (relabel scope X.env).names.lookup y = some .cell ∧ ∃ a, cl.lookup y = some a ∧ X.env.cells.lookup y = some a)
    (hhas : ∀ y, ((relabel scope X.env).names.lookup y = some .cell ∨ (relabel scope X.env).names.lookup y = some .free) → ∃ a, cl.lookup y = some a)
    (hg : ∀ C s₂ H₂ fp, QG (X.comp scope cl C (zs ++ ys) s₂ H₂ fp) tg g) (hc : ∀ C s₂ H₂ fp, QTs (X.comp scope cl C (zs ++ ys) s₂ H₂ fp) ifs tt) (he : ∀ C s₂ H₂ fp, QE (X.comp scope cl C (zs ++ ys) s₂ H₂ fp) elt te) (hs : ∀ v, foldedSetIterable iter X.env v = pure v) :
    QE X (.ListComp elt [⟨tg, iter, ifs, 0⟩] scope pos) (tCompG wi g tt te zs.length fr) :=
  ⟨pe_compG hcm hi.out hclos hcell hkind hnames hcl hlen hfr hhas (fun C s H f => (hg C s H f).out) (fun C s H f => (hc C s H f).out) (fun C s H f => (he C s H f).out) hs⟩
section
variable {K : PySem.W.Frag} {g : TG} {tt : TT} {te : TE} {n : Nat} {fr : List Nat} {σ : St} {H : Hp} {Q : VK}
/-- one turn of a comprehension -/
def CompStep (g : TG) (tt : TT) (te : TE) (n : Nat) (suf : St) (D : Addr) (x : V) (ys : List V) (H : Hp) (N : List V → Hp → Prop) : Prop :=
  ∀ pre : St, pre.length = n → g x (pre ++ suf) H fun σ2 H2 => (∃ pre2 : St, pre2.length = n ∧ σ2 = pre2 ++ suf) ∧ tt σ2 H2 fun b H3 => if b = true then te σ2 H3 fun y H4 => H4 D = some (.lst ys) ∧ N (ys ++ [y]) (upd H4 D (.lst (ys ++ [y]))) else N ys H3
end
end L2

set_option Elab.async false
set_option linter.all false
set_option maxRecDepth 100000
set_option maxHeartbeats 4000000
/-! try and raise over the closed judgements -/
namespace L2
open PySem PySem.Spec PyProof.Rows
theorem s_try {X : Cx} {K : PySem.W.Frag} {body : List Stmt} {xc n : Str} {np hpos pos : Pos} {b₀ : Stmt} {suite : List Stmt} {tb : (St → XK) → TS} {ts : TS} {Cv : Value} (i : Nat) (hK : X.K = K) (hst : X.stack = X.env :: X.outer) (hfr : X.env.frame = some X.env.locals) (hN : X.N.Nodup) (hi : X.N[i]? = some n) (hn : X.env.scope.names.lookup n = some .local)
    (hg : Gl X xc) (hm : X.mg xc = some Cv ∨ (X.mg xc = none ∧ bootBuiltins xc = some Cv ∧ xc ≠ "__name__"))
    (hb : ∀ ps xe E, PassesS (Fly X.prog X.w) (X.tryB ps xe) E → QB (X.tryB ps xe) body (tb E)) (hs : ∀ e, QB (X.inExc e) (b₀ :: suite) ts) (hdb : (xc == ("__debug__" : Str)) = false) :
    QS X (.Try body [.ExceptHandler (some (.Name xc np)) (some n) (b₀ :: suite) hpos] [] [] pos) (tTry K Cv i tb ts) := by
  subst hK
  exact ⟨ps_try hst hfr hN hi hn hg hm (fun ps xe E hp => (hb ps xe E hp).out) (fun e => (hs e).out) hdb⟩
theorem s_raise {X : Cx} {x : Str} {C : Addr} {e₀ : Expr} {rest : List Expr} {t : TA} {E : St → XK} {np cpos pos : Pos}
    (q : PySem.W.excIn X.K C [.type "ValueError", .type "Exception", .type "BaseException", .type "object"] "ValueError.__new__" = true) (hr : RaisesS X E) (hc : X.calm = true) (hg : Gl X x) (hm : X.mg x = some (.ref C)) (ha : QA X (e₀ :: rest) t)
    (hdb : (x == ("__debug__" : Str)) = false) (h2 : noStar e₀ = true) (h3 : noStars rest = true) : QS X (.Raise (some (.Call (.Name x np) (e₀ :: rest) [] cpos)) none pos) (tRaise C E t) :=
  ⟨ps_raise PySem.F.excBase_ValueError q hr hc hg hm ha.out hdb (star_cons h2) (stars_any h3)⟩
end L2

set_option Elab.async false
set_option linter.all false
set_option maxRecDepth 100000
set_option maxHeartbeats 4000000
/-! More to walk: a text's signs, d.items(), enumerate of a list. -/
namespace L2
open PySem PySem.Spec PyProof.Rows
/-- untracked records of ours have turned -/
theorem Inv.turnedL {X : Cx} {pins : List (Addr × Obj)} {σ : St} {H : Hp} {s : Shared} {h' : Heap} {t' : Nat} {ch : List Addr} (I : Inv X pins σ H s) (k : ∀ b o, b ∉ ch → s.heap.get? b = some o → h'.get? b = some o) (hf : ∀ b ∈ ch, FpOk X pins H b) :
    Inv X pins σ H { s with heap := h', toks := t' } := by
  have nit : ∀ b u, H b = some u → b ∉ ch := fun b u e z => by rw [(hf b z).1] at e; cases e
  refine I.step (g' := s.gens) (d' := s.drawn) (ch := ch) (fun b hb => ?_) (fun b o _ _ hc e _ => k b o hc e) (fun b o _ _ hc e _ => ⟨o.slots, k b o hc e⟩) (fun _ _ _ _ n => n)
    (fun b o hc e => ⟨o, k b o hc e⟩) (fun _ _ e => e) (fun _ _ _ e => e) (fun b ps e => ⟨#[], by rw [e]; simp⟩) (fun m hm => ?_) (fun b u e => ?_) I.bare
  · obtain ⟨f0, f1, f2, f3, f4, f5⟩ := hf b hb
    exact ⟨f3, f1, f4, f5⟩
  · obtain ⟨o, es, ep, ho, r⟩ := hm
    exact ⟨o, es, ep, k _ o (fun z => (hf _ z).2.1 rfl) ho, r⟩
  · refine (I.hok b u e).stay (fun c v hc q => k c v ?_ q) (fun _ q => q) fun _ _ q => q
    rcases hc with z | z
    · rw [z]; exact nit b u e
    · exact nit c _ z
theorem FpOk.upd {X : Cx} {pins : List (Addr × Obj)} {H : Hp} {b a : Addr} {o : HO} (f : FpOk X pins H b) (h : b ≠ a) : FpOk X pins (L2.upd H a o) b := ⟨by rw [upd_ne h]; exact f.1, f.2⟩
/-! ### the signs of a text -/
def Its (x : Str) : It := ⟨fun i _ => i < x.cps.size, fun i H v H' => H' = H ∧ ∃ c, x.cps[i]? = some c ∧ v = .str ⟨#[c]⟩, fun i _ => x.cps.size ≤ i⟩
theorem turn_ascii {P : Program} {w : World} {K : PySem.W.Frag} {tg : Expr} (x : Str) (t : Tok) (it : Addr) : Turn P w K tg (Its x) [it] it (fun i h => h.IsStrIter it "str_ascii_iterator" x t i) where
  mem := by simp
  obj := fun i h st b hb => by
    have e : b = it := by simpa using hb
    subst e
    obtain ⟨o, e, c, d⟩ := st
    exact ⟨o, e, fun v z => by rw [d] at z; cases z⟩
  keep := fun i h h' st k => let ⟨o, ho, r⟩ := st; ⟨o, k it (by simp) o ho, r⟩
  item := by
    intro X hP hw hK hc i pins s σ H E I hf st hg
    subst hP hw hK
    have hi : i < x.cps.size := hg
    obtain ⟨f0, f1, f2, f3, f4, f5⟩ := hf it (by simp)
    refine wpAny_pyNext_ascii_item st (c := x.cps[i]) (by simp [hi]) fun h' st' sb => ?_
    have I1 : Inv X pins σ H { s with heap := h', toks := s.toks + 1 } := I.turned (fun b o hb e => (sb.2 b hb).trans e) f0 f1 f3 f4 f5
    obtain ⟨o, e, c, d⟩ := id st'
    exact ⟨_, rfl, go_of (s := { s with heap := h', toks := s.toks + 1 }) e c d (by decide) ⟨.str ⟨#[x.cps[i]]⟩, H, I1, ⟨_, rfl⟩, ⟨rfl, _, by simp [hi], rfl⟩, st', fun b hb => (hf b hb).1⟩⟩
  done := by
    intro X hP hw hK hc i pins s σ H E I hf st hg
    subst hP hw hK
    have hi : x.cps.size ≤ i := hg
    obtain ⟨f0, f1, f2, f3, f4, f5⟩ := hf it (by simp)
    exact wpAny_pyNext_ascii_end (I.ok.hd hc) st (by simp; omega) fun h' eb => ⟨rfl, I.turned (t' := s.toks) (fun b o hb e => eb b o hb e) f0 f1 f3 f4 f5⟩
  self := fun _ _ _ _ _ st h => wpAny_pyIter_striter_ascii st h
theorem turn_wide {P : Program} {w : World} {K : PySem.W.Frag} {tg : Expr} (x : Str) (t : Tok) (it : Addr) : Turn P w K tg (Its x) [it] it (fun i h => h.IsStrIter it "str_iterator" x t i) where
  mem := by simp
  obj := fun i h st b hb => by
    have e : b = it := by simpa using hb
    subst e
    obtain ⟨o, e, c, d⟩ := st
    exact ⟨o, e, fun v z => by rw [d] at z; cases z⟩
  keep := fun i h h' st k => let ⟨o, ho, r⟩ := st; ⟨o, k it (by simp) o ho, r⟩
  item := by
    intro X hP hw hK hc i pins s σ H E I hf st hg
    subst hP hw hK
    have hi : i < x.cps.size := hg
    obtain ⟨f0, f1, f2, f3, f4, f5⟩ := hf it (by simp)
    refine wpAny_pyNext_wide_item st (c := x.cps[i]) (by simp [hi]) fun h' st' sb => ?_
    have I1 : Inv X pins σ H { s with heap := h', toks := s.toks + 1 } := I.turned (fun b o hb e => (sb.2 b hb).trans e) f0 f1 f3 f4 f5
    obtain ⟨o, e, c, d⟩ := id st'
    exact ⟨_, rfl, go_of (s := { s with heap := h', toks := s.toks + 1 }) e c d (by decide) ⟨.str ⟨#[x.cps[i]]⟩, H, I1, ⟨_, rfl⟩, ⟨rfl, _, by simp [hi], rfl⟩, st', fun b hb => (hf b hb).1⟩⟩
  done := by
    intro X hP hw hK hc i pins s σ H E I hf st hg
    subst hP hw hK
    have hi : x.cps.size ≤ i := hg
    obtain ⟨f0, f1, f2, f3, f4, f5⟩ := hf it (by simp)
    exact wpAny_pyNext_wide_end (I.ok.hd hc) st (by simp; omega) fun h' eb => ⟨rfl, I.turned (t' := s.toks) (fun b o hb e => eb b o hb e) f0 f1 f3 f4 f5⟩
  self := fun _ _ _ _ _ st h => wpAny_pyIter_striter_wide st h
def iStr (tl : TE) : TI := fun σ H R => tl σ H fun v H1 => ∃ x, v = .str x ∧ R (Its x) H1
theorem pi_str {X : Cx} {tg l : Expr} {tl : TE} (hl : PE X l tl) : PI X tg l (iStr tl) := by
  intro pins s σ H R I h
  refine thn (hl pins s σ H _ I h) fun v s1 ⟨y, H1, I1, r1, q1⟩ => ?_
  obtain ⟨x, e, q⟩ := q1
  subst e
  obtain ⟨t, rfl⟩ := r1
  have fp : ∀ (o : Obj), ∀ b ∈ [s1.heap.objs.size], FpOk X pins H1 b := fun o b hb => by
    have e : b = s1.heap.objs.size := by simpa using hb
    subst e
    exact I1.fpOk (Nat.le_refl _) (I1.hok.fresh (Nat.le_refl _))
  cases ha : x.cps.all (· < 128)
  · refine wpAny_pyIter_wide ha ?_
    exact ⟨s1.heap.objs.size, [s1.heap.objs.size], _, _, H1, rfl, I1.kept (t' := s1.toks) fun b o e => Heap.get?_push_of_some _ e, turn_wide x t _, ⟨_, Heap.get?_push_size _ rfl, rfl, rfl⟩, fp default, q⟩
  · refine wpAny_pyIter_ascii ha ?_
    exact ⟨s1.heap.objs.size, [s1.heap.objs.size], _, _, H1, rfl, I1.kept (t' := s1.toks) fun b o e => Heap.get?_push_of_some _ e, turn_ascii x t _, ⟨_, Heap.get?_push_size _ rfl, rfl, rfl⟩, fp default, q⟩
theorem i_str {X : Cx} {tg e : Expr} {te : TE} (h : QE X e te) : QI X tg e (iStr te) := ⟨pi_str h.out⟩
theorem entry_ditems_iter : entryFor table "dict_itemiterator.__iter__" = some Builtin.«dict_keyiterator.__iter__» :=
  entryFor_alias (id' := "dict_keyiterator.__iter__") (by kernel_rfl) (by first | rfl | decide +kernel | (unfold String.splitOn; simp +decide [String.splitOnAux])) (by decide +kernel) (by kernel_rfl)
/-! ### d.items(): the dict is known to the object while it is walked -/
def Itd (a : Addr) (o : Obj) (kvs : List (Key × V)) : It :=
  ⟨fun i H => H a = some (.frz o (.dK kvs)) ∧ i < kvs.length, fun i H x H' => ∃ t k v, kvs[i]? = some (k, v) ∧ H t = none ∧ x = .ref t ∧ H' = upd H t (.tup [kV k, v]), fun i H => H a = some (.frz o (.dK kvs)) ∧ kvs.length ≤ i⟩
theorem KV.get {kvs : List (Key × V)} {vs : List (Key × Value)} (r : KV kvs vs) {i : Nat} {k : Key} {v : V} (e : kvs[i]? = some (k, v)) : ∃ u, vs[i]? = some (k, u) ∧ RelV v u := by
  unfold KV at r
  induction r generalizing i with
  | nil => simp at e
  | @cons p q ps qs h t ih =>
    cases i with
    | zero =>
      simp at e
      subst e
      obtain ⟨q1, q2⟩ := q
      obtain ⟨h1, h2⟩ := h
      cases h1
      exact ⟨q2, rfl, h2⟩
    | succ j => exact ih (by simpa using e)
theorem kV_rel {P : Program} {w : World} {k : Key} {u : Value} (h : (mixKind P w).is k u = true) : RelV (kV k) u := by
  rcases keyIs_shape (k := k) (v := u) h with ⟨i, t, rfl, rfl⟩ | ⟨x, t, rfl, rfl⟩
  · exact ⟨t, rfl⟩
  · exact ⟨t, rfl⟩
/-- a dict that is known to its object, with its epoch -/
theorem dictAt_of {X : Cx} {pins : List (Addr × Obj)} {σ : St} {H : Hp} {s : Shared} {a : Addr} {o : Obj} {es : Array DictEntry} {ep : Nat} {kvs : List (Key × V)} (I : Inv X pins σ H s) (e : H a = some (.frz o (.dK kvs))) (he : o.data = .dict es ep) :
    ∃ vs, KV kvs vs ∧ s.heap.DictAt (mixKind X.prog X.w) a vs ep := by
  obtain ⟨ho, _, _, vs, rel, o', es', ep', ho', hc, hd, r⟩ := (show ObjOk X.prog X.w H s.heap a (.frz o (.dK kvs)) from I.hok a _ e)
  rw [ho] at ho'
  cases ho'
  rw [he] at hd
  cases hd
  exact ⟨vs, rel, o, es, ho, hc, he, r⟩
theorem turn_items {P : Program} {w : World} {K : PySem.W.Frag} {elts : List Expr} {x1} {pos : Pos} (a it : Addr) (o : Obj) (es : Array DictEntry) (ep : Nat) (kvs : List (Key × V)) (he : o.data = .dict es ep) :
    Turn P w K (.Tuple elts x1 pos) (Itd a o kvs) [it] it (fun i h => ∃ ok ov, IsItemIter h it a i kvs.length ep ok ov) where
  mem := by simp
  obj := fun i h st b hb => by
    have e : b = it := by simpa using hb
    subst e
    obtain ⟨ok, ov, e⟩ := st
    exact ⟨_, e, fun v z => by
      have z' : Data.fields _ = Data.cell v := z
      cases z'⟩
  keep := fun i h h' st k => let ⟨ok, ov, e⟩ := st; ⟨ok, ov, k it (by simp) _ e⟩
  item := by
    intro X hP hw hK hc i pins s σ H E I hf st hg
    subst hP hw hK
    obtain ⟨hd, hi⟩ := hg
    obtain ⟨ok, ov, hit⟩ := st
    obtain ⟨vs, rel, da⟩ := dictAt_of I hd he
    obtain ⟨f0, f1, f2, f3, f4, f5⟩ := hf it (by simp)
    obtain ⟨⟨k, v⟩, hkv⟩ : ∃ p, kvs[i]? = some p := ⟨kvs[i], by simp [hi]⟩
    obtain ⟨u, hu, ru⟩ := rel.get hkv
    rw [KV.length rel] at hit
    refine wpAny_pyNext_items_item hit da hu fun key h1 hkey heo ht hz hk => ⟨_, rfl, ?_⟩
    refine wpAny_letOwnedTupleGo_items heo fun h2 he2 hs2 => ?_
    have hne : s.heap.objs.size ≠ it := Nat.ne_of_gt (Heap.lt_size hit)
    have old : ∀ b q, b ≠ it → s.heap.get? b = some q → h2.get? b = some q := fun b q hb e => (hs2.2 b hb).trans (hk b q hb e)
    have new : h2.get? s.heap.objs.size = some { cls := .type "tuple", data := .seq #[key, u] } := (hs2.2 _ hne).trans ht
    have I1 : Inv X pins σ (upd H s.heap.objs.size (.tup [kV k, v])) { s with heap := s.heap.push { cls := .type "tuple", data := .seq #[key, u] }, toks := s.toks } :=
      I.laid (fun b q e => Heap.get?_push_of_some _ e) (Nat.le_refl _) ⟨by show 2 ≤ sizeLine; decide, [key, u], .cons (kV_rel (P := X.prog) (w := X.w) hkey) (.cons ru .nil), _, Heap.get?_push_size _ rfl, rfl, _, rfl⟩
    have I2 := Inv.turned (h' := h2) (t' := s.toks) (it := it) I1 (fun b q hb e => by
      replace e : (s.heap.push { cls := .type "tuple", data := .seq #[key, u] }).get? b = some q := e
      by_cases hbs : b = s.heap.objs.size
      · subst hbs
        rw [Heap.get?_push_size _ rfl] at e
        cases e
        exact new
      · rw [Heap.get?_push_ne _ _ _ hbs] at e
        exact old b q hb e) (by rw [upd_ne (Ne.symm hne)]; exact f0) f1 f3 f4 f5
    refine ⟨.ref s.heap.objs.size, _, I2, rfl, ⟨_, k, v, hkv, I.hok.fresh (Nat.le_refl _), rfl, rfl⟩, ⟨key, u, ?_⟩, fun b hb => ?_⟩
    · rw [KV.length rel]; exact he2
    · have e : b = it := by simpa using hb
      subst e
      rw [upd_ne (Ne.symm hne)]; exact f0
  done := by
    intro X hP hw hK hc i pins s σ H E I hf st hg
    subst hP hw hK
    obtain ⟨hd, hi⟩ := hg
    obtain ⟨ok, ov, hit⟩ := st
    obtain ⟨vs, rel, da⟩ := dictAt_of I hd he
    obtain ⟨f0, f1, f2, f3, f4, f5⟩ := hf it (by simp)
    rw [KV.length rel] at hit hi
    exact wpAny_pyNext_items_end (I.ok.hd hc) hit da (by simp; omega) fun h' eb => ⟨rfl, I.turned (t' := s.toks) (fun b o hb e => eb b o hb e) f0 f1 f3 f4 f5⟩
  self := fun A i s Q E st h => by
    obtain ⟨ok, ov, e⟩ := st
    have hT : s.TypeIs (.ref it) "dict_itemiterator" := ⟨_, e, rfl⟩
    refine wpAny_pyIter_slot hT PySem.F.slot_dict_itemiterator_iter (wpAny_call_entry PySem.F.slot_dict_itemiterator_iter hT entry_ditems_iter ?_ (PySem.F.args_dict_itemiterator_iter_1 _))
    show wpAny _ _ (ret (.ref it)) _ _ s
    exact wpAny_pure ⟨_, rfl, "dict_itemiterator", _, hT, PySem.F.slot_dict_itemiterator_next.lookup, h⟩
/-- a dict becomes known to its object -/
theorem Inv.freeze {X : Cx} {pins : List (Addr × Obj)} {σ : St} {H : Hp} {s : Shared} {a : Addr} {kvs : List (Key × V)} (I : Inv X pins σ H s) (e : Rd H a (.dK kvs)) :
    ∃ (o : Obj) (es : Array DictEntry) (ep : Nat), o.data = .dict es ep ∧ (∀ o0 u, H a = some (.frz o0 u) → o = o0) ∧ Inv X pins σ (upd H a (.frz o (.dK kvs))) s := by
  rcases e with e | ⟨o, e⟩
  · obtain ⟨z, hs, vs, rel, o, es, ep, ho, hc, hd, r⟩ := (show ObjOk X.prog X.w H s.heap a (.dK kvs) from I.hok a _ e)
    have ok : ObjOk X.prog X.w (upd H a (.frz o (.dK kvs))) s.heap a (.frz o (.dK kvs)) := ⟨ho, z, hs, vs, rel, o, es, ep, ho, hc, hd, r⟩
    exact ⟨o, es, ep, hd, (fun o0 u z => by rw [e] at z; cases z), I.write (t' := s.toks) (e := a) (h' := s.heap) (by rw [e]; exact True.intro) (.inl rfl) (fun _ _ _ q => q) ⟨o, ho⟩ ok⟩
  · obtain ⟨ho, z, hs, vs, rel, o', es, ep, ho', hc, hd, r⟩ := (show ObjOk X.prog X.w H s.heap a (.frz o (.dK kvs)) from I.hok a _ e)
    rw [ho] at ho'
    cases ho'
    refine ⟨o, es, ep, hd, (fun o0 u z => by rw [e] at z; cases z; rfl), ?_⟩
    have z : upd H a (.frz o (.dK kvs)) = H := by
      funext b
      unfold upd
      split
      · rename_i q; rw [q, e]
      · rfl
    rw [z]
    exact I
/-- and it is known to it no more, where it was not at the entry -/
theorem Inv.thaw {X : Cx} {pins : List (Addr × Obj)} {σ : St} {H : Hp} {s : Shared} {a : Addr} {o : Obj} {kvs : List (Key × V)} (I : Inv X pins σ H s) (e : H a = some (.frz o (.dK kvs))) (h0 : ∀ o u, X.H₀ a ≠ some (.frz o u)) :
    Inv X pins σ (upd H a (.dK kvs)) s := by
  have ok : ObjOk X.prog X.w H s.heap a (.dK kvs) := (show ObjOk X.prog X.w H s.heap a (.frz o (.dK kvs)) from I.hok a _ e).2
  have ne : ∀ b, H b = none → b ≠ a := fun b n z => by rw [z, e] at n; cases n
  refine ⟨I.ok, I.os, I.bare, ⟨I.base.keep, I.base.slot, fun b q e1 n hx => ?_, I.base.there, fun b xs q => ?_, fun b q u z => ?_, fun b ps q => ?_⟩, I.loc, I.cell, ?_, fun x c q => ?_, fun p hp => ?_, ?_, I.len⟩
  · have z := I.base.free b q e1 n hx
    rw [upd_ne (ne b z)]; exact z
  · have z := I.base.tups b xs q
    rw [upd_ne (fun y => by rw [y, e] at z; cases z)]; exact z
  · have y := I.base.frzs b q u z
    rw [upd_ne (fun y' => h0 q u (by rw [← y']; exact z))]; exact y
  · obtain ⟨m, z⟩ := I.base.tbls b ps q
    exact ⟨m, by rw [upd_ne (fun y => by rw [y, e] at z; cases z)]; exact z⟩
  · rw [upd_ne (ne _ I.free)]; exact I.free
  · rw [upd_ne (ne _ (I.freeC x c q))]; exact I.freeC x c q
  · obtain ⟨a1, a2, a3⟩ := I.pin p hp
    exact ⟨a1, by rw [upd_ne (ne _ a2)]; exact a2, a3⟩
  · intro b u q
    by_cases hb : b = a
    · subst hb
      rw [upd_same] at q
      cases q
      exact ok.stay (fun _ _ _ z => z) (fun c z => by rw [upd_ne (fun y => by rw [y, e] at z; cases z)]; exact z) fun c xs z => by rw [upd_ne (fun y => by rw [y, e] at z; cases z)]; exact z
    · rw [upd_ne hb] at q
      exact (I.hok b u q).stay (fun _ _ _ z => z) (fun c z => by rw [upd_ne (fun y => by rw [y, e] at z; cases z)]; exact z) fun c xs z => by rw [upd_ne (fun y => by rw [y, e] at z; cases z)]; exact z
def iItems (td : TE) : TI := fun σ H R => td σ H fun x H1 => ∃ a kvs, x = .ref a ∧ Rd H1 a (.dK kvs) ∧ ∀ o, (∀ o0 u, H1 a = some (.frz o0 u) → o = o0) → R (Itd a o kvs) (upd H1 a (.frz o (.dK kvs)))
theorem pi_items {X : Cx} {d : Expr} {elts : List Expr} {x1} {tpos apos pos : Pos} {td : TE} (hd : PE X d td) (hb : attributeBase d "items" X.env (eval d X.env) = eval d X.env) (hl : (apos.endLine == pos.line) = true) :
    PI X (.Tuple elts x1 tpos) (.Call (.Attribute d "items" apos) [] [] pos) (iItems td) := by
  intro pins s σ H R I h
  refine wpAny_Call_method (T := "dict") (id := "dict.items") hb rfl hl PySem.F.plainAttrs_dict PySem.F.slot_dict_items PySem.F.type_dict_items (thn (hd pins s σ H _ I h) fun u s1 ⟨x, H1, I1, rx, a, kvs, ex, e, q⟩ => ?_)
  subst ex
  obtain rfl : u = Value.ref a := rx
  obtain ⟨z, hs, vs, rel, dd⟩ := dk_rd I1.hok e
  refine ⟨dd.typeIs, dd.mapOf.noDict, ?_⟩
  obtain ⟨o, es, ep, hod, hof, I2⟩ := I1.freeze e
  obtain ⟨vs2, rel2, da⟩ := dictAt_of I2 (by rw [upd_same]) hod
  show wpAny _ _ (callWith pos (.builtin "dict.items") [.ref a] [] []) _ _ s1
  refine method_meetsIn PySem.F.slot_dict_items PySem.F.entry_dict_items rfl (PySem.evalArgs_none ⟨rfl, dd.typeIs, PySem.F.args_dict_items_1 _, _, meets_dict_items (mixKind X.prog X.w) a hs, ⟨vs, dd⟩, ?_⟩)
  show wpAny _ _ (pyIter (.ref s1.heap.objs.size)) _ _ _
  refine wpAny_pyIter_items (knd := mixKind X.prog X.w) (d := a) (kvs := vs2) (ep := ep) ⟨_, Heap.get?_push_size _ rfl, rfl, rfl⟩ (da.push _) ?_
  have I3 : Inv X pins σ (upd H1 a (.frz o (.dK kvs))) { s1 with heap := s1.heap.push { cls := .type "dict_items", data := .fields #[.ref a] }, toks := s1.toks } := I2.kept fun b o e => Heap.get?_push_of_some _ e
  refine ⟨_, [_], _, _, _, rfl, I3.kept (t' := s1.toks) fun b o e => Heap.get?_push_of_some _ e, turn_items a _ o es ep kvs hod, ⟨.none, .none, ?_⟩, fun b hb => ?_, q o hof⟩
  · rw [KV.length rel2]
    exact Heap.get?_push_size _ rfl
  · have e : b = (s1.heap.push { cls := .type "dict_items", data := .fields #[.ref a] }).objs.size := by simpa using hb
    subst e
    exact I3.fpOk (Nat.le_refl _) (I3.hok.fresh (Nat.le_refl _))
theorem i_items {X : Cx} {d : Expr} {elts : List Expr} {x1} {tpos apos pos : Pos} {td : TE} (hd : QE X d td) (hb : attributeBase d "items" X.env (eval d X.env) = eval d X.env) (hl : (apos.endLine == pos.line) = true) :
    QI X (.Tuple elts x1 tpos) (.Call (.Attribute d "items" apos) [] [] pos) (iItems td) := ⟨pi_items hd.out hb hl⟩
/-! ### enumerate(xs) -/
def Ite (K : PySem.W.Frag) (l : Addr) : It :=
  ⟨fun i H => ∃ xs x, SqL K H l xs ∧ xs[i]? = some x, fun i H x H' => ∃ t y, (∀ xs, SqL K H l xs → xs[i]? = some y) ∧ H t = none ∧ x = .ref t ∧ H' = upd H t (.tup [.int i, y]), fun i H => ∃ xs, SqL K H l xs ∧ xs.length ≤ i⟩
theorem turn_enum {P : Program} {w : World} {K : PySem.W.Frag} {elts : List Expr} {x1} {pos : Pos} (l e it : Addr) (hne : e ≠ it) : Turn P w K (.Tuple elts x1 pos) (Ite K l) [e, it] e (fun i h => ∃ old, IsEnum h e it i old ∧ h.IsListIter it l i) where
  mem := by simp
  obj := fun i h st b hb => by
    obtain ⟨old, e1, o, e2, c, d⟩ := st
    rcases List.mem_cons.mp hb with r | r
    · subst r
      exact ⟨_, e1, fun v z => by
        have z' : Data.fields _ = Data.cell v := z
        cases z'⟩
    · have r' : b = it := by simpa using r
      subst r'
      exact ⟨o, e2, fun v z => by rw [d] at z; cases z⟩
  keep := fun i h h' st k => let ⟨old, e1, e2⟩ := st; ⟨old, k e (by simp) _ e1, e2.at fun o z => k it (by simp) o z⟩
  item := by
    intro X hP hw hK hc i pins s σ H E I hf st hg
    subst hP hw hK
    obtain ⟨xs, x, hq, hx⟩ := hg
    obtain ⟨old, hen, hit⟩ := st
    obtain ⟨its, rv, p, hz⟩ := I.list hq
    obtain ⟨u, hu, ru⟩ := rv.get hx
    obtain ⟨f0, f1, f2, f3, f4, f5⟩ := hf e (by simp)
    obtain ⟨g0, g1, g2, g3, g4, g5⟩ := hf it (by simp)
    refine wpAny_pyNext_enum_item hen hit p.isList (x := u) (by simpa using hu) hne fun h1 heo hit1 ht hz1 hk => ⟨_, rfl, ?_⟩
    refine wpAny_letOwnedTupleGo_enum heo fun h2 he2 hs2 => ?_
    replace hs2 : Heap.SameBut e h1 h2 := hs2
    have hn1 : s.heap.objs.size ≠ e := Nat.ne_of_gt (Heap.lt_size hen)
    have hn2 : s.heap.objs.size ≠ it := by
      obtain ⟨o, z, _⟩ := hit
      exact Nat.ne_of_gt (Heap.lt_size z)
    have old' : ∀ b q, b ≠ e → b ≠ it → s.heap.get? b = some q → h2.get? b = some q := fun b q hb hb2 z => (hs2.2 b hb).trans (hk b q hb hb2 z)
    have new : h2.get? s.heap.objs.size = some { cls := .type "tuple", data := .seq #[.int i s.toks, u] } := (hs2.2 _ hn1).trans ht
    obtain ⟨oi, hoi, hci⟩ := id hit
    obtain ⟨oj, hoj, hcj⟩ := id hit1
    have hoj2 : h2.get? it = some oj := (hs2.2 it (Ne.symm hne)).trans hoj
    have I1 : Inv X pins σ (upd H s.heap.objs.size (.tup [.int i, x])) { s with heap := s.heap.push { cls := .type "tuple", data := .seq #[.int i s.toks, u] }, toks := s.toks + 1 } :=
      I.laid (fun b q e => Heap.get?_push_of_some _ e) (Nat.le_refl _) ⟨by show 2 ≤ sizeLine; decide, [.int i s.toks, u], .cons ⟨_, rfl⟩ (.cons ru .nil), _, Heap.get?_push_size _ rfl, rfl, _, rfl⟩
    have I2 := Inv.turnedL (h' := h2) (t' := s.toks + 1) (ch := [e, it]) I1 (fun b q hb z => by
      have hb1 : b ≠ e := fun y => hb (by simp [y])
      have hb2 : b ≠ it := fun y => hb (by simp [y])
      replace z : (s.heap.push { cls := .type "tuple", data := .seq #[.int i s.toks, u] }).get? b = some q := z
      by_cases hbs : b = s.heap.objs.size
      · subst hbs
        rw [Heap.get?_push_size _ rfl] at z
        cases z
        exact new
      · rw [Heap.get?_push_ne _ _ _ hbs] at z
        exact old' b q hb1 hb2 z) (fun b hb => (hf b hb).upd (by
          rcases List.mem_cons.mp hb with r | r
          · subst r; exact Ne.symm hn1
          · have r' : b = it := by simpa using r
            subst r'; exact Ne.symm hn2))
    refine ⟨.ref s.heap.objs.size, _, I2, rfl, ⟨_, x, fun ys hy => by rw [I.list_inj hy hq]; exact hx, I.hok.fresh (Nat.le_refl _), rfl, rfl⟩, ⟨u, ?_, oj, hoj2, hcj⟩, fun b hb => ?_⟩
    · have z : ((i + 1 : Nat) : Int) = (i : Int) + 1 := by omega
      rw [z]; exact he2
    · rcases List.mem_cons.mp hb with r | r
      · subst r
        rw [upd_ne (Ne.symm hn1)]; exact f0
      · have r' : b = it := by simpa using r
        subst r'
        rw [upd_ne (Ne.symm hn2)]; exact g0
  done := by
    intro X hP hw hK hc i pins s σ H E I hf st hg
    subst hP hw hK
    obtain ⟨xs, hq, hx⟩ := hg
    obtain ⟨old, hen, hit⟩ := st
    obtain ⟨its, rv, p, hz⟩ := I.list hq
    obtain ⟨g0, g1, g2, g3, g4, g5⟩ := hf it (by simp)
    have hl := rv.length
    exact wpAny_pyNext_enum_end (I.ok.hd hc) hen hit p.isList (by simp; omega) fun h' eb => ⟨rfl, I.turned (t' := s.toks) (fun b o hb e => eb b o hb e) g0 g1 g3 g4 g5⟩
  self := fun A i s Q E st h => by
    obtain ⟨old, e1, _⟩ := st
    exact wpAny_pyIter_enum e1 h
def iEnum (K : PySem.W.Frag) (ta : TA) : TI := fun σ H R => ta σ H fun vs H1 => ∃ a, vs = [.ref a] ∧ (∃ xs, SqL K H1 a xs) ∧ R (Ite K a) H1
theorem pi_enum {X : Cx} {a : Expr} {ta : TA} {p pos tpos : Pos} {elts : List Expr} {x1} (hg : Gl X "enumerate") (hm : X.mg "enumerate" = none) (ha : PA X [a] ta) (hs : starEach [a] X.env = [(false, eval a X.env)]) :
    PI X (.Tuple elts x1 tpos) (.Call (.Name "enumerate" p) [a] [] pos) (iEnum X.K ta) := by
  intro pins s σ H R I h
  refine Call_ (ld_blt I hg hm boot_enumerate (PyProof.Rows.callWith_type1 (thn (ha pos pins s σ H _ I h) fun us s1 ⟨vs, H1, I1, r1, q1⟩ => ?_) hs rfl))
  obtain ⟨l, e, ⟨xs, hq⟩, q⟩ := q1
  subst e
  obtain ⟨u, rfl, ru⟩ := vals1 r1
  cases ru
  obtain ⟨its, rv, pl, hz⟩ := I1.list hq
  refine call_enumerate_list pl.isList fun h' he hit hsz hk => ?_
  refine wpAny_pyIter_enum he ?_
  refine ⟨_, [s1.heap.objs.size + 1, s1.heap.objs.size], _, _, H1, rfl, I1.kept (t' := s1.toks) hk, turn_enum l _ _ (Nat.succ_ne_self _), ⟨_, he, hit⟩, fun b hb => ?_, q⟩
  rcases List.mem_cons.mp hb with r | r
  · subst r
    exact I1.fpOk (Nat.le_succ _) (I1.hok.fresh (Nat.le_succ _))
  · have r' : b = s1.heap.objs.size := by simpa using r
    subst r'
    exact I1.fpOk (Nat.le_refl _) (I1.hok.fresh (Nat.le_refl _))
theorem i_enum {X : Cx} {K : PySem.W.Frag} {a : Expr} {ta : TA} {p pos tpos : Pos} {elts : List Expr} {x1} (hK : X.K = K) (hg : Gl X "enumerate") (hm : X.mg "enumerate" = none) (ha : QA X [a] ta) (h2 : noStar a = true) :
    QI X (.Tuple elts x1 tpos) (.Call (.Name "enumerate" p) [a] [] pos) (iEnum K ta) := by
  subst hK
  exact ⟨pi_enum hg hm ha.out (by rw [star_cons h2]; rfl)⟩
end L2

set_option Elab.async false
set_option linter.all false
set_option maxRecDepth 100000
set_option maxHeartbeats 4000000
/-! More calls: all of a list, texts compared, str of data, sorted of a dict's names, dict of a list of pairs, dicts compared. -/
namespace L2
open PySem PySem.Spec PyProof.Rows
section
variable {X : Cx}
theorem op_le_str : OpR X (compareOp .LtE) (fun x y H Q => ∃ i j, x = .str i ∧ y = .str j ∧ Q (.bl (!decide (j.cps.toList < i.cps.toList))) H) := by
  intro pins s σ H x y v u Q I rx ry h
  obtain ⟨i, j, rfl, rfl, q⟩ := h
  obtain ⟨t, rfl⟩ := rx
  obtain ⟨t', rfl⟩ := ry
  exact PySem.P.le_str (fin_bl I q rfl)
theorem vals_bl : ∀ {bs : List Bool} {us : List Value}, Vals (bs.map V.bl) us → us = bs.map Value.bool
  | [], _, r => by cases r; rfl
  | b :: bs, _, r => by
    cases r with
    | cons h t =>
      cases h
      rw [vals_bl t]; rfl
theorem range_all {bs : List Bool} : (List.range bs.length).all (fun i => bs.getD i false) = bs.all id := by
  rw [Bool.eq_iff_iff, List.all_eq_true, List.all_eq_true]
  constructor
  · intro h b hb
    obtain ⟨i, hi, e⟩ := List.getElem_of_mem hb
    have := h i (List.mem_range.mpr hi)
    rw [List.getD_eq_getElem?_getD, List.getElem?_eq_getElem hi] at this
    rw [← e]; exact this
  · intro h i hi
    have hi' := List.mem_range.mp hi
    rw [List.getD_eq_getElem?_getD, List.getElem?_eq_getElem hi']
    exact h _ (List.getElem_mem hi')
theorem call_all (hc : X.calm = true) : CallR X (.builtin "all") (fun xs H Q => ∃ (a : Addr) (bs : List Bool), xs = [.ref a] ∧ SqL X.K H a (bs.map V.bl) ∧ Q (.bl (bs.all id)) H) := by
  intro pins s σ H xs us Q I r h
  obtain ⟨a, bs, rfl, hq, q⟩ := h
  obtain ⟨u, rfl, ru⟩ := vals1 r
  cases ru
  obtain ⟨its, rv, p, hz⟩ := I.list hq
  have e := vals_bl rv
  subst e
  have hlt : a < s.heap.objs.size := by
    obtain ⟨o, ho, _⟩ := p.isList
    exact Heap.lt_size ho
  refine call_all_walk (wpAny_pyIter_list p.isList ⟨s.heap.objs.size, _, _, _, _, _, fun i => bs.getD i false, rfl, Walks.list (show X.A.in1.handled = none from I.ok.hd hc) s.heap.objs.size a (Nat.ne_of_lt hlt) (bs.map Value.bool).toArray,
    ⟨⟨_, Heap.get?_push_size _ rfl, rfl, rfl⟩, p.isList.at fun o z => Heap.get?_push_of_some _ z⟩, fun i v s' Q' E' hP hQ => ?_, fun h' tk hk => ?_⟩)
  · have e : v = .bool (bs.getD i false) := by
      have hP' : ((bs.map Value.bool).toArray)[i]? = some v := hP
      rw [List.getElem?_toArray, List.getElem?_map] at hP'
      cases q2 : bs[i]? with
      | none => rw [q2] at hP'; cases hP'
      | some b =>
        rw [q2] at hP'
        rw [List.getD_eq_getElem?_getD, q2]
        exact (Option.some.inj hP').symm
    subst e
    exact wpAny_pure hQ
  · have ez : ((bs.map Value.bool).toArray).size = bs.length := by simp
    refine ⟨.bl (bs.all id), H, ?_, ?_, q⟩
    · refine I.kept fun b o z => hk b o (fun y => ?_) (Heap.get?_push_of_some _ z)
      have y' : b = s.heap.objs.size := by simpa using y
      exact absurd (y' ▸ Heap.lt_size z) (Nat.lt_irrefl _)
    · show Value.bool _ = Value.bool _
      rw [ez, range_all]
end
end L2
/-! ### str of a dict without dicts in it -/
namespace PySem
theorem showsBy_dict0 {prog : Program} {w : World} {h₀ : Heap} {a : Addr} {o : Obj} {es : Array DictEntry} {n : Nat} {kvs : List (PyData × PyData)} {as₁ bs₁ : List Addr} (h1 : h₀.get? a = some o) (h2 : o.cls = .type "dict") (h3 : o.data = .dict es n)
    (hsys : (a == sysModules) = false) (h4 : ReadsAll h₀ (es.toList.map (·.key)) (kvs.map (·.1)) as₁) (h5 : ReadsAll h₀ (es.toList.map (·.val)) (kvs.map (·.2)) bs₁) (hs : (PyData.dict kvs).showable = true)
    (n1 : PyData.hasDictAll (kvs.map (·.1)) = false) (n2 : PyData.hasDictAll (kvs.map (·.2)) = false) (hsz : (PyData.dict kvs).shown.length ≤ sizeLine) : ShowsBy prog w h₀ a (.dict kvs) "dict" "dict.__repr__" := by
  have hz' : (dictText (PyData.shownKv kvs)).length ≤ sizeLine := by simpa only [PyData.shown] using hsz
  obtain ⟨hs1, hs2⟩ := PyData.showableKv_split kvs (by simpa [PyData.showable] using hs)
  obtain ⟨b1, hb1, k1⟩ := ReprAllK.of_readsAll (prog := prog) (w := w) h4 hs1 (fun z => by rw [n1] at z; cases z) (fun t ht => let ⟨p, hp, hl⟩ := PyData.shownKv_key_le kvs t ht; Nat.le_trans hl (Nat.le_trans (dictText_mem_le hp) hz'))
  obtain ⟨b2, hb2, k2⟩ := ReprAllK.of_readsAll (prog := prog) (w := w) h5 hs2 (fun z => by rw [n2] at z; cases z) (fun t ht => let ⟨p, hp, hl⟩ := PyData.shownKv_val_le kvs t ht; Nat.le_trans hl (Nat.le_trans (dictText_mem_le hp) hz'))
  have hb : ReadAtMost h₀ (PyData.depthKv kvs) (b1 ++ b2) := (hb1.mono (PyData.depthAll_keys_le kvs)).append (hb2.mono (PyData.depthAll_vals_le kvs))
  have hna : a ∉ b1 ++ b2 := not_mem_of_deeper (.dict h1 h2 h3 h4 h5) (by simp only [PyData.depth]; omega) hb
  refine ⟨F.slot_dict_repr, F.slot_dict_str, F.slot_dict_format, fun s hk0 => ⟨o, hk0 _ _ h1, h2⟩, fun A E s Q hg hu hk0 hQ => ?_⟩
  simp only [PyData.depth] at hu
  simp only [PyData.shown, PyData.shownKv_eq] at hQ
  exact call_dict_reprK h1 h2 h3 hsys hna (ReprEntriesK.of_two es.toList _ _
    (k1.more_le (fun b hb => List.mem_append_left _ hb) (PyData.depthAll_keys_le kvs)) (k2.more_le (fun b hb => List.mem_append_right _ hb) (PyData.depthAll_vals_le kvs))) hg (fun b _ => Clear.nil b) hu hk0 hQ (by rw [← PyData.shownKv_eq]; exact hz')
theorem strOf_by {prog : Program} {w : World} {h₀ : Heap} {a : Addr} {d : PyData} {T idr : String} (S : ShowsBy prog w h₀ a d T idr) {A : Around} {E : Value → Shared → Prop} {s : Shared} {Q : Value → Shared → Prop} (hg : A.guards = some []) (hu : A.units + (d.depth + 1) < cLine) (hk0 : ∀ b o, h₀.get? b = some o → s.heap.get? b = some o)
    (hQ : ∀ h' u tk, (∀ b o, s.heap.get? b = some o → h'.get? b = some o) → Q (.str d.shown u) { s with heap := h', toks := tk }) : wpAny (model prog w) A (Builtin.Str.strOf (.ref a)) Q E s :=
  wpAny_strOf_slot rfl (by omega) (S.typeIs s hk0) S.slotStr S.slotRepr (S.call A.in1 E s _ hg (by show A.units + 1 + d.depth < cLine; omega) hk0 fun h' u tk hk => ⟨_, _, rfl, hQ h' u tk hk⟩)
theorem str_by {prog : Program} {w : World} {h₀ : Heap} {a : Addr} {d : PyData} (S : ∀ (prog : Program) (w : World), ∃ T idr, ShowsBy prog w h₀ a d T idr) {A : Around} {E : Value → Shared → Prop} {s : Shared} {Q : Value → Shared → Prop} (hg : A.guards = some []) (hu : A.units + (d.depth + 3) < cLine) (hk0 : ∀ b o, h₀.get? b = some o → s.heap.get? b = some o)
    (hQ : ∀ h' u tk, (∀ b o, s.heap.get? b = some o → h'.get? b = some o) → Q (.str d.shown u) { s with heap := h', toks := tk }) : wpAny (model prog w) A (call (.type "str") [.ref a]) Q E s :=
  callType_new F.called_str (by decide) (F.typeCall_str_1 _) (F.newCall_str_1 _) (fun obj => F.args_object_init_2 obj _) F.entry_str_new
    (meets_str_new (S := fun A' R s' => A'.guards = some [] ∧ A'.units + (d.depth + 2) < cLine ∧ (∀ b o, h₀.get? b = some o → s'.heap.get? b = some o) ∧
        ∀ h' u tk, (∀ b o, s'.heap.get? b = some o → h'.get? b = some o) → R (.ok (.ret (.str d.shown u))) { s' with heap := h', toks := tk })
      fun prog' w' A' R s' h => let ⟨T, idr, S'⟩ := S prog' w'; strOf_by (A := A'.in1) S' h.1 (by show A'.units + 1 + (d.depth + 1) < cLine; have := h.2.1; omega) h.2.2.1 h.2.2.2)
    ⟨hg, by show A.units + 1 + (d.depth + 2) < cLine; omega, hk0, fun h' u tk hk => ⟨typeIs_str _ _ _, hQ h' u tk hk⟩⟩
end PySem
namespace L2
open PySem PySem.Spec PyProof.Rows
/-- data on the abstract heap, without dicts, at most n deep -/
def Dat (H : Hp) : Nat → V → PyData → Prop
  | _, .non, d => d = .none
  | _, .bl b, d => d = .bool b
  | _, .int i, d => d = .int i
  | _, .str x, d => d = .str x
  | n + 1, .ref a, d => (∃ xs ds, d = .list ds ∧ Rd H a (.lst xs) ∧ Paired (Dat H n) xs ds) ∨ ∃ xs ds, d = .tuple ds ∧ H a = some (.tup xs) ∧ Paired (Dat H n) xs ds
  | _, _, _ => False
section
variable {X : Cx} {pins : List (Addr × Obj)} {σ : St} {H : Hp} {s : Shared}
theorem reads_all {n : Nat} (ih : ∀ {x : V} {d : PyData} {u : Value}, Dat H n x d → RelV x u → ∃ as, Reads s.heap u d as) : ∀ {xs : List V} {ds : List PyData} {us : List Value}, Paired (Dat H n) xs ds → Vals xs us → ∃ as, ReadsAll s.heap us ds as
  | [], _, _, h, r => by
    cases h
    cases r
    exact ⟨[], .nil⟩
  | x :: xs, _, _, h, r => by
    cases h with
    | cons h1 h2 =>
      cases r with
      | cons r1 r2 =>
        obtain ⟨a1, q1⟩ := ih h1 r1
        obtain ⟨a2, q2⟩ := reads_all ih h2 r2
        exact ⟨a1 ++ a2, .cons q1 q2⟩
theorem dat_reads (I : Inv X pins σ H s) : ∀ (n : Nat) {x : V} {d : PyData} {u : Value}, Dat H n x d → RelV x u → ∃ as, Reads s.heap u d as
  | n, .non, d, u, h, r => by
    have h' : d = .none := by cases n <;> exact h
    cases h'; cases r; exact ⟨[], .none⟩
  | n, .bl b, d, u, h, r => by
    have h' : d = .bool b := by cases n <;> exact h
    cases h'; cases r; exact ⟨[], .bool b⟩
  | n, .int i, d, u, h, r => by
    have h' : d = .int i := by cases n <;> exact h
    obtain ⟨t, rfl⟩ := r
    cases h'; exact ⟨[], .int i t⟩
  | n, .str x, d, u, h, r => by
    have h' : d = .str x := by cases n <;> exact h
    obtain ⟨t, rfl⟩ := r
    cases h'; exact ⟨[], .str x t⟩
  | 0, .ref a, d, u, h, r => h.elim
  | n + 1, .ref a, d, u, h, r => by
    cases r
    rcases h with ⟨xs, ds, rfl, e, p⟩ | ⟨xs, ds, rfl, e, p⟩
    · obtain ⟨_, its, k, rv, ho⟩ := e.ok I.hok
      obtain ⟨as, q⟩ := reads_all (fun h r => dat_reads I n h r) p rv
      exact ⟨_, .list ho rfl rfl (by simpa using q)⟩
    · obtain ⟨_, its, rv, o, ho, hc, k, hd⟩ := (show ObjOk X.prog X.w H s.heap a (.tup xs) from I.hok a _ e)
      obtain ⟨as, q⟩ := reads_all (fun h r => dat_reads I n h r) p rv
      exact ⟨_, .tuple ho hc hd (by simpa using q)⟩
  | n, .byt _, d, u, h, r => by cases n <;> exact h.elim
  | n, .flt _, d, u, h, r => by cases n <;> exact h.elim
  | n, .ty _, d, u, h, r => by cases n <;> exact h.elim
def kD : Key → PyData
  | .inl i => .int i
  | .inr x => .str x
theorem pairs_keys : ∀ {es : List DictEntry} {vs : List (Key × Value)}, Pairs (mixKind X.prog X.w) es vs → ∃ as, ReadsAll s.heap (es.map (·.key)) (vs.map fun p => kD p.1) as
  | [], _, h => by cases h; exact ⟨[], .nil⟩
  | e :: es, _, h => by
    cases h with
    | @cons _ kv _ kvs h1 h2 h3 =>
      obtain ⟨as, q⟩ := pairs_keys h3
      obtain ⟨k, v⟩ := kv
      rcases keyIs_shape (k := k) (v := e.key) h1 with ⟨i, t, e1, e2⟩ | ⟨x, t, e1, e2⟩
      · refine ⟨[] ++ as, .cons ?_ q⟩
        show Reads s.heap e.key (kD k) []
        rw [e2, e1]; exact .int i t
      · refine ⟨[] ++ as, .cons ?_ q⟩
        show Reads s.heap e.key (kD k) []
        rw [e2, e1]; exact .str x t
theorem pairs_vals {n : Nat} (I : Inv X pins σ H s) : ∀ {es : List DictEntry} {vs : List (Key × Value)} {kvs : List (Key × V)} {ds : List PyData}, Pairs (mixKind X.prog X.w) es vs → KV kvs vs → Paired (fun (p : Key × V) d => Dat H n p.2 d) kvs ds →
    ∃ as, ReadsAll s.heap (es.map (·.val)) ds as
  | [], _, _, _, h, r, p => by
    cases h
    unfold KV at r
    cases r
    cases p
    exact ⟨[], .nil⟩
  | e :: es, _, _, _, h, r, p => by
    cases h with
    | @cons _ kv _ kvs' h1 h2 h3 =>
      unfold KV at r
      cases r with
      | cons r1 r2 =>
        cases p with
        | cons p1 p2 =>
          obtain ⟨as, q⟩ := pairs_vals (n := n) I h3 r2 p2
          obtain ⟨b, q1⟩ := dat_reads I n p1 r1.2
          refine ⟨b ++ as, .cons ?_ q⟩
          show Reads s.heap e.val _ b
          rw [h2]; exact q1
theorem no_dict (H : Hp) : ∀ (n : Nat) {x : V} {d : PyData}, Dat H n x d → d.hasDict = false := by
  have all : ∀ {n : Nat}, (∀ {x : V} {d : PyData}, Dat H n x d → d.hasDict = false) → ∀ {xs : List V} {ds : List PyData}, Paired (Dat H n) xs ds → PyData.hasDictAll ds = false := by
    intro n ih xs ds p
    induction p with
    | nil => simp only [PyData.hasDictAll]
    | cons h _ q => simp only [PyData.hasDictAll, ih h, q, Bool.or_false]
  intro n
  induction n with
  | zero =>
    intro x d h
    cases x <;> first | exact h.elim | (cases (show d = _ from h); simp only [PyData.hasDict])
  | succ n ih =>
    intro x d h
    cases x with
    | ref a =>
      rcases h with ⟨xs, ds, rfl, e, p⟩ | ⟨xs, ds, rfl, e, p⟩
      · simp only [PyData.hasDict]; exact all ih p
      · simp only [PyData.hasDict]; exact all ih p
    | byt b => exact h.elim
    | flt b => exact h.elim
    | ty b => exact h.elim
    | _ => cases (show d = _ from h); simp only [PyData.hasDict]
theorem no_dicts {H : Hp} {n : Nat} {kvs : List (Key × V)} {ds : List PyData} (p : Paired (fun (p : Key × V) d => Dat H n p.2 d) kvs ds) : PyData.hasDictAll ds = false := by
  induction p with
  | nil => simp only [PyData.hasDictAll]
  | cons h _ q => simp only [PyData.hasDictAll, no_dict H n h, q, Bool.or_false]
theorem no_keys : ∀ ks : List Key, PyData.hasDictAll (ks.map kD) = false
  | [] => by simp only [List.map_nil, PyData.hasDictAll]
  | .inl i :: ks => by simp only [List.map_cons, PyData.hasDictAll, kD, PyData.hasDict, no_keys ks, Bool.or_false]
  | .inr i :: ks => by simp only [List.map_cons, PyData.hasDictAll, kD, PyData.hasDict, no_keys ks, Bool.or_false]
/-- the data of a dict -/
def dD (kvs : List (Key × V)) (ds : List PyData) : PyData := .dict ((kvs.map fun p => kD p.1).zip ds)
theorem call_strD (hg : X.A.guards = some []) {m : Nat} (hu : X.A.units + (m + 3) < cLine) : CallR X (.type "str") (fun xs H Q => ∃ a kvs ds n, xs = [.ref a] ∧ Rd H a (.dK kvs) ∧ Paired (fun (p : Key × V) d => Dat H n p.2 d) kvs ds ∧
    (dD kvs ds).showable = true ∧ (dD kvs ds).shown.length ≤ sizeLine ∧ (dD kvs ds).depth ≤ m ∧ Q (.str (dD kvs ds).shown) H) := by
  intro pins s σ H xs us Q I r h
  obtain ⟨a, kvs, ds, n, rfl, e, p, sh, sz, dp, q⟩ := h
  obtain ⟨u, rfl, ru⟩ := vals1 r
  cases ru
  obtain ⟨z, hs, vs, rel, o, es, ep, ho, hc, hd, hk, hp, hn⟩ := dk_rd I.hok e
  obtain ⟨as1, q1⟩ := pairs_keys (X := X) (s := s) hp
  obtain ⟨as2, q2⟩ := pairs_vals I hp rel p
  have ek : vs.map (fun p => kD p.1) = kvs.map fun p => kD p.1 := by
    have := KV.keys rel
    have z1 : (kvs.map (·.1)).map kD = (vs.map (·.1)).map kD := by rw [this]
    rw [List.map_map, List.map_map] at z1
    exact z1.symm
  have hl : (kvs.map fun p => kD p.1).length = ds.length := by
    rw [List.length_map]; exact Paired.length p
  have f1 : ((kvs.map fun p => kD p.1).zip ds).map (·.1) = kvs.map fun p => kD p.1 := List.map_fst_zip (Nat.le_of_eq hl)
  have f2 : ((kvs.map fun p => kD p.1).zip ds).map (·.2) = ds := List.map_snd_zip (Nat.le_of_eq hl.symm)
  refine str_by (h₀ := s.heap) (d := dD kvs ds) (fun prog w => ⟨_, _, showsBy_dict0 (as₁ := as1) (bs₁ := as2) ho hc.1 hd hs (by rw [f1, ← ek]; exact q1) (by rw [f2]; exact q2) sh ?_ ?_ sz⟩) hg (by omega) (fun _ _ z => z) fun h' t tk hk' => ⟨.str _, H, I.kept hk', ⟨t, rfl⟩, q⟩
  · rw [f1]
    have := no_keys (kvs.map (·.1))
    rw [List.map_map] at this
    exact this
  · rw [f2]; exact no_dicts p
end
end L2

set_option Elab.async false
set_option linter.all false
set_option maxRecDepth 100000
set_option maxHeartbeats 4000000
/-! sorted of a dict whose keys are texts -/
namespace PySem
open PyProof.Rows
section
variable {prog : Program} {w : World} {K : Type} [DecidableEq K] {knd : KeyKind prog w K} {A : Around} {E : Value → Shared → Prop} {s : Shared}
theorem collect_dict {Q : List Value → Shared → Prop} {d : Addr} {kvs : List (K × Value)} {ep : Nat} (hh : A.handled = none) (hd : (d == sysModules) = false) (hm : s.heap.DictAt knd d kvs ep) (hn : kvs.length ≤ sizeLine)
    (hQ : ∀ h' tk acc, (∀ b o, s.heap.get? b = some o → h'.get? b = some o) → ItemsOf (fun i v => ∃ k x, kvs[i]? = some (k, x) ∧ knd.is k v = true) acc kvs.length → Q acc.toList { s with heap := h', toks := tk }) :
    wpAny (model prog w) A (collect (.ref d)) Q E s := by
  have hlt : d < s.heap.objs.size := hm.lt_size
  unfold collect
  refine wpAny_bind (wpAny_runValue (codeAny_builtin F.entry_proto_collect ?_))
  rw [Around.under_plainId F.plain_proto_collect _]
  show wpAny _ A.in1 (newList [] >>= fun l => again (.builtin "list.__iadd__" ⟨[l, .ref d], []⟩)) _ _ s
  refine wpAny_bind (wpAny_newObj_type ?_)
  refine wpAny_pure ⟨plainId_quiet F.plain_list_iadd _, codeAny_builtin F.entry_list_iadd ?_⟩
  rw [Around.under_plainId F.plain_list_iadd _]
  have hm1 : (s.heap.push { cls := .type "list", data := .seq ([] : List Value).toArray }).DictAt knd d kvs ep := hm.push _
  have hS₁ : (s.heap.push { cls := .type "list", data := .seq ([] : List Value).toArray }).get? s.heap.objs.size = some { cls := .type "list", data := .seq ([] : List Value).toArray } := Heap.get?_push_size _ rfl
  have hz1 : (s.heap.push { cls := .type "list", data := .seq ([] : List Value).toArray }).objs.size = s.heap.objs.size + 1 := Heap.size_push ..
  have h1 : Builtin.List.listSameRef (.ref s.heap.objs.size) (.ref d) = false := by
    simp only [Builtin.List.listSameRef, beq_eq_false_iff_ne]
    exact Nat.ne_of_gt hlt
  show wpAny _ A.in1 (Builtin.List.listExtendWith (.ref s.heap.objs.size) (.ref d) (.ref s.heap.objs.size)) _ _ { s with heap := s.heap.push { cls := .type "list", data := .seq ([] : List Value).toArray } }
  have hT : Shared.TypeIs { s with heap := s.heap.push { cls := .type "list", data := .seq ([] : List Value).toArray } } (.ref d) "dict" := hm1.dictOf.typeIs
  unfold Builtin.List.listExtendWith
  refine wpAny_bind (wpAny_typeOf hT ?_)
  rw [if_neg (by rw [h1]; decide)]
  refine wpAny_bind (wpAny_pyIter_dict hd hm1 ?_)
  have hit : ((s.heap.push { cls := .type "list", data := .seq ([] : List Value).toArray }).push { cls := .type "dict_keyiterator", data := .fields #[.ref d, .int 0 0, .int kvs.length 0, .int ep 0] }).get? (s.heap.objs.size + 1)
      = some { cls := .type "dict_keyiterator", data := .fields #[.ref d, .int 0 0, .int kvs.length 0, .int ep 0] } := by
    rw [← hz1]; exact Heap.get?_push_size _ rfl
  have hm2 := hm1.push { cls := .type "dict_keyiterator", data := .fields #[.ref d, .int 0 0, .int kvs.length 0, .int ep 0] }
  have hS₂ : ((s.heap.push { cls := .type "list", data := .seq ([] : List Value).toArray }).push { cls := .type "dict_keyiterator", data := .fields #[.ref d, .int 0 0, .int kvs.length 0, .int ep 0] }).get? s.heap.objs.size = some { cls := .type "list", data := .seq ([] : List Value).toArray } :=
    Heap.get?_push_of_some _ hS₁
  have old2 : ∀ b o, s.heap.get? b = some o → ((s.heap.push { cls := .type "list", data := .seq ([] : List Value).toArray }).push { cls := .type "dict_keyiterator", data := .fields #[.ref d, .int 0 0, .int kvs.length 0, .int ep 0] }).get? b = some o :=
    fun b o e => Heap.get?_push_of_some _ (Heap.get?_push_of_some _ e)
  rw [hz1]
  generalize (s.heap.push { cls := .type "list", data := .seq ([] : List Value).toArray }).push { cls := .type "dict_keyiterator", data := .fields #[.ref d, .int 0 0, .int kvs.length 0, .int ep 0] } = h2 at hit hm2 hS₂ old2 ⊢
  have hT2 : Shared.TypeIs { s with heap := h2 } (.ref d) "dict" := hm2.dictOf.typeIs
  refine wpAny_bind (wpAny_holding ?_)
  unfold Builtin.List.listLengthHint
  refine wpAny_bind (wpAny_specialOf hT2 F.slot_dict_len.lookup ?_)
  generalize hid : ("dict.__len__" : String) = id0
  wp_delta
  rw [show splitId id0 = some ("dict", "__len__") from by subst hid; decide +kernel]
  subst hid
  refine wpAny_bind (wpAny_isInstance (b := true) hT2 isSubtype_dict_dict ?_)
  rw [if_neg (by decide)]
  dsimp only
  rw [if_pos (by decide +kernel)]
  refine wpAny_bind (wpAny_typeOf hT2 ?_)
  refine wpAny_pure ?_
  show wpAny _ A.in1 (rule "list.extend.makes-room" >>= fun _ => Builtin.List.listTouch (.ref s.heap.objs.size) >>= fun _ =>
    again (.builtin "list.extend.loop" ⟨[.ref s.heap.objs.size, .ref (s.heap.objs.size + 1), .ref s.heap.objs.size], []⟩)) _ _ _
  refine wpAny_bind (wpAny_rule ?_)
  refine wpAny_bind ?_
  show wpAny _ A.in1 (updateSeq s.heap.objs.size (·.push .none) >>= fun _ => updateSeq s.heap.objs.size (·.pop)) _ _ _
  refine wpAny_bind (wpAny_updateSeq hS₂ rfl ?_)
  have hS₃ := Heap.get?_update_self (Obj.mapSeq (·.push Value.none)) hS₂ rfl
  refine wpAny_updateSeq hS₃ rfl ?_
  have hS₄ := Heap.get?_update_self (Obj.mapSeq (·.pop)) hS₃ rfl
  have oth : ∀ b o, b ≠ s.heap.objs.size → h2.get? b = some o → ((h2.update s.heap.objs.size (Obj.mapSeq (·.push Value.none))).update s.heap.objs.size (Obj.mapSeq (·.pop))).get? b = some o :=
    fun b o hb e => (Heap.get?_update_other _ _ (Ne.symm hb)).trans ((Heap.get?_update_other _ _ (Ne.symm hb)).trans e)
  have ne1 : s.heap.objs.size + 1 ≠ s.heap.objs.size := Nat.succ_ne_self _
  have hit4 := oth _ _ ne1 hit
  have hm4 := hm2.at' fun o e => oth d o (Nat.ne_of_lt hlt) e
  have old4 : ∀ b o, s.heap.get? b = some o → ((h2.update s.heap.objs.size (Obj.mapSeq (·.push Value.none))).update s.heap.objs.size (Obj.mapSeq (·.pop))).get? b = some o :=
    fun b o e => oth b o (Nat.ne_of_lt (Heap.lt_size e)) (old2 b o e)
  refine wpAny_pure ⟨plainId_quiet F.plain_extend_loop _, codeAny_extend_loopS (Walks.dictKeys (knd := knd) (A := A.in1) hh (s.heap.objs.size + 1) d (Nat.ne_of_lt (Nat.lt_succ_of_lt hlt)) kvs ep).toS hn _ ?_ _ kvs.length 0 _ _ _ rfl (Nat.zero_le _)
    ⟨⟨_, hit4, rfl, rfl⟩, hm4⟩ hS₄ (ItemsOf.nil _) fun s' acc' c' hmv hS' hacc => ?_⟩
  · intro z
    rcases List.mem_cons.mp z with y | y
    · exact ne1 y.symm
    · have y' : s.heap.objs.size = d := by simpa using y
      exact Nat.ne_of_gt hlt y'
  · show wpAny _ A (load s.heap.objs.size >>= _) _ _ s'
    refine wpAny_bind (wpAny_load hS' ?_)
    obtain ⟨hp', g', dr', tk', os'⟩ := s'
    obtain ⟨m1, m2, m3, m4, m5⟩ := hmv
    cases m2
    cases m3
    cases m4
    refine wpAny_pure (hQ hp' tk' acc' (fun b o e => m1 b o (fun z => ?_) (old4 b o e)) hacc)
    have hb := Heap.lt_size e
    rcases List.mem_cons.mp z with y | y
    · exact Nat.ne_of_lt hb y
    · have y' : b = s.heap.objs.size + 1 := by simpa using y
      exact Nat.ne_of_lt (Nat.lt_succ_of_lt hb) y'

theorem sorted_dict_strs {Q : Value → Shared → Prop} {d : Addr} {kvs : List (K × Value)} {ep : Nat} {ss : List Str} (hh : A.handled = none) (hd : (d == sysModules) = false) (hm : s.heap.DictAt knd d kvs ep) (h64 : kvs.length < 64)
    (hs : ss.length = kvs.length) (hS : ∀ (i : Nat) k x v, kvs[i]? = some (k, x) → knd.is k v = true → ∃ y t, ss[i]? = some y ∧ v = .str y t)
    (h : ∀ (h1 h' : Heap) tk out ss' e, (∀ b o, s.heap.get? b = some o → h1.get? b = some o) → (∀ b o, h1.get? b = some o → h'.get? b = some o) → h'.get? h1.objs.size = some (seqObj "list" out e) → StrsAre out.toList ss' → ss'.Perm ss → sortedS ss' = true → Q (.ref h1.objs.size) { s with heap := h', toks := tk }) :
    wpAny (model prog w) A (call (.builtin "sorted") [.ref d]) Q E s := by
  refine Calls.call_function_entry kind_sorted plain_sorted entry_sorted (args_sorted1 _) ?_
  unfold Builtin.«sorted»
  refine wpAny_bind (m := checkCount "sorted" 1 1 _) (wpAny_pure ?_)
  refine wpAny_bind (collect_dict (knd := knd) hh hd hm (by rw [sizeLine_eq]; omega) fun h1 tk1 acc k1 items => ?_)
  refine wpAny_bind (wpAny_newList ?_ (by have e := items.1; simp only [Array.length_toList, e]; rw [sizeLine_eq]; omega))
  have hoL : (h1.push (seqObj "list" acc.toList.toArray 0)).get? h1.objs.size = some (seqObj "list" acc.toList.toArray 0) := Heap.get?_push_size _ rfl
  have hSt : StrsAre acc.toList ss := by
    have gen : ∀ (vs : List Value) (ys : List Str), vs.length = ys.length → (∀ (j : Nat) v, vs[j]? = some v → ∃ y t, ys[j]? = some y ∧ v = .str y t) → StrsAre vs ys := by
      intro vs
      induction vs with
      | nil =>
        intro ys hl _
        cases ys with
        | nil => exact .nil
        | cons y ys => simp at hl
      | cons v vs ih =>
        intro ys hl hv
        cases ys with
        | nil => simp at hl
        | cons y ys =>
          obtain ⟨y', t, e1, e2⟩ := hv 0 v rfl
          simp at e1
          subst e1 e2
          exact .cons y t (ih ys (by simpa using hl) fun j v' e => by
            obtain ⟨y', t', e1, e2⟩ := hv (j + 1) v' (by simpa using e)
            exact ⟨y', t', by simpa using e1, e2⟩)
    refine gen _ _ (by have e := items.1; simp only [Array.length_toList, e, hs]) fun j v e => ?_
    obtain ⟨k, x, e1, e2⟩ := items.2 j v (by simpa using e)
    exact hS j k x v e1 e2
  have hl2 : acc.toList.length < 64 := by have e := items.1; simp only [Array.length_toList, e]; exact h64
  show wpAny _ _ _ _ _ { s with heap := h1.push (seqObj "list" acc.toList.toArray 0), toks := tk1 }
  refine wpAny_bind (wpAny_holding (wpAny_call_entry slot_list_sort ⟨_, hoL, rfl⟩ entry_list_sort (list_sort_treeK strKind_oneLt hoL hSt.keysOf (fun v₁ v₂ rest e => keyKind_strs (by rw [← e]; exact hSt)) hl2 fun st' a1 a2 => ⟨_, rfl, ?_⟩) (args_list_sort _)))
  obtain ⟨ss', b1, b2, b3⟩ := sorted_out_str hSt a1 a2
  obtain ⟨e, he⟩ := sortedHeap_at (out := ((arrOf st').map (·.2))) hoL
  refine wpAny_pure ⟨_, rfl, h h1 _ _ _ ss' e k1 (fun b o q1 => ?_) he b1 b2 b3⟩
  have lt1 := Heap.lt_size q1
  rw [sortedHeap_old (Nat.ne_of_lt lt1) (by rw [size_push']; exact Nat.lt_succ_of_lt lt1)]
  exact Heap.get?_push_of_some _ q1
end
end PySem
namespace L2
open PySem PySem.Spec PyProof.Rows
theorem vals_strs : ∀ {vs : List Value} {ss : List Str}, StrsAre vs ss → Vals (ss.map V.str) vs
  | _, _, .nil => .nil
  | _, _, .cons y t h => .cons ⟨t, rfl⟩ (vals_strs h)
section
variable {X : Cx}
/-- sorted(d), d's keys being texts -/
theorem call_sortedD (hc : X.calm = true) : CallR X (.builtin "sorted") (fun xs H Q => ∃ (a : Addr) (kvs : List (Key × V)) (ks : List Str), xs = [.ref a] ∧ Rd H a (.dK kvs) ∧ kvs.map (·.1) = ks.map Sum.inr ∧ kvs.length < 64 ∧
    ∀ (l : Addr) (ks' : List Str), H l = none → ks'.Perm ks → sortedS ks' = true → Q (.ref l) (upd H l (.lst (ks'.map V.str)))) := by
  intro pins s σ H xs us Q I r h
  obtain ⟨a, kvs, ks, rfl, e, ek, h64, q⟩ := h
  obtain ⟨u, rfl, ru⟩ := vals1 r
  cases ru
  obtain ⟨z, hs, vs, rel, dd⟩ := dk_rd I.hok e
  obtain ⟨ep, da⟩ := dd.dictAt
  have lv := KV.length rel
  have lk : ks.length = kvs.length := by
    have := congrArg List.length ek
    simpa using this.symm
  refine sorted_dict_strs (knd := mixKind X.prog X.w) (ss := ks) (I.ok.hd hc) hs da (by omega) (by omega) (fun i k x v e1 e2 => ?_) fun h1 h' tk out ss' ep' k1 k2 ho hS hp hsd => ?_
  · have e3 : (vs.map (·.1))[i]? = some k := by rw [List.getElem?_map, e1]; rfl
    rw [← KV.keys rel, ek, List.getElem?_map] at e3
    cases q3 : ks[i]? with
    | none => rw [q3] at e3; cases e3
    | some y =>
      rw [q3] at e3
      have e4 : (Sum.inr y : Key) = k := Option.some.inj e3
      subst e4
      rcases keyIs_shape (k := Sum.inr y) (v := v) e2 with ⟨j, t, e5, _⟩ | ⟨y', t, e5, e6⟩
      · cases e5
      · cases e5
        exact ⟨y, t, rfl, e6⟩
  · have I1 : Inv X pins σ H { s with heap := h1, toks := tk } := I.kept k1
    have lo : ss'.length ≤ sizeLine := by
      have := hp.length_eq
      rw [sizeLine_eq]; omega
    have I2 := Inv.laid (h' := h') (t' := tk) (a := h1.objs.size) (o := .lst (ss'.map V.str)) I1 k2 (Nat.le_refl _) ⟨by simpa using lo, out.toList, ep', vals_strs hS, by simpa using ho⟩
    exact ⟨.ref h1.objs.size, _, I2, rfl, q _ ss' (I1.hok.fresh (Nat.le_refl _)) hp hsd⟩
end
end L2

set_option Elab.async false
set_option linter.all false
set_option maxRecDepth 100000
set_option maxHeartbeats 4000000
/-! Tuples of the same flat items compared, wherever they stand. -/
namespace L2
open PySem PySem.Spec PyProof.Rows
section
variable {X : Cx}
/-- ints and texts -/
def isFlat : V → Bool
  | .int _ => true
  | .str _ => true
  | _ => false
theorem eqAt_flat {A : Around} {s : Shared} {x : V} {u v : Value} (f : isFlat x = true) (ru : RelV x u) (rv : RelV x v) : SeqAt.EqAt A s u v true := by
  cases x with
  | int i =>
    obtain ⟨t, rfl⟩ := ru
    obtain ⟨t', rfl⟩ := rv
    have z := SeqAt.EqAt.int_int (A := A) (s := s) i t i t'
    simpa using z
  | str i =>
    obtain ⟨t, rfl⟩ := ru
    obtain ⟨t', rfl⟩ := rv
    have z := SeqAt.EqAt.str_str (A := A) (s := s) i t i t'
    simpa using z
  | _ => cases f
theorem eqAt_items {A : Around} {s : Shared} {xs : List V} {us vs : List Value} (f : ∀ x ∈ xs, isFlat x = true) (ru : Vals xs us) (rv : Vals xs vs) :
    ∀ j (h1 : j < us.toArray.size) (h2 : j < vs.toArray.size), SeqAt.EqAt A s us.toArray[j] vs.toArray[j] true := by
  intro j h1 h2
  have j1 : j < us.length := by simpa using h1
  have j2 : j < vs.length := by simpa using h2
  have l1 := ru.length
  have a1 : xs[j]? = some xs[j] := List.getElem?_eq_getElem (by omega)
  obtain ⟨u1, b1, c1⟩ := ru.get a1
  obtain ⟨u2, b2, c2⟩ := rv.get a1
  have d1 : us[j] = u1 := by rw [List.getElem?_eq_getElem j1] at b1; exact Option.some.inj b1
  have d2 : vs[j] = u2 := by rw [List.getElem?_eq_getElem j2] at b2; exact Option.some.inj b2
  have w := eqAt_flat (A := A) (s := s) (f _ (List.getElem_mem (by omega))) c1 c2
  simpa [d1, d2] using w
def rSame (K : PySem.W.Frag) (b : Bool) : R2 := fun x y H Q => ∃ p q xs, x = .ref p ∧ y = .ref q ∧ SqT K H p xs ∧ SqT K H q xs ∧ (∀ x ∈ xs, isFlat x = true) ∧ Q (.bl b) H
theorem op_neS {K : PySem.W.Frag} (hK : X.K = K) (hu : X.A.units < cLine) : OpR X (compareOp .NotEq) (rSame K false) := by
  subst hK
  intro pins s σ H x y v u Q I rx ry h
  obtain ⟨p, q, xs, rfl, rfl, h1, h2, f, hq⟩ := h
  cases rx
  cases ry
  obtain ⟨us, r1, t1, _⟩ := I.tuple h1
  obtain ⟨vs, r2, t2, _⟩ := I.tuple h2
  have l1 := r1.length
  have l2 := r2.length
  have z := SeqAt.RcNeAt.tuples (A := X.A) (e := fun _ => true) (show s.heap.IsTuple p us.toArray from t1) (show s.heap.IsTuple q vs.toArray from t2) hu (eqAt_items f r1 r2)
  have es : us.toArray.size = vs.toArray.size := by simp; omega
  rw [all_true, es] at z
  refine z _ _ _ _ ?_
  simp only [beq_self_eq_true, Bool.and_self, Bool.not_true]
  exact ⟨.bl false, H, I, rfl, hq⟩
theorem op_eqS {K : PySem.W.Frag} (hK : X.K = K) (hu : X.A.units < cLine) : OpR X (compareOp .Eq) (rSame K true) := by
  subst hK
  intro pins s σ H x y v u Q I rx ry h
  obtain ⟨p, q, xs, rfl, rfl, h1, h2, f, hq⟩ := h
  cases rx
  cases ry
  obtain ⟨us, r1, t1, _⟩ := I.tuple h1
  obtain ⟨vs, r2, t2, _⟩ := I.tuple h2
  have l1 := r1.length
  have l2 := r2.length
  have z := SeqAt.RcAt.tuples (A := X.A) (e := fun _ => true) (show s.heap.IsTuple p us.toArray from t1) (show s.heap.IsTuple q vs.toArray from t2) hu (eqAt_items f r1 r2)
  have es : us.toArray.size = vs.toArray.size := by simp; omega
  rw [all_true, es] at z
  refine z _ _ _ _ ?_
  simp only [beq_self_eq_true, Bool.and_self]
  exact ⟨.bl true, H, I, rfl, hq⟩
end
end L2

set_option Elab.async false
set_option linter.all false
set_option maxRecDepth 100000
set_option maxHeartbeats 4000000
/-! Two dicts with the very same things under the same keys, compared; dict of a list of pairs. -/
namespace PySem
open PyProof.Rows
section
variable {prog : Program} {w : World} {K : Type} [DecidableEq K] {knd : KeyKind prog w K} {A : Around} {E : Value → Shared → Prop} {s : Shared}
theorem find_at {es : Array DictEntry} {kvs : List (K × Value)} (hp : Pairs knd es.toList kvs) (hn : (kvs.map (·.1)).Nodup) {i : Nat} {k : K} {v : Value} (h : kvs[i]? = some (k, v)) : es.findIdx? (fun e => knd.is k e.key) = some i ∧ ∃ e, es[i]? = some e ∧ e.val = v := by
  have hl : i < kvs.length := (List.getElem?_eq_some_iff.mp h).1
  have hsz : es.size = kvs.length := by rw [← hp.length]; simp
  have hi : i < es.size := by omega
  obtain ⟨hk, hv⟩ := hp.get? (i := i) (e := es[i]) (by simp [hi]) h
  refine ⟨?_, es[i], by simp [hi], hv⟩
  have e1 : (es.findIdx? fun e => knd.is k e.key) = kvs.findIdx? fun kv => decide (kv.1 = k) := by
    rw [← hp.findIdx k]; obtain ⟨l⟩ := es; simp
  rw [e1, List.findIdx?_eq_some_iff_getElem]
  refine ⟨hl, ?_, fun j hj => ?_⟩
  · have : kvs[i] = (k, v) := by rw [List.getElem?_eq_getElem hl] at h; exact Option.some.inj h
    simp [this]
  · have e2 : kvs[i] = (k, v) := by rw [List.getElem?_eq_getElem hl] at h; exact Option.some.inj h
    have e3 := List.pairwise_iff_getElem.mp hn j i (by simp; omega) (by simp; omega) hj
    simp only [List.getElem_map, e2] at e3
    simpa using e3
/-- dicts whose values are the same objects -/
theorem same_pairs {id : String} {Q : Bool → Shared → Prop} {a b : Addr} {kvs : List (K × Value)} (ha : (a == sysModules) = false) (hb : (b == sysModules) = false) (ma : s.heap.DictOf knd a kvs) (mb : s.heap.DictOf knd b kvs) (h : Q true s) :
    wpAny (model prog w) A (Builtin.Dict.samePairs id a b) Q E s := by
  obtain ⟨oa, ea, pa, hoa, hca, hda, hka, hpa, hna⟩ := ma
  obtain ⟨ob, eb, pb, hob, hcb, hdb, hkb, hpb, hnb⟩ := mb
  have sa : ea.size = kvs.length := by rw [← hpa.length]; simp
  have sb : eb.size = kvs.length := by rw [← hpb.length]; simp
  unfold Builtin.Dict.samePairs Builtin.Dict.showsAll
  rw [if_neg (by rw [ha]; exact Bool.false_ne_true), if_neg (by rw [hb]; exact Bool.false_ne_true)]
  refine wpAny_bind (wpAny_pure (wpAny_bind (wpAny_pure (wpAny_bind (wpAny_dictEntries hoa hda (wpAny_bind (wpAny_dictEntries hob hdb ?_)))))))
  rw [if_neg (by simp [sa, sb])]
  refine wpAny_bind (wpAny_dictEpoch hoa hda ?_)
  refine wpAny_bind ?_
  rw [Std.Legacy.Range.forIn_eq_forIn_range']
  simp only [Std.Legacy.Range.size, Nat.sub_zero, Nat.add_sub_cancel, Nat.div_one]
  refine wpAny_forIn_list _ (fun rest r s' => s' = s ∧ r = (none, ()) ∧ ∃ i, rest = List.range' i (ea.size - i) ∧ i ≤ ea.size) _ ?_ ?_ _ _ ⟨rfl, rfl, 0, by simp, Nat.zero_le _⟩
  · rintro x rest r s' ⟨rfl, rfl, i, hr, hi⟩
    have hlt : i < ea.size := by
      rcases Nat.lt_or_ge i ea.size with h | h
      · exact h
      · rw [Nat.sub_eq_zero_of_le h] at hr; simp at hr
    obtain ⟨rfl, hrest⟩ : x = i ∧ rest = List.range' (i + 1) (ea.size - (i + 1)) := by
      have e : ea.size - i = (ea.size - (i + 1)) + 1 := by omega
      rw [e, List.range'_succ] at hr
      injection hr with h1 h2
      exact ⟨h1, h2⟩
    obtain ⟨⟨k, v⟩, hkv⟩ : ∃ p, kvs[x]? = some p := ⟨kvs[x]'(by omega), by simp [show x < kvs.length by omega]⟩
    obtain ⟨hkey, hval⟩ := hpa.get? (i := x) (e := ea[x]) (by simp [hlt]) hkv
    obtain ⟨f1, e2, f2, f3⟩ := find_at hpb hnb hkv
    have hh : ea[x].hash = knd.hash k := by
      obtain ⟨k', hk', hhash⟩ := hka ea[x] (Array.getElem_mem hlt)
      have e : k = k' := knd.inj _ _ _ hkey hk'
      rw [hhash, e]
    refine wpAny_bind (wpAny_dictEntries hoa hda ?_)
    rw [Array.getElem?_eq_getElem hlt]
    refine wpAny_bind (wpAny_holding ?_)
    rw [hh]
    refine wpAny_bind (wpAny_dictFind_of hkey hob hdb hkb ?_)
    rw [f1]
    refine wpAny_bind (wpAny_dictEntries hob hdb ?_)
    rw [f2]
    refine wpAny_holding ?_
    rw [f3, hval]
    refine SeqAt.EqAt.same v prog w _ _ ?_
    rw [if_neg (by decide)]
    refine wpAny_bind (wpAny_dictEpoch hoa hda ?_)
    rw [if_neg (by simp)]
    refine wpAny_pure ⟨rfl, rfl, x + 1, hrest, hlt⟩
  · rintro r s' ⟨rfl, rfl, _⟩
    exact wpAny_pure h
end
theorem list_no_keys : typeLookup (.type "list") "keys" = pure none := by rw [typeLookup_type, builtinLookup_eq_fast]; kernel_rfl
/-- a list has no keys -/
theorem getAttr?_list_keys {prog : Program} {w : World} {A : Around} {E : Value → Shared → Prop} {s : Shared} {a : Addr} {o : Obj} {xs : Array Value} {k : Nat} {Q : Option Value → Shared → Prop}
    (hx : s.heap.get? a = some o) (hc : o.cls = .type "list") (hdat : o.data = .seq xs k) (hd : o.dict = none) (hA : A.handled = none)
    (h : ∀ h' tk, (∀ b ob, s.heap.get? b = some ob → h'.get? b = some ob) → Q none { s with heap := h', toks := tk }) : wpAny (model prog w) A (getAttr? (.ref a) "keys") Q E s := by
  obtain ⟨c, dct, dat, sl⟩ := o
  simp only at hc hdat hd
  subst hc hdat hd
  obtain ⟨hp, g, d, tk, os⟩ := s
  have hT : ∀ tk', (⟨hp, g, d, tk', os⟩ : Shared).TypeIs (.ref a) "list" := fun _ => ⟨_, hx, rfl⟩
  have f1 := sub_AttributeError
  have f3 := F.slot_list_getattribute.lookup
  have f4 := F.slot_list_getattribute.bind (.ref a)
  have f5 := am_list_getattr_none
  have hname : (["__module__", "__name__", "__qualname__", "__doc__", "__annotations__"] : List Str).contains ("keys" : Str) = false := by decide +kernel
  unfold getAttr? getAttrBy? getAttrBy
  repeat (any_goals (first | assumption | exact hT _ | ((with_reducible show wpAny _ _ (call (Value.builtin "list.__getattribute__") _ _) _ _ _); refine call_meets F.slot_list_getattribute (hT _) am_entry_list_getattribute (F.args_list_getattribute_2 _ _) (meets_getattribute_miss_list a xs k sl ("keys" : Str) _ list_no_keys hname (by rw [sizeLine_eq]; decide)) ⟨hx, hA, fun h' tk' e hx' => ?_⟩) | wp_step))
  obtain ⟨t', u', he⟩ := hx'.there
  show wpAny _ _ (getattributeRaised _ _ _ _ _ _ _) _ _ _
  unfold getattributeRaised
  repeat (any_goals (first | assumption | wp_step))
  exact h _ _ hx'.keeps
theorem entry_update_loop : entryFor table "dict.update.loop" = some Builtin.«dict.update.loop» := entryFor_of_tree (by kernel_rfl)
theorem plain_update_loop : plainId "dict.update.loop" = true := by decide +kernel
section
variable {prog : Program} {w : World} {K : Type} [DecidableEq K] {knd : KeyKind prog w K} {A : Around} {R : Result → Shared → Prop} {d it l : Addr} {items : Array Value} {ps : List (K × Value)}
theorem update_loop (hh : A.handled = none) (hl : ps.length = items.size) : ∀ (n i : Nat) (s : Shared) (kvs : List (K × Value)), items.size - i = n → i ≤ items.size → s.heap.DictOf knd d kvs → s.heap.IsListIter it l i → s.heap.IsList l items →
    (∀ (j : Nat) (v : Value), items[j]? = some v → ∃ t k key x, v = .ref t ∧ s.heap.IsTuple t #[key, x] ∧ knd.is k key = true ∧ ps[j]? = some (k, x)) → kvs.length + n ≤ sizeLine →
    (∀ h' tk, (∀ b o, b ≠ d → b ≠ it → s.heap.get? b = some o → h'.get? b = some o) → h'.DictOf knd d (merged kvs (ps.drop i)) → R (.ok (.ret .none)) { s with heap := h', toks := tk }) →
    codeAny (model prog w) A (.builtin "dict.update.loop" ⟨[.ref d, .ref it, rawInt i, .none], []⟩) R s := by
  intro n
  induction n with
  | zero =>
    intro i s kvs hk hi hd hit hL hitem hz hR
    refine codeAny_builtin entry_update_loop ?_
    rw [Around.under_plainId plain_update_loop _]
    show wpAny _ A.in1 (pyNext (.ref it) >>= _) _ _ s
    refine wpAny_bind (wpAny_pyNext_list_end hh hit hL (by simp; omega) fun h' eb => ?_)
    have hdi : d ≠ it := by
      intro e
      subst e
      obtain ⟨o, ho, hc, _⟩ := hit
      obtain ⟨o', _, _, ho', hc', _⟩ := hd
      rw [ho] at ho'
      cases ho'
      have z := hc'.1
      rw [hc] at z
      exact absurd z (by decide)
    have hd' : h'.DictOf knd d kvs := hd.extBut eb hdi
    have e0 : ps.drop i = [] := by rw [List.drop_eq_nil_iff]; omega
    have z := hR h' s.toks (fun b o _ hb q => eb b o hb q) (by rw [e0]; exact hd')
    show wpAny _ A.in1 (Builtin.Dict.addKeywords d [] >>= _) _ _ _
    exact wpAny_bind (wpAny_pure (wpAny_pure z))
  | succ n ih =>
    intro i s kvs hk hi hd hit hL hitem hz hR
    have hlt : i < items.size := by omega
    have hdi : d ≠ it := by
      intro e
      subst e
      obtain ⟨o, ho, hc, _⟩ := hit
      obtain ⟨o', _, _, ho', hc', _⟩ := hd
      rw [ho] at ho'
      cases ho'
      have z := hc'.1
      rw [hc] at z
      exact absurd z (by decide)
    have hli : l ≠ it := by
      intro e
      subst e
      obtain ⟨o, ho, hc, _⟩ := hit
      obtain ⟨o', ho', hc', _⟩ := hL
      rw [ho] at ho'
      cases ho'
      rw [hc] at hc'
      exact absurd hc' (by decide)
    have hld : l ≠ d := by
      intro e
      subst e
      obtain ⟨o', ho', hc', _⟩ := hL
      obtain ⟨o, _, _, ho, hc, _⟩ := hd
      rw [ho] at ho'
      cases ho'
      have z := hc.1
      rw [hc'] at z
      exact absurd z (by decide)
    have tne : ∀ {t : Addr} {xs : Array Value}, s.heap.IsTuple t xs → t ≠ it ∧ t ≠ d := by
      intro t xs ht
      obtain ⟨o', ho', hc', _⟩ := ht
      constructor
      · intro e
        subst e
        obtain ⟨o, ho, hc, _⟩ := hit
        rw [ho] at ho'
        cases ho'
        rw [hc] at hc'
        exact absurd hc' (by decide)
      · intro e
        subst e
        obtain ⟨o, _, _, ho, hc, _⟩ := hd
        rw [ho] at ho'
        cases ho'
        have z := hc.1
        rw [hc'] at z
        exact absurd z (by decide)
    obtain ⟨t, k, key, x, hv, ht, hkey, hps⟩ := hitem i items[i] (by simp [hlt])
    refine codeAny_builtin entry_update_loop ?_
    rw [Around.under_plainId plain_update_loop _]
    show wpAny _ A.in1 (pyNext (.ref it) >>= _) _ _ s
    refine wpAny_bind (wpAny_pyNext_list_item hit hL (x := items[i]) (by simp [hlt]) fun h1 hit1 hs1 => ?_)
    rw [hv]
    obtain ⟨ot, hot, hct, nt, hdt⟩ := id ht
    have hot1 : h1.get? t = some ot := (hs1.2 t (tne ht).1).trans hot
    refine wpAny_bind (wpAny_holding (wpAny_bind (wpAny_tryCatch ?_)))
    unfold Builtin.Dict.pairItems
    refine wpAny_bind (wpAny_typeOf (s := { s with heap := h1 }) (T := "tuple") ⟨ot, hot1, hct⟩ ?_)
    rw [if_pos (by decide)]
    refine wpAny_bind (wpAny_seqItems hot1 hdt (wpAny_pure ?_))
    show wpAny _ A.in1 (holding [key, x] (dictSet d key x)) _ _ { s with heap := h1 }
    refine wpAny_holding (wpAny_dictSet_pairs (s := { s with heap := h1 }) hkey (hd.sameBut hs1 hdi) (fun h2 hd2 hs2 => ?_) (by omega))
    replace hs2 : Heap.SameBut d h1 h2 := hs2
    have hc : ((i : Int) + 1) = ((i + 1 : Nat) : Int) := by omega
    show wpAny _ A.in1 (again (.builtin "dict.update.loop" ⟨[.ref d, .ref it, rawInt ((i : Int) + 1), .none], []⟩)) _ _ { s with heap := h2, toks := s.toks + 1 }
    rw [hc]
    have old : ∀ b o, b ≠ d → b ≠ it → s.heap.get? b = some o → h2.get? b = some o := fun b o b1 b2 q => (hs2.2 b b1).trans ((hs1.2 b b2).trans q)
    refine wpAny_pure ⟨plainId_quiet plain_update_loop _, ih (i + 1) { s with heap := h2, toks := s.toks + 1 } (stored kvs k x) (by omega) hlt hd2 (hit1.at fun o q => (hs2.2 it (Ne.symm hdi)).trans q) (hL.at fun o q => old l o hld hli q)
      (fun j v e => ?_) (by have := stored_length_le kvs k x; omega) fun h' tk hk' hd' => ?_⟩
    · obtain ⟨t', k', key', x', a1, ⟨o2, a2, a3, n2, a4⟩, a5, a6⟩ := hitem j v e
      have hne := tne ⟨o2, a2, a3, n2, a4⟩
      exact ⟨t', k', key', x', a1, ⟨o2, old t' o2 hne.2 hne.1 a2, a3, n2, a4⟩, a5, a6⟩
    · refine hR h' tk (fun b o b1 b2 q => hk' b o b1 b2 (old b o b1 b2 q)) ?_
      have e : ps.drop i = (k, x) :: ps.drop (i + 1) := by
        have hi' : i < ps.length := by omega
        rw [List.drop_eq_getElem_cons hi']
        rw [List.getElem?_eq_getElem hi'] at hps
        rw [Option.some.inj hps]
      rw [e]
      exact hd'
end
section
variable {prog : Program} {w : World} {K : Type} [DecidableEq K] {knd : KeyKind prog w K} {A : Around} {E : Value → Shared → Prop} {s : Shared}
theorem call_dict_pairs {l : Addr} {items : Array Value} {ps : List (K × Value)} {o : Obj} {n : Nat} {Q : Value → Shared → Prop} (hh : A.handled = none) (ho : s.heap.get? l = some o) (hc : o.cls = .type "list") (hdat : o.data = .seq items n) (hdc : o.dict = none)
    (hl : ps.length = items.size) (hsz : items.size ≤ sizeLine)
    (hitem : ∀ (j : Nat) (v : Value), items[j]? = some v → ∃ t k key x, v = .ref t ∧ s.heap.IsTuple t #[key, x] ∧ knd.is k key = true ∧ ps[j]? = some (k, x))
    (h : ∀ h' tk, h'.DictOf knd s.heap.objs.size (merged [] ps) → (∀ b q, s.heap.get? b = some q → h'.get? b = some q) → Q (.ref s.heap.objs.size) { s with heap := h', toks := tk }) :
    wpAny (model prog w) A (call (.type "dict") [.ref l]) Q E s := by
  refine callType_codes (Q₁ := fun obj s₁ => obj = .ref s.heap.objs.size ∧ s₁ = { s with heap := s.heap.push { cls := .type "dict", data := .dict #[] } }) F.kt_called_dict (F.kt_typeCall_dict_1 _) F.entry_dict_init (kt_code_dict_new _ ⟨rfl, rfl⟩) ?_
  rintro obj s₁ ⟨rfl, rfl⟩
  have hnew : (s.heap.push { cls := .type "dict", data := .dict #[] }).DictOf knd s.heap.objs.size [] := Heap.DictOf.new s.heap
  have ho1 : (s.heap.push { cls := .type "dict", data := .dict #[] }).get? l = some o := Heap.get?_push_of_some _ ho
  refine ⟨hnew.typeIs, F.args_dict_init_2 _ _, ?_⟩
  unfold Builtin.«dict.__init__»
  refine wpAny_bind ?_
  unfold Builtin.Dict.selfAndRest
  refine wpAny_bind (wpAny_notOrdered_dict hnew.typeIs ?_)
  show wpAny _ _ (pure (s.heap.objs.size, [Value.ref l])) _ _ _
  refine wpAny_pure ?_
  show wpAny _ _ (Builtin.Dict.updateFrom "dict.__init__" s.heap.objs.size (.ref l) [] .none) _ _ _
  unfold Builtin.Dict.updateFrom
  refine wpAny_bind (wpAny_typeOf (T := "list") ⟨o, ho1, hc⟩ ?_)
  rw [if_pos (by decide)]
  refine wpAny_bind (getAttr?_list_keys ho1 hc hdat hdc (by first | exact hh | simpa using hh) fun h1 tk1 k1 => ?_)
  replace k1 : ∀ (b : Addr) (ob : Obj), (s.heap.push { cls := .type "dict", data := .dict #[] }).get? b = some ob → h1.get? b = some ob := k1
  have hL1 : h1.IsList l items := ⟨o, k1 l o ho1, hc, n, hdat⟩
  rw [if_pos (by simp)]
  refine wpAny_bind (wpAny_rule (wpAny_bind (wpAny_pyIter_list (s := { s with heap := h1, toks := tk1 }) hL1 ?_)))
  have hd1 : h1.DictOf knd s.heap.objs.size [] := hnew.keep k1
  refine wpAny_pure ⟨plainId_quiet plain_update_loop _, ?_⟩
  refine update_loop (knd := knd) (l := l) (items := items) (ps := ps) (A := A.in1) (by first | exact hh | simpa using hh) hl items.size 0 _ [] (by omega) (Nat.zero_le _) (hd1.push _) ⟨_, Heap.get?_push_size _ rfl, rfl, rfl⟩ (hL1.at fun q z => Heap.get?_push_of_some _ z) (fun j v e => ?_) (by simpa using hsz) fun h' tk hk' hd' => ?_
  · obtain ⟨t, k, key, x, a1, ⟨o2, a2, a3, n2, a4⟩, a5, a6⟩ := hitem j v e
    exact ⟨t, k, key, x, a1, ⟨o2, Heap.get?_push_of_some _ (k1 t o2 (Heap.get?_push_of_some _ a2)), a3, n2, a4⟩, a5, a6⟩
  · refine ⟨rfl, h h' tk (by simpa using hd') fun b q z => ?_⟩
    have z1 := k1 b q (Heap.get?_push_of_some _ z)
    exact hk' b q (Nat.ne_of_lt (Heap.lt_size z)) (Nat.ne_of_lt (Heap.lt_size z1)) (Heap.get?_push_of_some _ z1)
theorem call_dict_ne {Q : Value → Shared → Prop} {a b : Addr} {kvs : List (K × Value)} (hs1 : (a == sysModules) = false) (hs2 : (b == sysModules) = false) (d1 : s.heap.DictOf knd a kvs) (d2 : s.heap.DictOf knd b kvs) (h : Q (.bool false) s) :
    wpAny (model prog w) A (call (.builtin "dict.__ne__") [.ref a, .ref b]) Q E s := by
  refine wpAny_call_entry F.slot_dict_ne d1.typeIs F.entry_dict_ne ?_ (F.args_dict_ne_2 _ _)
  show wpAny _ _ (Builtin.Dict.dictSlotArgs "__ne__" ⟨[.ref a, .ref b], []⟩ >>= _) _ _ s
  refine wpAny_bind ?_
  unfold Builtin.Dict.dictSlotArgs
  refine wpAny_bind (wpAny_notOrdered_dict d1.typeIs ?_)
  show wpAny _ _ (pure (Value.ref a, Value.ref b)) _ _ s
  refine wpAny_pure ?_
  refine wpAny_bind (wpAny_isInstance d2.typeIs isSubtype_dict_dict ?_)
  rw [if_neg (by decide)]
  refine wpAny_bind (wpAny_pure ?_)
  refine wpAny_bind (wpAny_pure ?_)
  refine wpAny_bind (same_pairs hs1 hs2 d1 d2 ?_)
  exact wpAny_pure ⟨_, rfl, h⟩
end
end PySem

set_option Elab.async false
set_option linter.all false
set_option maxRecDepth 100000
set_option maxHeartbeats 200000
namespace L2
open PySem PySem.Spec PyProof.Rows
section
variable {X : Cx}
theorem KV.refs {kvs : List (Key × V)} {vs ws : List (Key × Value)} (r : KV kvs vs) (q : KV kvs ws) (h : ∀ p ∈ kvs, ∃ a, p.2 = .ref a) : vs = ws := by
  unfold KV at r q
  induction r generalizing ws with
  | nil => cases q; rfl
  | @cons p v ps vs h1 t ih =>
    cases q with
    | @cons _ w _ ws h2 t2 =>
      have e := ih t2 fun p' hp => h p' (by simp [hp])
      obtain ⟨a, ha⟩ := h p (by simp)
      obtain ⟨v1, v2⟩ := v
      obtain ⟨w1, w2⟩ := w
      obtain ⟨a1, a2⟩ := h1
      obtain ⟨b1, b2⟩ := h2
      rw [ha] at a2 b2
      cases (show v2 = Value.ref a from a2)
      cases (show w2 = Value.ref a from b2)
      simp only at a1 b1
      rw [e, ← a1, ← b1]
/-- d != e of two dicts with the very same things under the same keys -/
theorem op_neD (hu : X.A.units < cLine) : OpR X (compareOp .NotEq) (fun x y H Q => ∃ (a b : Addr) (kvs : List (Key × V)), x = .ref a ∧ y = .ref b ∧ Rd H a (.dK kvs) ∧ Rd H b (.dK kvs) ∧ (∀ p ∈ kvs, ∃ r, p.2 = .ref r) ∧ Q (.bl false) H) := by
  intro pins s σ H x y v u Q I rx ry h
  obtain ⟨a, b, kvs, rfl, rfl, e1, e2, hr, q⟩ := h
  cases rx
  cases ry
  obtain ⟨_, hs1, vs, rel1, d1⟩ := dk_rd I.hok e1
  obtain ⟨_, hs2, ws, rel2, d2⟩ := dk_rd I.hok e2
  have ev := KV.refs rel1 rel2 hr
  subst ev
  have z := call_dict_ne (knd := mixKind X.prog X.w) (prog := X.prog) (w := X.w) (A := X.A) (E := X.xe) (s := s) (Q := fun v s' => v ≠ .notImplemented ∧ EP X pins σ Q v s') hs1 hs2 d1 d2 ⟨(fun z => nomatch z), .bl false, H, I, rfl, q⟩
  exact wpAny_richCompare_same_room (op := .NotEq) (T := "dict") (id := "dict.__ne__") d1.typeIs d2.typeIs PySem.F.slot_dict_ne z hu
/-- dict(l) of a list of pairs, each key once -/
theorem call_dictL (hc : X.calm = true) : CallR X (.type "dict") (fun xs H Q => ∃ (l : Addr) (ts : List Addr) (kvs : List (Key × V)), xs = [.ref l] ∧ H l = some (.lst (ts.map V.ref)) ∧ Paired (fun (t : Addr) (p : Key × V) => H t = some (.tup [kV p.1, p.2])) ts kvs ∧
    (kvs.map (·.1)).Nodup ∧ ∀ a, H a = none → Q (.ref a) (upd H a (.dK kvs))) := by
  intro pins s σ H xs us Q I r h
  obtain ⟨l, ts, kvs, rfl, e, hp, nd, q⟩ := h
  obtain ⟨u, rfl, ru⟩ := vals1 r
  cases ru
  obtain ⟨z, its, n, rv, ho⟩ := (show ObjOk X.prog X.w H s.heap l (.lst (ts.map V.ref)) from I.hok l _ e)
  -- the pairs' values
  have vals : ∀ {ts : List Addr} {kvs : List (Key × V)}, Paired (fun (t : Addr) (p : Key × V) => H t = some (.tup [kV p.1, p.2])) ts kvs → ∃ vs : List (Key × Value), KV kvs vs ∧ vs.length = ts.length ∧
      ∀ (j : Nat) t, ts[j]? = some t → ∃ k key x, s.heap.IsTuple t #[key, x] ∧ (mixKind X.prog X.w).is k key = true ∧ vs[j]? = some (k, x) := by
    intro ts kvs hp
    induction hp with
    | nil => exact ⟨[], .nil, rfl, fun j t e => by simp at e⟩
    | @cons t p ts kvs h1 _ ih =>
      obtain ⟨vs, r1, r2, r3⟩ := ih
      obtain ⟨its, rv, hi⟩ := I.tupl h1
      cases rv with
      | @cons _ key _ _ q1 q2 =>
        cases q2 with
        | @cons _ x _ _ q3 q4 =>
          cases q4
          refine ⟨(p.1, x) :: vs, .cons ⟨rfl, q3⟩ r1, by simp [r2], fun j t' ej => ?_⟩
          cases j with
          | zero =>
            simp at ej
            subst ej
            exact ⟨p.1, key, x, hi, kV_is q1, rfl⟩
          | succ j => exact r3 j t' (by simpa using ej)
  obtain ⟨vs, rel, lv, hv⟩ := vals hp
  have li := rv.length
  rw [List.length_map] at li z
  have ndv : (vs.map (·.1)).Nodup := by rw [← KV.keys rel]; exact nd
  refine call_dict_pairs (knd := mixKind X.prog X.w) (ps := vs) (I.ok.hd hc) ho rfl rfl rfl (by simp; omega) (by simp; omega) (fun j v ej => ?_) fun h' tk hd hk => ?_
  · have ej' : its[j]? = some v := by simpa using ej
    have hj : j < its.length := (List.getElem?_eq_some_iff.mp ej').1
    have et : ts[j]? = some ts[j] := List.getElem?_eq_getElem (by omega)
    have er : (ts.map V.ref)[j]? = some (.ref ts[j]) := by rw [List.getElem?_map, et]; rfl
    obtain ⟨u, eu, ru⟩ := rv.get er
    rw [ej'] at eu
    cases eu
    obtain ⟨k, key, x, a1, a2, a3⟩ := hv j ts[j] et
    exact ⟨ts[j], k, key, x, ru, a1, a2, a3⟩
  · rw [merged_nil_of_nodup vs ndv] at hd
    have hz : kvs.length ≤ sizeLine := by
      have := KV.length rel
      omega
    have I1 := Inv.laid (h' := h') (t' := tk) (a := s.heap.objs.size) (o := .dK kvs) I hk (Nat.le_refl _) (dk_new hz (beq_eq_false_iff_ne.mpr (Ne.symm (Nat.ne_of_lt I.big))) rel hd)
    exact ⟨.ref s.heap.objs.size, _, I1, rfl, q _ (I.hok.fresh (Nat.le_refl _))⟩
/-- dict(d): a copy -/
theorem call_dictC : CallR X (.type "dict") (fun xs H Q => ∃ (d : Addr) (kvs : List (Key × V)), xs = [.ref d] ∧ Rd H d (.dK kvs) ∧ ∀ a, H a = none → Q (.ref a) (upd H a (.dK kvs))) := by
  intro pins s σ H xs us Q I r h
  obtain ⟨d, kvs, rfl, e, q⟩ := h
  obtain ⟨u, rfl, ru⟩ := vals1 r
  cases ru
  exact d_copyOf I e fun p s' hn I' => ⟨.ref p, _, I', rfl, q p hn⟩
end
end L2

set_option Elab.async false
set_option linter.all false
set_option maxRecDepth 100000
set_option maxHeartbeats 400000
/-! dicts over the closed judgements; a dict that is known to its object while a block runs, and no more behind it -/
namespace L2
open PySem PySem.Spec PyProof.Rows
section
variable {X : Cx} {K : PySem.W.Frag} {o i e f value : Expr} {td ty tx tv : TE} {pos pos' apos cpos : Pos}
theorem q_dget (hu : X.A.units + 1 < cLine) (ho : QE X o td) (hi : QE X i ty) (hs : NoSl i) : QE X (.Subscript o i pos) (tDGet td ty) := ⟨pe_dget hu ho.out hi.out hs⟩
theorem t_dnotin (hu : X.A.units + 1 < cLine) (hi : QE X i ty) (ho : QE X o td) (h : behindInMarks .NotIn o = false) : QT X (.Compare i [.NotIn] [o] pos) (tB (tDNotIn ty td)) := ⟨pt_cmp (pc_dnotin hu hi.out ho.out) h⟩
theorem s_dput (hu : X.A.units + 1 < cLine) (ho : QE X o td) (hi : QE X i ty) (hv : QE X value tv) (hs : swapsWith value (some (.Subscript o i pos')) pos.line X.env = pure false) :
    QS X (.Assign [.Subscript o i pos'] value pos) (sDPut td ty tv) := ⟨ps_dput hu ho.out hi.out hv.out hs⟩
theorem q_dnew : QE X (.Dict [] [] pos) tDNewK := ⟨pe_dnewK⟩
theorem q_dget2 (hu : X.A.units + 1 < cLine) (ho : QE X o td) (he : QE X e ty) (hf : QE X f tx) (m : M2 X o "get" apos e f cpos) : QE X (.Call (.Attribute o "get" apos) [e, f] [] cpos) (tDGet2 td ty tx) := ⟨pe_dget2 hu ho.out he.out hf.out m⟩
theorem q_dpop1 (ho : QE X o td) (he : QE X e ty) (m : M1 X o "pop" apos e cpos) : QE X (.Call (.Attribute o "pop" apos) [e] [] cpos) (tDPop1 td ty) := ⟨pe_dpop1 ho.out he.out m⟩
theorem call_allK (hK : X.K = K) (hc : X.calm = true) : CallR X (.builtin "all") (fun xs H Q => ∃ (a : Addr) (bs : List Bool), xs = [.ref a] ∧ SqL K H a (bs.map V.bl) ∧ Q (.bl (bs.all id)) H) := by
  subst hK
  exact call_all hc
theorem op_notInK (hK : X.K = K) : OpR X (compareOp .NotIn) (rIn K true) := by
  subst hK
  exact op_notIn_seq
theorem call_listK (hK : X.K = K) : CallR X (.type "list") (fun xs H Q => ∃ p ys, xs = [.ref p] ∧ (SqL K H p ys ∨ SqT K H p ys) ∧ ∀ l, H l = none → Q (.ref l) (upd H l (.lst ys))) := by
  subst hK
  exact call_list_of
theorem call_tupleK (hK : X.K = K) : CallR X (.type "tuple") (fun xs H Q => ∃ p ys, xs = [.ref p] ∧ ((SqL K H p ys ∧ ∀ l, H l = none → Q (.ref l) (upd H l (.tup ys))) ∨ (SqT K H p ys ∧ Q (.ref p) H))) := by
  subst hK
  exact call_tuple_of
theorem b_thaw {b : List Stmt} {t : TS} (h : QB X b t) : QB X b (fun D σ H => t D σ H ∨ ∃ (a : Addr) (kvs : List (Key × V)), Rd H a (.dK kvs) ∧
    t { D with nx := fun σ' H' => ∃ ob, H' a = some (.frz ob (.dK kvs)) ∧ (H a = some (.dK kvs) → D.nx σ' (upd H' a (.dK kvs))) ∧ ∀ o0, H a = some (.frz o0 (.dK kvs)) → D.nx σ' H' } σ H) := by
  refine ⟨fun pins s σ H D I ht => ?_⟩
  rcases ht with ht | ⟨a, kvs, hr, ht⟩
  · exact h.out pins s σ H _ I ht
  refine wpAny_mono (h.out pins s σ H _ I ht) (fun fl s' q => ?_) fun _ _ z => z
  cases fl with
  | next =>
    obtain ⟨σ', H', I', ob, e', q1, q2⟩ := q
    rcases hr with e | ⟨o0, e⟩
    · refine ⟨σ', _, I'.thaw e' (fun ob u z => ?_), q1 e⟩
      have := I.base.frzs a ob u z
      rw [e] at this
      cases this
    · exact ⟨σ', _, I', q2 o0 e⟩
  | ret v => exact q
  | brk => exact q
  | cont => exact q
end
end L2
namespace L2
open PySem PySem.Spec PyProof.Rows
/-- the names of a comprehension's block that lie in cells are handed to it -/
def hasOk (ns : List (Str × NameKind)) (cl : List (Str × Addr)) : Bool := ns.all fun p => match p.2 with
  | .cell => (cl.lookup p.1).isSome
  | .free => (cl.lookup p.1).isSome
  | _ => true
theorem mem_lookup {κ β : Type} [BEq κ] [LawfulBEq κ] {y : κ} {b : β} : ∀ {l : List (κ × β)}, l.lookup y = some b → (y, b) ∈ l
  | [], h => by cases h
  | (z, c) :: l, h => by
    rw [List.lookup_cons] at h
    split at h
    · rename_i q
      have : y = z := by simpa using q
      cases h
      rw [this]; exact List.mem_cons_self
    · exact List.mem_cons_of_mem _ (mem_lookup h)
theorem comp_has {ns : List (Str × NameKind)} {cl : List (Str × Addr)} (h : hasOk ns cl = true) : ∀ y, (ns.lookup y = some .cell ∨ ns.lookup y = some .free) → ∃ a, cl.lookup y = some a := by
  intro y hy
  unfold hasOk at h
  rw [List.all_eq_true] at h
  rcases hy with e | e
  · exact Option.isSome_iff_exists.mp (h (y, .cell) (mem_lookup e))
  · exact Option.isSome_iff_exists.mp (h (y, .free) (mem_lookup e))
theorem fr1 {Pp : Str → Nat → Prop} {y : Str} {i : Nat} (h : Pp y i) : ∀ (j : Nat) (y' : Str) (i' : Nat), [y][j]? = some y' → [i][j]? = some i' → Pp y' i' := by
  intro j y' i' h1 h2
  cases j with
  | zero => cases h1; cases h2; exact h
  | succ j => simp at h1
end L2
namespace L2
open PySem PySem.Spec PyProof.Rows
section
variable {g : TG} {tt : TT} {te : TE} {n : Nat} {fr : List Nat} {σ : St} {H : Hp} {Q : VK} {J : It}
/-- a comprehension over whatever, by an invariant of the turn, what is told so far and the heap -/
theorem comp_any (D : Addr) (len : Nat) (Pv : Nat → List V → Hp → Prop) (h0 : Pv 0 [] (upd H D (.lst []))) (hb : len ≤ sizeLine)
    (hk : ∀ i ys H', i ≤ len → Pv i ys H' → ys.length ≤ i ∧ H' D = some (.lst ys) ∧ (i < len → J.go i H') ∧ (i = len → J.stop i H'))
    (hs : ∀ i ys H' x H'', i < len → Pv i ys H' → J.yld i H' x H'' → CompStep g tt te n (around fr σ) D x ys H'' (Pv (i + 1))) (hd : ∀ ys H', Pv len ys H' → Q (.ref D) H') :
    ∃ W : Nat → Nat → List V → Hp → Prop, (∃ m, W 0 m [] (upd H D (.lst []))) ∧ ∀ i m ys H', W i m ys H' → H' D = some (.lst ys) ∧ ((J.stop i H' ∧ Q (.ref D) H') ∨ (J.go i H' ∧ ys.length < sizeLine ∧ ∃ N : List V → Hp → Prop, (∀ ys' H', N ys' H' → ∃ m', m' < m ∧ W (i + 1) m' ys' H') ∧
      ∀ x H'', J.yld i H' x H'' → ∀ pre : St, pre.length = n → g x (pre ++ around fr σ) H'' fun σ2 H2 => (∃ pre2 : St, pre2.length = n ∧ σ2 = pre2 ++ around fr σ) ∧
        tt σ2 H2 fun b H3 => if b = true then te σ2 H3 fun y H4 => H4 D = some (.lst ys) ∧ N (ys ++ [y]) (upd H4 D (.lst (ys ++ [y]))) else N ys H3)) := by
  refine ⟨fun i m ys H' => i ≤ len ∧ m = len - i ∧ Pv i ys H', ⟨_, Nat.zero_le _, rfl, h0⟩, ?_⟩
  rintro i m ys H' ⟨hi, rfl, p⟩
  obtain ⟨hl, hD, hgo, hst⟩ := hk i ys H' hi p
  refine ⟨hD, ?_⟩
  by_cases hlt : i < len
  · refine .inr ⟨hgo hlt, by omega, Pv (i + 1), fun ys' H'' q => ⟨len - (i + 1), by omega, hlt, rfl, q⟩, ?_⟩
    intro x H'' hy
    exact hs i ys H' x H'' hlt p hy
  · have e : i = len := by omega
    subst e
    exact .inl ⟨hst rfl, hd ys H' p⟩
theorem for_any {tb : TS} {D : Ends} (len : Nat) (Pv : Nat → St → Hp → Prop) (h0 : Pv 0 σ H) (hgo : ∀ i σ H, i < len → Pv i σ H → J.go i H) (hst : ∀ σ H, Pv len σ H → J.stop len H)
    (hs : ∀ i σ H x H', i < len → Pv i σ H → J.yld i H x H' → g x σ H' fun σ2 H2 => tb { D with nx := Pv (i + 1), ct := Pv (i + 1), bk := D.nx } σ2 H2) (hd : ∀ σ H, Pv len σ H → D.nx σ H) :
    ∃ W : Nat → Nat → St → Hp → Prop, (∃ m, W 0 m σ H) ∧ ∀ i m σ H, W i m σ H →
      (J.stop i H ∧ D.nx σ H) ∨ (J.go i H ∧ ∃ N : St → Hp → Prop, (∀ σ' H', N σ' H' → ∃ m', m' < m ∧ W (i + 1) m' σ' H') ∧ ∀ x H', J.yld i H x H' → g x σ H' fun σ2 H2 => tb { D with nx := N, ct := N, bk := D.nx } σ2 H2) := by
  refine ⟨fun i m σ H => i ≤ len ∧ m = len - i ∧ Pv i σ H, ⟨_, Nat.zero_le _, rfl, h0⟩, ?_⟩
  rintro i m σ H ⟨hi, rfl, p⟩
  by_cases hlt : i < len
  · exact .inr ⟨hgo i σ H hlt p, Pv (i + 1), fun σ' H' q => ⟨len - (i + 1), by omega, hlt, rfl, q⟩, fun x H' hy => hs i σ H x H' hlt p hy⟩
  · have e : i = len := by omega
    subst e
    exact .inl ⟨hst σ H p, hd σ H p⟩
end
end L2
namespace L2
open PySem PySem.Spec PyProof.Rows
/-- what is walked, for any weaker wish -/
def iClo (wi : TI) : TI := fun σ H R => ∃ Rs : It → Hp → Prop, wi σ H Rs ∧ ∀ J H1, Rs J H1 → R J H1
theorem i_clo {X : Cx} {tg iter : Expr} {wi : TI} (h : QI X tg iter wi) : QI X tg iter (iClo wi) := by
  refine ⟨fun pins s σ H R I ⟨Rs, h1, h2⟩ => ?_⟩
  refine thn (h.out pins s σ H Rs I h1) fun v s1 q => thn q fun itv s2 q2 => ?_
  obtain ⟨it, fp, tn, J, H', a1, a2, a3, a4, a5, a6⟩ := q2
  exact ⟨it, fp, tn, J, H', a1, a2, a3, a4, a5, h2 J H' a6⟩
structure CompInv (J : It) (g : TG) (tt : TT) (te : TE) (n : Nat) (suf : St) (H : Hp) (D : Addr) (Q : VK) : Prop where
  ex : ∃ (len : Nat) (Pv : Nat → List V → Hp → Prop), Pv 0 [] (upd H D (.lst [])) ∧ len ≤ sizeLine ∧ (∀ i ys H', i ≤ len → Pv i ys H' → ys.length ≤ i ∧ H' D = some (.lst ys) ∧ (i < len → J.go i H') ∧ (i = len → J.stop i H')) ∧
    (∀ i ys H' x H'', i < len → Pv i ys H' → J.yld i H' x H'' → CompStep g tt te n suf D x ys H'' (Pv (i + 1))) ∧ ∀ ys H', Pv len ys H' → Q (.ref D) H'
theorem comp_inv {J : It} {g : TG} {tt : TT} {te : TE} {n : Nat} {suf : St} {H : Hp} {D : Addr} {Q : VK} (len : Nat) (Pv : Nat → List V → Hp → Prop) (h0 : Pv 0 [] (upd H D (.lst []))) (hb : len ≤ sizeLine)
    (hk : ∀ i ys H', i ≤ len → Pv i ys H' → ys.length ≤ i ∧ H' D = some (.lst ys) ∧ (i < len → J.go i H') ∧ (i = len → J.stop i H'))
    (hs : ∀ i ys H' x H'', i < len → Pv i ys H' → J.yld i H' x H'' → CompStep g tt te n suf D x ys H'' (Pv (i + 1))) (hd : ∀ ys H', Pv len ys H' → Q (.ref D) H') : CompInv J g tt te n suf H D Q := ⟨len, Pv, h0, hb, hk, hs, hd⟩
def tCompS (wi : TI) (g : TG) (tt : TT) (te : TE) (n : Nat) (fr : List Nat) : TE := fun σ H Q => wi σ H fun J H1 => ∀ D, H1 D = none → CompInv J g tt te n (around fr σ) H1 D Q
theorem q_compS {X : Cx} {elt iter tg : Expr} {ifs : List Expr} (zs : List Str) {pos : Pos} {scope : Scope} {cl : List (Str × Addr)} (ys : List Str) (fr : List Nat) {wi : TI} {g : TG} {tt : TT} {te : TE} (hcm : X.calm = true)
    (hi : QI X tg iter wi) (hclos : closureFor scope X.env = pure cl) (hcell : ∀ y ∈ scope.names, y.2 ≠ .cell) (hkind : scope.kind = .function) (hnames : ∀ y ∈ scope.names, y.2 = .local → scope.names.lookup y.1 = some .local)
    (hcl : ∀ y a, cl.lookup y = some a → X.env.cells.lookup y = some a)
    (hlen : ys.length = fr.length) (hfr : ∀ (j : Nat) y i, ys[j]? = some y → fr[j]? = some i → X.N[i]? = some y ∧ X.env.kindOf y = some .cell ∧ (relabel scope X.env).names.lookup y = some .cell ∧ ∃ a, cl.lookup y = some a ∧ X.env.cells.lookup y = some a)
    (hhas : ∀ y, ((relabel scope X.env).names.lookup y = some .cell ∨ (relabel scope X.env).names.lookup y = some .free) → ∃ a, cl.lookup y = some a)
    (hg : ∀ C s₂ H₂ fp, QG (X.comp scope cl C (zs ++ ys) s₂ H₂ fp) tg g) (hc : ∀ C s₂ H₂ fp, QTs (X.comp scope cl C (zs ++ ys) s₂ H₂ fp) ifs tt) (he : ∀ C s₂ H₂ fp, QE (X.comp scope cl C (zs ++ ys) s₂ H₂ fp) elt te) (hs : ∀ v, foldedSetIterable iter X.env v = pure v) :
    QE X (.ListComp elt [⟨tg, iter, ifs, 0⟩] scope pos) (tCompS wi g tt te zs.length fr) :=
  q_imp (q_compG zs ys fr hcm (i_clo hi) hclos hcell hkind hnames hcl hlen hfr hhas hg hc he hs) fun σ H Q h => ⟨_, h, fun J H1 h1 D hD => by
    obtain ⟨len, Pv, a0, a1, a2, a3, a4⟩ := (h1 D hD).ex
    exact comp_any D len Pv a0 a1 a2 a3 a4⟩
structure ForInv (J : It) (g : TG) (tb : TS) (D : Ends) (σ : St) (H : Hp) : Prop where
  ex : ∃ (len : Nat) (Pv : Nat → St → Hp → Prop), Pv 0 σ H ∧ (∀ i σ H, i < len → Pv i σ H → J.go i H) ∧ (∀ σ H, Pv len σ H → J.stop len H) ∧
    (∀ i σ H x H', i < len → Pv i σ H → J.yld i H x H' → g x σ H' fun σ2 H2 => tb { D with nx := Pv (i + 1), ct := Pv (i + 1), bk := D.nx } σ2 H2) ∧ ∀ σ H, Pv len σ H → D.nx σ H
theorem for_inv {J : It} {g : TG} {tb : TS} {D : Ends} {σ : St} {H : Hp} (len : Nat) (Pv : Nat → St → Hp → Prop) (h0 : Pv 0 σ H) (hgo : ∀ i σ H, i < len → Pv i σ H → J.go i H) (hst : ∀ σ H, Pv len σ H → J.stop len H)
    (hs : ∀ i σ H x H', i < len → Pv i σ H → J.yld i H x H' → g x σ H' fun σ2 H2 => tb { D with nx := Pv (i + 1), ct := Pv (i + 1), bk := D.nx } σ2 H2) (hd : ∀ σ H, Pv len σ H → D.nx σ H) : ForInv J g tb D σ H := ⟨len, Pv, h0, hgo, hst, hs, hd⟩
def tForS (wi : TI) (g : TG) (tb : TS) : TS := fun D σ H => wi σ H fun J H1 => ForInv J g tb D σ H1
theorem s_forS {X : Cx} {tg iter : Expr} {b1 : List Stmt} {pos : Pos} {wi : TI} {g : TG} {u : TS} (hp : PassesOwn (model X.prog X.w) X.A X.env X.xe) (hc : X.calm = true) (hi : QI X tg iter wi) (hg : QG X tg g) (hb : QB X b1 u) (hs : ∀ x, foldedSetIterable iter X.env x = pure x) : QS X (.For tg iter b1 [] pos) (tForS wi g u) := by
  have h := s_for (pos := pos) hp hc (i_clo hi) hg hb hs
  refine ⟨fun pins s σ H D I ht => h.out pins s σ H D I ⟨_, ht, fun J H1 h1 => ?_⟩⟩
  obtain ⟨len, Pv, a0, a1, a2, a3, a4⟩ := h1.ex
  exact for_any len Pv a0 a1 a2 a3 a4
end L2
namespace L2
open PySem PySem.Spec PyProof.Rows
theorem b_never {X : Cx} {b : List Stmt} : QB X b tNever := ⟨pss_never⟩
end L2
namespace L2
open PySem PySem.Spec PyProof.Rows
/-- a + b of two tuples, be they empty or not: in the end a tuple of both -/
theorem op_catE {X : Cx} {K : PySem.W.Frag} (hK : X.K = K) : OpR X (binaryOp .Add) (fun x y H Q => ∃ (a b : Addr) (xs ys : List V), x = .ref a ∧ y = .ref b ∧ SqT K H a xs ∧ SqT K H b ys ∧ xs.length + ys.length ≤ sizeLine ∧
    (xs = [] → Q (.ref b) H) ∧ (xs ≠ [] → ys = [] → Q (.ref a) H) ∧ (xs ≠ [] → ys ≠ [] → ∀ p, H p = none → Q (.ref p) (upd H p (.tup (xs ++ ys))))) := by
  subst hK
  intro pins s σ H x y v u Q I rx ry h
  obtain ⟨a, b, xs, ys, ex, ey, ha, hb, hz, q0, q1, q2⟩ := h
  by_cases hx : xs = []
  · subst ex ey hx
    cases rx
    cases ry
    obtain ⟨its, r1, p1, _⟩ := I.tuple ha
    obtain ⟨its2, r2, p2, _⟩ := I.tuple hb
    cases r1
    obtain ⟨⟨cls, dd, data, sl⟩, ho, hc, n, hd⟩ := id p1
    obtain ⟨⟨cls2, dd2, data2, sl2⟩, ho2, hc2, n2, hd2⟩ := id p2
    simp only at hc hd hc2 hd2
    subst hc hd hc2 hd2
    exact concat_meets ⟨_, ho, rfl⟩ ⟨_, ho2, rfl⟩ noFill_tuple_add seq_tuple_add PySem.F.slot_tuple_add PySem.F.entry_tuple_add (PySem.F.args_tuple_add_2 _ _)
      (tuple_addW0 a b _ _ n n2 dd dd2 sl sl2 rfl) ⟨ho, ho2, .ref b, H, I, rfl, q0 rfl⟩
  · exact op_catT pins s σ H x y v u Q I rx ry ⟨a, b, xs, ys, ex, ey, ha, hb, hx, hz, q1 hx, q2 hx⟩
end L2
namespace L2
open PySem PySem.Spec PyProof.Rows
/-- isinstance of what may be a dict that is known to its object -/
theorem call_isiDK {X : Cx} {K : PySem.W.Frag} (hK : X.K = K) : CallR X (.builtin "isinstance") (fun xs H Q => ∃ x cv c b, xs = [x, cv] ∧ ClsV cv c ∧ ((∃ t, TyOf K H x t ∧ PySem.W.kitOne K t c = some b) ∨ ∃ (a : Addr) (kvs : List (Key × V)), x = .ref a ∧ Rd H a (.dK kvs) ∧ PySem.W.kitOne K (.type "dict") c = some b) ∧ Q (.bl b) H) := by
  subst hK
  intro pins s σ H xs us Q I r h
  obtain ⟨x, cv, c, b, rfl, rc, ty, q⟩ := h
  obtain ⟨u, v, rfl, ru, rv⟩ := Vals.two r
  have ec : v = c := rc.eq rv
  subst ec
  rcases ty with ⟨t, ty, e⟩ | ⟨a, kvs, rfl, hr, e⟩
  · exact isinst_ok I ru ty e fun tk => ⟨.bl b, H, I.tok tk, rfl, q⟩
  · cases ru
    obtain ⟨_, _, vs, _, o, es, ep, h1, h2, _⟩ := dk_rd I.hok hr
    exact PySem.W.kia_one PySem.W.kitx_dict I.kIn ⟨o, h1, h2.1⟩ e (fun z => nomatch z) fun tk => ⟨.bl b, H, I.tok tk, rfl, q⟩
end L2

set_option Elab.async false
set_option linter.all false
set_option maxRecDepth 100000
set_option maxHeartbeats 400000
/-! more of isinstance -/
namespace L2
open PySem PySem.Spec PyProof.Rows
/-- isinstance of a tuple, wherever it stands -/
theorem call_isiTK {X : Cx} {K : PySem.W.Frag} (hK : X.K = K) : CallR X (.builtin "isinstance") (fun xs H Q => ∃ (a : Addr) (ys : List V) (cv : V) (c : Value) (b : Bool), xs = [.ref a, cv] ∧ ClsV cv c ∧ SqT K H a ys ∧ PySem.W.kitOne K (.type "tuple") c = some b ∧ Q (.bl b) H) := by
  subst hK
  intro pins s σ H xs us Q I r h
  obtain ⟨a, ys, cv, c, b, rfl, rc, hq, e, q⟩ := h
  obtain ⟨u, v, rfl, ru, rv⟩ := Vals.two r
  have ec : v = c := rc.eq rv
  subst ec
  cases ru
  obtain ⟨its, _, p, _⟩ := I.tuple hq
  obtain ⟨o, h1, h2, _⟩ := p
  exact PySem.W.kia_one PySem.W.kitx_tuple I.kIn ⟨o, h1, h2⟩ e (fun z => nomatch z) fun tk => ⟨.bl b, H, I.tok tk, rfl, q⟩
end L2

set_option Elab.async false
set_option linter.all false
set_option maxRecDepth 100000
set_option maxHeartbeats 400000
/-! str of anything plain -/
namespace L2
open PySem PySem.Spec PyProof.Rows
/-- what str tells of a thing -/
inductive StrA (H : Hp) : V → Str → Prop
  | non : StrA H .non "None"
  | int (i : Int) (h : i.natAbs.log2 < 1920) : StrA H (.int i) (toString i)
  | str (x : Str) : StrA H (.str x) x
  | dat {a : Addr} {n : Nat} {d : PyData} (e : Dat H n (.ref a) d) (sh : d.showable = true) (sz : d.shown.length ≤ sizeLine) (dp : d.depth ≤ 8) : StrA H (.ref a) d.shown
  | dict {a : Addr} {kvs : List (Key × V)} {ds : List PyData} {n : Nat} (e : Rd H a (.dK kvs)) (p : Paired (fun (p : Key × V) d => Dat H n p.2 d) kvs ds) (sh : (dD kvs ds).showable = true) (sz : (dD kvs ds).shown.length ≤ sizeLine) (dp : (dD kvs ds).depth ≤ 8) : StrA H (.ref a) (dD kvs ds).shown
section
variable {X : Cx}
theorem call_strA (hg : X.A.guards = some []) (hu : X.A.units + 11 < cLine) : CallR X (.type "str") (fun xs H Q => ∃ x t, xs = [x] ∧ StrA H x t ∧ Q (.str t) H) := by
  intro pins s σ H xs us Q I r h
  obtain ⟨x, t, rfl, h, q⟩ := h
  cases h with
  | non =>
    obtain ⟨u, rfl, r1⟩ := vals1 r
    cases r1
    exact PySem.P.str_of_none ⟨.str _, H, I.tok _, ⟨_, rfl⟩, q⟩
  | int i hz => exact call_str_int pins s σ H _ us Q I r ⟨i, rfl, hz, q⟩
  | str x =>
    obtain ⟨u, rfl, t, rfl⟩ := vals1 r
    exact PySem.P.str_of_str ⟨.str _, H, I, ⟨_, rfl⟩, q⟩
  | @dat a n d e sh sz dp =>
    obtain ⟨u, rfl, ru⟩ := vals1 r
    obtain ⟨as, rd⟩ := dat_reads I n e ru
    cases ru
    refine str_of_reads rd sh (fun z => ?_) hg (by omega) (fun _ _ z => z) (fun h' t tk hk' => ⟨.str _, H, I.kept hk', ⟨t, rfl⟩, q⟩) sz
    rw [no_dict H n e] at z
    cases z
  | @dict a kvs ds n e p sh sz dp => exact call_strD hg (m := 8) hu pins s σ H _ us Q I r ⟨a, kvs, ds, n, rfl, e, p, sh, sz, dp, q⟩
end
theorem Rd.two {H : Hp} {d : Addr} {u v : HO} (h : Rd H d u) (k : Rd H d v) (hu : ∀ ob w, u ≠ .frz ob w) (hv : ∀ ob w, v ≠ .frz ob w) : u = v := by
  rcases h with e | ⟨o, e⟩ <;> rcases k with f | ⟨p, f⟩ <;> rw [e] at f <;> cases f
  · rfl
  · exact absurd rfl (hu _ _)
  · exact absurd rfl (hv _ _)
  · rfl
section
variable {H H' : Hp} {d : Addr} {kvs : List (Key × V)}
theorem dat_move (hd : Rd H d (.dK kvs)) (s : ∀ b o, b ≠ d → H b = some o → H' b = some o) : ∀ (n : Nat) {x : V} {p : PyData}, Dat H n x p → Dat H' n x p := by
  have all : ∀ {n : Nat}, (∀ {x : V} {d : PyData}, Dat H n x d → Dat H' n x d) → ∀ {xs : List V} {ds : List PyData}, Paired (Dat H n) xs ds → Paired (Dat H' n) xs ds := by
    intro n ih xs ds p
    induction p with
    | nil => exact .nil
    | cons h _ q => exact .cons (ih h) q
  intro n
  induction n with
  | zero =>
    intro x p h
    cases x <;> first | exact h.elim | exact h
  | succ n ih =>
    intro x p h
    cases x with
    | ref a =>
      rcases h with ⟨xs, ds, rfl, e, p⟩ | ⟨xs, ds, rfl, e, p⟩
      · refine .inl ⟨xs, ds, rfl, ?_, all ih p⟩
        have ne : a ≠ d := fun z => by
          subst z
          cases Rd.two e hd (fun _ _ z => by cases z) (fun _ _ z => by cases z)
        rcases e with e | ⟨o, e⟩
        · exact .inl (s _ _ ne e)
        · exact .inr ⟨o, s _ _ ne e⟩
      · refine .inr ⟨xs, ds, rfl, s _ _ (fun z => ?_) e, all ih p⟩
        subst z
        rcases hd with f | ⟨o, f⟩ <;> rw [e] at f <;> cases f
    | byt b => exact h.elim
    | flt b => exact h.elim
    | ty b => exact h.elim
    | _ => exact h
theorem dat_same (s : ∀ b o, H b = some o → H' b = some o) : ∀ (n : Nat) {x : V} {p : PyData}, Dat H n x p → Dat H' n x p := by
  have all : ∀ {n : Nat}, (∀ {x : V} {d : PyData}, Dat H n x d → Dat H' n x d) → ∀ {xs : List V} {ds : List PyData}, Paired (Dat H n) xs ds → Paired (Dat H' n) xs ds := by
    intro n ih xs ds p
    induction p with
    | nil => exact .nil
    | cons h _ q => exact .cons (ih h) q
  intro n
  induction n with
  | zero =>
    intro x p h
    cases x <;> first | exact h.elim | exact h
  | succ n ih =>
    intro x p h
    cases x with
    | ref a =>
      rcases h with ⟨xs, ds, rfl, e, p⟩ | ⟨xs, ds, rfl, e, p⟩
      · refine .inl ⟨xs, ds, rfl, ?_, all ih p⟩
        rcases e with e | ⟨o, e⟩
        · exact .inl (s _ _ e)
        · exact .inr ⟨o, s _ _ e⟩
      · exact .inr ⟨xs, ds, rfl, s _ _ e, all ih p⟩
    | byt b => exact h.elim
    | flt b => exact h.elim
    | ty b => exact h.elim
    | _ => exact h
theorem paired_imp {α β : Type} {R S : α → β → Prop} (h : ∀ a b, R a b → S a b) {as : List α} {bs : List β} (p : Paired R as bs) : Paired S as bs := by
  induction p with
  | nil => exact .nil
  | cons h1 _ q => exact .cons (h _ _ h1) q
theorem StrA.same {x : V} {t : Str} (h : StrA H x t) (s : ∀ b o, H b = some o → H' b = some o) : StrA H' x t := by
  cases h with
  | non => exact .non
  | int i z => exact .int i z
  | str x => exact .str _
  | dat e sh sz dp => exact .dat (dat_same s _ e) sh sz dp
  | dict e p sh sz dp =>
    refine .dict ?_ (paired_imp (fun _ _ z => dat_same s _ z) p) sh sz dp
    rcases e with e | ⟨o, e⟩
    · exact .inl (s _ _ e)
    · exact .inr ⟨o, s _ _ e⟩
theorem StrA.move {t : Str} (h : StrA H (.ref d) t) (hd : Rd H d (.dK kvs)) (s : ∀ b o, b ≠ d → H b = some o → H' b = some o) (hd' : Rd H' d (.dK kvs)) : StrA H' (.ref d) t := by
  cases h with
  | @dat _ n _ e sh sz dp =>
    cases n with
    | zero => exact e.elim
    | succ n =>
      rcases e with ⟨xs, ds, rfl, e, p⟩ | ⟨xs, ds, rfl, e, p⟩
      · cases Rd.two e hd (fun _ _ z => by cases z) (fun _ _ z => by cases z)
      · cases Rd.two (.inl e) hd (fun _ _ z => by cases z) (fun _ _ z => by cases z)
  | dict e p sh sz dp =>
    cases Rd.two e hd (fun _ _ z => by cases z) (fun _ _ z => by cases z)
    exact .dict hd' (paired_imp (fun _ _ z => dat_move hd s _ z) p) sh sz dp
end
end L2

set_option Elab.async false
set_option linter.all false
set_option maxRecDepth 100000
set_option maxHeartbeats 400000
/-! len of a dict; texts of small things -/
namespace L2
open PySem PySem.Spec PyProof.Rows
theorem call_lenD {X : Cx} : CallR X (.builtin "len") (fun xs H Q => ∃ a kvs, xs = [.ref a] ∧ Rd H a (.dK kvs) ∧ Q (.int (kvs.length : Nat)) H) := by
  intro pins s σ H xs us Q I r h
  obtain ⟨a, kvs, rfl, e, q⟩ := h
  obtain ⟨u, rfl, ru⟩ := vals1 r
  cases ru
  exact d_len I e fun t s' I' => ⟨.int _, H, I', ⟨t, rfl⟩, q⟩
/-- a small thing -/
structure Sm (d : PyData) : Prop where
  sh : d.showable = true
  lv : d.leavesShort 13 = true
  bk : d.bulk ≤ 20
  dp : d.depth ≤ 3
theorem sm_int {i : Int} (h : i.natAbs < 10 ^ 9) : Sm (.int i) := by
  refine ⟨?_, ?_, ?_, ?_⟩
  · simp only [PyData.showable, decide_eq_true_eq]
    by_cases z : i.natAbs = 0
    · rw [z]; decide
    · refine (Nat.log2_lt z).mpr (Nat.lt_of_lt_of_le h ?_)
      exact Nat.le_trans (by decide : 10 ^ 9 ≤ 2 ^ 30) (Nat.pow_le_pow_right (by decide) (by decide))
  · simp only [PyData.leavesShort, decide_eq_true_eq]
    have := int_text_length_le10 (a := i) (k := 9) (by decide) h
    show (Str.ofString (toString i)).length ≤ 13
    rw [ofString_len]
    omega
  · simp only [PyData.bulk]; decide
  · simp only [PyData.depth]; decide
theorem sm_none : Sm .none := ⟨by simp only [PyData.showable], by simp only [PyData.leavesShort], by simp only [PyData.bulk]; decide, by simp only [PyData.depth]; decide⟩
def Sh (x : Str) : Prop := (x.cps.toList.all fun c => decide (c < 16 ^ 8)) = true ∧ x.cps.size ≤ 10
theorem sm_str {x : Str} (h : Sh x) : Sm (.str x) := ⟨by simp only [PyData.showable], by simp only [PyData.leavesShort]; exact h.1, by simp only [PyData.bulk]; have := h.2; omega, by simp only [PyData.depth]; decide⟩
theorem sm_tup2 {i j : Int} (h : i.natAbs < 10 ^ 9) (k : j.natAbs < 10 ^ 9) : Sm (.tuple [.int i, .int j]) := by
  have a := sm_int h
  have b := sm_int k
  refine ⟨?_, ?_, ?_, ?_⟩
  · simp only [PyData.showable, PyData.showableAll, Bool.and_eq_true]
    exact ⟨by simpa only [PyData.showable] using a.sh, by simpa only [PyData.showable] using b.sh, trivial⟩
  · simp only [PyData.leavesShort, PyData.leavesShortAll, Bool.and_eq_true]
    exact ⟨by simpa only [PyData.leavesShort] using a.lv, by simpa only [PyData.leavesShort] using b.lv, trivial⟩
  · simp only [PyData.bulk, PyData.bulkAll]; decide
  · simp only [PyData.depth, PyData.depthAll]; decide
/-- str of a dict of small things -/
theorem str_small {H : Hp} {D : Addr} {kvs : List (Key × V)} (e : Rd H D (.dK kvs)) (hl : kvs.length ≤ 100) (hk : ∀ p ∈ kvs, Sm (kD p.1)) (hv : ∀ p ∈ kvs, ∃ d, Dat H 3 p.2 d ∧ Sm d) : ∃ t, StrA H (.ref D) t := by
  have gen : ∀ kvs : List (Key × V), (∀ p ∈ kvs, Sm (kD p.1)) → (∀ p ∈ kvs, ∃ d, Dat H 3 p.2 d ∧ Sm d) → ∃ ds, Paired (fun (p : Key × V) d => Dat H 3 p.2 d) kvs ds ∧
      PyData.showableKv ((kvs.map fun p => kD p.1).zip ds) = true ∧ PyData.leavesShortKv 13 ((kvs.map fun p => kD p.1).zip ds) = true ∧ PyData.bulkKv ((kvs.map fun p => kD p.1).zip ds) ≤ 42 * kvs.length ∧ PyData.depthKv ((kvs.map fun p => kD p.1).zip ds) ≤ 3 := by
    intro kvs
    induction kvs with
    | nil =>
      intro _ _
      refine ⟨[], .nil, ?_, ?_, ?_, ?_⟩ <;> simp [PyData.showableKv, PyData.leavesShortKv, PyData.bulkKv, PyData.depthKv]
    | cons p kvs ih =>
      intro hk hv
      obtain ⟨ds, pd, a, b, c, d⟩ := ih (fun q hq => hk q (by simp [hq])) (fun q hq => hv q (by simp [hq]))
      obtain ⟨d0, dt, sm⟩ := hv p (by simp)
      have sk := hk p (by simp)
      refine ⟨d0 :: ds, .cons dt pd, ?_, ?_, ?_, ?_⟩
      · simp only [List.map_cons, List.zip_cons_cons, PyData.showableKv, a, sk.sh, sm.sh, Bool.and_self]
      · simp only [List.map_cons, List.zip_cons_cons, PyData.leavesShortKv, b, sk.lv, sm.lv, Bool.and_self]
      · simp only [List.map_cons, List.zip_cons_cons, PyData.bulkKv, List.length_cons]
        have := sk.bk
        have := sm.bk
        omega
      · simp only [List.map_cons, List.zip_cons_cons, PyData.depthKv]
        have := sk.dp
        have := sm.dp
        omega
  obtain ⟨ds, pd, a, b, c, d⟩ := gen kvs hk hv
  refine ⟨_, .dict e pd ?_ ?_ ?_⟩
  · simp only [dD, PyData.showable]; exact a
  · refine PyData.shown_fits_bulk (B := 13) (by decide) (by decide) ?_ ?_
    · simp only [dD, PyData.leavesShort]; exact b
    · simp only [dD, PyData.bulk]
      have : (2 : Nat) ^ 20 = 1048576 := by decide
      omega
  · simp only [dD, PyData.depth]; omega
theorem str_sm {H : Hp} {a : Addr} {n : Nat} {d : PyData} (e : Dat H n (.ref a) d) (s : Sm d) : StrA H (.ref a) d.shown :=
  .dat e s.sh (PyData.shown_fits_bulk (B := 13) (by decide) (by decide) s.lv (Nat.le_trans s.bk (by decide))) (Nat.le_trans s.dp (by decide))
end L2

set_option linter.all false
/-! Units and rates: products of rates, each so often as its exponent tells. -/
namespace FrM
/-- equal across, both shortest -/
theorem dvd_cop {a b c : Int} (h : a ∣ b * c) (g : Int.gcd a b = 1) : a ∣ c := by
  have h' : a.natAbs ∣ b.natAbs * c.natAbs := by rw [← Int.natAbs_mul]; exact Int.natAbs_dvd_natAbs.mpr h
  have g' : Nat.Coprime a.natAbs b.natAbs := g
  exact Int.natAbs_dvd_natAbs.mp (Nat.Coprime.dvd_of_dvd_mul_left g' h')
theorem red_unique {a b c d : Int} (hb : 0 < b) (hd : 0 < d) (g1 : Int.gcd a b = 1) (g2 : Int.gcd c d = 1) (h : a * d = c * b) : a = c ∧ b = d := by
  have h1 : b ∣ a * d := ⟨c, by rw [h, Int.mul_comm]⟩
  have h2 : b ∣ d := dvd_cop h1 (by rw [Int.gcd_comm]; exact g1)
  have h3 : d ∣ c * b := ⟨a, by rw [← h, Int.mul_comm]⟩
  have h4 : d ∣ b := dvd_cop h3 (by rw [Int.gcd_comm]; exact g2)
  have e : b = d := Int.dvd_antisymm (Int.le_of_lt hb) (Int.le_of_lt hd) h2 h4
  subst e
  exact ⟨Int.eq_of_mul_eq_mul_right (by omega) h, rfl⟩
theorem f_eq {a b c d : Int} (hb : 0 < b) (hd : 0 < d) (h : a * d = c * b) : fa a b = fa c d ∧ fb a b = fb c d := by
  refine red_unique (fb_pos a hb) (fb_pos c hd) (f_gcd a hb) (f_gcd c hd) ?_
  have h1 := f_across a b
  have h2 := f_across c d
  have : (fa a b * fb c d) * (b * d) = (fa c d * fb a b) * (b * d) := by
    calc (fa a b * fb c d) * (b * d) = (fa a b * b) * (fb c d * d) := by grind
      _ = (a * fb a b) * (fb c d * d) := by rw [h1]
      _ = (a * d) * (fb a b * fb c d) := by grind
      _ = (c * b) * (fb a b * fb c d) := by rw [h]
      _ = (c * fb c d) * (fb a b * b) := by grind
      _ = (fa c d * d) * (fb a b * b) := by rw [h2]
      _ = (fa c d * fb a b) * (b * d) := by grind
  exact Int.eq_of_mul_eq_mul_right (by have := Int.mul_pos hb hd; omega) this
/-- one step of a product that is told shortest -/
theorem f_step {C D : Int} (c d : Int) (hD : 0 < D) (hd : 0 < d) : fa (fa C D * c) (fb C D * d) = fa (C * c) (D * d) ∧ fb (fa C D * c) (fb C D * d) = fb (C * c) (D * d) := by
  refine f_eq (Int.mul_pos (fb_pos C hD) hd) (Int.mul_pos hD hd) ?_
  have h := f_across C D
  calc fa C D * c * (D * d) = (fa C D * D) * (c * d) := by grind
    _ = (C * fb C D) * (c * d) := by rw [h]
    _ = C * c * (fb C D * d) := by grind
theorem f_swap (C D : Int) (hC : 0 < C) (hD : 0 < D) : fa D C = fb C D ∧ fb D C = fa C D := by
  unfold fa fb
  rw [Int.gcd_comm D C]
  exact ⟨rfl, rfl⟩
theorem f_self {a b : Int} (g : Int.gcd a b = 1) : fa a b = a ∧ fb a b = b := by
  unfold fa fb
  rw [g]
  simp
/-! powers -/
abbrev Pr := Int × Int
def up (r : Pr) (e : Int) : Int := if e < 0 then r.2 ^ (-e).toNat else r.1 ^ e.toNat
def dn (r : Pr) (e : Int) : Int := if e < 0 then r.1 ^ (-e).toNat else r.2 ^ e.toNat
theorem up_pos {r : Pr} (h1 : 0 < r.1) (h2 : 0 < r.2) (e : Int) : 0 < up r e := by
  unfold up
  split
  · exact pow_pos' h2 _
  · exact pow_pos' h1 _
theorem dn_pos {r : Pr} (h1 : 0 < r.1) (h2 : 0 < r.2) (e : Int) : 0 < dn r e := by
  unfold dn
  split
  · exact pow_pos' h1 _
  · exact pow_pos' h2 _
theorem up_eq (r : Pr) (e : Int) : up r e = r.1 ^ e.toNat * r.2 ^ (-e).toNat := by
  unfold up
  split
  · rename_i h
    rw [show e.toNat = 0 by omega]; simp
  · rename_i h
    rw [show (-e).toNat = 0 by omega]; simp
theorem dn_eq (r : Pr) (e : Int) : dn r e = r.2 ^ e.toNat * r.1 ^ (-e).toNat := by
  unfold dn
  split
  · rename_i h
    rw [show e.toNat = 0 by omega]; simp
  · rename_i h
    rw [show (-e).toNat = 0 by omega]; simp
theorem up_zero (r : Pr) : up r 0 = 1 := by simp [up]
theorem dn_zero (r : Pr) : dn r 0 = 1 := by simp [dn]
theorem up_add (r : Pr) (a b : Int) : up r (a + b) * dn r a * dn r b = up r a * up r b * dn r (a + b) := by
  simp only [up_eq, dn_eq]
  have e : (a + b).toNat + (-a).toNat + (-b).toNat = a.toNat + b.toNat + (-(a + b)).toNat := by omega
  have l : r.1 ^ (a + b).toNat * r.2 ^ (-(a + b)).toNat * (r.2 ^ a.toNat * r.1 ^ (-a).toNat) * (r.2 ^ b.toNat * r.1 ^ (-b).toNat)
      = r.1 ^ ((a + b).toNat + (-a).toNat + (-b).toNat) * r.2 ^ (a.toNat + b.toNat + (-(a + b)).toNat) := by
    rw [Int.pow_add, Int.pow_add, Int.pow_add, Int.pow_add]; grind
  have m : r.1 ^ a.toNat * r.2 ^ (-a).toNat * (r.1 ^ b.toNat * r.2 ^ (-b).toNat) * (r.2 ^ (a + b).toNat * r.1 ^ (-(a + b)).toNat)
      = r.1 ^ (a.toNat + b.toNat + (-(a + b)).toNat) * r.2 ^ ((a + b).toNat + (-a).toNat + (-b).toNat) := by
    rw [Int.pow_add, Int.pow_add, Int.pow_add, Int.pow_add]; grind
  rw [l, m, e]
theorem up_ones (e : Int) : up (1, 1) e = 1 := by unfold up; split <;> exact Int.one_pow
theorem dn_ones (e : Int) : dn (1, 1) e = 1 := by unfold dn; split <;> exact Int.one_pow
theorem sz_pow {a : Int} (h : Sz 20 a) (n : Nat) : a.natAbs ^ n ≤ 2 ^ (20 * n) := by
  rw [Nat.pow_mul]
  exact Nat.pow_le_pow_left (Nat.le_of_lt h) n
theorem up_le {r : Pr} (h1 : Sz 20 r.1) (h2 : Sz 20 r.2) (e : Int) : (up r e).natAbs ≤ 2 ^ (20 * e.natAbs) := by
  unfold up
  split
  · rw [Int.natAbs_pow, show (-e).toNat = e.natAbs by omega]; exact sz_pow h2 _
  · rw [Int.natAbs_pow, show e.toNat = e.natAbs by omega]; exact sz_pow h1 _
theorem dn_le {r : Pr} (h1 : Sz 20 r.1) (h2 : Sz 20 r.2) (e : Int) : (dn r e).natAbs ≤ 2 ^ (20 * e.natAbs) := by
  unfold dn
  split
  · rw [Int.natAbs_pow, show (-e).toNat = e.natAbs by omega]; exact sz_pow h1 _
  · rw [Int.natAbs_pow, show e.toNat = e.natAbs by omega]; exact sz_pow h2 _
/-! products over pairs (name, exponent) -/
section
variable {κ : Type} [DecidableEq κ]
def pr : List Int → Int
  | [] => 1
  | x :: xs => x * pr xs
theorem pr_append (xs ys : List Int) : pr (xs ++ ys) = pr xs * pr ys := by
  induction xs with
  | nil => simp [pr]
  | cons x xs ih => simp only [List.cons_append, pr, ih]; grind
theorem pr_pos {xs : List Int} (h : ∀ x ∈ xs, 0 < x) : 0 < pr xs := by
  induction xs with
  | nil => simp [pr]
  | cons x xs ih => exact Int.mul_pos (h x (by simp)) (ih fun y hy => h y (by simp [hy]))
def rA (r : κ → Pr) (ps : List (κ × Int)) : Int := pr (ps.map fun p => up (r p.1) p.2)
def rB (r : κ → Pr) (ps : List (κ × Int)) : Int := pr (ps.map fun p => dn (r p.1) p.2)
def Pos (r : κ → Pr) : Prop := ∀ n, 0 < (r n).1 ∧ 0 < (r n).2
theorem rA_pos {r : κ → Pr} (h : Pos r) (ps : List (κ × Int)) : 0 < rA r ps := pr_pos fun x hx => by
  obtain ⟨p, _, rfl⟩ := List.mem_map.mp hx
  exact up_pos (h p.1).1 (h p.1).2 _
theorem rB_pos {r : κ → Pr} (h : Pos r) (ps : List (κ × Int)) : 0 < rB r ps := pr_pos fun x hx => by
  obtain ⟨p, _, rfl⟩ := List.mem_map.mp hx
  exact dn_pos (h p.1).1 (h p.1).2 _
theorem rA_append (r : κ → Pr) (ps qs : List (κ × Int)) : rA r (ps ++ qs) = rA r ps * rA r qs := by simp [rA, pr_append]
theorem rB_append (r : κ → Pr) (ps qs : List (κ × Int)) : rB r (ps ++ qs) = rB r ps * rB r qs := by simp [rB, pr_append]
theorem rA_one (r : κ → Pr) (n : κ) (e : Int) : rA r [(n, e)] = up (r n) e := by simp [rA, pr]
theorem rB_one (r : κ → Pr) (n : κ) (e : Int) : rB r [(n, e)] = dn (r n) e := by simp [rB, pr]
theorem rA_cons (r : κ → Pr) (n : κ) (e : Int) (ps : List (κ × Int)) : rA r ((n, e) :: ps) = up (r n) e * rA r ps := by simp [rA, pr]
theorem rB_cons (r : κ → Pr) (n : κ) (e : Int) (ps : List (κ × Int)) : rB r ((n, e) :: ps) = dn (r n) e * rB r ps := by simp [rB, pr]
/-- the sum of a name's exponents -/
def tot (ps : List (κ × Int)) (n : κ) : Int := match ps with
  | [] => 0
  | (m, e) :: ps => (if m = n then e else 0) + tot ps n
theorem tot_append (ps qs : List (κ × Int)) (n : κ) : tot (ps ++ qs) n = tot ps n + tot qs n := by
  induction ps with
  | nil => simp [tot]
  | cons p ps ih => obtain ⟨m, e⟩ := p; simp only [List.cons_append, tot, ih]; omega
theorem map_upd {f g : κ → Int} {m : κ} {l : List κ} (hm : m ∉ l) (h : ∀ n, n ≠ m → g n = f n) : l.map g = l.map f :=
  List.map_congr_left fun n hn => h n fun e => hm (e ▸ hn)
/-- a row of pairs and the sums of its names: as much by products across -/
theorem tot_across {r : κ → Pr} (hp : Pos r) {ks : List κ} (nd : ks.Nodup) : ∀ ps : List (κ × Int), (∀ p ∈ ps, p.1 ∈ ks) →
    rA r ps * pr (ks.map fun n => dn (r n) (tot ps n)) = rB r ps * pr (ks.map fun n => up (r n) (tot ps n)) := by
  intro ps
  induction ps with
  | nil =>
    intro hz
    clear hz
    have e1 : pr (ks.map fun n => dn (r n) (tot ([] : List (κ × Int)) n)) = 1 := by
      clear nd
      induction ks with
      | nil => rfl
      | cons k ks ih => simp only [List.map_cons, pr, tot, dn_zero, Int.one_mul]; simpa only [tot, dn_zero] using ih
    have e2 : pr (ks.map fun n => up (r n) (tot ([] : List (κ × Int)) n)) = 1 := by
      clear nd e1
      induction ks with
      | nil => rfl
      | cons k ks ih => simp only [List.map_cons, pr, tot, up_zero, Int.one_mul]; simpa only [tot, up_zero] using ih
    rw [e1, e2]; rfl
  | cons p ps ih =>
    intro hk
    obtain ⟨m, e⟩ := p
    have hm : m ∈ ks := hk (m, e) (by simp)
    have ih := ih fun q hq => hk q (by simp [hq])
    obtain ⟨l1, l2, rfl⟩ := List.append_of_mem hm
    have n1 : m ∉ l1 := fun z => by
      rw [List.nodup_append] at nd
      exact nd.2.2 m z m (by simp) rfl
    have n2 : m ∉ l2 := by
      rw [List.nodup_append] at nd
      exact (List.nodup_cons.mp nd.2.1).1
    have t0 : ∀ n, n ≠ m → tot ((m, e) :: ps) n = tot ps n := fun n hn => by
      simp only [tot]; rw [if_neg (fun z => hn z.symm)]; omega
    have t1 : tot ((m, e) :: ps) m = e + tot ps m := by simp [tot]
    simp only [List.map_append, List.map_cons, pr_append, pr] at ih ⊢
    have d0 : ∀ n, n ≠ m → dn (r n) (tot ((m, e) :: ps) n) = dn (r n) (tot ps n) := fun n hn => by rw [t0 n hn]
    have u0 : ∀ n, n ≠ m → up (r n) (tot ((m, e) :: ps) n) = up (r n) (tot ps n) := fun n hn => by rw [t0 n hn]
    rw [map_upd n1 d0, map_upd n2 d0, map_upd n1 u0, map_upd n2 u0, t1, rA_cons, rB_cons]
    generalize pr (l1.map fun n => dn (r n) (tot ps n)) = P1 at ih ⊢
    generalize pr (l2.map fun n => dn (r n) (tot ps n)) = P2 at ih ⊢
    generalize pr (l1.map fun n => up (r n) (tot ps n)) = Q1 at ih ⊢
    generalize pr (l2.map fun n => up (r n) (tot ps n)) = Q2 at ih ⊢
    have z := up_add (r m) e (tot ps m)
    have hd := dn_pos (hp m).1 (hp m).2 (tot ps m)
    generalize dn (r m) (tot ps m) = dT at ih z hd ⊢
    generalize up (r m) (tot ps m) = uT at ih z ⊢
    generalize dn (r m) e = dE at z ⊢
    generalize up (r m) e = uE at z ⊢
    generalize dn (r m) (e + tot ps m) = dS at z ⊢
    generalize up (r m) (e + tot ps m) = uS at z ⊢
    generalize rA r ps = a at ih ⊢
    generalize rB r ps = b at ih ⊢
    refine Int.eq_of_mul_eq_mul_right (show dT ≠ 0 by omega) ?_
    calc uE * a * (P1 * (dS * P2)) * dT = (a * (P1 * (dT * P2))) * (uE * dS) := by grind
      _ = (b * (Q1 * (uT * Q2))) * (uE * dS) := by rw [ih]
      _ = (b * Q1 * Q2) * (uE * uT * dS) := by grind
      _ = (b * Q1 * Q2) * (uS * dE * dT) := by rw [z]
      _ = dE * b * (Q1 * (uS * Q2)) * dT := by grind
/-- the unit of a row of pairs, its names in some order: those of nought left out -/
def unitOf (ps : List (κ × Int)) (ks : List κ) : List (κ × Int) := (ks.map fun n => (n, tot ps n)).filter fun p => decide (p.2 ≠ 0)
theorem unit_A (r : κ → Pr) (ps : List (κ × Int)) (ks : List κ) : rA r (unitOf ps ks) = pr (ks.map fun n => up (r n) (tot ps n)) := by
  unfold unitOf
  induction ks with
  | nil => rfl
  | cons k ks ih =>
    simp only [List.map_cons, List.filter_cons, pr]
    split
    · rw [rA_cons, ih]
    · rename_i h
      have : tot ps k = 0 := by simpa using h
      rw [ih, this, up_zero, Int.one_mul]
theorem unit_B (r : κ → Pr) (ps : List (κ × Int)) (ks : List κ) : rB r (unitOf ps ks) = pr (ks.map fun n => dn (r n) (tot ps n)) := by
  unfold unitOf
  induction ks with
  | nil => rfl
  | cons k ks ih =>
    simp only [List.map_cons, List.filter_cons, pr]
    split
    · rw [rB_cons, ih]
    · rename_i h
      have : tot ps k = 0 := by simpa using h
      rw [ih, this, dn_zero, Int.one_mul]
theorem unit_across {r : κ → Pr} (hp : Pos r) {ks : List κ} (nd : ks.Nodup) {ps : List (κ × Int)} (h : ∀ p ∈ ps, p.1 ∈ ks) : rA r ps * rB r (unitOf ps ks) = rA r (unitOf ps ks) * rB r ps := by
  rw [unit_A, unit_B, tot_across hp nd ps h, Int.mul_comm]
/-- how much exponents there are -/
def wt (ps : List (κ × Int)) : Nat := match ps with
  | [] => 0
  | (_, e) :: ps => e.natAbs + wt ps
theorem wt_append (ps qs : List (κ × Int)) : wt (ps ++ qs) = wt ps + wt qs := by
  induction ps with
  | nil => simp [wt]
  | cons p ps ih => simp only [List.cons_append, wt, ih]; omega
theorem wt_mem {ps : List (κ × Int)} {p : κ × Int} (h : p ∈ ps) : p.2.natAbs ≤ wt ps := by
  induction ps with
  | nil => cases h
  | cons q ps ih =>
    simp only [wt]
    rcases List.mem_cons.mp h with rfl | h
    · omega
    · have := ih h; omega
theorem wt_take (ps : List (κ × Int)) (i : Nat) : wt (ps.take i) ≤ wt ps := by
  have := wt_append (ps.take i) (ps.drop i)
  rw [List.take_append_drop] at this
  omega
theorem natAbs_mul_le {a b : Int} {m n : Nat} (h1 : a.natAbs ≤ 2 ^ (20 * m)) (h2 : b.natAbs ≤ 2 ^ (20 * n)) : (a * b).natAbs ≤ 2 ^ (20 * (m + n)) := by
  rw [Int.natAbs_mul, Nat.mul_add, Nat.pow_add]
  exact Nat.mul_le_mul h1 h2
def Sml (r : κ → Pr) : Prop := ∀ n, Sz 20 (r n).1 ∧ Sz 20 (r n).2
theorem rA_le {r : κ → Pr} (h : Sml r) : ∀ ps : List (κ × Int), (rA r ps).natAbs ≤ 2 ^ (20 * wt ps)
  | [] => by simp [rA, pr, wt]
  | (n, e) :: ps => by
    rw [rA_cons]
    exact natAbs_mul_le (up_le (h n).1 (h n).2 e) (rA_le h ps)
theorem rB_le {r : κ → Pr} (h : Sml r) : ∀ ps : List (κ × Int), (rB r ps).natAbs ≤ 2 ^ (20 * wt ps)
  | [] => by simp [rB, pr, wt]
  | (n, e) :: ps => by
    rw [rB_cons]
    exact natAbs_mul_le (dn_le (h n).1 (h n).2 e) (rB_le h ps)
theorem sz_of_le {a : Int} {m k : Nat} (h : a.natAbs ≤ 2 ^ (20 * m)) (hk : 20 * m < k) : Sz k a := Nat.lt_of_le_of_lt h (Nat.pow_lt_pow_right (by decide) hk)
theorem wt_tot {ks : List κ} (nd : ks.Nodup) : ∀ ps : List (κ × Int), wt (ks.map fun n => (n, tot ps n)) ≤ wt ps := by
  intro ps
  induction ps with
  | nil =>
    have : wt (ks.map fun n => (n, tot ([] : List (κ × Int)) n)) = 0 := by
      clear nd
      induction ks with
      | nil => rfl
      | cons k ks ih => simp only [List.map_cons, wt, tot] at ih ⊢; rw [ih]; rfl
    omega
  | cons p ps ih =>
    obtain ⟨m, e⟩ := p
    have key : ∀ l : List κ, l.Nodup → wt (l.map fun n => (n, tot ((m, e) :: ps) n)) ≤ wt (l.map fun n => (n, tot ps n)) + (if m ∈ l then e.natAbs else 0) := by
      intro l
      induction l with
      | nil => intro _; simp [wt]
      | cons k l il =>
        intro nl
        have nl' := List.nodup_cons.mp nl
        have := il nl'.2
        simp only [List.map_cons, wt]
        by_cases hk : m = k
        · subst hk
          rw [if_neg nl'.1] at this
          rw [if_pos (by simp)]
          have : tot ((m, e) :: ps) m = e + tot ps m := by simp [tot]
          omega
        · have t0 : tot ((m, e) :: ps) k = tot ps k := by simp only [tot]; rw [if_neg hk]; omega
          rw [t0]
          have : (if m ∈ k :: l then e.natAbs else 0) = if m ∈ l then e.natAbs else 0 := by simp [hk]
          omega
    have := key ks nd
    simp only [wt]
    have : (if m ∈ ks then e.natAbs else 0) ≤ e.natAbs := by split <;> omega
    omega
theorem wt_filter (p : κ × Int → Bool) : ∀ ps : List (κ × Int), wt (ps.filter p) ≤ wt ps
  | [] => Nat.le_refl _
  | (n, e) :: ps => by
    have := wt_filter p ps
    rw [List.filter_cons]
    split <;> simp only [wt] <;> omega
theorem wt_unit {ks : List κ} (nd : ks.Nodup) (ps : List (κ × Int)) : wt (unitOf ps ks) ≤ wt ps := Nat.le_trans (wt_filter _ _) (wt_tot nd ps)
theorem unit_mem {ps : List (κ × Int)} {ks : List κ} {p : κ × Int} (h : p ∈ unitOf ps ks) : p.1 ∈ ks := by
  obtain ⟨n, hn, rfl⟩ := List.mem_map.mp (List.mem_filter.mp h).1
  exact hn
end
end FrM

set_option Elab.async false
set_option linter.all false
namespace FrM
section
variable {κ : Type} [DecidableEq κ]
theorem rA_swap (r : κ → Pr) (ps : List (κ × Int)) : rA (fun n => ((r n).2, (r n).1)) ps = rB r ps := rfl
theorem rB_swap (r : κ → Pr) (ps : List (κ × Int)) : rB (fun n => ((r n).2, (r n).1)) ps = rA r ps := rfl
theorem rA_ones (ps : List (κ × Int)) : rA (fun _ => (1, 1)) ps = 1 := by
  induction ps with
  | nil => rfl
  | cons p ps ih =>
    obtain ⟨n, e⟩ := p
    rw [rA_cons, ih, up_ones]; rfl
theorem rB_ones (ps : List (κ × Int)) : rB (fun _ => (1, 1)) ps = 1 := by
  induction ps with
  | nil => rfl
  | cons p ps ih =>
    obtain ⟨n, e⟩ := p
    rw [rB_cons, ih, dn_ones]; rfl
theorem f_cross2 {A1 B1 A2 B2 : Int} (h1 : 0 < B1) (h2 : 0 < B2) (h : A1 * B2 = A2 * B1) : fa A1 B1 * B2 = A2 * fb A1 B1 := by
  obtain ⟨e1, e2⟩ := f_eq h1 h2 h
  rw [e1, e2]
  exact f_across A2 B2
theorem unit_two {r : κ → Pr} (hp : Pos r) {ks1 ks2 : List κ} (n1 : ks1.Nodup) (n2 : ks2.Nodup) {ps : List (κ × Int)} (h1 : ∀ p ∈ ps, p.1 ∈ ks1) (h2 : ∀ p ∈ ps, p.1 ∈ ks2) :
    rA r (unitOf ps ks1) * rB r (unitOf ps ks2) = rA r (unitOf ps ks2) * rB r (unitOf ps ks1) := by
  have e1 := unit_across hp n1 h1
  have e2 := unit_across hp n2 h2
  have hY : rB r ps ≠ 0 := by have := rB_pos hp ps; omega
  refine Int.eq_of_mul_eq_mul_right hY ?_
  calc rA r (unitOf ps ks1) * rB r (unitOf ps ks2) * rB r ps
      = (rA r (unitOf ps ks1) * rB r ps) * rB r (unitOf ps ks2) := by rw [Int.mul_assoc, Int.mul_comm (rB r (unitOf ps ks2)), ← Int.mul_assoc]
    _ = (rA r ps * rB r (unitOf ps ks1)) * rB r (unitOf ps ks2) := by rw [e1]
    _ = (rA r ps * rB r (unitOf ps ks2)) * rB r (unitOf ps ks1) := by rw [Int.mul_assoc, Int.mul_comm (rB r (unitOf ps ks1)), ← Int.mul_assoc]
    _ = (rA r (unitOf ps ks2) * rB r ps) * rB r (unitOf ps ks1) := by rw [e2]
    _ = rA r (unitOf ps ks2) * rB r (unitOf ps ks1) * rB r ps := by rw [Int.mul_assoc, Int.mul_comm (rB r ps), ← Int.mul_assoc]
theorem join_step {r : κ → Pr} (hp : Pos r) {ks : List κ} (nd : ks.Nodup) {ps qs : List (κ × Int)} (h : ∀ p ∈ ps ++ qs, p.1 ∈ ks) :
    fa (rA r (unitOf (ps ++ qs) ks)) (rB r (unitOf (ps ++ qs) ks)) = fa (fa (rA r ps) (rB r ps) * fa (rA r qs) (rB r qs)) (fb (rA r ps) (rB r ps) * fb (rA r qs) (rB r qs)) ∧
    fb (rA r (unitOf (ps ++ qs) ks)) (rB r (unitOf (ps ++ qs) ks)) = fb (fa (rA r ps) (rB r ps) * fa (rA r qs) (rB r qs)) (fb (rA r ps) (rB r ps) * fb (rA r qs) (rB r qs)) := by
  have b1 := rB_pos hp ps
  have b2 := rB_pos hp qs
  have e := unit_across hp nd h
  obtain ⟨s1, s2⟩ := f_step (C := rA r ps) (fa (rA r qs) (rB r qs)) (fb (rA r qs) (rB r qs)) b1 (fb_pos _ b2)
  obtain ⟨s3, s4⟩ := f_step (C := rA r qs) (rA r ps) (rB r ps) b2 b1
  rw [s1, s2, Int.mul_comm (rA r ps), Int.mul_comm (rB r ps), s3, s4, Int.mul_comm (rA r qs), Int.mul_comm (rB r qs), ← rA_append, ← rB_append]
  refine f_eq (rB_pos hp _) (rB_pos hp _) ?_
  exact e.symm
theorem wt_scale {k : Int} (h : k.natAbs ≤ 2) : ∀ qs : List (κ × Int), wt (qs.map fun p => (p.1, p.2 * k)) ≤ 2 * wt qs
  | [] => Nat.le_refl _
  | p :: qs => by
    have ih := wt_scale h qs
    simp only [List.map_cons, wt]
    have : (p.2 * k).natAbs ≤ p.2.natAbs * 2 := by
      rw [Int.natAbs_mul]; exact Nat.mul_le_mul_left _ h
    omega
end
end FrM

set_option Elab.async false
set_option linter.all false
set_option maxRecDepth 100000
set_option maxHeartbeats 4000000
namespace Fr
open PySem PySem.Spec PyProof.Rows L2 FrM
def top (i : Nat) : Stmt := PySem.Challenge.pw_measurewise_k03_measures.main.body.getD i (.Pass ⟨0, 0, 0, 0⟩)
abbrev sWhole : Stmt := top 8
abbrev sLetter : Stmt := top 9
abbrev sName : Stmt := top 10
abbrev sNeed : Stmt := top 11
abbrev sDiv : Stmt := top 13
abbrev sFrac : Stmt := top 14
abbrev sIsF : Stmt := top 15
abbrev sProd : Stmt := top 16
abbrev sWPow : Stmt := top 17
abbrev sTurn : Stmt := top 18
abbrev sPow : Stmt := top 19
abbrev sPair : Stmt := top 22
abbrev sUnit : Stmt := top 23
abbrev sJoin : Stmt := top 24
abbrev sPowd : Stmt := top 25
abbrev sRates : Stmt := top 26
abbrev sMeas : Stmt := top 27
abbrev lMix : Stmt := top 29
abbrev lNum : Stmt := top 30
abbrev lUnit : Stmt := top 31
abbrev lRates : Stmt := top 32
abbrev lProd : Stmt := top 33
abbrev lIs : Stmt := top 34
abbrev lRef : Stmt := top 35
abbrev lWrong : Stmt := top 36
abbrev lLaw : Stmt := top 37
theorem bt_list : bootBuiltins "list" = some (.type "list") := by decide +kernel
theorem bt_dict : bootBuiltins "dict" = some (.type "dict") := by decide +kernel
theorem bt_all : bootBuiltins "all" = some (.builtin "all") := by decide +kernel
theorem bt_sorted : bootBuiltins "sorted" = some (.builtin "sorted") := by decide +kernel
theorem bt_range : bootBuiltins "range" = some (.type "range") := by decide +kernel
theorem bt_isinstance : bootBuiltins "isinstance" = some (.builtin "isinstance") := by decide +kernel
theorem bt_len : bootBuiltins "len" = some (.builtin "len") := by decide +kernel
theorem bt_abs : bootBuiltins "abs" = some (.builtin "abs") := by decide +kernel
theorem bt_int : bootBuiltins "int" = some (.type "int") := by decide +kernel
theorem bt_bool : bootBuiltins "bool" = some (.type "bool") := by decide +kernel
theorem bt_tuple : bootBuiltins "tuple" = some (.type "tuple") := by decide +kernel
theorem bt_str : bootBuiltins "str" = some (.type "str") := by decide +kernel
theorem bt_ValueError : bootBuiltins "ValueError" = some (.type "ValueError") := by decide +kernel
/-! kinds -/
inductive Kd (H : Hp) : V → Prop
  | non : Kd H .non
  | bl (b : Bool) : Kd H (.bl b)
  | int (i : Int) : Kd H (.int i)
  | str (x : Str) : Kd H (.str x)
  | lst {a : Addr} {xs : List V} (e : H a = some (.lst xs)) : Kd H (.ref a)
  | tup {a : Addr} {xs : List V} (e : H a = some (.tup xs)) : Kd H (.ref a)
def isW : V → Bool
  | .int _ => true
  | _ => false
def isIB : V → Bool
  | .int _ => true
  | .bl _ => true
  | _ => false
theorem k_none_int (K : PySem.W.Frag) : PySem.W.kitOne K (.type "NoneType") (.type "int") = some false := by kernel_rfl
theorem k_bool_int (K : PySem.W.Frag) : PySem.W.kitOne K (.type "bool") (.type "int") = some true := by kernel_rfl
theorem k_int_int (K : PySem.W.Frag) : PySem.W.kitOne K (.type "int") (.type "int") = some true := by kernel_rfl
theorem k_str_int (K : PySem.W.Frag) : PySem.W.kitOne K (.type "str") (.type "int") = some false := by kernel_rfl
theorem k_list_int (K : PySem.W.Frag) : PySem.W.kitOne K (.type "list") (.type "int") = some false := by kernel_rfl
theorem k_tuple_int (K : PySem.W.Frag) : PySem.W.kitOne K (.type "tuple") (.type "int") = some false := by kernel_rfl
theorem k_bool_bool (K : PySem.W.Frag) : PySem.W.kitOne K (.type "bool") (.type "bool") = some true := by kernel_rfl
theorem k_int_bool (K : PySem.W.Frag) : PySem.W.kitOne K (.type "int") (.type "bool") = some false := by kernel_rfl
theorem k_none_tuple (K : PySem.W.Frag) : PySem.W.kitOne K (.type "NoneType") (.type "tuple") = some false := by kernel_rfl
theorem k_str_tuple (K : PySem.W.Frag) : PySem.W.kitOne K (.type "str") (.type "tuple") = some false := by kernel_rfl
theorem k_list_tuple (K : PySem.W.Frag) : PySem.W.kitOne K (.type "list") (.type "tuple") = some false := by kernel_rfl
theorem k_tuple_tuple (K : PySem.W.Frag) : PySem.W.kitOne K (.type "tuple") (.type "tuple") = some true := by kernel_rfl
theorem k_int_tuple (K : PySem.W.Frag) : PySem.W.kitOne K (.type "int") (.type "tuple") = some false := by kernel_rfl
theorem k_bool_tuple (K : PySem.W.Frag) : PySem.W.kitOne K (.type "bool") (.type "tuple") = some false := by kernel_rfl
theorem kd_int (K : PySem.W.Frag) {H : Hp} {x : V} (k : Kd H x) : ∃ t, TyOf K H x t ∧ PySem.W.kitOne K t (.type "int") = some (isIB x) := by
  cases k with
  | non => exact ⟨_, .non, k_none_int K⟩
  | bl b => exact ⟨_, .bl b, k_bool_int K⟩
  | int i => exact ⟨_, .int i, k_int_int K⟩
  | str x => exact ⟨_, .str x, k_str_int K⟩
  | lst e => exact ⟨_, .lst e, k_list_int K⟩
  | tup e => exact ⟨_, .tup e, k_tuple_int K⟩
theorem kd_bool (K : PySem.W.Frag) {H : Hp} {x : V} (k : Kd H x) (h : isIB x = true) : ∃ t, TyOf K H x t ∧ PySem.W.kitOne K t (.type "bool") = some (!isW x) := by
  cases k with
  | bl b => exact ⟨_, .bl b, k_bool_bool K⟩
  | int i => exact ⟨_, .int i, k_int_bool K⟩
  | non => cases h
  | str x => cases h
  | lst e => cases h
  | tup e => cases h
/-- the names of Python's own that the text uses -/
structure Bn (mg : Str → Option Value) : Prop where
  isi : mg "isinstance" = none
  int : mg "int" = none
  bool : mg "bool" = none
  tuple : mg "tuple" = none
  len : mg "len" = none
  range : mg "range" = none
  str : mg "str" = none
  abs : mg "abs" = none
  verr : mg "ValueError" = none
  list : mg "list" = none
  dict : mg "dict" = none
  all : mg "all" = none
  sorted : mg "sorted" = none
  enumerate : mg "enumerate" = none
section
variable {P : Program} {w : World} {K : PySem.W.Frag} {mg : Str → Option Value} {base : Heap}
def spWhole : Sp := fun vs H Q _ => ∃ x, vs = [x] ∧ Kd H x ∧ Q (.bl (isW x)) H
theorem scWhole : FnScope ["thing"] ["thing"] (defScope sWhole) := ⟨rfl, rfl, rfl, by decide +kernel, rfl, by decide +kernel, by decide +kernel⟩
theorem ok_whole {f : Addr} {fd : FuncData} (F : Fun K "is_whole" "is_whole" sWhole f fd) (B : Bn mg) : FnOk P w K mg base CX0 1 f fd ["thing"] spWhole := by
  refine F.ok scWhole (fun vs H Q E h => ?_) (fun cdv A outer s H vs Q E hr h => ?_)
  · obtain ⟨x, rfl, _⟩ := h
    rfl
  · obtain ⟨x, rfl, kd, q⟩ := h
    refine ⟨_, pss_one (ps_ret (pe_and (pe_callB call_isi (by rfl) B.isi bt_isinstance (pa_cons (pv 0) (pa_cons (pe_bltn (v := .ty "int") (by rfl) B.int bt_int rfl) pa_nil)))
      (pe_one (pe_not (pe_callB call_isi (by rfl) B.isi bt_isinstance (pa_cons (pv 0) (pa_cons (pe_bltn (v := .ty "bool") (by rfl) B.bool bt_bool rfl) pa_nil))))))), ?_⟩
    obtain ⟨t, ty, e⟩ := kd_int K kd
    refine ⟨x, rfl, x, .ty "int", t, .type "int", _, rfl, rfl, ty, e, _, rfl, ?_⟩
    cases hx : isIB x with
    | false =>
      refine iteF ?_
      have : isW x = false := by cases x <;> first | rfl | cases hx
      rw [this] at q
      exact q
    | true =>
      refine iteT ?_
      obtain ⟨t', ty', e'⟩ := kd_bool K kd hx
      refine ⟨x, rfl, x, .ty "bool", t', .type "bool", _, rfl, rfl, ty', e', _, rfl, ?_⟩
      rw [Bool.not_not]
      exact q
/-! common_divisor -/
def spDiv : Sp := fun vs H Q _ => ∃ a b : Int, vs = [.int a, .int b] ∧ 0 < b ∧ Q (.int ((Int.gcd a b : Nat) : Int)) H
theorem scDiv : FnScope ["above", "below", "greater", "lesser", "rest"] ["above", "below"] (defScope sDiv) := ⟨rfl, rfl, rfl, by decide +kernel, rfl, by decide +kernel, by decide +kernel⟩
theorem ok_div {f : Addr} {fd : FuncData} (F : Fun K "common_divisor" "common_divisor" sDiv f fd) : FnOk P w K mg base CX0 1 f fd ["above", "below"] spDiv := by
  refine F.ok scDiv (fun vs H Q E h => ?_) (fun cdv A outer s H vs Q E hr h => ?_)
  · obtain ⟨a, b, rfl, _⟩ := h
    rfl
  · obtain ⟨a, b, rfl, hb, q⟩ := h
    refine ⟨_, pss_cons (ps_set (i := 2) scDiv.nd rfl (Or.inl rfl) (pv 1)) (pss_cons (ps_set (i := 3) scDiv.nd rfl (Or.inl rfl) (pe_op op_mod (pv 0) (pv 1)))
      (pss_cons (ps_while PassesOwn.never (pt_cmpR op_gt (pv 3) pe_int (nomark _))
        (pss_cons (ps_set (i := 4) scDiv.nd rfl (Or.inl rfl) (pe_op op_mod (pv 2) (pv 3))) (pss_cons (ps_set (i := 2) scDiv.nd rfl (Or.inl rfl) (pv 3)) (pss_one (ps_set (i := 3) scDiv.nd rfl (Or.inl rfl) (pv 4))))))
      (pss_one (ps_ret (pv 2))))), ?_⟩
    refine ⟨_, rfl, _, rfl, _, rfl, _, _, rfl, rfl, hb, ?_⟩
    refine while_by (fun σ H' => H' = H ∧ ∃ (g l : Int) (r : Option V), σ = [some (.int a), some (.int b), some (.int g), some (.int l), r] ∧ 0 < g ∧ 0 ≤ l ∧ Int.gcd g l = Int.gcd a b)
      (fun (σ : L2.St) _ => match σ[3]? with | some (some (V.int l)) => l.toNat | _ => 0) ⟨rfl, b, a % b, none, rfl, hb, Int.emod_nonneg _ (by omega), gcd_step a b hb⟩ ?_ ?_
    · rintro σ H' ⟨rfl, g, l, r, rfl, hg, hl, e⟩
      refine ⟨_, rfl, _, _, rfl, rfl, _, rfl, ?_⟩
      refine ite2 (fun z => ?_) (fun z => ?_)
      · have hp : 0 < l := by simpa using z
        refine ⟨_, rfl, _, rfl, _, _, rfl, rfl, hp, _, rfl, _, rfl, ⟨rfl, l, g % l, _, rfl, hp, Int.emod_nonneg _ (by omega), ?_⟩, ?_⟩
        · rw [gcd_step g l hp, e]
        · show (g % l).toNat < l.toNat
          have := Int.emod_lt_of_pos g hp
          have := Int.emod_nonneg g (by omega : l ≠ 0)
          omega
      · have hz : l = 0 := by
          have : ¬ 0 < l := by simpa using z
          omega
        subst hz
        refine ⟨_, rfl, ?_⟩
        rw [← e, gcd_zero g (by omega)] at q
        exact q
    · rintro σ H' R R' hR ⟨v, e1, i, j, e2, e3, k, e4, q'⟩
      exact ⟨v, e1, i, j, e2, e3, k, e4, hR _ _ q'⟩
end
end Fr

set_option Elab.async false
set_option linter.all false
set_option maxRecDepth 100000
set_option maxHeartbeats 4000000
namespace Fr
open PySem PySem.Spec PyProof.Rows L2 FrM
/-- the classes of refusals that the walk meets -/
structure Ex (K : PySem.W.Frag) (mg : Str → Option Value) (BN : Addr) : Prop where
  mgB : mg "BadNumber" = some (.ref BN)
  inB : PySem.W.excIn K BN [.type "ValueError", .type "Exception", .type "BaseException", .type "object"] "ValueError.__new__" = true
section
variable {P : Program} {w : World} {K : PySem.W.Frag} {mg : Str → Option Value} {base : Heap}
/-- a def with defaults, or without (dV none) -/
structure FunD (K : PySem.W.Frag) (x qual : Str) (st : Stmt) (dV : Value) (f : Addr) (fd : FuncData) : Prop where
  ex : ∃ (oc : Value) (od : Option Addr) (kV doc pm : Value) (an : Option Addr) (cdv ct : Value) (osl : Array (Option Value)),
    fd = PySem.W.fnOf x qual (defArgs st) (defBody st) (defScope st) dV kV doc pm an cdv ct ∧ K.lookup f = some ⟨oc, od, .func fd, osl⟩ ∧ PySem.W.codeIn K cdv qual = true
  kp : PySem.W.keepIn K (.ref f) = true
theorem funD_mk {x qual : Str} {st : Stmt} {f : Addr} {oc : Value} {od an : Option Addr} {osl : Array (Option Value)} {dV kV doc pm cdv ct : Value} (l : K.lookup f = some ⟨oc, od, .func (PySem.W.fnOf x qual (defArgs st) (defBody st) (defScope st) dV kV doc pm an cdv ct), osl⟩)
    (c : PySem.W.codeIn K cdv qual = true) (k : PySem.W.keepIn K (.ref f) = true) : FunD K x qual st dV f (PySem.W.fnOf x qual (defArgs st) (defBody st) (defScope st) dV kV doc pm an cdv ct) := ⟨⟨oc, od, kV, doc, pm, an, cdv, ct, osl, rfl, l, c⟩, k⟩
theorem FunD.okX {x qual : Str} {st : Stmt} {dV : Value} {f : Addr} {fd : FuncData} {N ps : List Str} {k : Nat} {sp : Sp} (F : FunD K x qual st dV f fd) (S : FnScope N ps (defScope st)) (len : ∀ vs H Q E, sp vs H Q E → vs.length = ps.length)
    (hbody : ∀ (cdv : Value) (A : Around) (outer : List Env) (s : Shared) (H : Hp) (vs : List V) (Q : VK) (E : XK), Room k (A.deeper (envOfC qual (defScope st) s.heap.objs.size f cdv)) → sp vs H Q E →
      ∃ t, PSs (cxOf (Fly P w) P w K mg base N qual (defScope st) f cdv A outer s H E) (defBody st) t ∧ t { nx := fun _ H' => Q .non H', rt := Q } (start N vs) H) : FnOk P w K mg base (Fly P w) (k + 1) f fd ps sp := by
  obtain ⟨oc, od, kV, doc, pm, an, cdv, ct, osl, rfl, lk, hcd⟩ := F.ex
  refine fn_of lk hcd S len fun A outer s H vs Q E hr hsp => ?_
  exact hbody cdv A outer s H vs Q E hr hsp
theorem Fun.toD {x qual : Str} {st : Stmt} {f : Addr} {fd : FuncData} (F : Fun K x qual st f fd) : FunD K x qual st .none f fd := ⟨F.ex, F.kp⟩
/-- thing is a whole number from l on, and no more than m -/
def okN (x : V) (l : Int) (m : V) : Bool := match x, m with
  | .int i, .non => decide (l ≤ i)
  | .int i, .int k => decide (l ≤ i) && decide (i ≤ k)
  | _, _ => false
def spNeed (BN : Addr) : Sp := fun vs H Q E => ∃ (x : V) (l : Int) (m : V), vs = [x, .int l, m] ∧ Kd H x ∧ (m = .non ∨ ∃ k, m = .int k) ∧ (okN x l m = true → Q x H) ∧ (okN x l m = false → E (.ref BN) none H)
theorem scNeed : FnScope ["thing", "least", "most"] ["thing", "least", "most"] (defScope sNeed) := ⟨rfl, rfl, rfl, by decide +kernel, rfl, by decide +kernel, by decide +kernel⟩
theorem ok_need {f fW BN : Addr} {fd fdW : FuncData} {dN : Value} (F : FunD K "need_whole" "need_whole" sNeed dN f fd) (B : Bn mg) (X : Ex K mg BN) (FW : Fun K "is_whole" "is_whole" sWhole fW fdW) (bW : Binds K fdW ["thing"] []) (mW : mg "is_whole" = some (.ref fW)) :
    FnOk P w K mg base (Fly P w) 2 f fd ["thing", "least", "most"] (spNeed BN) := by
  have GW : FnOk P w K mg base CX0 1 fW fdW ["thing"] spWhole := ok_whole FW B
  refine F.okX scNeed (fun vs H Q E h => ?_) (fun cdv A outer s H vs Q E hr h => ?_)
  · obtain ⟨x, l, m, rfl, _⟩ := h
    rfl
  · obtain ⟨x, l, m, rfl, kd, hm, q, qe⟩ := h
    refine ⟨_, pss_cons (ps_if (pt_not (pt_val (pe_call GW hr (by rfl) mW FW.kp bW .nil pass0 (pa_cons (pv 0) pa_nil))))
        (pss_one (ps_raise PySem.F.excBase_ValueError X.inB raises_fly rfl (by rfl) X.mgB (pa_cons pe_str pa_nil))) pss_nil)
      (pss_cons (ps_if (pt_cmpR op_lt (pv 0) (pv 1) (nomark _)) (pss_one (ps_raise PySem.F.excBase_ValueError X.inB raises_fly rfl (by rfl) X.mgB (pa_cons pe_str pa_nil))) pss_nil)
      (pss_cons (ps_if (pw_and (pt_cmp (pc_notN (pv 2))) (pw_and1 (pt_cmpR op_gt (pv 0) (pv 2) (nomark _)))).pt (pss_one (ps_raise PySem.F.excBase_ValueError X.inB raises_fly rfl (by rfl) X.mgB (pa_cons pe_str pa_nil))) pss_nil)
      (pss_one (ps_ret (pv 0))))), ?_⟩
    have hz : ([V.str "a"] : List V).length ≤ sizeLine := by show 1 ≤ sizeLine; decide
    refine ⟨x, rfl, x, rfl, kd, _, rfl, ?_⟩
    cases hx : isW x with
    | false =>
      refine iteT ?_
      refine ⟨hz, qe ?_⟩
      cases x <;> first | rfl | cases hx
    | true =>
      refine iteF ?_
      obtain ⟨i, rfl⟩ : ∃ i, x = .int i := by cases x <;> first | exact ⟨_, rfl⟩ | cases hx
      refine ⟨_, rfl, _, rfl, i, l, rfl, rfl, _, rfl, ?_⟩
      refine ite2 (fun z => ?_) (fun z => ?_)
      · have hi : i < l := by simpa using z
        refine ⟨hz, qe ?_⟩
        rcases hm with rfl | ⟨k, rfl⟩
        · show decide (l ≤ i) = false
          rw [decide_eq_false (by omega)]
        · show (decide (l ≤ i) && decide (i ≤ k)) = false
          rw [decide_eq_false (by omega)]
          rfl
      · have hi : l ≤ i := by
          have : ¬ i < l := by simpa using z
          omega
        rcases hm with rfl | ⟨k, rfl⟩
        · refine ⟨_, rfl, _, rfl, ?_⟩
          refine iteF ?_
          refine iteF ?_
          exact ⟨_, rfl, q (decide_eq_true hi)⟩
        · refine ⟨_, rfl, _, rfl, ?_⟩
          refine iteT ?_
          refine ⟨_, rfl, _, rfl, i, k, rfl, rfl, _, rfl, ?_⟩
          refine ite2 (fun z2 => ?_) (fun z2 => ?_)
          · have hk : k < i := by simpa using z2
            refine ⟨hz, qe ?_⟩
            show (decide (l ≤ i) && decide (i ≤ k)) = false
            rw [decide_eq_false (show ¬ i ≤ k by omega), Bool.and_false]
          · have hk : i ≤ k := by
              have : ¬ k < i := by simpa using z2
              omega
            refine ⟨_, rfl, q ?_⟩
            show (decide (l ≤ i) && decide (i ≤ k)) = true
            rw [decide_eq_true hi, decide_eq_true hk]
            rfl
/-! fraction -/
/-- a new tuple comes back, all else is as it was -/
def RetT (H : Hp) (Q : VK) (xs : List V) : Prop := ∀ r H', Same H H' → H r = none → H' r = some (.tup xs) → Q (.ref r) H'
theorem RetT.new {H : Hp} {Q : VK} {xs : List V} (h : RetT H Q xs) {p : Addr} (hp : H p = none) : Q (.ref p) (upd H p (.tup xs)) :=
  h p _ (fun b o e => by rw [upd_ne (ne_of_none e hp)]; exact e) hp upd_same
def spFrac (BN : Addr) : Sp := fun vs H Q E => ∃ x y : V, vs = [x, y] ∧ Kd H x ∧ Kd H y ∧
  (∀ a b : Int, x = .int a → y = .int b → 0 < b → Sz 4000 a ∧ Sz 4000 b ∧ RetT H Q [.int (fa a b), .int (fb a b)]) ∧ ((isW x = false ∨ okN y 1 .non = false) → E (.ref BN) none H)
theorem scFrac : FnScope ["above", "below", "divisor"] ["above", "below"] (defScope sFrac) := ⟨rfl, rfl, rfl, by decide +kernel, rfl, by decide +kernel, by decide +kernel⟩
theorem ok_frac {f fW fN fD BN : Addr} {fd fdW fdN fdD : FuncData} {dN dF : Value} (F : FunD K "fraction" "fraction" sFrac dF f fd) (B : Bn mg) (X : Ex K mg BN)
    (FW : Fun K "is_whole" "is_whole" sWhole fW fdW) (bW : Binds K fdW ["thing"] []) (mW : mg "is_whole" = some (.ref fW))
    (FN : FunD K "need_whole" "need_whole" sNeed dN fN fdN) (bN : Binds K fdN ["thing", "least", "most"] [.none]) (mN : mg "need_whole" = some (.ref fN))
    (FD : Fun K "common_divisor" "common_divisor" sDiv fD fdD) (bD : Binds K fdD ["above", "below"] []) (mD : mg "common_divisor" = some (.ref fD)) :
    FnOk P w K mg base (Fly P w) 3 f fd ["above", "below"] (spFrac BN) := by
  have GW : FnOk P w K mg base CX0 1 fW fdW ["thing"] spWhole := ok_whole FW B
  have GN : FnOk P w K mg base (Fly P w) 2 fN fdN ["thing", "least", "most"] (spNeed BN) := ok_need FN B X FW bW mW
  have GD : FnOk P w K mg base CX0 1 fD fdD ["above", "below"] spDiv := ok_div FD
  refine F.okX scFrac (fun vs H Q E h => ?_) (fun cdv A outer s H vs Q E hr h => ?_)
  · obtain ⟨x, y, rfl, _⟩ := h
    rfl
  · obtain ⟨x, y, rfl, kx, ky, q, qe⟩ := h
    have hr1 : Room 1 _ := hr.mono (by decide)
    refine ⟨_, pss_cons (ps_if (pt_not (pt_val (pe_call GW hr1 (by rfl) mW FW.kp bW .nil pass0 (pa_cons (pv 0) pa_nil))))
        (pss_one (ps_raise PySem.F.excBase_ValueError X.inB raises_fly rfl (by rfl) X.mgB (pa_cons pe_str pa_nil))) pss_nil)
      (pss_cons (ps_expr (pe_callS GN hr (by rfl) mN FN.kp bN (.cons (show L2.RelV .non Value.none from rfl) .nil) pass_fly (pa_cons (pv 1) (pa_cons pe_int pa_nil))))
      (pss_cons (ps_set (i := 2) scFrac.nd rfl (Or.inl rfl) (pe_call GD hr1 (by rfl) mD FD.kp bD .nil pass0 (pa_cons (pv 0) (pa_cons (pv 1) pa_nil))))
      (pss_one (ps_ret (pe_tup (pa_cons (pe_op op_fdivS (pv 0) (pv 2)) (pa_cons (pe_op op_fdivS (pv 1) (pv 2)) pa_nil))))))), ?_⟩
    refine ⟨x, rfl, x, rfl, kx, _, rfl, ?_⟩
    cases hx : isW x with
    | false =>
      refine iteT ?_
      exact ⟨by show 1 ≤ sizeLine; decide, qe (.inl hx)⟩
    | true =>
      refine iteF ?_
      obtain ⟨a, rfl⟩ : ∃ i, x = .int i := by cases x <;> first | exact ⟨_, rfl⟩ | cases hx
      refine ⟨y, rfl, y, 1, .non, rfl, ky, .inl rfl, fun ho => ?_, fun ho => qe (.inr ho)⟩
      obtain ⟨b, rfl, hb⟩ : ∃ b, y = .int b ∧ 0 < b := by
        cases y <;> first | (rename_i b; exact ⟨b, rfl, by have : (1 : Int) ≤ b := of_decide_eq_true ho; omega⟩) | cases ho
      obtain ⟨za, zb, q⟩ := q a b rfl rfl hb
      have hg := gcd_pos a hb
      have zg : Sz 4000 ((Int.gcd a b : Nat) : Int) := by
        have h1 := Int.gcd_le_right a hb
        unfold Sz at *
        omega
      refine ⟨_, rfl, _, rfl, a, b, rfl, hb, ?_⟩
      refine ⟨_, rfl, _, rfl, _, _, rfl, rfl, ⟨hg, zg⟩, _, rfl, _, rfl, _, _, rfl, rfl, ⟨hg, zg⟩, by show 2 ≤ sizeLine; decide, fun p hp => ?_⟩
      exact q.new hp
end
end Fr

set_option Elab.async false
set_option linter.all false
set_option maxRecDepth 100000
set_option maxHeartbeats 4000000
namespace Fr
open PySem PySem.Spec PyProof.Rows L2 FrM
section
variable {P : Program} {w : World} {K : PySem.W.Frag} {mg : Str → Option Value} {base : Heap}
theorem sz_gcd {n : Nat} (a : Int) {b : Int} (hb : 0 < b) (zb : Sz n b) : Sz n ((Int.gcd a b : Nat) : Int) := by
  have h1 := Int.gcd_le_right a hb
  unfold Sz at *
  omega
/-- is_fraction of a tuple -/
def isFr : List V → Bool
  | [.int a, .int b] => decide (0 < b) && decide (Int.gcd a b = 1)
  | _ => false
/-- what is no tuple -/
inductive NoT (H : Hp) : V → Prop
  | non : NoT H .non
  | str (x : Str) : NoT H (.str x)
  | int (i : Int) : NoT H (.int i)
  | lst {a : Addr} {xs : List V} (e : H a = some (.lst xs)) : NoT H (.ref a)
theorem not_tuple (K : PySem.W.Frag) {H : Hp} {x : V} (k : NoT H x) : ∃ t, TyOf K H x t ∧ PySem.W.kitOne K t (.type "tuple") = some false := by
  cases k with
  | non => exact ⟨_, .non, k_none_tuple K⟩
  | str x => exact ⟨_, .str x, k_str_tuple K⟩
  | int i => exact ⟨_, .int i, k_int_tuple K⟩
  | lst e => exact ⟨_, .lst e, k_list_tuple K⟩
def spIsF : Sp := fun vs H Q _ => ∃ x : V, vs = [x] ∧ ((NoT H x ∧ Q (.bl false) H) ∨ ∃ p xs, x = .ref p ∧ H p = some (.tup xs) ∧ (∀ y ∈ xs, Kd H y) ∧ Q (.bl (isFr xs)) H)
theorem scIsF : FnScope ["thing"] ["thing"] (defScope sIsF) := ⟨rfl, rfl, rfl, by decide +kernel, rfl, by decide +kernel, by decide +kernel⟩
theorem ok_isf {f fW fD : Addr} {fd fdW fdD : FuncData} (F : Fun K "is_fraction" "is_fraction" sIsF f fd) (B : Bn mg)
    (FW : Fun K "is_whole" "is_whole" sWhole fW fdW) (bW : Binds K fdW ["thing"] []) (mW : mg "is_whole" = some (.ref fW))
    (FD : Fun K "common_divisor" "common_divisor" sDiv fD fdD) (bD : Binds K fdD ["above", "below"] []) (mD : mg "common_divisor" = some (.ref fD)) :
    FnOk P w K mg base CX0 2 f fd ["thing"] spIsF := by
  have GW : FnOk P w K mg base CX0 1 fW fdW ["thing"] spWhole := ok_whole FW B
  have GD : FnOk P w K mg base CX0 1 fD fdD ["above", "below"] spDiv := ok_div FD
  refine F.ok scIsF (fun vs H Q E h => ?_) (fun cdv A outer s H vs Q E hr h => ?_)
  · obtain ⟨x, rfl, _⟩ := h
    rfl
  · obtain ⟨x, rfl, h⟩ := h
    refine ⟨_, pss_cons (ps_if (pw_or (pt_not (pt_val (pe_callB call_isi (by rfl) B.isi bt_isinstance (pa_cons (pv 0) (pa_cons (pe_bltn (v := .ty "tuple") (by rfl) B.tuple bt_tuple rfl) pa_nil)))))
        (pw_or1 (pt_cmpR op_ne (pe_callB call_len_seq (by rfl) B.len bt_len (pa_cons (pv 0) pa_nil)) pe_int (nomark _)))).pt (pss_one (ps_ret pe_bl)) pss_nil)
      (pss_cons (ps_if (pw_or (pt_not (pt_val (pe_call GW hr (by rfl) mW FW.kp bW .nil pass0 (pa_cons (pe_ix ix_tup (pv 0) pe_int (fun _ _ => rfl)) pa_nil))))
          (pw_or (pt_not (pt_val (pe_call GW hr (by rfl) mW FW.kp bW .nil pass0 (pa_cons (pe_ix ix_tup (pv 0) pe_int (fun _ _ => rfl)) pa_nil))))
            (pw_or1 (pt_cmpR op_lt (pe_ix ix_tup (pv 0) pe_int (fun _ _ => rfl)) pe_int (nomark _))))).pt (pss_one (ps_ret pe_bl)) pss_nil)
      (pss_one (ps_ret (pe_cmpR op_eq (pe_call GD hr (by rfl) mD FD.kp bD .nil pass0 (pa_cons (pe_ix ix_tup (pv 0) pe_int (fun _ _ => rfl)) (pa_cons (pe_ix ix_tup (pv 0) pe_int (fun _ _ => rfl)) pa_nil))) pe_int (nomark _))))), ?_⟩
    rcases h with ⟨nt, q⟩ | ⟨p, xs, rfl, hp, hk, q⟩
    · obtain ⟨t, ty, e⟩ := not_tuple K nt
      refine ⟨_, rfl, _, .ty "tuple", t, .type "tuple", _, rfl, rfl, ty, e, _, rfl, ?_⟩
      refine iteT ?_
      refine iteT ?_
      exact q
    · refine ⟨_, rfl, _, .ty "tuple", _, .type "tuple", _, rfl, rfl, .tup hp, k_tuple_tuple K, _, rfl, ?_⟩
      refine iteF ?_
      refine ⟨_, rfl, p, xs, rfl, .inr (SqT.of hp), rfl, _, rfl, ?_⟩
      by_cases hl : xs.length = 2
      · obtain ⟨y, z, rfl⟩ : ∃ y z, xs = [y, z] := by
          match xs, hl with
          | [y, z], _ => exact ⟨y, z, rfl⟩
        have ky : Kd H y := hk y (by simp)
        have kz : Kd H z := hk z (by simp)
        refine iteNS rfl ?_
        refine ⟨_, rfl, p, _, _, y, rfl, rfl, SqT.of hp, rfl, y, rfl, ky, _, rfl, ?_⟩
        cases hy : isW y with
        | false =>
          refine iteT ?_
          refine iteT ?_
          have : isFr [y, z] = false := by cases y <;> first | rfl | cases hy
          rw [this] at q
          exact q
        | true =>
          obtain ⟨a, rfl⟩ : ∃ i, y = .int i := by cases y <;> first | exact ⟨_, rfl⟩ | cases hy
          refine iteF ?_
          refine ⟨_, rfl, p, _, _, z, rfl, rfl, SqT.of hp, rfl, z, rfl, kz, _, rfl, ?_⟩
          cases hz : isW z with
          | false =>
            refine iteT ?_
            refine iteT ?_
            have : isFr [.int a, z] = false := by cases z <;> first | rfl | cases hz
            rw [this] at q
            exact q
          | true =>
            obtain ⟨b, rfl⟩ : ∃ i, z = .int i := by cases z <;> first | exact ⟨_, rfl⟩ | cases hz
            refine iteF ?_
            refine ⟨_, rfl, p, _, _, _, rfl, rfl, SqT.of hp, rfl, b, 1, rfl, rfl, _, rfl, ?_⟩
            refine ite2 (fun c => ?_) (fun c => ?_)
            · have hb : ¬ 0 < b := by
                have : b < 1 := by simpa using c
                omega
              have : isFr [.int a, .int b] = false := by
                show (decide (0 < b) && _) = false
                rw [decide_eq_false hb]
                rfl
              rw [this] at q
              exact q
            · have hb : 0 < b := by
                have : ¬ b < 1 := by simpa using c
                omega
              refine ⟨_, rfl, p, _, _, _, rfl, rfl, SqT.of hp, rfl, _, rfl, p, _, _, _, rfl, rfl, SqT.of hp, rfl, a, b, rfl, hb, rfl, ?_⟩
              have : isFr [.int a, .int b] = decide (V.int ((Int.gcd a b : Nat) : Int) = V.int 1) := by
                show (decide (0 < b) && decide (Int.gcd a b = 1)) = _
                rw [decide_eq_true hb, Bool.true_and]
                rw [Bool.eq_iff_iff]
                simp
                omega
              rw [this] at q
              exact q
      · have e1 : isFr xs = false := by
          match xs, hl with
          | [], _ => rfl
          | [x], _ => cases x <;> rfl
          | [x, y], h => exact absurd rfl h
          | x :: y :: z :: r, _ => cases x <;> cases y <;> rfl
        rw [e1] at q
        have e2 : decide (V.int (xs.length : Int) = V.int 2) = false := by
          rw [decide_eq_false]
          intro z
          injection z with z
          omega
        rw [e2]
        refine iteT ?_
        exact q
/-! sums, products -/
/-- two ints at p -/
abbrev Tp (H : Hp) (p : Addr) (a b : Int) : Prop := H p = some (.tup [.int a, .int b])
def spProd (K : PySem.W.Frag) : Sp := fun vs H Q _ => ∃ (p q : Addr) (a b c d : Int), vs = [.ref p, .ref q] ∧ SqT K H p [.int a, .int b] ∧ SqT K H q [.int c, .int d] ∧ 0 < b ∧ 0 < d ∧ Sz 1900 a ∧ Sz 1900 b ∧ Sz 1900 c ∧ Sz 1900 d ∧ RetT H Q [.int (fa (a * c) (b * d)), .int (fb (a * c) (b * d))]
theorem scProd : FnScope ["one", "other"] ["one", "other"] (defScope sProd) := ⟨rfl, rfl, rfl, by decide +kernel, rfl, by decide +kernel, by decide +kernel⟩
/-- fraction, where it does not refuse, in a def that never raises -/
theorem frac_nox {f BN : Addr} {fd : FuncData} {k : Nat} (G : FnOk P w K mg base (Fly P w) k f fd ["above", "below"] (spFrac BN)) :
    FnOk P w K mg base CX0 k f fd ["above", "below"] (fun vs H Q _ => ∃ a b : Int, vs = [.int a, .int b] ∧ 0 < b ∧ Sz 4000 a ∧ Sz 4000 b ∧ RetT H Q [.int (fa a b), .int (fb a b)]) :=
  ⟨fun vs H Q E ⟨a, b, e, _⟩ => by rw [e]; rfl, fun A outer s H args us vs Q E hr he hb hv hs => by
    obtain ⟨a, b, rfl, hp, za, zb, q⟩ := hs
    refine codeAny_mono (G.run A outer s H args us _ Q (fun _ _ _ => False) hr he hb hv ⟨.int a, .int b, rfl, .int a, .int b, fun a' b' e1 e2 _ => ?_, fun z => ?_⟩) fun r s' h => ?_
    · cases e1
      cases e2
      exact ⟨za, zb, q⟩
    · rcases z with z | z
      · cases z
      · have : ¬ (1 : Int) ≤ b := of_decide_eq_false z
        omega
    · cases r with
      | ok fl => cases fl <;> exact h
      | error e =>
        obtain ⟨_, _, _, _, _, _, _, _, _, _, _, z⟩ := h
        exact z⟩
theorem ok_prod {f fF BN : Addr} {fd fdF : FuncData} (F : Fun K "product_of" "product_of" sProd f fd) {dF : Value} (FF : FunD K "fraction" "fraction" sFrac dF fF fdF) (bF : Binds K fdF ["above", "below"] []) (mF : mg "fraction" = some (.ref fF))
    (GF : FnOk P w K mg base (Fly P w) 3 fF fdF ["above", "below"] (spFrac BN)) : FnOk P w K mg base CX0 4 f fd ["one", "other"] (spProd K) := by
  have GF' := frac_nox GF
  refine F.ok scProd (fun vs H Q E h => ?_) (fun cdv A outer s H vs Q E hr h => ?_)
  · obtain ⟨p, q, a, b, c, d, rfl, _⟩ := h
    rfl
  · obtain ⟨p, q, a, b, c, d, rfl, hp, hq, hb, hd, za, zb, zc, zd, k⟩ := h
    refine ⟨_, pss_one (ps_ret (pe_call GF' hr (by rfl) mF FF.kp bF .nil pass0 (pa_cons (pe_op op_mulS (pe_ix ix_tup (pv 0) pe_int (fun _ _ => rfl)) (pe_ix ix_tup (pv 1) pe_int (fun _ _ => rfl)))
      (pa_cons (pe_op op_mulS (pe_ix ix_tup (pv 0) pe_int (fun _ _ => rfl)) (pe_ix ix_tup (pv 1) pe_int (fun _ _ => rfl))) pa_nil)))), ?_⟩
    have m4 : ∀ {x : Int}, Sz 1900 x → Sz 4000 x := fun h => h.mono (by decide)
    refine ⟨_, rfl, p, _, _, _, rfl, rfl, hp, rfl, _, rfl, q, _, _, _, rfl, rfl, hq, rfl, a, c, rfl, rfl, ⟨m4 za, m4 zc⟩,
      _, rfl, p, _, _, _, rfl, rfl, hp, rfl, _, rfl, q, _, _, _, rfl, rfl, hq, rfl, b, d, rfl, rfl, ⟨m4 zb, m4 zd⟩, _, _, rfl, Int.mul_pos hb hd, ?_, ?_, k⟩
    · exact (za.mul zc).mono (by decide)
    · exact (zb.mul zd).mono (by decide)
/-! powers -/
def spWPow : Sp := fun vs H Q _ => ∃ b e : Int, vs = [.int b, .int e] ∧ 0 ≤ e ∧ e ≤ 60 ∧ Sz 20 b ∧ Q (.int (b ^ e.toNat)) H
theorem scWPow : FnScope ["base", "exponent", "product", "square", "left"] ["base", "exponent"] (defScope sWPow) := ⟨rfl, rfl, rfl, by decide +kernel, rfl, by decide +kernel, by decide +kernel⟩
theorem ok_wpow {f : Addr} {fd : FuncData} (F : Fun K "whole_power" "whole_power" sWPow f fd) : FnOk P w K mg base CX0 1 f fd ["base", "exponent"] spWPow := by
  refine F.ok scWPow (fun vs H Q E h => ?_) (fun cdv A outer s H vs Q E hr h => ?_)
  · obtain ⟨a, b, rfl, _⟩ := h
    rfl
  · obtain ⟨b, e, rfl, h0, h5, zb, q⟩ := h
    refine ⟨_, pss_cons (ps_set (i := 2) scWPow.nd rfl (Or.inl rfl) pe_int) (pss_cons (ps_set (i := 3) scWPow.nd rfl (Or.inl rfl) (pv 0)) (pss_cons (ps_set (i := 4) scWPow.nd rfl (Or.inl rfl) (pv 1))
      (pss_cons (ps_while PassesOwn.never (pt_cmpR op_gt (pv 4) pe_int (nomark _))
        (pss_cons (ps_if (pt_cmpR op_eq (pe_op op_mod (pv 4) pe_int) pe_int (nomark _)) (pss_one (ps_set (i := 2) scWPow.nd rfl (Or.inl rfl) (pe_op op_mulS (pv 2) (pv 3)))) pss_nil)
        (pss_cons (ps_set (i := 4) scWPow.nd rfl (Or.inl rfl) (pe_op op_fdiv (pv 4) pe_int))
        (pss_one (ps_if (pt_cmpR op_gt (pv 4) pe_int (nomark _)) (pss_one (ps_set (i := 3) scWPow.nd rfl (Or.inl rfl) (pe_op op_mulS (pv 3) (pv 3)))) pss_nil)))))
      (pss_one (ps_ret (pv 2)))))), ?_⟩
    refine ⟨_, rfl, _, rfl, ?_⟩
    refine while_by (fun σ H' => H' = H ∧ ∃ (pr sq l : Int), σ = [some (.int b), some (.int e), some (.int pr), some (.int sq), some (.int l)] ∧ PowI b e.toNat pr sq l)
      (fun (σ : L2.St) _ => match σ[4]? with | some (some (V.int l)) => l.toNat | _ => 0) ⟨rfl, 1, b, e, rfl, PowI.start b h0⟩ ?_ ?_
    · rintro σ H' ⟨rfl, pr, sq, l, rfl, J⟩
      refine ⟨_, rfl, _, _, rfl, rfl, _, rfl, ?_⟩
      refine ite2 (fun z => ?_) (fun z => ?_)
      · have hp : 0 < l := by simpa using z
        obtain ⟨z1, z2⟩ := J.sz hp zb
        have hE : 20 * e.toNat + 1 ≤ 1501 := by omega
        have y1 : Sz 1501 pr := z1.mono hE
        have y2 : Sz 1501 sq := z2.mono hE
        refine ⟨_, rfl, _, _, rfl, rfl, (by show (0 : Int) < 2; decide), rfl, _, rfl, ?_⟩
        have c2 : CDiv l 2 := ⟨by decide, by decide⟩
        refine ite2 (fun o => ?_) (fun o => ?_)
        · have ho : l % 2 = 1 := by
            have o' := of_decide_eq_true o
            injection o'
          refine ⟨_, rfl, _, rfl, _, _, rfl, rfl, ⟨y1.mono (by decide), y2.mono (by decide)⟩, _, rfl, _, _, rfl, rfl, c2, _, rfl, _, _, rfl, rfl, _, rfl, ?_⟩
          refine ite2 (fun g => ?_) (fun g => ?_)
          · refine ⟨_, rfl, _, rfl, _, _, rfl, rfl, ⟨y2.mono (by decide), y2.mono (by decide)⟩, ⟨rfl, _, _, _, rfl, J.odd ho⟩, ?_⟩
            show (l / 2).toNat < l.toNat
            omega
          · have hg : ¬ 0 < l / 2 := by simpa using g
            refine ⟨⟨rfl, _, _, _, rfl, J.odd_last ho hg⟩, ?_⟩
            show (l / 2).toNat < l.toNat
            omega
        · have ho : ¬ l % 2 = 1 := fun y => o (decide_eq_true (congrArg V.int y))
          have hg := J.even_last hp ho
          refine ⟨_, rfl, _, _, rfl, rfl, c2, _, rfl, _, _, rfl, rfl, _, rfl, ?_⟩
          refine ite2 (fun g => ?_) (fun g => ?_)
          · refine ⟨_, rfl, _, rfl, _, _, rfl, rfl, ⟨y2.mono (by decide), y2.mono (by decide)⟩, ⟨rfl, _, _, _, rfl, J.even ho⟩, ?_⟩
            show (l / 2).toNat < l.toNat
            omega
          · exact absurd hg (by simpa using g)
      · have hz : l = 0 := by
          have : ¬ 0 < l := by simpa using z
          have := J.nn
          omega
        subst hz
        refine ⟨_, rfl, ?_⟩
        rw [← J.done] at q
        exact q
    · rintro σ H' R R' hR ⟨v, e1, i, j, e2, e3, k, e4, q'⟩
      exact ⟨v, e1, i, j, e2, e3, k, e4, hR _ _ q'⟩
def spTurn : Sp := fun vs H Q _ => ∃ (p : Addr) (a b : Int), vs = [.ref p] ∧ Tp H p a b ∧ RetT H Q [.int (if a < 0 then -b else b), .int (if a < 0 then -a else a)]
theorem scTurn : FnScope ["one"] ["one"] (defScope sTurn) := ⟨rfl, rfl, rfl, by decide +kernel, rfl, by decide +kernel, by decide +kernel⟩
theorem ok_turn {f : Addr} {fd : FuncData} (F : Fun K "turned_over" "turned_over" sTurn f fd) : FnOk P w K mg base CX0 1 f fd ["one"] spTurn := by
  refine F.ok scTurn (fun vs H Q E h => ?_) (fun cdv A outer s H vs Q E hr h => ?_)
  · obtain ⟨a, b, _, rfl, _⟩ := h
    rfl
  · obtain ⟨p, a, b, rfl, hp, k⟩ := h
    refine ⟨_, pss_cons (ps_if (pt_cmpR op_lt (pe_ix ix_tup (pv 0) pe_int (fun _ _ => rfl)) pe_int (nomark _))
        (pss_one (ps_ret (pe_tup (pa_cons (pe_un un_neg (pe_ix ix_tup (pv 0) pe_int (fun _ _ => rfl))) (pa_cons (pe_un un_neg (pe_ix ix_tup (pv 0) pe_int (fun _ _ => rfl))) pa_nil))))) pss_nil)
      (pss_one (ps_ret (pe_tup (pa_cons (pe_ix ix_tup (pv 0) pe_int (fun _ _ => rfl)) (pa_cons (pe_ix ix_tup (pv 0) pe_int (fun _ _ => rfl)) pa_nil))))), ?_⟩
    refine ⟨_, rfl, p, _, _, _, rfl, rfl, SqT.of hp, rfl, a, 0, rfl, rfl, _, rfl, ?_⟩
    refine ite2 (fun z => ?_) (fun z => ?_)
    · have ha : a < 0 := by simpa using z
      refine ⟨_, rfl, p, _, _, _, rfl, rfl, SqT.of hp, rfl, b, rfl, _, rfl, p, _, _, _, rfl, rfl, SqT.of hp, rfl, a, rfl, by show 2 ≤ sizeLine; decide, fun r hr => ?_⟩
      rw [if_pos ha, if_pos ha] at k
      exact k.new hr
    · have ha : ¬ a < 0 := by simpa using z
      refine ⟨_, rfl, p, _, _, _, rfl, rfl, SqT.of hp, rfl, _, rfl, p, _, _, _, rfl, rfl, SqT.of hp, rfl, by show 2 ≤ sizeLine; decide, fun r hr => ?_⟩
      rw [if_neg ha, if_neg ha] at k
      exact k.new hr
end
end Fr

set_option Elab.async false
set_option linter.all false
set_option maxRecDepth 100000
set_option maxHeartbeats 4000000
namespace Fr
open PySem PySem.Spec PyProof.Rows L2 FrM
section
variable {P : Program} {w : World} {K : PySem.W.Frag} {mg : Str → Option Value} {base : Heap}
/-! power_of -/
def spPow0 : Sp := fun vs H Q _ => ∃ (p : Addr) (a b e : Int), vs = [.ref p, .int e] ∧ Tp H p a b ∧ 0 ≤ e ∧ e ≤ 60 ∧ Sz 20 a ∧ Sz 20 b ∧ RetT H Q [.int (a ^ e.toNat), .int (b ^ e.toNat)]
theorem scPow : FnScope ["one", "exponent"] ["one", "exponent"] (defScope sPow) := ⟨rfl, rfl, rfl, by decide +kernel, rfl, by decide +kernel, by decide +kernel⟩
theorem ok_pow0 {f fW fP BN : Addr} {fd fdW fdP : FuncData} (F : Fun K "power_of" "power_of" sPow f fd) (B : Bn mg) (X : Ex K mg BN)
    (FW : Fun K "is_whole" "is_whole" sWhole fW fdW) (bW : Binds K fdW ["thing"] []) (mW : mg "is_whole" = some (.ref fW))
    (FP : Fun K "whole_power" "whole_power" sWPow fP fdP) (bP : Binds K fdP ["base", "exponent"] []) (mP : mg "whole_power" = some (.ref fP)) :
    FnOk P w K mg base (Fly P w) 2 f fd ["one", "exponent"] spPow0 := by
  have GW : FnOk P w K mg base CX0 1 fW fdW ["thing"] spWhole := ok_whole FW B
  have GP : FnOk P w K mg base CX0 1 fP fdP ["base", "exponent"] spWPow := ok_wpow FP
  refine (Fr.Fun.toD F).okX scPow (fun vs H Q E h => ?_) (fun cdv A outer s H vs Q E hr h => ?_)
  · obtain ⟨p, a, b, e, rfl, _⟩ := h
    rfl
  · obtain ⟨p, a, b, e, rfl, hp, h0, h5, za, zb, k⟩ := h
    refine ⟨_, pss_cons (ps_if (pt_not (pt_val (pe_call GW hr (by rfl) mW FW.kp bW .nil pass0 (pa_cons (pv 1) pa_nil)))) pss_never pss_nil)
      (pss_cons (ps_if (pt_cmpR op_ge (pv 1) pe_int (nomark _))
        (pss_one (ps_ret (pe_tup (pa_cons (pe_call GP hr (by rfl) mP FP.kp bP .nil pass0 (pa_cons (pe_ix ix_tup (pv 0) pe_int (fun _ _ => rfl)) (pa_cons (pv 1) pa_nil)))
          (pa_cons (pe_call GP hr (by rfl) mP FP.kp bP .nil pass0 (pa_cons (pe_ix ix_tup (pv 0) pe_int (fun _ _ => rfl)) (pa_cons (pv 1) pa_nil))) pa_nil))))) pss_nil) pss_never), ?_⟩
    refine ⟨_, rfl, _, rfl, .int e, _, rfl, ?_⟩
    refine iteF ?_
    refine ⟨_, rfl, e, 0, rfl, rfl, _, rfl, ?_⟩
    rw [decide_eq_true h0]
    refine iteT ?_
    refine ⟨_, rfl, p, _, _, _, rfl, rfl, SqT.of hp, rfl, _, rfl, a, e, rfl, h0, h5, za, _, rfl, p, _, _, _, rfl, rfl, SqT.of hp, rfl, _, rfl, b, e, rfl, h0, h5, zb, by show 2 ≤ sizeLine; decide, fun r hr => ?_⟩
    exact k.new hr
def spPow (BN : Addr) : Sp := fun vs H Q E => ∃ (p : Addr) (a b : Int) (x : V), vs = [.ref p, x] ∧ Tp H p a b ∧ Kd H x ∧ (∀ e, x = .int e → 0 ≤ e → e ≤ 60 ∧ Sz 20 a ∧ Sz 20 b ∧ RetT H Q [.int (a ^ e.toNat), .int (b ^ e.toNat)]) ∧
  (∀ e, x = .int e → e < 0 → a ≠ 0 → -60 ≤ e ∧ Sz 20 a ∧ Sz 20 b ∧ RetT H Q [.int ((if a < 0 then -b else b) ^ (-e).toNat), .int ((if a < 0 then -a else a) ^ (-e).toNat)]) ∧
  (∀ e, x = .int e → e < 0 → a = 0 → E (.ref BN) none H) ∧ (isW x = false → E (.ref BN) none H)
theorem ok_pow {f fW fP fT BN : Addr} {fd fdW fdP fdT : FuncData} (F : Fun K "power_of" "power_of" sPow f fd) (bF : Binds K fd ["one", "exponent"] []) (mF : mg "power_of" = some (.ref f)) (B : Bn mg) (X : Ex K mg BN)
    (FW : Fun K "is_whole" "is_whole" sWhole fW fdW) (bW : Binds K fdW ["thing"] []) (mW : mg "is_whole" = some (.ref fW))
    (FP : Fun K "whole_power" "whole_power" sWPow fP fdP) (bP : Binds K fdP ["base", "exponent"] []) (mP : mg "whole_power" = some (.ref fP))
    (FT : Fun K "turned_over" "turned_over" sTurn fT fdT) (bT : Binds K fdT ["one"] []) (mT : mg "turned_over" = some (.ref fT)) :
    FnOk P w K mg base (Fly P w) 3 f fd ["one", "exponent"] (spPow BN) := by
  have GW : FnOk P w K mg base CX0 1 fW fdW ["thing"] spWhole := ok_whole FW B
  have GP : FnOk P w K mg base CX0 1 fP fdP ["base", "exponent"] spWPow := ok_wpow FP
  have GT : FnOk P w K mg base CX0 1 fT fdT ["one"] spTurn := ok_turn FT
  have G0 : FnOk P w K mg base (Fly P w) 2 f fd ["one", "exponent"] spPow0 := ok_pow0 F B X FW bW mW FP bP mP
  refine (Fr.Fun.toD F).okX scPow (fun vs H Q E h => ?_) (fun cdv A outer s H vs Q E hr h => ?_)
  · obtain ⟨p, a, b, x, rfl, _⟩ := h
    rfl
  · obtain ⟨p, a, b, x, rfl, hp, kx, q1, q2, q3, q4⟩ := h
    have hr1 : Room 1 _ := hr.mono (by decide)
    refine ⟨_, (pss_cons 
      (ps_if (pt_not (pt_val (pe_call GW hr1 (by rfl) mW FW.kp bW .nil pass0 (pa_cons (pv 1) pa_nil)))) (pss_one 
        (ps_raise PySem.F.excBase_ValueError X.inB raises_fly rfl (by rfl) X.mgB (pa_cons pe_str pa_nil))) pss_nil) (pss_cons 
      (ps_if (pt_cmpR op_ge (pv 1) pe_int (nomark _)) (pss_one 
        (ps_ret (pe_tup (pa_cons (pe_call GP hr1 (by rfl) mP FP.kp bP .nil pass0 (pa_cons (pe_ix ix_tup (pv 0) pe_int (fun _ _ => rfl)) (pa_cons (pv 1) pa_nil))) (pa_cons (pe_call GP hr1 (by rfl) mP FP.kp bP .nil pass0 (pa_cons (pe_ix ix_tup (pv 0) pe_int (fun _ _ => rfl)) (pa_cons (pv 1) pa_nil))) pa_nil))))) pss_nil) (pss_cons 
      (ps_if (pt_cmpR op_eq (pe_ix ix_tup (pv 0) pe_int (fun _ _ => rfl)) pe_int (nomark _)) (pss_one 
        (ps_raise PySem.F.excBase_ValueError X.inB raises_fly rfl (by rfl) X.mgB (pa_cons pe_str pa_nil))) pss_nil) (pss_one 
      (ps_ret (pe_callS G0 hr (by rfl) mF F.kp bF .nil pass_fly (pa_cons (pe_call GT hr1 (by rfl) mT FT.kp bT .nil pass0 (pa_cons (pv 0) pa_nil)) (pa_cons (pe_un un_neg (pv 1)) pa_nil)))))))), ?_⟩
    refine ⟨_, rfl, x, rfl, kx, _, rfl, ?_⟩
    cases hx : isW x with
    | false =>
      refine iteT ?_
      exact ⟨by show 1 ≤ sizeLine; decide, q4 hx⟩
    | true =>
      obtain ⟨e, rfl⟩ : ∃ i, x = .int i := by cases x <;> first | exact ⟨_, rfl⟩ | cases hx
      refine iteF ?_
      refine ⟨_, rfl, e, 0, rfl, rfl, _, rfl, ?_⟩
      refine ite2 (fun z => ?_) (fun z => ?_)
      · have h0 : 0 ≤ e := by simpa using z
        obtain ⟨h5, za, zb, k⟩ := q1 e rfl h0
        refine ⟨_, rfl, p, _, _, _, rfl, rfl, SqT.of hp, rfl, _, rfl, a, e, rfl, h0, h5, za, _, rfl, p, _, _, _, rfl, rfl, SqT.of hp, rfl, _, rfl, b, e, rfl, h0, h5, zb, by show 2 ≤ sizeLine; decide, fun r hr => ?_⟩
        exact k.new hr
      · have h0 : e < 0 := by
          have : ¬ 0 ≤ e := by simpa using z
          omega
        refine ⟨_, rfl, p, _, _, _, rfl, rfl, SqT.of hp, rfl, rfl, _, rfl, ?_⟩
        refine ite2 (fun c => ?_) (fun c => ?_)
        · have ha : a = 0 := by
            have o' := of_decide_eq_true c
            injection o'
          exact ⟨by show 1 ≤ sizeLine; decide, q3 e rfl h0 ha⟩
        · have ha : a ≠ 0 := fun y => c (decide_eq_true (congrArg V.int y))
          obtain ⟨h5, za, zb, k⟩ := q2 e rfl h0 ha
          refine ⟨_, rfl, p, a, b, rfl, hp, fun r H1 s1 n1 t1 => ?_⟩
          refine ⟨_, rfl, e, rfl, r, _, _, -e, rfl, t1, by omega, by omega, ?_, ?_, fun r2 H2 s2 n2 t2 => ?_⟩
          · split
            · exact zb.neg
            · exact zb
          · split
            · exact za.neg
            · exact za
          · exact k r2 H2 (s1.trans s2) (s1.free n2) t2
end
end Fr

set_option Elab.async false
set_option linter.all false
set_option maxRecDepth 100000
set_option maxHeartbeats 4000000
namespace Fr
open PySem PySem.Spec PyProof.Rows L2 FrM
section
variable {P : Program} {w : World} {K : PySem.W.Frag} {mg : Str → Option Value} {base : Heap}
/-! the law's draws -/
def spMix : Sp := fun vs H Q _ => ∃ n k : Int, vs = [.int n, .int k] ∧ 0 ≤ k ∧ k ≤ 100 ∧ ∀ r : Int, 0 ≤ r → r < 2147483629 → Q (.int r) H
theorem scMix : FnScope ["_law_number_here", "_law_k"] ["_law_number_here", "_law_k"] (defScope lMix) := ⟨rfl, rfl, rfl, by decide +kernel, rfl, by decide +kernel, by decide +kernel⟩
theorem ok_mix {f : Addr} {fd : FuncData} (F : Fun K "_law_mixed" "_law_mixed" lMix f fd) : FnOk P w K mg base CX0 1 f fd ["_law_number_here", "_law_k"] spMix := by
  refine F.ok scMix (fun vs H Q E h => ?_) (fun cdv A outer s H vs Q E hr h => ?_)
  · obtain ⟨n, k, rfl, _⟩ := h
    rfl
  · obtain ⟨n, k, rfl, h0, h1, q⟩ := h
    refine ⟨_, pss_cons (ps_set (i := 0) scMix.nd rfl (Or.inl rfl) (pe_op op_mod (pe_op op_mul (pe_op op_add (pe_op op_add (pe_op op_mod (pv 0) pe_int) (pe_op op_mul (pe_op op_mul pe_int (pv 1)) (pv 1))) (pe_op op_mul pe_int (pv 1))) pe_int) pe_int))
      (pss_one (ps_ret (pe_op op_mod (pe_op op_mul (pv 0) (pe_op op_add pe_int (pe_op op_mul pe_int (pv 1)))) pe_int))), ?_⟩
    refine ⟨_, rfl, _, _, rfl, rfl, (by show (0 : Int) < 2147483647; decide), _, rfl, _, _, rfl, rfl, .inl ⟨by decide, by decide⟩, _, rfl, _, _, rfl, rfl, .inr ⟨by omega, by omega⟩, _, _, rfl, rfl, _, rfl, _, _, rfl, rfl, .inl ⟨by decide, by decide⟩, _, _, rfl, rfl,
      _, _, rfl, rfl, .inr ⟨by decide, by decide⟩, _, _, rfl, rfl, (by show (0 : Int) < 2147483647; decide), ?_⟩
    refine ⟨_, rfl, _, rfl, _, _, rfl, rfl, .inl ⟨by decide, by decide⟩, _, _, rfl, rfl, _, _, rfl, rfl, .inr ⟨by omega, by omega⟩, _, _, rfl, rfl, (by show (0 : Int) < 2147483629; decide), ?_⟩
    exact q _ (Int.emod_nonneg _ (by decide)) (Int.emod_lt_of_pos _ (by decide))
def spNum (K : PySem.W.Frag) : Sp := fun vs H Q _ => ∃ (a : Addr) (ns : List Int) (k : Int), vs = [.ref a, .int k] ∧ SqL K H a (ns.map V.int) ∧ ns.length ≤ 63 ∧ 0 ≤ k ∧ k ≤ 100 ∧ ∀ (r : Int) H', Same H H' → 0 ≤ r → r < 2147483629 → Q (.int r) H'
theorem scNum : FnScope ["_law_script", "_law_k"] ["_law_script", "_law_k"] (defScope lNum) := ⟨rfl, rfl, rfl, by decide +kernel, rfl, by decide +kernel, by decide +kernel⟩
theorem Same.upd {H : Hp} {p : Addr} {o : HO} (hp : H p = none) : Same H (L2.upd H p o) := fun b u e => by rw [upd_ne (ne_of_none e hp)]; exact e
theorem ok_num {f fM : Addr} {fd fdM : FuncData} (F : Fun K "_law_number" "_law_number" lNum f fd) (B : Bn mg) (FM : Fun K "_law_mixed" "_law_mixed" lMix fM fdM) (bM : Binds K fdM ["_law_number_here", "_law_k"] []) (mM : mg "_law_mixed" = some (.ref fM)) :
    FnOk P w K mg base CX0 2 f fd ["_law_script", "_law_k"] (spNum K) := by
  have GM : FnOk P w K mg base CX0 1 fM fdM ["_law_number_here", "_law_k"] spMix := ok_mix FM
  refine F.ok scNum (fun vs H Q E h => ?_) (fun cdv A outer s H vs Q E hr h => ?_)
  · obtain ⟨a, ns, k, rfl, _⟩ := h
    rfl
  · obtain ⟨a, ns, k, rfl, hs, hl, h0, h1, q⟩ := h
    have hu := hu_of hr
    refine ⟨_, pss_cons (ps_if (pt_cmpR (op_eqNil (Nat.lt_of_succ_lt hu)) (pv 0) (pe_lst pa_nil) (nomark _)) (pss_one (ps_ret (pe_call GM hr (by rfl) mM FM.kp bM .nil pass0 (pa_cons pe_int (pa_cons (pv 1) pa_nil))))) pss_nil)
      (pss_one (ps_ret (pe_call GM hr (by rfl) mM FM.kp bM .nil pass0 (pa_cons (pe_ix ix_list (pv 0) (pe_op op_mod (pv 1) (pe_callB call_len_seq (by rfl) B.len bt_len (pa_cons (pv 0) pa_nil))) (fun _ _ => rfl)) (pa_cons (pv 1) pa_nil))))), ?_⟩
    refine ⟨_, rfl, Nat.zero_le _, fun p hp => ?_⟩
    have s1 : Same H (L2.upd H p (.lst [])) := Same.upd hp
    refine ⟨a, p, _, rfl, rfl, s1.seq hs, SqL.of upd_same, _, rfl, ?_⟩
    cases ns with
    | nil =>
      refine iteT ?_
      exact ⟨_, rfl, 17, k, rfl, h0, h1, fun r r0 r1 => q r _ s1 r0 r1⟩
    | cons n ns =>
      refine iteF ?_
      have hlen : (0 : Int) < (((n :: ns).map V.int).length : Int) := by simp
      have m0 := Int.emod_nonneg k (by omega : (((n :: ns).map V.int).length : Int) ≠ 0)
      have m1 := Int.emod_lt_of_pos k hlen
      obtain ⟨j, hj⟩ : ∃ j : Nat, k % (((n :: ns).map V.int).length : Int) = j := ⟨(k % (((n :: ns).map V.int).length : Int)).toNat, by omega⟩
      have hj2 : j < (n :: ns).length := by
        rw [hj, List.length_map] at m1
        omega
      refine ⟨_, rfl, _, rfl, _, rfl, a, _, rfl, .inl (s1.seq hs), _, _, rfl, rfl, hlen, a, _, _, .int ((n :: ns)[j]), rfl, rfl, s1.seq hs, ?_, _, rfl, _, k, rfl, h0, h1, fun r r0 r1 => q r _ s1 r0 r1⟩
      rw [hj]
      refine atI_nat ?_
      rw [List.getElem?_map, List.getElem?_eq_getElem hj2]
      rfl
end
end Fr

set_option Elab.async false
set_option linter.all false
set_option maxRecDepth 100000
set_option maxHeartbeats 400000
namespace Fr
open PySem PySem.Spec PyProof.Rows L2 FrM
section
variable {P : Program} {w : World} {K : PySem.W.Frag} {mg : Str → Option Value} {base : Heap}
/-! names -/
def isLet (x : Str) : Bool := !decide (x.cps.toList < ("a" : Str).cps.toList) && !decide (("z" : Str).cps.toList < x.cps.toList)
def spLet : Sp := fun vs H Q _ => ∃ x : Str, vs = [.str x] ∧ Q (.bl (isLet x)) H
theorem scLet : FnScope ["sign"] ["sign"] (defScope sLetter) := ⟨rfl, rfl, rfl, by decide +kernel, rfl, by decide +kernel, by decide +kernel⟩
theorem ok_let {f : Addr} {fd : FuncData} (F : Fun K "is_small_letter" "is_small_letter" sLetter f fd) : FnOk P w K mg base CX0 1 f fd ["sign"] spLet := by
  refine F.ok scLet (fun vs H Q E h => ?_) (fun cdv A outer s H vs Q E hr h => ?_)
  · obtain ⟨x, rfl, _⟩ := h
    rfl
  · obtain ⟨x, rfl, q⟩ := h
    refine ⟨_, QB.out (b_one (s_ret (q_chain op_le_str op_le_str q_str (qv 0 rfl (.inl rfl) rfl rfl) q_str rfl))), ?_⟩
    refine ⟨_, rfl, "a", x, rfl, rfl, _, rfl, ?_⟩
    refine ite2 (fun c => ?_) (fun c => ?_)
    · refine ⟨x, "z", rfl, rfl, ?_⟩
      unfold isLet at q
      rw [c, Bool.true_and] at q
      exact q
    · have c' : (!decide (x.cps.toList < ("a" : Str).cps.toList)) = false := by simpa using c
      unfold isLet at q
      rw [c', Bool.false_and] at q
      exact q
/-- the eleven words -/
def words : List Str := ["unit", "take", "let", "fun", "show", "if", "then", "else", "loop", "for", "do"]
def isNm : V → Bool
  | .str x => decide (1 ≤ x.length) && decide (x.length ≤ 8) && (x.cps.toList.all fun c => isLet ⟨#[c]⟩) && !inV (.str x) (words.map V.str)
  | _ => false
/-- what the module has written beside its defs -/
structure Gv (K : PySem.W.Frag) (mg : Str → Option Value) (W O : Addr) : Prop where
  mw : mg "WORDS" = some (.ref W)
  kw : ∀ H, SqT K H W (words.map V.str)
  ml : ∃ t, mg "MOST_LETTERS" = some (.int 8 t)
  mo : mg "ONE" = some (.ref O)
  ko : ∀ H, SqT K H O [.int 1, .int 1]
theorem k_str_str (K : PySem.W.Frag) : PySem.W.kitOne K (.type "str") (.type "str") = some true := by kernel_rfl
theorem k_int_str (K : PySem.W.Frag) : PySem.W.kitOne K (.type "int") (.type "str") = some false := by kernel_rfl
def spName : Sp := fun vs H Q _ => ∃ x : V, vs = [x] ∧ ((∃ z : Str, x = .str z ∧ z.length ≤ 100) ∨ ∃ i, x = .int i) ∧ ∀ H', Same H H' → Q (.bl (isNm x)) H'
theorem scName : FnScope ["thing"] ["thing"] (defScope sName) := ⟨rfl, rfl, rfl, by decide +kernel, rfl, by decide +kernel, by decide +kernel⟩
theorem ok_name {f fL W O : Addr} {fd fdL : FuncData} (F : Fun K "is_name" "is_name" sName f fd) (B : Bn mg) (G : Gv K mg W O)
    (FL : Fun K "is_small_letter" "is_small_letter" sLetter fL fdL) (bL : Binds K fdL ["sign"] []) (mL : mg "is_small_letter" = some (.ref fL)) : FnOk P w K mg base CX0 2 f fd ["thing"] spName := by
  have GL : FnOk P w K mg base CX0 1 fL fdL ["sign"] spLet := ok_let FL
  obtain ⟨t8, m8⟩ := G.ml
  refine F.ok scName (fun vs H Q E h => ?_) (fun cdv A outer s H vs Q E hr h => ?_)
  · obtain ⟨x, rfl, _⟩ := h
    rfl
  · obtain ⟨x, rfl, kx, q⟩ := h
    refine ⟨_, QB.out (b_cons 
      (s_if (t_w (w_or (t_not (t_val (q_callB (call_isiK (K := K) rfl) rfl B.isi bt_isinstance (qc (qv 0 rfl (.inl rfl) rfl rfl) (qc (q_bltn (v := .ty "str") rfl B.str bt_str rfl (by decide) rfl) q_nil rfl) rfl) (by decide) rfl rfl rfl) (fun _ => rfl))) (w_or1 (t_not (t_chain op_le op_le q_int (q_callB call_len_str rfl B.len bt_len (qc (qv 0 rfl (.inl rfl) rfl rfl) q_nil rfl) (by decide) rfl rfl rfl) (q_glob (v := .int 8) rfl m8 ⟨t8, rfl⟩ rfl) rfl))))) (b_one 
        (s_ret q_bl)) b_nil) (b_one 
      (s_ret (q_and (q_callB (call_allK (K := K) rfl rfl) rfl B.all bt_all (qc (q_compS (cl := []) ["sign"] [] [] rfl (i_str (qv 0 rfl (.inl rfl) rfl rfl)) rfl (by decide +kernel) rfl (by decide +kernel) (fun _ _ h => nomatch h) rfl (fun j y i h => nomatch h) (comp_has rfl) (fun C s₂ H₂ fp => (g_name 0 (show (["sign"] : List Str).Nodup by decide +kernel) rfl (.inl rfl) (.inr rfl))) (fun C s₂ H₂ fp => ts_nil) (fun C s₂ H₂ fp => (q_call GL hr rfl mL FL.kp bL .nil pass0 (qc (qv 0 rfl (.inl rfl) rfl rfl) q_nil rfl) rfl rfl rfl)) (fun _ => rfl)) q_nil rfl) (by decide) rfl rfl rfl) (q_one (q_cmp (op_notInK (K := K) rfl) (qv 0 rfl (.inl rfl) rfl rfl) (q_glob (v := .ref W) rfl G.mw rfl rfl) rfl)))))), ?_⟩
    rcases kx with ⟨z, rfl, hz⟩ | ⟨i, rfl⟩
    · refine ⟨_, rfl, _, .ty "str", _, .type "str", _, rfl, rfl, .str z, k_str_str K, _, rfl, ?_⟩
      refine iteF ?_
      refine ⟨_, rfl, z, rfl, by rw [sizeLine_eq]; omega, 1, _, rfl, rfl, _, rfl, ?_⟩
      have nm : isNm (.str z) = (decide (1 ≤ z.length) && decide (z.length ≤ 8) && (z.cps.toList.all fun c => isLet ⟨#[c]⟩) && !inV (.str z) (words.map V.str)) := rfl
      refine ite2 (fun c1 => ?_) (fun c1 => ?_)
      · refine ⟨_, _, rfl, rfl, _, rfl, ?_⟩
        have h1 : 1 ≤ z.length := by
          have : (1 : Int) ≤ (z.length : Int) := of_decide_eq_true c1
          omega
        show (if (!decide ((z.length : Int) ≤ 8)) = true then _ else _)
        refine ite2 (fun c2 => ?_) (fun c2 => ?_)
        · have h8 : ¬ z.length ≤ 8 := by
            have : ¬ (z.length : Int) ≤ 8 := by simpa using c2
            omega
          rw [nm, decide_eq_false h8] at q
          simp only [Bool.and_false, Bool.false_and] at q
          exact q H (Same.refl H)
        · have h8 : z.length ≤ 8 := by
            have : (z.length : Int) ≤ 8 := by simpa using c2
            omega
          refine ⟨_, rfl, z, rfl, fun D hD => ?_⟩
          refine comp_inv z.cps.size (fun i ys H' => i ≤ z.cps.size ∧ ys = (z.cps.toList.take i).map (fun c => V.bl (isLet ⟨#[c]⟩)) ∧ H' = upd H D (.lst ys)) ⟨Nat.zero_le _, rfl, rfl⟩ (by have : z.cps.size = z.length := rfl; rw [sizeLine_eq]; omega) ?_ ?_ ?_
          · rintro i ys H' hi ⟨_, rfl, rfl⟩
            refine ⟨by simp; omega, upd_same, fun h => h, fun h => Nat.le_of_eq h.symm⟩
          · rintro i ys H' x H'' hi ⟨_, rfl, rfl⟩ ⟨rfl, c, hc, rfl⟩ pre hpre
            obtain ⟨p0, rfl⟩ := List.length_eq_one_iff.mp hpre
            refine ⟨⟨[some (.str ⟨#[c]⟩)], rfl, rfl⟩, ?_⟩
            refine iteT ?_
            refine ⟨_, rfl, ⟨#[c]⟩, rfl, upd_same, hi, ?_, ?_⟩
            · have hc' : z.cps.toList[i]? = some c := by simpa using hc
              rw [List.take_add_one, hc', Option.toList_some, List.map_append]
              rfl
            · rw [upd_upd]
          · rintro ys H' ⟨_, rfl, rfl⟩
            refine ⟨D, (z.cps.toList.take z.cps.size).map fun c => isLet ⟨#[c]⟩, rfl, ?_, _, rfl, ?_⟩
            · rw [List.map_map]
              exact SqL.of upd_same
            · have ea : ((z.cps.toList.take z.cps.size).map fun c => isLet ⟨#[c]⟩).all id = z.cps.toList.all fun c => isLet ⟨#[c]⟩ := by
                rw [show z.cps.size = z.cps.toList.length by simp, List.take_length, List.all_map]
                rfl
              rw [ea]
              rw [nm, decide_eq_true h1, decide_eq_true h8, Bool.true_and, Bool.true_and] at q
              refine ite2 (fun c3 => ?_) (fun c3 => ?_)
              · rw [c3, Bool.true_and] at q
                refine ⟨_, rfl, W, _, rfl, .inr (G.kw _), rfl, by decide +kernel, q _ (Same.upd hD)⟩
              · have c3' : (z.cps.toList.all fun c => isLet ⟨#[c]⟩) = false := by simpa using c3
                rw [c3', Bool.false_and] at q
                exact q _ (Same.upd hD)
      · have h1 : ¬ 1 ≤ z.length := by
          have : ¬ (1 : Int) ≤ (z.length : Int) := fun y => c1 (decide_eq_true y)
          omega
        rw [nm, decide_eq_false h1] at q
        simp only [Bool.false_and] at q
        refine ⟨_, rfl, ?_⟩
        refine iteT ?_
        exact q H (Same.refl H)
    · refine ⟨_, rfl, _, .ty "str", _, .type "str", _, rfl, rfl, .int i, k_int_str K, _, rfl, ?_⟩
      refine iteT ?_
      refine iteT ?_
      exact q H (Same.refl H)
end
end Fr

set_option Elab.async false
set_option linter.all false
set_option maxRecDepth 100000
set_option maxHeartbeats 400000
namespace Fr
open PySem PySem.Spec PyProof.Rows L2 FrM
section
variable {P : Program} {w : World} {K : PySem.W.Frag} {mg : Str → Option Value} {base : Heap}
/-- a name -/
def Nm (n : Str) : Prop := isNm (.str n) = true
theorem Nm.len {n : Str} (h : Nm n) : n.length ≤ 8 := by
  unfold Nm isNm at h
  simp only [Bool.and_eq_true, decide_eq_true_eq] at h
  exact h.1.1.2
/-- pairs (name, exponent) at their addresses -/
abbrev PsAt (H : Hp) (ts : List Addr) (ps : List (Str × Int)) : Prop := Paired (fun (t : Addr) (p : Str × Int) => H t = some (.tup [.str p.1, .int p.2])) ts ps
theorem PsAt.same {H H' : Hp} {ts : List Addr} {ps : List (Str × Int)} (h : PsAt H ts ps) (s : Same H H') : PsAt H' ts ps := by
  induction h with
  | nil => exact .nil
  | cons h _ ih => exact .cons (s _ _ h) ih
theorem PsAt.get {H : Hp} {ts : List Addr} {ps : List (Str × Int)} (h : PsAt H ts ps) {i : Nat} {t : Addr} (e : ts[i]? = some t) : ∃ n x, ps[i]? = some (n, x) ∧ H t = some (.tup [.str n, .int x]) := by
  induction h generalizing i with
  | nil => simp at e
  | @cons a p l1 l2 h _ ih =>
    cases i with
    | zero => simp at e; subst e; exact ⟨p.1, p.2, rfl, h⟩
    | succ i => exact ih (by simpa using e)
theorem PsAt.append {H : Hp} {ts us : List Addr} {ps qs : List (Str × Int)} (h : PsAt H ts ps) (k : PsAt H us qs) : PsAt H (ts ++ us) (ps ++ qs) := by
  induction h with
  | nil => exact k
  | cons h _ ih => exact .cons h ih
def spPair : Sp := fun vs H Q _ => ∃ (t : Addr) (n : Str) (e : Int), vs = [.ref t] ∧ H t = some (.tup [.str n, .int e]) ∧ Nm n ∧ ∀ H', Same H H' → Q (.bl true) H'
theorem scPair : FnScope ["thing"] ["thing"] (defScope sPair) := ⟨rfl, rfl, rfl, by decide +kernel, rfl, by decide +kernel, by decide +kernel⟩
theorem ok_pair {f fN fW : Addr} {fd fdN fdW : FuncData} (F : Fun K "is_pair" "is_pair" sPair f fd) (B : Bn mg)
    (FN : Fun K "is_name" "is_name" sName fN fdN) (bN : Binds K fdN ["thing"] []) (mN : mg "is_name" = some (.ref fN)) (GN : FnOk P w K mg base CX0 2 fN fdN ["thing"] spName)
    (FW : Fun K "is_whole" "is_whole" sWhole fW fdW) (bW : Binds K fdW ["thing"] []) (mW : mg "is_whole" = some (.ref fW)) : FnOk P w K mg base CX0 3 f fd ["thing"] spPair := by
  have GW : FnOk P w K mg base CX0 1 fW fdW ["thing"] spWhole := ok_whole FW B
  refine F.ok scPair (fun vs H Q E h => ?_) (fun cdv A outer s H vs Q E hr h => ?_)
  · obtain ⟨t, n, e, rfl, _⟩ := h
    rfl
  · obtain ⟨t, n, e, rfl, ht, nm, q⟩ := h
    have hr1 : Room 1 _ := hr.mono (by decide)
    refine ⟨_, QB.out (b_cons 
      (s_if (t_w (w_or (t_not (t_val (q_callB (call_isiK (K := K) rfl) rfl B.isi bt_isinstance (qc (qv 0 rfl (.inl rfl) rfl rfl) (qc (q_bltn (v := .ty "tuple") rfl B.tuple bt_tuple rfl (by decide) rfl) q_nil rfl) rfl) (by decide) rfl rfl rfl) (fun _ => rfl))) (w_or1 (t_cmp op_ne (q_callB (call_lenK (K := K) rfl) rfl B.len bt_len (qc (qv 0 rfl (.inl rfl) rfl rfl) q_nil rfl) (by decide) rfl rfl rfl) q_int rfl)))) (b_one 
        (s_ret q_bl)) b_nil) (b_one 
      (s_ret (q_and (q_call GN hr rfl mN FN.kp bN .nil pass0 (qc (q_ixt (K := K) rfl (qv 0 rfl (.inl rfl) rfl rfl) q_int (fun _ _ => rfl)) q_nil rfl) rfl rfl rfl) (q_one (q_call GW hr1 rfl mW FW.kp bW .nil pass0 (qc (q_ixt (K := K) rfl (qv 0 rfl (.inl rfl) rfl rfl) q_int (fun _ _ => rfl)) q_nil rfl) rfl rfl rfl)))))), ?_⟩
    refine ⟨_, rfl, _, .ty "tuple", _, .type "tuple", _, rfl, rfl, .tup ht, k_tuple_tuple K, _, rfl, ?_⟩
    refine iteF ?_
    refine ⟨_, rfl, t, _, rfl, .inr (SqT.of ht), rfl, _, rfl, ?_⟩
    refine iteNS rfl ?_
    refine ⟨_, rfl, t, _, _, _, rfl, rfl, SqT.of ht, rfl, _, rfl, .inl ⟨n, rfl, by have := nm.len; omega⟩, fun H' s' => ⟨_, rfl, ?_⟩⟩
    rw [show isNm (.str n) = true from nm]
    refine iteT ?_
    exact ⟨_, rfl, t, _, _, _, rfl, rfl, SqT.of (s' _ _ ht), rfl, _, rfl, .int e, q H' s'⟩
end
end Fr

set_option Elab.async false
set_option linter.all false
set_option maxRecDepth 100000
set_option maxHeartbeats 400000
namespace Fr
open PySem PySem.Spec PyProof.Rows L2 FrM
/-- the dict of the sums of names -/
def totD (ks : List Str) (ps : List (Str × Int)) : List (Key × V) := ks.map fun n => ((Sum.inr n : Key), V.int (tot ps n))
theorem tot_snoc (ps : List (Str × Int)) (m : Str) (e : Int) (n : Str) : tot (ps ++ [(m, e)]) n = tot ps n + if m = n then e else 0 := by
  rw [tot_append]; simp [tot]
theorem tot_none {ps : List (Str × Int)} {n : Str} (h : n ∉ ps.map (·.1)) : tot ps n = 0 := by
  induction ps with
  | nil => rfl
  | cons p ps ih =>
    obtain ⟨m, e⟩ := p
    simp only [List.map_cons, List.mem_cons, not_or] at h
    simp only [tot]
    rw [if_neg (fun z => h.1 z.symm), ih h.2]; rfl
theorem valV_tot {ks : List Str} {ps : List (Str × Int)} {m : Str} : valV (totD ks ps) (Sum.inr m) = if m ∈ ks then some (V.int (tot ps m)) else none := by
  induction ks with
  | nil => simp [totD, valV_nil]
  | cons k ks ih =>
    by_cases e : k = m
    · subst e
      rw [if_pos (by simp)]
      exact valV_pos rfl
    · have e' : ¬ (Sum.inr k : Key) = Sum.inr m := fun z => e (Sum.inr.inj z)
      have := valV_neg (p := ((Sum.inr k : Key), V.int (tot ps k))) (r := totD ks ps) (k := Sum.inr m) e'
      rw [show totD (k :: ks) ps = ((Sum.inr k : Key), V.int (tot ps k)) :: totD ks ps from rfl, this, ih]
      by_cases hm : m ∈ ks
      · rw [if_pos hm, if_pos (by simp [hm])]
      · rw [if_neg hm, if_neg (by simp [hm, Ne.symm e])]
theorem put_tot {ks : List Str} {ps : List (Str × Int)} {m : Str} {e : Int} (hk : ∀ n, n ∈ ks ↔ n ∈ ps.map (·.1)) :
    ∃ ks', putK (totD ks ps) (Sum.inr m) (.int (tot ps m + e)) = totD ks' (ps ++ [(m, e)]) ∧ (ks.Nodup → ks'.Nodup) ∧ (∀ n, n ∈ ks' ↔ n ∈ (ps ++ [(m, e)]).map (·.1)) ∧ ks'.length ≤ ks.length + 1 := by
  have hany : ((totD ks ps).any fun kv => decide (kv.1 = Sum.inr m)) = decide (m ∈ ks) := by
    rw [valV_any, valV_tot]
    by_cases h : m ∈ ks <;> simp [h]
  by_cases hm : m ∈ ks
  · refine ⟨ks, ?_, fun h => h, fun n => ?_, by omega⟩
    · unfold putK
      rw [hany, decide_eq_true hm, if_pos rfl]
      unfold totD
      rw [List.map_map]
      refine List.map_congr_left fun n _ => ?_
      simp only [Function.comp]
      rw [tot_snoc]
      by_cases e' : n = m
      · subst e'
        rw [if_pos rfl, if_pos rfl]
      · rw [if_neg (fun z => e' (Sum.inr.inj z)), if_neg (fun z => e' z.symm), Int.add_zero]
    · rw [List.map_append, List.mem_append, ← hk n]
      constructor
      · exact Or.inl
      · rintro (h | h)
        · exact h
        · have : n = m := by simpa using h
          rw [this]; exact hm
  · refine ⟨ks ++ [m], ?_, fun h => ?_, fun n => ?_, by simp⟩
    · unfold putK
      rw [hany, decide_eq_false hm, if_neg Bool.false_ne_true]
      have t0 : tot ps m = 0 := tot_none fun z => hm ((hk m).mpr z)
      unfold totD
      rw [List.map_append]
      congr 1
      · refine List.map_congr_left fun n hn => ?_
        rw [tot_snoc, if_neg (fun z => hm (by rw [z]; exact hn)), Int.add_zero]
      · show [((Sum.inr m : Key), V.int (tot ps m + e))] = [((Sum.inr m : Key), V.int (tot (ps ++ [(m, e)]) m))]
        rw [tot_snoc, if_pos rfl]
    · rw [List.nodup_append]
      exact ⟨h, by simp, fun a ha b hb z => hm (by have : b = m := by simpa using hb
                                                   rw [← this, ← z]; exact ha)⟩
    · rw [List.map_append, List.mem_append, List.mem_append, hk n]
      simp
theorem unit_snoc (ps : List (Str × Int)) (ks : List Str) (n : Str) : unitOf ps (ks ++ [n]) = unitOf ps ks ++ if tot ps n ≠ 0 then [(n, tot ps n)] else [] := by
  unfold unitOf
  rw [List.map_append, List.filter_append]
  congr 1
  by_cases h : tot ps n = 0
  · simp [h]
  · simp [h]
section
variable {P : Program} {w : World} {K : PySem.W.Frag} {mg : Str → Option Value} {base : Heap}
theorem Same.store {H H' : Hp} {D : Addr} {o : HO} (s : Same H H') (hD : H D = none) : Same H (L2.upd H' D o) := fun b u e => by rw [upd_ne (ne_of_none e hD)]; exact s b u e
theorem PsAt.store {H : Hp} {D : Addr} {xs : List V} {o : HO} {ts : List Addr} {ps : List (Str × Int)} (h : PsAt H ts ps) (hD : H D = some (.lst xs)) : PsAt (L2.upd H D o) ts ps := by
  induction h with
  | nil => exact .nil
  | cons h1 _ ih => exact .cons (by rw [upd_ne (ne_of h1 hD (by intro z; cases z))]; exact h1) ih
theorem k_list_list (K : PySem.W.Frag) : PySem.W.kitOne K (.type "list") (.type "list") = some true := by kernel_rfl
/-- a unit at its address -/
def UnAt (H : Hp) (u : Addr) (ps : List (Str × Int)) : Prop := ∃ us : List Addr, H u = some (.tup (us.map V.ref)) ∧ PsAt H us ps
def RetU (H : Hp) (Q : VK) (ps : List (Str × Int)) : Prop := ∀ u ks H', Same H H' → ks.Nodup → (∀ n, n ∈ ks ↔ n ∈ ps.map (·.1)) → UnAt H' u (unitOf ps ks) → Q (.ref u) H'
def spUnit : Sp := fun vs H Q _ => ∃ (l : Addr) (ts : List Addr) (ps : List (Str × Int)), vs = [.ref l] ∧ H l = some (.lst (ts.map V.ref)) ∧ PsAt H ts ps ∧ (∀ p ∈ ps, Nm p.1) ∧ ps.length < 60 ∧ RetU H Q ps
theorem scUnit : FnScope ["pairs", "totals", "pair"] ["pairs"] (defScope sUnit) := ⟨rfl, rfl, rfl, by decide +kernel, rfl, by decide +kernel, by decide +kernel⟩
theorem ok_unit {f fP : Addr} {fd fdP : FuncData} (F : Fun K "unit_of" "unit_of" sUnit f fd) (B : Bn mg)
    (FP : Fun K "is_pair" "is_pair" sPair fP fdP) (bP : Binds K fdP ["thing"] []) (mP : mg "is_pair" = some (.ref fP)) (GP : FnOk P w K mg base CX0 3 fP fdP ["thing"] spPair) : FnOk P w K mg base CX0 4 f fd ["pairs"] spUnit := by
  refine F.ok scUnit (fun vs H Q E h => ?_) (fun cdv A outer s H vs Q E hr h => ?_)
  · obtain ⟨l, ts, ps, rfl, _⟩ := h
    rfl
  · obtain ⟨l, ts, ps, rfl, hl, hp, nm, h60, q⟩ := h
    have hu := hu_of hr
    have lp := Paired.length hp
    refine ⟨_, QB.out (b_cons 
      (s_if (t_w (w_or (t_not (t_val (q_callB (call_isiK (K := K) rfl) rfl B.isi bt_isinstance (qc (qv 0 rfl (.inl rfl) rfl rfl) (qc (q_bltn (v := .ty "list") rfl B.list bt_list rfl (by decide) rfl) q_nil rfl) rfl) (by decide) rfl rfl rfl) (fun _ => rfl))) (w_or1 (t_not (t_val (q_callB (call_allK (K := K) rfl rfl) rfl B.all bt_all (qc (q_compS (cl := []) ["pair"] [] [] rfl (i_list (K := K) rfl (qv 0 rfl (.inl rfl) rfl rfl)) rfl (by decide +kernel) rfl (by decide +kernel) (fun _ _ h => nomatch h) rfl (fun j y i h => nomatch h) (comp_has rfl) (fun C s₂ H₂ fp => (g_name 0 (show (["pair"] : List Str).Nodup by decide +kernel) rfl (.inl rfl) (.inr rfl))) (fun C s₂ H₂ fp => ts_nil) (fun C s₂ H₂ fp => (q_call GP hr rfl mP FP.kp bP .nil pass0 (qc (qv 0 rfl (.inl rfl) rfl rfl) q_nil rfl) rfl rfl rfl)) (fun _ => rfl)) q_nil rfl) (by decide) rfl rfl rfl) (fun _ => rfl)))))) b_never b_nil) (b_cons 
      (s_set 1 scUnit.nd rfl (Or.inr rfl) q_dnew rfl (.inl rfl)) (b_cons 
      (s_forS PassesOwn.never rfl (i_list (K := K) rfl (qv 0 rfl (.inl rfl) rfl rfl)) (g_name 2 scUnit.nd rfl (Or.inl rfl) (.inr rfl)) (b_one 
        (s_dput hu (qv 1 rfl (.inr (.inl rfl)) rfl rfl) (q_ixt (K := K) rfl (qv 2 rfl (.inl rfl) rfl rfl) q_int (fun _ _ => rfl)) (q_add (q_dget2 hu (qv 1 rfl (.inr (.inl rfl)) rfl rfl) (q_ixt (K := K) rfl (qv 2 rfl (.inl rfl) rfl rfl) q_int (fun _ _ => rfl)) q_int ⟨rfl, rfl, rfl, rfl⟩) (q_ixt (K := K) rfl (qv 2 rfl (.inl rfl) rfl rfl) q_int (fun _ _ => rfl))) rfl)) (fun _ => rfl)) (b_one 
      (s_ret (q_callTy (call_tupleK (K := K) rfl) rfl B.tuple bt_tuple (qc (q_compS ["name"] ["totals"] [1] rfl (i_list (K := K) rfl (q_callB (call_sortedD rfl) rfl B.sorted bt_sorted (qc (qv 1 rfl (.inr (.inl rfl)) rfl rfl) q_nil rfl) (by decide) rfl rfl rfl)) rfl (by decide +kernel) rfl (by decide +kernel) (fun _ _ h => h) rfl (fr1 ⟨rfl, rfl, rfl, _, rfl, rfl⟩) (comp_has rfl) (fun C s₂ H₂ fp => (g_name 0 (show (["name", "totals"] : List Str).Nodup by decide +kernel) rfl (.inl rfl) (.inr rfl))) (fun C s₂ H₂ fp => (ts_one (t_cmp op_ne (q_dget hu (qv 1 rfl (.inr (.inl rfl)) rfl rfl) (qv 0 rfl (.inl rfl) rfl rfl) (fun _ _ => rfl)) q_int rfl))) (fun C s₂ H₂ fp => (q_tup (qc (qv 0 rfl (.inl rfl) rfl rfl) (qc (q_dget hu (qv 1 rfl (.inr (.inl rfl)) rfl rfl) (qv 0 rfl (.inl rfl) rfl rfl) (fun _ _ => rfl)) q_nil rfl) rfl))) (fun _ => rfl)) q_nil rfl) (by decide) rfl rfl rfl)))))), ?_⟩
    refine ⟨_, rfl, _, .ty "list", _, .type "list", _, rfl, rfl, .lst hl, k_list_list K, _, rfl, ?_⟩
    refine iteF ?_
    refine ⟨_, rfl, l, rfl, ⟨_, SqL.of hl⟩, fun D hD => ?_⟩
    refine comp_inv ts.length (fun i ys H' => i ≤ ts.length ∧ ys = (List.replicate i true).map V.bl ∧ Same H H' ∧ H' D = some (.lst ys)) ⟨Nat.zero_le _, rfl, Same.upd hD, upd_same⟩ (by rw [sizeLine_eq]; omega) ?_ ?_ ?_
    · rintro i ys H' hi ⟨_, rfl, s1, e1⟩
      refine ⟨by simp, e1, fun h => ⟨_, _, SqL.of (s1 _ _ hl), List.getElem?_eq_getElem (by simpa using h)⟩, fun h => ⟨_, SqL.of (s1 _ _ hl), by simp; omega⟩⟩
    · rintro i ys H' x H'' hi ⟨_, rfl, s1, e1⟩ ⟨rfl, hx⟩ pre hpre
      obtain ⟨p0, rfl⟩ := List.length_eq_one_iff.mp hpre
      have hx' := hx _ (SqL.of (s1 _ _ hl))
      rw [List.getElem?_map, List.getElem?_eq_getElem hi] at hx'
      cases hx'
      refine ⟨⟨[some (.ref ts[i])], rfl, rfl⟩, ?_⟩
      refine iteT ?_
      obtain ⟨n, e, en, et⟩ := hp.get (List.getElem?_eq_getElem hi)
      refine ⟨_, rfl, ts[i], n, e, rfl, s1 _ _ et, nm (n, e) (List.mem_of_getElem? en), fun H2 s2 => ⟨s2 _ _ e1, hi, ?_, Same.store (s1.trans s2) hD, upd_same⟩⟩
      rw [List.replicate_succ', List.map_append]
      rfl
    · rintro ys H1 ⟨_, rfl, s1, e1⟩
      refine ⟨D, List.replicate ts.length true, rfl, SqL.of e1, ?_⟩
      have ea : (List.replicate ts.length true).all id = true := by simp
      rw [ea]
      refine ⟨true, rfl, ?_⟩
      refine iteF ?_
      refine fun d hd => ?_
      refine ⟨_, rfl, l, rfl, ⟨_, SqL.of (Same.upd hd _ _ (s1 _ _ hl))⟩, ?_⟩
      have hd0 : H d = none := by
        cases z : H d with
        | none => rfl
        | some o => rw [s1 d o z] at hd; cases hd
      have hDd : D ≠ d := ne_of_none e1 hd
      refine for_inv ts.length (fun i σ H' => ∃ ks v, ks.Nodup ∧ (∀ n, n ∈ ks ↔ n ∈ (ps.take i).map (·.1)) ∧ ks.length ≤ i ∧ i ≤ ts.length ∧ σ = [some (.ref l), some (.ref d), v] ∧ Same H H' ∧ H' d = some (.dK (totD ks (ps.take i)))) ?_ ?_ ?_ ?_ ?_
      · exact ⟨[], none, List.nodup_nil, fun n => by simp, Nat.le_refl _, Nat.zero_le _, rfl, Same.store s1 hd0, upd_same⟩
      · rintro i σ H2 hi ⟨ks, v, _, _, _, _, _, s2, _⟩
        exact ⟨_, _, SqL.of (s2 _ _ hl), List.getElem?_eq_getElem (by simpa using hi)⟩
      · rintro σ H2 ⟨ks, v, _, _, _, _, _, s2, _⟩
        exact ⟨_, SqL.of (s2 _ _ hl), by simp⟩
      · rintro i σ H2 x H3 hi ⟨ks, v, nd, hk, hkl, _, rfl, s2, hd2⟩ ⟨rfl, hx⟩
        have hx' := hx _ (SqL.of (s2 _ _ hl))
        rw [List.getElem?_map, List.getElem?_eq_getElem hi] at hx'
        cases hx'
        obtain ⟨n, e, en, et⟩ := hp.get (List.getElem?_eq_getElem hi)
        have et2 := s2 _ _ et
        have etk : ps.take (i + 1) = ps.take i ++ [(n, e)] := by rw [List.take_add_one, en]; rfl
        obtain ⟨ks', ep, nd', hk', hkl'⟩ := put_tot (e := e) (m := n) hk
        refine ⟨_, rfl, d, rfl, .inl ⟨_, .inl hd2⟩, _, rfl, ts[i], _, _, _, rfl, rfl, SqT.of et2, rfl, _, DGet.k (k := Sum.inr n) hd2, ?_⟩
        have eg : (valV (totD ks (ps.take i)) (Sum.inr n)).getD (V.int 0) = .int (tot (ps.take i) n) := by
          rw [valV_tot]
          by_cases hm : n ∈ ks
          · rw [if_pos hm]; rfl
          · rw [if_neg hm, tot_none fun z => hm ((hk n).mpr z)]; rfl
        rw [eg]
        refine ⟨_, rfl, ts[i], _, _, _, rfl, rfl, SqT.of et2, rfl, _, _, rfl, rfl, _, rfl, _, rfl, ts[i], _, _, _, rfl, rfl, SqT.of et2, rfl, d, _, rfl, DPut.k (k := Sum.inr n) hd2 ?_, ?_⟩
        · unfold totD
          rw [List.length_map, sizeLine_eq]
          omega
        · rw [ep]
          refine ⟨ks', _, nd' nd, ?_, by omega, hi, rfl, Same.store s2 hd0, ?_⟩
          · rw [etk]; exact hk'
          · rw [etk]; exact upd_same
      · rintro σ H2 ⟨ks, v, nd, hk, hkl, _, rfl, s2, hd2⟩
        have etk : ps.take ts.length = ps := by rw [lp, List.take_length]
        rw [etk] at hk hd2
        refine ⟨_, rfl, d, _, ks, rfl, .inl hd2, ?_, ?_, fun sl ks' hsl hperm _ => ?_⟩
        · unfold totD
          rw [List.map_map]
          rfl
        · unfold totD
          rw [List.length_map]
          omega
        have hmem : ∀ n, n ∈ ks' ↔ n ∈ ks := fun n => hperm.mem_iff
        have nd' : ks'.Nodup := hperm.nodup_iff.mpr nd
        have lk : ks'.length = ks.length := hperm.length_eq
        have ss : Same H2 (L2.upd H2 sl (.lst (ks'.map V.str))) := Same.upd hsl
        have hsl0 : H sl = none := by
          cases z : H sl with
          | none => rfl
          | some o => rw [s2 sl o z] at hsl; cases hsl
        refine ⟨sl, rfl, ⟨_, SqL.of upd_same⟩, fun D2 hD2 => ?_⟩
        have hD20 : H D2 = none := by
          cases z : H D2 with
          | none => rfl
          | some o => rw [ss D2 o (s2 D2 o z)] at hD2; cases hD2
        refine comp_inv ks'.length (fun i ys H' => ∃ us : List Addr, i ≤ ks'.length ∧ ys = us.map V.ref ∧ us.length ≤ i ∧ PsAt H' us (unitOf ps (ks'.take i)) ∧ Same (L2.upd H2 sl (.lst (ks'.map V.str))) H' ∧ H' D2 = some (.lst ys)) ⟨[], Nat.zero_le _, rfl, Nat.le_refl _, .nil, Same.upd hD2, upd_same⟩ (by rw [sizeLine_eq]; omega) ?_ ?_ ?_
        · rintro i ys H3 hi ⟨us, _, rfl, hul, _, s3, e3⟩
          have hq : SqL K H3 sl (ks'.map V.str) := SqL.of (s3 _ _ upd_same)
          refine ⟨by simpa using hul, e3, fun h => ⟨_, _, hq, List.getElem?_eq_getElem (by simpa using h)⟩, fun h => ⟨_, hq, by simp; omega⟩⟩
        · rintro i ys H3 x H4 hi ⟨us, _, rfl, hul, hps, s3, e3⟩ ⟨rfl, hx⟩ pre hpre
          obtain ⟨p0, rfl⟩ := List.length_eq_one_iff.mp hpre
          have hx' := hx _ (SqL.of (s3 _ _ upd_same))
          rw [List.getElem?_map, List.getElem?_eq_getElem hi] at hx'
          cases hx'
          have hin : ks'[i] ∈ ks := (hmem _).mp (List.getElem_mem hi)
          have hd3 := s3 _ _ (ss _ _ hd2)
          have dg : DGet H4 d (.str ks'[i]) (some (.int (tot ps ks'[i]))) := by
            have z := DGet.k (k := Sum.inr ks'[i]) hd3
            rw [valV_tot, if_pos hin] at z
            exact z
          have etk2 : ks'.take (i + 1) = ks'.take i ++ [ks'[i]] := by rw [List.take_add_one, List.getElem?_eq_getElem hi]; rfl
          refine ⟨⟨[some (.str ks'[i])], rfl, rfl⟩, _, rfl, _, rfl, d, _, rfl, dg, rfl, _, rfl, ?_⟩
          refine ite2 (fun c => ?_) (fun c => ?_)
          · have hne : tot ps ks'[i] ≠ 0 := fun z => by
              rw [z] at c
              exact absurd c (by decide)
            refine ⟨_, rfl, _, rfl, _, rfl, d, _, rfl, dg, by show 2 ≤ sizeLine; decide, fun t ht => ⟨?_, us ++ [t], hi, by simp, by simp; omega, ?_, ?_, upd_same⟩⟩
            · exact (Same.upd ht) _ _ e3
            · rw [etk2, unit_snoc, if_pos hne]
              have hDt : t ≠ D2 := fun z => by rw [z, e3] at ht; cases ht
              have st : Same H4 (L2.upd H4 t (.tup [.str ks'[i], .int (tot ps ks'[i])])) := Same.upd ht
              -- the pairs that are there stay: none of them is the list
              have keep : PsAt (L2.upd (L2.upd H4 t (.tup [.str ks'[i], .int (tot ps ks'[i])])) D2 (.lst (us.map V.ref ++ [.ref t]))) us (unitOf ps (ks'.take i)) := (hps.same st).store (st _ _ e3)
              refine keep.append (.cons ?_ .nil)
              rw [upd_ne hDt]; exact upd_same
            · exact Same.store (s3.trans (Same.upd ht)) hD2
          · have hz : tot ps ks'[i] = 0 := by
              have c' : decide (V.int (tot ps ks'[i]) = V.int 0) = true := by simpa using c
              have := of_decide_eq_true c'
              injection this
            refine ⟨us, hi, rfl, by omega, ?_, s3, e3⟩
            rw [etk2, unit_snoc, if_neg (fun z => z hz), List.append_nil]
            exact hps
        · rintro ys H3 ⟨us, _, rfl, _, hps, s3, e3⟩
          rw [List.take_length] at hps
          refine ⟨D2, _, rfl, .inl ⟨SqL.of e3, fun u hu2 => ?_⟩⟩
          refine q u ks' _ (((s2.trans ss).trans s3).trans (Same.upd hu2)) nd' (fun n => ?_) ⟨us, upd_same, hps.same (Same.upd hu2)⟩
          rw [hmem n]; exact hk n
end
end Fr

set_option Elab.async false
set_option linter.all false
set_option maxRecDepth 100000
set_option maxHeartbeats 400000
namespace Fr
open PySem PySem.Spec PyProof.Rows L2 FrM
section
variable {P : Program} {w : World} {K : PySem.W.Frag} {mg : Str → Option Value} {base : Heap}
theorem UnAt.same {H H' : Hp} {u : Addr} {ps : List (Str × Int)} (h : UnAt H u ps) (s : Same H H') : UnAt H' u ps := let ⟨us, e, p⟩ := h; ⟨us, s _ _ e, p.same s⟩
theorem RetU.same {H H' : Hp} {Q : VK} {ps : List (Str × Int)} (h : RetU H Q ps) (s : Same H H') : RetU H' Q ps := fun u ks H2 s2 a b c => h u ks H2 (s.trans s2) a b c
def spJoin : Sp := fun vs H Q _ => ∃ (a b : Addr) (ps qs : List (Str × Int)), vs = [.ref a, .ref b] ∧ UnAt H a ps ∧ UnAt H b qs ∧ (∀ p ∈ ps, Nm p.1) ∧ (∀ p ∈ qs, Nm p.1) ∧ ps.length + qs.length < 60 ∧ RetU H Q (ps ++ qs)
theorem scJoin : FnScope ["one", "other"] ["one", "other"] (defScope sJoin) := ⟨rfl, rfl, rfl, by decide +kernel, rfl, by decide +kernel, by decide +kernel⟩
theorem ok_join {f fU : Addr} {fd fdU : FuncData} (F : Fun K "joined" "joined" sJoin f fd) (B : Bn mg)
    (FU : Fun K "unit_of" "unit_of" sUnit fU fdU) (bU : Binds K fdU ["pairs"] []) (mU : mg "unit_of" = some (.ref fU)) (GU : FnOk P w K mg base CX0 4 fU fdU ["pairs"] spUnit) : FnOk P w K mg base CX0 5 f fd ["one", "other"] spJoin := by
  refine F.ok scJoin (fun vs H Q E h => ?_) (fun cdv A outer s H vs Q E hr h => ?_)
  · obtain ⟨a, b, ps, qs, rfl, _⟩ := h
    rfl
  · obtain ⟨a, b, ps, qs, rfl, ⟨us, ea, pa⟩, ⟨ts, eb, pb⟩, n1, n2, h60, q⟩ := h
    have l1 := Paired.length pa
    have l2 := Paired.length pb
    refine ⟨_, QB.out (b_one 
      (s_ret (q_call GU hr rfl mU FU.kp bU .nil pass0 (qc (q_callTy (call_listK (K := K) rfl) rfl B.list bt_list (qc (q_op (op_catE (K := K) rfl) (qv 0 rfl (.inl rfl) rfl rfl) (qv 1 rfl (.inl rfl) rfl rfl)) q_nil rfl) (by decide) rfl rfl rfl) q_nil rfl) rfl rfl rfl))), ?_⟩
    have nm : ∀ p ∈ ps ++ qs, Nm p.1 := fun p hp => (List.mem_append.mp hp).elim (n1 p) (n2 p)
    -- whatever tuple it is: one with the pairs of both
    have go : ∀ (t : Addr) (H1 : Hp), Same H H1 → SqT K H1 t ((us ++ ts).map V.ref) → ∃ p ys, [V.ref t] = [.ref p] ∧ (SqL K H1 p ys ∨ SqT K H1 p ys) ∧ ∀ l, H1 l = none → spUnit [.ref l] (L2.upd H1 l (.lst ys)) Q (fun _ _ _ => False) := by
      intro t H1 s1 ht
      refine ⟨t, _, rfl, .inr ht, fun l hl => ⟨l, us ++ ts, ps ++ qs, rfl, upd_same, ?_, nm, by simpa using h60, q.same (s1.trans (Same.upd hl))⟩⟩
      exact (pa.append pb).same (s1.trans (Same.upd hl))
    refine ⟨_, rfl, _, rfl, a, b, _, _, rfl, rfl, SqT.of ea, SqT.of eb, by simp only [List.length_map]; rw [sizeLine_eq]; omega, fun z => ?_, fun _ z => ?_, fun _ _ p hp => ?_⟩
    · have z' : us = [] := List.map_eq_nil_iff.mp z
      subst z'
      exact go b H (Same.refl H) (SqT.of eb)
    · have z' : ts = [] := List.map_eq_nil_iff.mp z
      subst z'
      exact go a H (Same.refl H) (by rw [List.append_nil]; exact SqT.of ea)
    · rw [← List.map_append]
      exact go p _ (Same.upd hp) (SqT.of upd_same)
def spPowd : Sp := fun vs H Q _ => ∃ (u : Addr) (ps : List (Str × Int)) (k : Int), vs = [.ref u, .int k] ∧ UnAt H u ps ∧ (∀ p ∈ ps, Nm p.1) ∧ ps.length < 60 ∧ -2 ≤ k ∧ k ≤ 2 ∧ RetU H Q (ps.map fun p => (p.1, p.2 * k))
theorem scPowd : FnScope ["unit", "exponent"] ["unit", "exponent"] (defScope sPowd) := ⟨rfl, rfl, rfl, by decide +kernel, rfl, by decide +kernel, by decide +kernel⟩
theorem ok_powd {f fU : Addr} {fd fdU : FuncData} (F : Fun K "powered" "powered" sPowd f fd) (B : Bn mg)
    (FU : Fun K "unit_of" "unit_of" sUnit fU fdU) (bU : Binds K fdU ["pairs"] []) (mU : mg "unit_of" = some (.ref fU)) (GU : FnOk P w K mg base CX0 4 fU fdU ["pairs"] spUnit) : FnOk P w K mg base CX0 5 f fd ["unit", "exponent"] spPowd := by
  refine F.ok scPowd (fun vs H Q E h => ?_) (fun cdv A outer s H vs Q E hr h => ?_)
  · obtain ⟨u, ps, k, rfl, _⟩ := h
    rfl
  · obtain ⟨u, ps, k, rfl, ⟨us, eu, pu⟩, nm, h60, k1, k2, q⟩ := h
    have lu := Paired.length pu
    refine ⟨_, QB.out (b_one 
      (s_ret (q_call GU hr rfl mU FU.kp bU .nil pass0 (qc (q_compS ["pair"] ["exponent"] [1] rfl (i_tup (K := K) rfl (qv 0 rfl (.inl rfl) rfl rfl)) rfl (by decide +kernel) rfl (by decide +kernel) (fun _ _ h => h) rfl (fr1 ⟨rfl, rfl, rfl, _, rfl, rfl⟩) (comp_has rfl) (fun C s₂ H₂ fp => (g_name 0 (show (["pair", "exponent"] : List Str).Nodup by decide +kernel) rfl (.inl rfl) (.inr rfl))) (fun C s₂ H₂ fp => ts_nil) (fun C s₂ H₂ fp => (q_tup (qc (q_ixt (K := K) rfl (qv 0 rfl (.inl rfl) rfl rfl) q_int (fun _ _ => rfl)) (qc (q_mul (q_ixt (K := K) rfl (qv 0 rfl (.inl rfl) rfl rfl) q_int (fun _ _ => rfl)) (qv 1 rfl (.inr (.inl rfl)) rfl rfl)) q_nil rfl) rfl))) (fun _ => rfl)) q_nil rfl) rfl rfl rfl))), ?_⟩
    refine ⟨_, rfl, u, rfl, ⟨_, SqT.of eu⟩, fun D hD => ?_⟩
    refine comp_inv us.length (fun i ys H' => ∃ ts : List Addr, i ≤ us.length ∧ ts.length = i ∧ ys = ts.map V.ref ∧ PsAt H' ts ((ps.take i).map fun p => (p.1, p.2 * k)) ∧ Same H H' ∧ H' D = some (.lst ys)) ⟨[], Nat.zero_le _, rfl, rfl, .nil, Same.upd hD, upd_same⟩ (by rw [sizeLine_eq]; omega) ?_ ?_ ?_
    · rintro i ys H3 hi ⟨ts, _, hl, rfl, _, s3, e3⟩
      have hq : SqT K H3 u (us.map V.ref) := SqT.of (s3 _ _ eu)
      refine ⟨by simp; omega, e3, fun h => ⟨_, _, hq, List.getElem?_eq_getElem (by simpa using h)⟩, fun h => ⟨_, hq, by simp; omega⟩⟩
    · rintro i ys H3 x H4 hi ⟨ts, _, hl, rfl, hps, s3, e3⟩ ⟨rfl, hx⟩ pre hpre
      obtain ⟨p0, rfl⟩ := List.length_eq_one_iff.mp hpre
      have hx' := hx _ (SqT.of (s3 _ _ eu))
      rw [List.getElem?_map, List.getElem?_eq_getElem hi] at hx'
      cases hx'
      obtain ⟨n, e, en, et⟩ := pu.get (List.getElem?_eq_getElem hi)
      have et3 := s3 _ _ et
      have etk : ps.take (i + 1) = ps.take i ++ [(n, e)] := by rw [List.take_add_one, en]; rfl
      refine ⟨⟨[some (.ref us[i])], rfl, rfl⟩, ?_⟩
      refine iteT ?_
      refine ⟨_, rfl, us[i], _, _, _, rfl, rfl, SqT.of et3, rfl, _, rfl, us[i], _, _, _, rfl, rfl, SqT.of et3, rfl, _, rfl, e, k, rfl, rfl, .inr ⟨by omega, by omega⟩, by show 2 ≤ sizeLine; decide, fun t ht => ⟨(Same.upd ht) _ _ e3, ts ++ [t], hi, by simp [hl], by simp, ?_, ?_, upd_same⟩⟩
      · have hDt : t ≠ D := fun z => by rw [z, e3] at ht; cases ht
        have st : Same H4 (L2.upd H4 t (.tup [.str n, .int (e * k)])) := Same.upd ht
        rw [etk, List.map_append]
        refine ((hps.same st).store (st _ _ e3)).append (.cons ?_ .nil)
        rw [upd_ne hDt]; exact upd_same
      · exact Same.store (s3.trans (Same.upd ht)) hD
    · rintro ys H3 ⟨ts, _, hl, rfl, hps, s3, e3⟩
      rw [lu, List.take_length] at hps
      refine ⟨D, ts, ps.map (fun p => (p.1, p.2 * k)), rfl, e3, hps, fun p hp => ?_, by simpa using h60, q.same s3⟩
      obtain ⟨p', hp', rfl⟩ := List.mem_map.mp hp
      exact nm p' hp'
end
end Fr

set_option Elab.async false
set_option linter.all false
set_option maxRecDepth 100000
set_option maxHeartbeats 400000
namespace Fr
open PySem PySem.Spec PyProof.Rows L2 FrM
section
variable {P : Program} {w : World} {K : PySem.W.Frag} {mg : Str → Option Value} {base : Heap}
/-- power_of of a fraction above nought, in a def that never raises -/
def spPowN : Sp := fun vs H Q _ => ∃ (p : Addr) (a b e : Int), vs = [.ref p, .int e] ∧ Tp H p a b ∧ 0 < a ∧ 0 < b ∧ -60 ≤ e ∧ e ≤ 60 ∧ Sz 20 a ∧ Sz 20 b ∧ RetT H Q [.int (up (a, b) e), .int (dn (a, b) e)]
theorem pow_nox {f BN : Addr} {fd : FuncData} {k : Nat} (G : FnOk P w K mg base (Fly P w) k f fd ["one", "exponent"] (spPow BN)) : FnOk P w K mg base CX0 k f fd ["one", "exponent"] spPowN :=
  ⟨fun vs H Q E ⟨p, a, b, e, h, _⟩ => by rw [h]; rfl, fun A outer s H args us vs Q E hr he hb hv hs => by
    obtain ⟨p, a, b, e, rfl, hp, ha, hb0, e1, e2, za, zb, q⟩ := hs
    refine codeAny_mono (G.run A outer s H args us _ Q (fun _ _ _ => False) hr he hb hv ⟨p, a, b, .int e, rfl, hp, .int e, fun e' h h0 => ?_, fun e' h h0 _ => ?_, fun e' h h0 hz => ?_, fun h => ?_⟩) fun r s' h => ?_
    · cases h
      refine ⟨e2, za, zb, ?_⟩
      unfold up dn at q
      rw [if_neg (by omega), if_neg (by omega)] at q
      exact q
    · cases h
      refine ⟨e1, za, zb, ?_⟩
      unfold up dn at q
      rw [if_pos h0, if_pos h0] at q
      rw [if_neg (by omega), if_neg (by omega)]
      exact q
    · omega
    · cases h
    · cases r with
      | ok fl => cases fl <;> exact h
      | error e =>
        obtain ⟨_, _, _, _, _, _, _, _, _, _, _, z⟩ := h
        exact z⟩
/-! rates -/
structure ExR (K : PySem.W.Frag) (mg : Str → Option Value) (BR : Addr) : Prop where
  mgR : mg "BadRate" = some (.ref BR)
  inR : PySem.W.excIn K BR [.type "ValueError", .type "Exception", .type "BaseException", .type "object"] "ValueError.__new__" = true
theorem k_none_dict (K : PySem.W.Frag) : PySem.W.kitOne K (.type "NoneType") (.type "dict") = some false := by kernel_rfl
theorem k_str_dict (K : PySem.W.Frag) : PySem.W.kitOne K (.type "str") (.type "dict") = some false := by kernel_rfl
theorem k_int_dict (K : PySem.W.Frag) : PySem.W.kitOne K (.type "int") (.type "dict") = some false := by kernel_rfl
theorem k_list_dict (K : PySem.W.Frag) : PySem.W.kitOne K (.type "list") (.type "dict") = some false := by kernel_rfl
theorem k_tuple_dict (K : PySem.W.Frag) : PySem.W.kitOne K (.type "tuple") (.type "dict") = some false := by kernel_rfl
theorem k_dict_dict (K : PySem.W.Frag) : PySem.W.kitOne K (.type "dict") (.type "dict") = some true := by kernel_rfl
/-- what is no dict -/
inductive NoD (H : Hp) : V → Prop
  | non : NoD H .non
  | str (x : Str) : NoD H (.str x)
  | int (i : Int) : NoD H (.int i)
  | lst {a : Addr} {xs : List V} (e : H a = some (.lst xs)) : NoD H (.ref a)
  | tup {a : Addr} {xs : List V} (e : H a = some (.tup xs)) : NoD H (.ref a)
theorem not_dict (K : PySem.W.Frag) {H : Hp} {x : V} (k : NoD H x) : ∃ t, TyOf K H x t ∧ PySem.W.kitOne K t (.type "dict") = some false := by
  cases k with
  | non => exact ⟨_, .non, k_none_dict K⟩
  | str x => exact ⟨_, .str x, k_str_dict K⟩
  | int x => exact ⟨_, .int x, k_int_dict K⟩
  | lst e => exact ⟨_, .lst e, k_list_dict K⟩
  | tup e => exact ⟨_, .tup e, k_tuple_dict K⟩
/-- a key that can be asked -/
def KeyOk : Key → Prop
  | .inl _ => True
  | .inr z => z.length ≤ 100
/-- a name with a fraction above nought -/
def GoodE (H : Hp) (p : Key × V) : Prop := ∃ (n : Str) (t : Addr) (a b : Int), p.1 = Sum.inr n ∧ Nm n ∧ p.2 = .ref t ∧ H t = some (.tup [.int a, .int b]) ∧ 0 < a ∧ 0 < b ∧ Int.gcd a b = 1
/-- and what is none -/
def BadE (H : Hp) (p : Key × V) : Prop := KeyOk p.1 ∧ (isNm (kV p.1) = false ∨ NoT H p.2 ∨ ∃ (t : Addr) (xs : List V), p.2 = .ref t ∧ H t = some (.tup xs) ∧ (∀ y ∈ xs, Kd H y) ∧ (isFr xs = false ∨ ∃ a b : Int, xs = [.int a, .int b] ∧ a ≤ 0))
/-- all is as it was, but that the dict at d may have become known to its object -/
def Same1 (d : Addr) (kvs : List (Key × V)) (H H' : Hp) : Prop := (∀ b o, b ≠ d → H b = some o → H' b = some o) ∧ Rd H' d (.dK kvs)
def spRates (BR : Addr) : Sp := fun vs H Q E => ∃ x : V, vs = [x] ∧ ((NoD H x ∧ E (.ref BR) none H) ∨ ∃ (d : Addr) (kvs : List (Key × V)), x = .ref d ∧ Rd H d (.dK kvs) ∧
  (((∀ p ∈ kvs, GoodE H p) ∧ ∀ H', Same H H' → Q .non H') ∨ ∃ i : Nat, (∀ p ∈ kvs.take i, GoodE H p) ∧ (∃ p, kvs[i]? = some p ∧ BadE H p) ∧ ∀ H', Same1 d kvs H H' → E (.ref BR) none H'))
theorem scRates : FnScope ["rates", "name", "rate"] ["rates"] (defScope sRates) := ⟨rfl, rfl, rfl, by decide +kernel, rfl, by decide +kernel, by decide +kernel⟩
theorem kd_move {H H' : Hp} {d : Addr} {kvs : List (Key × V)} {v : V} (hd : Rd H d (.dK kvs)) (s : ∀ b o, b ≠ d → H b = some o → H' b = some o) (k : Kd H v) : Kd H' v := by
  have ne : ∀ {a : Addr} {o : HO}, H a = some o → (∀ ob u, o ≠ .frz ob u) → (∀ x, o ≠ .dK x) → a ≠ d := fun e h1 h2 z => by
    subst z
    rcases hd with q | ⟨ob, q⟩
    · rw [q] at e; exact h2 _ (Option.some.inj e).symm
    · rw [q] at e; exact h1 _ _ (Option.some.inj e).symm
  cases k with
  | non => exact .non
  | bl b => exact .bl b
  | int i => exact .int i
  | str x => exact .str x
  | lst e => exact .lst (s _ _ (ne e (fun _ _ z => by cases z) (fun _ z => by cases z)) e)
  | tup e => exact .tup (s _ _ (ne e (fun _ _ z => by cases z) (fun _ z => by cases z)) e)
theorem not_move {H H' : Hp} {d : Addr} {kvs : List (Key × V)} {v : V} (hd : Rd H d (.dK kvs)) (s : ∀ b o, b ≠ d → H b = some o → H' b = some o) (k : NoT H v) : NoT H' v := by
  cases k with
  | non => exact .non
  | str x => exact .str x
  | int i => exact .int i
  | @lst a xs e =>
    refine .lst (s _ _ (fun z => ?_) e)
    subst z
    rcases hd with q | ⟨ob, q⟩ <;> rw [q] at e <;> cases e
theorem ne_dict {H : Hp} {d a : Addr} {kvs : List (Key × V)} {o : HO} (hd : Rd H d (.dK kvs)) (e : H a = some o) (h1 : ∀ ob u, o ≠ .frz ob u) (h2 : ∀ x, o ≠ .dK x) : a ≠ d := fun z => by
  subst z
  rcases hd with q | ⟨ob, q⟩
  · rw [q] at e; exact h2 _ (Option.some.inj e).symm
  · rw [q] at e; exact h1 _ _ (Option.some.inj e).symm
theorem ok_rates {f fN fI BR : Addr} {fd fdN fdI : FuncData} (F : Fun K "need_rates" "need_rates" sRates f fd) (B : Bn mg) (X : ExR K mg BR)
    (FN : Fun K "is_name" "is_name" sName fN fdN) (bN : Binds K fdN ["thing"] []) (mN : mg "is_name" = some (.ref fN)) (GN : FnOk P w K mg base CX0 2 fN fdN ["thing"] spName)
    (FI : Fun K "is_fraction" "is_fraction" sIsF fI fdI) (bI : Binds K fdI ["thing"] []) (mI : mg "is_fraction" = some (.ref fI)) (GI : FnOk P w K mg base CX0 2 fI fdI ["thing"] spIsF) :
    FnOk P w K mg base (Fly P w) 3 f fd ["rates"] (spRates BR) := by
  refine (Fr.Fun.toD F).okX scRates (fun vs H Q E h => ?_) (fun cdv A outer s H vs Q E hr h => ?_)
  · obtain ⟨x, rfl, _⟩ := h
    rfl
  · obtain ⟨x, rfl, h⟩ := h
    have hr2 : Room 2 _ := hr.mono (by decide)
    refine ⟨_, QB.out (b_thaw (b_cons 
      (s_if (t_not (t_val (q_callB (call_isiDK (K := K) rfl) rfl B.isi bt_isinstance (qc (qv 0 rfl (.inl rfl) rfl rfl) (qc (q_bltn (v := .ty "dict") rfl B.dict bt_dict rfl (by decide) rfl) q_nil rfl) rfl) (by decide) rfl rfl rfl) (fun _ => rfl))) (b_one 
        (s_raise X.inR raises_fly rfl rfl X.mgR (qc q_str q_nil rfl) rfl rfl rfl)) b_nil) (b_one 
      (s_forS PassesOwn.leaving rfl (i_items (qv 0 rfl (.inl rfl) rfl rfl) rfl rfl) (g_tup (K := K) rfl rfl (g_cons (g_name 1 scRates.nd rfl (Or.inl rfl) (.inr rfl)) (g_cons (g_name 2 scRates.nd rfl (Or.inl rfl) (.inr rfl)) g_nil rfl) rfl) rfl rfl) (b_one 
        (s_if (t_w (w_or (t_not (t_val (q_call GN hr2 rfl mN FN.kp bN .nil pass0 (qc (qv 1 rfl (.inl rfl) rfl rfl) q_nil rfl) rfl rfl rfl) (fun _ => rfl))) (w_or (t_not (t_val (q_call GI hr2 rfl mI FI.kp bI .nil pass0 (qc (qv 2 rfl (.inl rfl) rfl rfl) q_nil rfl) rfl rfl rfl) (fun _ => rfl))) (w_or1 (t_cmp op_le (q_ixt (K := K) rfl (qv 2 rfl (.inl rfl) rfl rfl) q_int (fun _ _ => rfl)) q_int rfl))))) (b_one 
          (s_raise X.inR raises_fly rfl rfl X.mgR (qc q_str q_nil rfl) rfl rfl rfl)) b_nil)) (fun _ => rfl))))), ?_⟩
    rcases h with ⟨nd, q⟩ | ⟨d, kvs, rfl, hd, h⟩
    · obtain ⟨t, ty, e⟩ := not_dict K nd
      refine .inl ⟨_, rfl, _, .ty "dict", .type "dict", _, rfl, rfl, .inl ⟨t, ty, e⟩, _, rfl, ?_⟩
      refine iteT ?_
      exact ⟨by show 1 ≤ sizeLine; decide, q⟩
    · obtain ⟨lim, hlim, good, h⟩ : ∃ lim, lim ≤ kvs.length ∧ (∀ p ∈ kvs.take lim, GoodE H p) ∧ ((lim = kvs.length ∧ ∀ H', Same H H' → Q .non H') ∨ ((∃ p, kvs[lim]? = some p ∧ BadE H p) ∧ ∀ H', Same1 d kvs H H' → E (.ref BR) none H')) := by
        rcases h with ⟨g, q⟩ | ⟨i, g, ⟨p, e, b⟩, q⟩
        · exact ⟨kvs.length, Nat.le_refl _, by rw [List.take_length]; exact g, .inl ⟨rfl, q⟩⟩
        · exact ⟨i, Nat.le_of_lt (List.getElem?_eq_some_iff.mp e).1, g, .inr ⟨⟨p, e, b⟩, q⟩⟩
      refine .inr ⟨d, kvs, hd, ?_⟩
      refine ⟨_, rfl, _, .ty "dict", .type "dict", _, rfl, rfl, .inr ⟨d, kvs, rfl, hd, k_dict_dict K⟩, _, rfl, ?_⟩
      refine iteF ?_
      refine ⟨_, rfl, d, kvs, rfl, hd, fun ob hob => ?_⟩
      -- what is no dict stays where the dict is known
      have nf : ∀ b o, b ≠ d → H b = some o → L2.upd H d (.frz ob (.dK kvs)) b = some o := fun b o hb e => by rw [upd_ne hb]; exact e
      refine for_inv kvs.length (fun i σ H' => i ≤ lim ∧ (∃ v1 v2, σ = [some (.ref d), v1, v2]) ∧ Same (L2.upd H d (.frz ob (.dK kvs))) H') ⟨Nat.zero_le _, ⟨none, none, rfl⟩, Same.refl _⟩ ?_ ?_ ?_ ?_
      · rintro i σ H2 hi ⟨_, _, s2⟩
        exact ⟨s2 _ _ upd_same, hi⟩
      · rintro σ H2 ⟨_, _, s2⟩
        exact ⟨s2 _ _ upd_same, Nat.le_refl _⟩
      · rintro i σ H2 x H3 hi ⟨hil, ⟨v1, v2, rfl⟩, s2⟩ ⟨t, k, v, hkv, ht, rfl, rfl⟩
        have s3 : Same (L2.upd H d (.frz ob (.dK kvs))) (L2.upd H2 t (.tup [kV k, v])) := s2.trans (Same.upd ht)
        refine ⟨t, _, rfl, SqT.of upd_same, rfl, _, _, rfl, _, _, rfl, rfl, ?_⟩
        by_cases hlt : i < lim
        · obtain ⟨n, t0, a, b, e1, nm, e2, e3, ha, hb, hg⟩ := good (k, v) (List.mem_of_getElem? (i := i) (by rw [List.getElem?_take_of_lt hlt]; exact hkv))
          simp only at e1 e2
          subst e1 e2
          have e4 : L2.upd H2 t (.tup [kV (Sum.inr n), .ref t0]) t0 = some (.tup [.int a, .int b]) := s3 _ _ (nf _ _ (ne_dict hd e3 (fun _ _ z => by cases z) (fun _ z => by cases z)) e3)
          refine ⟨_, rfl, _, rfl, .inl ⟨n, rfl, by have := nm.len; omega⟩, fun H4 s4 => ⟨_, rfl, ?_⟩⟩
          rw [show isNm (kV (Sum.inr n)) = true from nm]
          refine iteF ?_
          refine ⟨_, rfl, _, rfl, .inr ⟨t0, _, rfl, s4 _ _ e4, (fun y hy => by
            rcases List.mem_cons.mp hy with z | z
            · subst z; exact .int a
            · have z' : y = .int b := by simpa using z
              subst z'; exact .int b), _, rfl, ?_⟩⟩
          have fr : isFr [.int a, .int b] = true := by
            show (decide (0 < b) && decide (Int.gcd a b = 1)) = true
            rw [decide_eq_true hb, decide_eq_true hg]; rfl
          rw [fr]
          refine iteF ?_
          refine ⟨_, rfl, t0, _, _, _, rfl, rfl, SqT.of (s4 _ _ e4), rfl, a, 0, rfl, rfl, _, rfl, ?_⟩
          rw [decide_eq_false (show ¬ a ≤ 0 by omega)]
          refine iteF ?_
          exact ⟨hlt, ⟨_, _, rfl⟩, s3.trans s4⟩
        · have ei : i = lim := by omega
          subst ei
          rcases h with ⟨z, _⟩ | ⟨⟨p, hp, hk, hb⟩, q⟩
          · omega
          · rw [hkv] at hp
            cases hp
            have fin : ∀ H4, Same (L2.upd H d (.frz ob (.dK kvs))) H4 → Same1 d kvs H H4 := fun H4 s4 => ⟨fun b o hb e => s4 _ _ (nf b o hb e), .inr ⟨ob, s4 _ _ upd_same⟩⟩
            have key : (∃ z : Str, kV k = .str z ∧ z.length ≤ 100) ∨ ∃ i, kV k = .int i := by
              cases k with
              | inl i => exact .inr ⟨i, rfl⟩
              | inr z => exact .inl ⟨z, rfl, hk⟩
            refine ⟨_, rfl, _, rfl, key, fun H4 s4 => ⟨_, rfl, ?_⟩⟩
            have s5 := s3.trans s4
            have mv : ∀ b o, b ≠ d → H b = some o → H4 b = some o := fun b o hb e => s5 _ _ (nf b o hb e)
            cases hn : isNm (kV k) with
            | false =>
              refine iteT ?_
              refine iteT ?_
              exact ⟨by show 1 ≤ sizeLine; decide, q _ (fin _ s5)⟩
            | true =>
              refine iteF ?_
              rcases hb with z | z | ⟨t1, xs, ev, e1, kd, z⟩
              · simp only at z
                rw [hn] at z; cases z
              · refine ⟨_, rfl, _, rfl, .inl ⟨not_move hd mv z, _, rfl, ?_⟩⟩
                refine iteT ?_
                refine iteT ?_
                exact ⟨by show 1 ≤ sizeLine; decide, q _ (fin _ s5)⟩
              · simp only at ev
                subst ev
                have e2 : H4 t1 = some (.tup xs) := mv _ _ (ne_dict hd e1 (fun _ _ z => by cases z) (fun _ z => by cases z)) e1
                refine ⟨_, rfl, _, rfl, .inr ⟨t1, xs, rfl, e2, fun y hy => kd_move hd mv (kd y hy), _, rfl, ?_⟩⟩
                cases hf : isFr xs with
                | false =>
                  refine iteT ?_
                  refine iteT ?_
                  exact ⟨by show 1 ≤ sizeLine; decide, q _ (fin _ s5)⟩
                | true =>
                  refine iteF ?_
                  rcases z with z | ⟨a, b, rfl, ha⟩
                  · rw [hf] at z; cases z
                  · refine ⟨_, rfl, t1, _, _, _, rfl, rfl, SqT.of e2, rfl, a, 0, rfl, rfl, _, rfl, ?_⟩
                    rw [decide_eq_true ha]
                    refine iteT ?_
                    exact ⟨by show 1 ≤ sizeLine; decide, q _ (fin _ s5)⟩
      · rintro σ H2 ⟨hil, ⟨v1, v2, rfl⟩, s2⟩
        have el : lim = kvs.length := by omega
        rcases h with ⟨_, q⟩ | ⟨⟨p, hp, _⟩, _⟩
        · refine ⟨ob, s2 _ _ upd_same, fun e => q _ fun b o e1 => ?_, fun o0 e => q _ fun b o e1 => ?_⟩
          · by_cases hb : b = d
            · subst hb
              rw [e] at e1
              cases e1
              exact upd_same
            · rw [upd_ne hb]; exact s2 _ _ (nf b o hb e1)
          · have eo := hob o0 _ e
            subst eo
            by_cases hb : b = d
            · subst hb
              rw [e] at e1
              cases e1
              exact s2 _ _ upd_same
            · exact s2 _ _ (nf b o hb e1)
        · rw [el] at hp
          simp at hp
end
end Fr

set_option Elab.async false
set_option linter.all false
set_option maxRecDepth 100000
set_option maxHeartbeats 400000
namespace Fr
open PySem PySem.Spec PyProof.Rows L2 FrM
theorem valV_fun {f : Str → V} {ns : List Str} {m : Str} : valV (ns.map fun n => ((Sum.inr n : Key), f n)) (Sum.inr m) = if m ∈ ns then some (f m) else none := by
  induction ns with
  | nil => simp [valV_nil]
  | cons k ks ih =>
    rw [List.map_cons]
    by_cases e : k = m
    · subst e
      rw [if_pos (by simp)]
      exact valV_pos rfl
    · rw [valV_neg (fun z => e (Sum.inr.inj z)), ih]
      by_cases hm : m ∈ ks
      · rw [if_pos hm, if_pos (by simp [hm])]
      · rw [if_neg hm, if_neg (by simp [hm, Ne.symm e])]
/-- rates -/
abbrev rtD (ns : List Str) (ad : Str → Addr) : List (Key × V) := ns.map fun n => ((Sum.inr n : Key), V.ref (ad n))
structure RtAt (H : Hp) (d : Addr) (ns : List Str) (ad : Str → Addr) (r : Str → Pr) : Prop where
  rd : Rd H d (.dK (rtD ns ad))
  at' : ∀ n ∈ ns, H (ad n) = some (.tup [.int (r n).1, .int (r n).2])
  nm : ∀ n ∈ ns, Nm n
  cop : ∀ n ∈ ns, Int.gcd (r n).1 (r n).2 = 1
  pos : Pos r
  sml : Sml r
theorem Rd.same {H H' : Hp} {d : Addr} {u : HO} (h : Rd H d u) (s : Same H H') : Rd H' d u := by
  rcases h with e | ⟨o, e⟩
  · exact .inl (s _ _ e)
  · exact .inr ⟨o, s _ _ e⟩
theorem RtAt.same {H H' : Hp} {d : Addr} {ns : List Str} {ad : Str → Addr} {r : Str → Pr} (h : RtAt H d ns ad r) (s : Same H H') : RtAt H' d ns ad r :=
  ⟨Rd.same h.rd s, fun n hn => s _ _ (h.at' n hn), h.nm, h.cop, h.pos, h.sml⟩
theorem RtAt.good {H : Hp} {d : Addr} {ns : List Str} {ad : Str → Addr} {r : Str → Pr} (h : RtAt H d ns ad r) : ∀ p ∈ rtD ns ad, GoodE H p := by
  intro p hp
  obtain ⟨n, hn, rfl⟩ := List.mem_map.mp hp
  exact ⟨n, ad n, (r n).1, (r n).2, rfl, h.nm n hn, rfl, h.at' n hn, (h.pos n).1, (h.pos n).2, h.cop n hn⟩
theorem RtAt.get {H : Hp} {d : Addr} {ns : List Str} {ad : Str → Addr} {r : Str → Pr} (h : RtAt H d ns ad r) {n : Str} (hn : n ∈ ns) : DGet H d (.str n) (some (.ref (ad n))) :=
  .inl ⟨_, Sum.inr n, h.rd, rfl, by rw [valV_fun, if_pos hn]⟩
theorem RtAt.lack {H : Hp} {d : Addr} {ns : List Str} {ad : Str → Addr} {r : Str → Pr} (h : RtAt H d ns ad r) {n : Str} (hn : n ∉ ns) : DGet H d (.str n) none :=
  .inl ⟨_, Sum.inr n, h.rd, rfl, by rw [valV_fun, if_neg hn]⟩
section
variable {P : Program} {w : World} {K : PySem.W.Frag} {mg : Str → Option Value} {base : Heap}
theorem sqT_same {K : PySem.W.Frag} {H H' : Hp} {a : Addr} {xs : List V} (s : Same H H') (h : SqT K H a xs) : SqT K H' a xs := by
  rcases h with h | h
  · exact .inl (Rd.same h s)
  · exact .inr h
/-- a fraction comes back, all else is as it was -/
def RetF (K : PySem.W.Frag) (H : Hp) (Q : VK) (C D : Int) : Prop := ∀ r H', Same H H' → SqT K H' r [.int (fa C D), .int (fb C D)] → Q (.ref r) H'
theorem RetF.same {H H' : Hp} {Q : VK} {C D : Int} (h : RetF K H Q C D) (s : Same H H') : RetF K H' Q C D := fun r H2 s2 t => h r H2 (s.trans s2) t
/-- rates that are none, and what comes of them -/
def BadR (BR : Addr) (H : Hp) (E : XK) (x : V) : Prop := (NoD H x ∧ E (.ref BR) none H) ∨ ∃ (d : Addr) (kvs : List (Key × V)), x = .ref d ∧ Rd H d (.dK kvs) ∧
  ∃ i : Nat, (∀ p ∈ kvs.take i, GoodE H p) ∧ (∃ p, kvs[i]? = some p ∧ BadE H p) ∧ ∀ H', Same1 d kvs H H' → E (.ref BR) none H'
def spMeas (K : PySem.W.Frag) (BR : Addr) : Sp := fun vs H Q E => ∃ (u : Addr) (x : V) (ps : List (Str × Int)), vs = [.ref u, x] ∧ UnAt H u ps ∧ (BadR BR H E x ∨ ∃ (d : Addr) (ns : List Str) (ad : Str → Addr) (r : Str → Pr), x = .ref d ∧ RtAt H d ns ad r ∧
  (((∀ p ∈ ps, p.1 ∈ ns) ∧ wt ps ≤ 60 ∧ RetF K H Q (rA r ps) (rB r ps)) ∨ ((∃ n e rest, ps = (n, e) :: rest ∧ n ∉ ns) ∧ ∀ H', Same H H' → E (.ref BR) none H')))
theorem scMeas : FnScope ["unit", "rates", "measure", "pair"] ["unit", "rates"] (defScope sMeas) := ⟨rfl, rfl, rfl, by decide +kernel, rfl, by decide +kernel, by decide +kernel⟩
theorem ok_meas {f fR fP fW BR W O : Addr} {fd fdR fdP fdW : FuncData} (F : Fun K "measure_of" "measure_of" sMeas f fd) (B : Bn mg) (X : ExR K mg BR) (G : Gv K mg W O)
    (FR : Fun K "need_rates" "need_rates" sRates fR fdR) (bR : Binds K fdR ["rates"] []) (mR : mg "need_rates" = some (.ref fR)) (GR : FnOk P w K mg base (Fly P w) 4 fR fdR ["rates"] (spRates BR))
    (FP : Fun K "product_of" "product_of" sProd fP fdP) (bP : Binds K fdP ["one", "other"] []) (mP : mg "product_of" = some (.ref fP)) (GP : FnOk P w K mg base CX0 4 fP fdP ["one", "other"] (spProd K))
    (FW : Fun K "power_of" "power_of" sPow fW fdW) (bW : Binds K fdW ["one", "exponent"] []) (mW : mg "power_of" = some (.ref fW)) (GW : FnOk P w K mg base CX0 3 fW fdW ["one", "exponent"] spPowN) :
    FnOk P w K mg base (Fly P w) 5 f fd ["unit", "rates"] (spMeas K BR) := by
  refine (Fr.Fun.toD F).okX scMeas (fun vs H Q E h => ?_) (fun cdv A outer s H vs Q E hr h => ?_)
  · obtain ⟨u, x, ps, rfl, _⟩ := h
    rfl
  · obtain ⟨u, x, ps, rfl, ⟨us, eu, pu⟩, h⟩ := h
    have hr3 : Room 3 _ := hr.mono (by decide)
    have hu := hu_of hr
    have lu := Paired.length pu
    refine ⟨_, QB.out (b_cons 
      (s_expr (q_callS GR hr rfl mR FR.kp bR .nil pass_fly (qc (qv 1 rfl (.inl rfl) rfl rfl) q_nil rfl) rfl rfl rfl) rfl) (b_cons 
      (s_set 2 scMeas.nd rfl (Or.inl rfl) (q_glob (v := .ref O) rfl G.mo rfl rfl) rfl (.inr rfl)) (b_cons 
      (s_forS PassesOwn.leaving rfl (i_tup (K := K) rfl (qv 0 rfl (.inl rfl) rfl rfl)) (g_name 3 scMeas.nd rfl (Or.inl rfl) (.inr rfl)) (b_cons 
        (s_if (t_dnotin hu (q_ixt (K := K) rfl (qv 3 rfl (.inl rfl) rfl rfl) q_int (fun _ _ => rfl)) (qv 1 rfl (.inl rfl) rfl rfl) rfl) (b_one 
          (s_raise X.inR raises_fly rfl rfl X.mgR (qc q_str q_nil rfl) rfl rfl rfl)) b_nil) (b_one 
        (s_set 2 scMeas.nd rfl (Or.inl rfl) (q_call GP hr rfl mP FP.kp bP .nil pass0 (qc (qv 2 rfl (.inl rfl) rfl rfl) (qc (q_call GW hr3 rfl mW FW.kp bW .nil pass0 (qc (q_dget hu (qv 1 rfl (.inl rfl) rfl rfl) (q_ixt (K := K) rfl (qv 3 rfl (.inl rfl) rfl rfl) q_int (fun _ _ => rfl)) (fun _ _ => rfl)) (qc (q_ixt (K := K) rfl (qv 3 rfl (.inl rfl) rfl rfl) q_int (fun _ _ => rfl)) q_nil rfl) rfl) rfl rfl rfl) q_nil rfl) rfl) rfl rfl rfl) rfl (.inr rfl)))) (fun _ => rfl)) (b_one 
      (s_ret (qv 2 rfl (.inl rfl) rfl rfl)))))), ?_⟩
    rcases h with bad | ⟨d, ns, ad, r, rfl, rt, h⟩
    · refine ⟨_, rfl, x, rfl, ?_⟩
      rcases bad with ⟨nd, q⟩ | ⟨d, kvs, rfl, hd, i, g, b, q⟩
      · exact .inl ⟨nd, q⟩
      · exact .inr ⟨d, kvs, rfl, hd, .inr ⟨i, g, b, q⟩⟩
    · refine ⟨_, rfl, _, rfl, .inr ⟨d, _, rfl, rt.rd, .inl ⟨rt.good, fun H1 s1 => ?_⟩⟩⟩
      refine ⟨_, rfl, u, rfl, ⟨_, SqT.of (s1 _ _ eu)⟩, ?_⟩
      rcases h with ⟨hin, hw, q⟩ | ⟨⟨n, e, rest, rfl, hn⟩, q⟩
      · have Cp : ∀ i, 0 < rA r (ps.take i) := fun i => rA_pos rt.pos _
        have Dp : ∀ i, 0 < rB r (ps.take i) := fun i => rB_pos rt.pos _
        have zC : ∀ i, Sz 1900 (rA r (ps.take i)) := fun i => sz_of_le (rA_le rt.sml _) (by have := wt_take ps i; omega)
        have zD : ∀ i, Sz 1900 (rB r (ps.take i)) := fun i => sz_of_le (rB_le rt.sml _) (by have := wt_take ps i; omega)
        refine for_inv us.length (fun i σ H' => ∃ (m : Addr) (v : Option V), σ = [some (.ref u), some (.ref d), some (.ref m), v] ∧ Same H H' ∧ SqT K H' m [.int (fa (rA r (ps.take i)) (rB r (ps.take i))), .int (fb (rA r (ps.take i)) (rB r (ps.take i)))]) ?_ ?_ ?_ ?_ ?_
        · refine ⟨O, none, rfl, s1, ?_⟩
          have e1 : rA r (ps.take 0) = 1 := rfl
          have e2 : rB r (ps.take 0) = 1 := rfl
          rw [e1, e2, fa_one, fb_one]
          exact G.ko H1
        · rintro i σ H2 hi ⟨m, v, _, s2, _⟩
          exact ⟨_, _, SqT.of (s2 _ _ eu), List.getElem?_eq_getElem (by simpa using hi)⟩
        · rintro σ H2 ⟨m, v, _, s2, _⟩
          exact ⟨_, SqT.of (s2 _ _ eu), by simp⟩
        · rintro i σ H2 x H3 hi ⟨m, v, rfl, s2, hm⟩ ⟨rfl, hx⟩
          have hx' := hx _ (SqT.of (s2 _ _ eu))
          rw [List.getElem?_map, List.getElem?_eq_getElem hi] at hx'
          cases hx'
          obtain ⟨n, e, en, et⟩ := pu.get (List.getElem?_eq_getElem hi)
          have et3 := s2 _ _ et
          have hmem : (n, e) ∈ ps := List.mem_of_getElem? en
          have hns : n ∈ ns := hin _ hmem
          have etk : ps.take (i + 1) = ps.take i ++ [(n, e)] := by rw [List.take_add_one, en]; rfl
          have we : e.natAbs ≤ 60 := Nat.le_trans (wt_mem hmem) hw
          have rt3 := rt.same s2
          refine ⟨_, rfl, us[i], _, _, _, rfl, rfl, SqT.of et3, rfl, _, rfl, d, _, rfl, rt3.get hns, _, rfl, ?_⟩
          refine iteF ?_
          refine ⟨_, rfl, _, rfl, _, rfl, us[i], _, _, _, rfl, rfl, SqT.of et3, rfl, d, _, rfl, rt3.get hns, _, rfl, us[i], _, _, _, rfl, rfl, SqT.of et3, rfl,
            ad n, (r n).1, (r n).2, e, rfl, rt3.at' n hns, (rt.pos n).1, (rt.pos n).2, by omega, by omega, (rt.sml n).1, (rt.sml n).2, fun p H4 s4 n4 e4 => ?_⟩
          refine ⟨m, p, _, _, _, _, rfl, sqT_same s4 hm, SqT.of e4, fb_pos _ (Dp i), dn_pos (rt.pos n).1 (rt.pos n).2 e, fa_sz (zC i) (Dp i), fb_sz (zD i) (Dp i), sz_of_le (up_le (rt.sml n).1 (rt.sml n).2 e) (by omega), sz_of_le (dn_le (rt.sml n).1 (rt.sml n).2 e) (by omega), fun p2 H5 s5 n5 e5 => ?_⟩
          refine ⟨p2, _, rfl, (s2.trans s4).trans s5, ?_⟩
          obtain ⟨z1, z2⟩ := f_step (C := rA r (ps.take i)) (up (r n) e) (dn (r n) e) (Dp i) (dn_pos (rt.pos n).1 (rt.pos n).2 e)
          rw [etk, rA_append, rB_append, rA_one, rB_one, ← z1, ← z2]
          exact SqT.of e5
        · rintro σ H2 ⟨m, v, rfl, s2, hm⟩
          rw [lu, List.take_length] at hm
          exact ⟨_, rfl, q m H2 s2 hm⟩
      · refine for_inv us.length (fun i σ H' => i = 0 ∧ (∃ v2 v3, σ = [some (.ref u), some (.ref d), v2, v3]) ∧ Same H H') ⟨rfl, ⟨_, none, rfl⟩, s1⟩ ?_ ?_ ?_ ?_
        · rintro i σ H2 hi ⟨_, _, s2⟩
          exact ⟨_, _, SqT.of (s2 _ _ eu), List.getElem?_eq_getElem (by simpa using hi)⟩
        · rintro σ H2 ⟨_, _, s2⟩
          exact ⟨_, SqT.of (s2 _ _ eu), by simp⟩
        · rintro i σ H2 x H3 hi ⟨rfl, ⟨v2, v3, rfl⟩, s2⟩ ⟨rfl, hx⟩
          have hx' := hx _ (SqT.of (s2 _ _ eu))
          rw [List.getElem?_map, List.getElem?_eq_getElem hi] at hx'
          cases hx'
          obtain ⟨n', e', en, et⟩ := pu.get (List.getElem?_eq_getElem hi)
          cases en
          refine ⟨_, rfl, us[0], _, _, _, rfl, rfl, SqT.of (s2 _ _ et), rfl, _, rfl, d, _, rfl, (rt.same s2).lack hn, _, rfl, ?_⟩
          refine iteT ?_
          exact ⟨by show 1 ≤ sizeLine; decide, q _ s2⟩
        · rintro σ H2 ⟨z, _, _⟩
          rw [lu] at z
          simp at z
end
end Fr

set_option Elab.async false
set_option linter.all false
set_option maxRecDepth 100000
set_option maxHeartbeats 400000
namespace Fr
open PySem PySem.Spec PyProof.Rows L2 FrM
section
variable {P : Program} {w : World} {K : PySem.W.Frag} {mg : Str → Option Value} {base : Heap}
/-- measure_of of rates, in a def that never raises -/
def spMeasN (K : PySem.W.Frag) : Sp := fun vs H Q _ => ∃ (u d : Addr) (ps : List (Str × Int)) (ns : List Str) (ad : Str → Addr) (r : Str → Pr), vs = [.ref u, .ref d] ∧ UnAt H u ps ∧ RtAt H d ns ad r ∧ (∀ p ∈ ps, p.1 ∈ ns) ∧ wt ps ≤ 60 ∧ RetF K H Q (rA r ps) (rB r ps)
theorem meas_nox {f BR : Addr} {fd : FuncData} {k : Nat} (G : FnOk P w K mg base (Fly P w) k f fd ["unit", "rates"] (spMeas K BR)) : FnOk P w K mg base CX0 k f fd ["unit", "rates"] (spMeasN K) :=
  ⟨fun vs H Q E ⟨u, d, ps, ns, ad, r, h, _⟩ => by rw [h]; rfl, fun A outer s H args us vs Q E hr he hb hv hs => by
    obtain ⟨u, d, ps, ns, ad, r, rfl, hu, rt, hin, hw, q⟩ := hs
    refine codeAny_mono (G.run A outer s H args us _ Q (fun _ _ _ => False) hr he hb hv ⟨u, _, ps, rfl, hu, .inr ⟨d, ns, ad, r, rfl, rt, .inl ⟨hin, hw, q⟩⟩⟩) fun r s' h => ?_
    cases r with
    | ok fl => cases fl <;> exact h
    | error e =>
      obtain ⟨_, _, _, _, _, _, _, _, _, _, _, z⟩ := h
      exact z⟩
theorem unit_len (ps : List (Str × Int)) (ks : List Str) : (unitOf ps ks).length ≤ wt (unitOf ps ks) := by
  have gen : ∀ qs : List (Str × Int), (∀ p ∈ qs, p.2 ≠ 0) → qs.length ≤ wt qs := by
    intro qs
    induction qs with
    | nil => intro _; simp
    | cons p qs ih =>
      intro h
      have h1 := h p (by simp)
      have h2 := ih fun q hq => h q (by simp [hq])
      simp only [List.length_cons, wt]
      omega
  refine gen _ fun p hp => ?_
  have := (List.mem_filter.mp hp).2
  simpa using this
/-! _law_unit -/
def spLUnit (K : PySem.W.Frag) : Sp := fun vs H Q _ => ∃ (n : Int) (l : Addr) (ns : List Str) (most : Int), vs = [.int n, .ref l, .int most] ∧ 0 ≤ n ∧ SqL K H l (ns.map V.str) ∧ ns.length = 5 ∧ (∀ x ∈ ns, Nm x) ∧ 0 ≤ most ∧ most ≤ 9 ∧
  ∀ u ps H', Same H H' → UnAt H' u ps → (∀ p ∈ ps, p.1 ∈ ns) → wt ps ≤ 4 * most.toNat → ps.length ≤ wt ps → Q (.ref u) H'
theorem scLUnit : FnScope ["_law_number_here", "_law_names", "_law_most", "_law_found", "_law_k", "_law_more"] ["_law_number_here", "_law_names", "_law_most"] (defScope lUnit) := ⟨rfl, rfl, rfl, by decide +kernel, rfl, by decide +kernel, by decide +kernel⟩
theorem ok_lunit {f fM fU : Addr} {fd fdM fdU : FuncData} (F : Fun K "_law_unit" "_law_unit" lUnit f fd) (B : Bn mg)
    (FM : Fun K "_law_mixed" "_law_mixed" lMix fM fdM) (bM : Binds K fdM ["_law_number_here", "_law_k"] []) (mM : mg "_law_mixed" = some (.ref fM))
    (FU : Fun K "unit_of" "unit_of" sUnit fU fdU) (bU : Binds K fdU ["pairs"] []) (mU : mg "unit_of" = some (.ref fU)) (GU : FnOk P w K mg base CX0 4 fU fdU ["pairs"] spUnit) :
    FnOk P w K mg base CX0 5 f fd ["_law_number_here", "_law_names", "_law_most"] (spLUnit K) := by
  have GM : FnOk P w K mg base CX0 1 fM fdM ["_law_number_here", "_law_k"] spMix := ok_mix FM
  refine F.ok scLUnit (fun vs H Q E h => ?_) (fun cdv A outer s H vs Q E hr h => ?_)
  · obtain ⟨n, l, ns, most, rfl, _⟩ := h
    rfl
  · obtain ⟨n, l, ns, most, rfl, n0, hl, h5, nm, m0, m9, q⟩ := h
    have hr1 : Room 1 _ := hr.mono (by decide)
    refine ⟨_, QB.out (b_cons 
      (s_set 3 scLUnit.nd rfl (Or.inl rfl) (q_lst q_nil) rfl (.inr rfl)) (b_cons 
      (s_forS PassesOwn.never rfl (i_rng1 rfl B.range (qc (q_mod (qv 0 rfl (.inl rfl) rfl rfl) q_int) q_nil rfl) rfl) (g_name 4 scLUnit.nd rfl (Or.inl rfl) (.inr rfl)) (b_cons 
        (s_set 5 scLUnit.nd rfl (Or.inl rfl) (q_call GM hr1 rfl mM FM.kp bM .nil pass0 (qc (qv 0 rfl (.inl rfl) rfl rfl) (qc (qv 4 rfl (.inl rfl) rfl rfl) q_nil rfl) rfl) rfl rfl rfl) rfl (.inr rfl)) (b_one 
        (s_expr (q_append (K := K) rfl (qv 3 rfl (.inl rfl) rfl rfl) (q_tup (qc (q_ixl (K := K) rfl (qv 1 rfl (.inl rfl) rfl rfl) (q_mod (qv 5 rfl (.inl rfl) rfl rfl) q_int) (fun _ _ => rfl)) (qc (q_sub (q_mod (q_fdiv (qv 5 rfl (.inl rfl) rfl rfl) q_int) (q_add (q_mul q_int (qv 2 rfl (.inl rfl) rfl rfl)) q_int)) (qv 2 rfl (.inl rfl) rfl rfl)) q_nil rfl) rfl)) rfl rfl rfl) rfl))) (fun _ => rfl)) (b_one 
      (s_ret (q_call GU hr rfl mU FU.kp bU .nil pass0 (qc (qv 3 rfl (.inl rfl) rfl rfl) q_nil rfl) rfl rfl rfl))))), ?_⟩
    refine ⟨Nat.zero_le _, fun D hD => ?_⟩
    have s0 : Same H (L2.upd H D (.lst [])) := Same.upd hD
    have c0 := Int.emod_nonneg n (by decide : (5 : Int) ≠ 0)
    have c1 := Int.emod_lt_of_pos n (by decide : (0 : Int) < 5)
    refine ⟨_, rfl, _, _, rfl, rfl, (by show (0 : Int) < 5; decide), _, rfl, by omega, by omega, ?_⟩
    refine for_inv (n % 5).toNat (fun i σ H' => ∃ (ts : List Addr) (ps : List (Str × Int)) (v4 v5 : Option V), σ = [some (.int n), some (.ref l), some (.int most), some (.ref D), v4, v5] ∧ i ≤ (n % 5).toNat ∧ Same H H' ∧ H' D = some (.lst (ts.map V.ref)) ∧ PsAt H' ts ps ∧ ps.length = i ∧ (∀ p ∈ ps, p.1 ∈ ns) ∧ wt ps ≤ i * most.toNat) ?_ ?_ ?_ ?_ ?_
    · exact ⟨[], [], none, none, rfl, Nat.zero_le _, s0, upd_same, .nil, rfl, fun p hp => (nomatch hp), Nat.zero_le _⟩
    · rintro i σ H2 hi _
      exact hi
    · rintro σ H2 _
      exact Nat.le_refl _
    · rintro i σ H2 x H3 hi ⟨ts, ps, v4, v5, rfl, _, s2, e2, p2, l2, in2, w2⟩ ⟨rfl, rfl⟩
      refine ⟨_, rfl, _, rfl, n, 0 + (i : Int), rfl, by omega, by omega, fun more r0 r1 => ?_⟩
      have d0 := Int.emod_nonneg more (by decide : (5 : Int) ≠ 0)
      have d1 := Int.emod_lt_of_pos more (by decide : (0 : Int) < 5)
      obtain ⟨j, hj⟩ : ∃ j : Nat, more % 5 = j := ⟨(more % 5).toNat, by omega⟩
      have hj5 : j < ns.length := by omega
      have b0 : (0 : Int) < 2 * most + 1 := by omega
      have f0 := Int.emod_nonneg (more / 5) (show (2 * most + 1 : Int) ≠ 0 by omega)
      have f1 := Int.emod_lt_of_pos (more / 5) b0
      have lt2 := Paired.length p2
      refine ⟨_, rfl, .inl ⟨rfl, _, SqL.of e2⟩, _, rfl, _, rfl, _, _, rfl, rfl, (by show (0 : Int) < 5; decide), l, _, _, .str ns[j], rfl, rfl, s2.seq hl, ?_, _, rfl, _, _, rfl, rfl, ⟨by decide, by decide⟩, _, rfl, _, _, rfl, rfl, .inl ⟨by decide, by decide⟩, _, _, rfl, rfl,
        _, _, rfl, rfl, b0, _, rfl, _, _, rfl, rfl, by show 2 ≤ sizeLine; decide, fun t ht => ?_⟩
      · rw [hj]
        refine atI_nat ?_
        rw [List.getElem?_map, List.getElem?_eq_getElem hj5]
        rfl
      · have st : Same H3 (L2.upd H3 t (.tup [.str ns[j], .int (more / 5 % (2 * most + 1) - most)])) := Same.upd ht
        have hDt : t ≠ D := fun z => by rw [z, e2] at ht; cases ht
        refine ⟨D, _, _, rfl, rfl, st _ _ e2, by simp only [List.length_map]; rw [sizeLine_eq]; omega, ?_⟩
        refine ⟨ts ++ [t], ps ++ [(ns[j], more / 5 % (2 * most + 1) - most)], _, _, rfl, hi, Same.store (s2.trans st) hD, by rw [List.map_append]; exact upd_same, ?_, by simp [l2], ?_, ?_⟩
        · refine ((p2.same st).store (st _ _ e2)).append (.cons ?_ .nil)
          rw [upd_ne hDt]; exact upd_same
        · intro p hp
          rcases List.mem_append.mp hp with z | z
          · exact in2 p z
          · have z' : p = (ns[j], more / 5 % (2 * most + 1) - most) := by simpa using z
            rw [z']; exact List.getElem_mem hj5
        · rw [wt_append, Nat.add_mul]
          simp only [wt]
          omega
    · rintro σ H2 ⟨ts, ps, v4, v5, rfl, _, s2, e2, p2, l2, in2, w2⟩
      refine ⟨_, rfl, D, ts, ps, rfl, e2, p2, fun p hp => nm _ (in2 p hp), by omega, fun u ks H4 s4 nd hk hu => ?_⟩
      refine q u _ H4 (s2.trans s4) hu (fun p hp => ?_) (Nat.le_trans (wt_unit nd ps) ?_) (unit_len ps ks)
      · obtain ⟨p', hp', e'⟩ := List.mem_map.mp ((hk p.1).mp (unit_mem hp))
        rw [← e']; exact in2 p' hp'
      · refine Nat.le_trans w2 (Nat.mul_le_mul_right _ ?_)
        omega
end
end Fr

set_option Elab.async false
set_option linter.all false
set_option maxRecDepth 100000
set_option maxHeartbeats 400000
namespace Fr
open PySem PySem.Spec PyProof.Rows L2 FrM
section
variable {P : Program} {w : World} {K : PySem.W.Frag} {mg : Str → Option Value} {base : Heap}
theorem fa_pos {a b : Int} (ha : 0 < a) (hb : 0 < b) : 0 < fa a b := by
  have h := (f_swap a b ha hb).2
  rw [← h]
  exact fb_pos b ha
/-- fraction of two ints in their bounds, in a def that never raises -/
def spFracN : Sp := fun vs H Q _ => ∃ a b : Int, vs = [.int a, .int b] ∧ 0 < b ∧ Sz 4000 a ∧ Sz 4000 b ∧ RetT H Q [.int (fa a b), .int (fb a b)]
/-! _law_rates -/
def spLRates (K : PySem.W.Frag) : Sp := fun vs H Q _ => ∃ (n : Int) (l : Addr) (ns : List Str), vs = [.int n, .ref l] ∧ SqL K H l (ns.map V.str) ∧ ns.length = 5 ∧ (∀ x ∈ ns, Nm x) ∧ ns.Nodup ∧
  ∀ d ad r H', Same H H' → RtAt H' d ns ad r → H' d = some (.dK (rtD ns ad)) → Q (.ref d) H'
theorem scLRates : FnScope ["_law_number_here", "_law_names", "_law_found", "_law_k", "_law_name", "_law_more", "_law_size"] ["_law_number_here", "_law_names"] (defScope lRates) := ⟨rfl, rfl, rfl, by decide +kernel, rfl, by decide +kernel, by decide +kernel⟩
theorem putK_fresh {ns : List Str} {ad : Str → Addr} {n : Str} {v : V} (h : n ∉ ns) : putK (rtD ns ad) (Sum.inr n) v = rtD ns ad ++ [(Sum.inr n, v)] := by
  refine putK_new v ?_
  rw [valV_fun, if_neg h]
theorem ok_lrates {f fM fF : Addr} {fd fdM fdF : FuncData} (F : Fun K "_law_rates" "_law_rates" lRates f fd) (B : Bn mg)
    (FM : Fun K "_law_mixed" "_law_mixed" lMix fM fdM) (bM : Binds K fdM ["_law_number_here", "_law_k"] []) (mM : mg "_law_mixed" = some (.ref fM)) {dF : Value}
    (FF : FunD K "fraction" "fraction" sFrac dF fF fdF) (bF : Binds K fdF ["above", "below"] []) (mF : mg "fraction" = some (.ref fF)) (GF : FnOk P w K mg base CX0 3 fF fdF ["above", "below"] spFracN) :
    FnOk P w K mg base CX0 4 f fd ["_law_number_here", "_law_names"] (spLRates K) := by
  have GM : FnOk P w K mg base CX0 1 fM fdM ["_law_number_here", "_law_k"] spMix := ok_mix FM
  refine F.ok scLRates (fun vs H Q E h => ?_) (fun cdv A outer s H vs Q E hr h => ?_)
  · obtain ⟨n, l, ns, rfl, _⟩ := h
    rfl
  · obtain ⟨n, l, ns, rfl, hl, h5, nm, nd, q⟩ := h
    have hr1 : Room 1 _ := hr.mono (by decide)
    have hu := hu_of hr
    refine ⟨_, QB.out (b_cons 
      (s_set 2 scLRates.nd rfl (Or.inl rfl) q_dnew rfl (.inr rfl)) (b_cons 
      (s_forS PassesOwn.never rfl (i_enum (K := K) rfl rfl B.enumerate (qc (qv 1 rfl (.inl rfl) rfl rfl) q_nil rfl) rfl) (g_tup (K := K) rfl rfl (g_cons (g_name 3 scLRates.nd rfl (Or.inl rfl) (.inr rfl)) (g_cons (g_name 4 scLRates.nd rfl (Or.inl rfl) (.inr rfl)) g_nil rfl) rfl) rfl rfl) (b_cons 
        (s_set 5 scLRates.nd rfl (Or.inl rfl) (q_call GM hr1 rfl mM FM.kp bM .nil pass0 (qc (qv 0 rfl (.inl rfl) rfl rfl) (qc (q_add q_int (qv 3 rfl (.inl rfl) rfl rfl)) q_nil rfl) rfl) rfl rfl rfl) rfl (.inr rfl)) (b_cons 
        (s_set 6 scLRates.nd rfl (Or.inl rfl) (q_ixl (K := K) rfl (q_lst (qc q_int (qc q_int (qc q_int (qc (q_pow q_int q_int) q_nil rfl) rfl) rfl) rfl)) (q_mod (qv 5 rfl (.inl rfl) rfl rfl) q_int) (fun _ _ => rfl)) rfl (.inr rfl)) (b_one 
        (s_dput hu (qv 2 rfl (.inl rfl) rfl rfl) (qv 4 rfl (.inl rfl) rfl rfl) (q_call GF hr rfl mF FF.kp bF .nil pass0 (qc (q_add q_int (q_mod (q_fdiv (qv 5 rfl (.inl rfl) rfl rfl) q_int) (qv 6 rfl (.inl rfl) rfl rfl))) (qc (q_add q_int (q_mod (q_fdiv (qv 5 rfl (.inl rfl) rfl rfl) q_int) (qv 6 rfl (.inl rfl) rfl rfl))) q_nil rfl) rfl) rfl rfl rfl) rfl)))) (fun _ => rfl)) (b_one 
      (s_ret (qv 2 rfl (.inl rfl) rfl rfl))))), ?_⟩
    refine fun D hD => ?_
    have s0 : Same H (L2.upd H D (.dK [])) := Same.upd hD
    refine ⟨_, rfl, l, rfl, ⟨_, s0.seq hl⟩, ?_⟩
    refine for_inv ns.length (fun i σ H' => ∃ (ad : Str → Addr) (r : Str → Pr) (v3 v4 v5 v6 : Option V), σ = [some (.int n), some (.ref l), some (.ref D), v3, v4, v5, v6] ∧ Same H H' ∧ RtAt H' D (ns.take i) ad r ∧ H' D = some (.dK (rtD (ns.take i) ad))) ?_ ?_ ?_ ?_ ?_
    · exact ⟨fun _ => D, fun _ => (1, 1), none, none, none, none, rfl, s0, ⟨.inl upd_same, fun n hn => (nomatch hn), fun n hn => (nomatch hn), fun n hn => (nomatch hn), fun n => ⟨by decide, by decide⟩, fun n => ⟨by show (1 : Nat) < 2 ^ 20; decide, by show (1 : Nat) < 2 ^ 20; decide⟩⟩, upd_same⟩
    · rintro i σ H2 hi ⟨ad, r, v3, v4, v5, v6, rfl, s2, rt, e2⟩
      exact ⟨_, _, s2.seq hl, List.getElem?_eq_getElem (by simpa using hi)⟩
    · rintro σ H2 ⟨ad, r, v3, v4, v5, v6, rfl, s2, rt, e2⟩
      exact ⟨_, s2.seq hl, by simp⟩
    · rintro i σ H2 x H3 hi ⟨ad, r, v3, v4, v5, v6, rfl, s2, rt, e2⟩ ⟨t, y, hy, ht, rfl, rfl⟩
      have hy' := hy _ (s2.seq hl)
      rw [List.getElem?_map, List.getElem?_eq_getElem hi] at hy'
      cases hy'
      have s3 : Same H2 (L2.upd H2 t (.tup [.int i, .str ns[i]])) := Same.upd ht
      refine ⟨t, _, rfl, SqT.of upd_same, rfl, _, _, rfl, _, _, rfl, rfl, ?_⟩
      refine ⟨_, rfl, _, rfl, _, _, rfl, rfl, n, 20 + (i : Int), rfl, by omega, by omega, fun more r0 r1 => ?_⟩
      have d0 := Int.emod_nonneg more (by decide : (4 : Int) ≠ 0)
      have d1 := Int.emod_lt_of_pos more (by decide : (0 : Int) < 4)
      obtain ⟨j, hj⟩ : ∃ j : Nat, more % 4 = j := ⟨(more % 4).toNat, by omega⟩
      refine ⟨10, 6, rfl, rfl, ⟨by decide, by decide, by decide⟩, by show 4 ≤ sizeLine; decide, fun L hL => ?_⟩
      have s4 : Same (L2.upd H2 t (.tup [.int i, .str ns[i]])) (L2.upd (L2.upd H2 t (.tup [.int i, .str ns[i]])) L (.lst [.int 9, .int 9, .int 60, .int (10 ^ (6 : Int).toNat)])) := Same.upd hL
      obtain ⟨sz, hs, z1, z2⟩ : ∃ sz : Int, ([V.int 9, .int 9, .int 60, .int (10 ^ (6 : Int).toNat)] : List V)[j]? = some (.int sz) ∧ 0 < sz ∧ sz ≤ 1000000 := by
        have hj4 : j < 4 := by omega
        match j, hj4 with
        | 0, _ => exact ⟨9, rfl, by decide, by decide⟩
        | 1, _ => exact ⟨9, rfl, by decide, by decide⟩
        | 2, _ => exact ⟨60, rfl, by decide, by decide⟩
        | 3, _ => exact ⟨10 ^ (6 : Int).toNat, rfl, by decide, by decide⟩
      refine ⟨_, rfl, _, _, rfl, rfl, (by show (0 : Int) < 4; decide), L, _, _, .int sz, rfl, rfl, SqL.of upd_same, by rw [hj]; exact atI_nat hs, ?_⟩
      have f0 := Int.emod_nonneg (more / 4) (show sz ≠ 0 by omega)
      have f1 := Int.emod_lt_of_pos (more / 4) z1
      have g0 := Int.emod_nonneg (more / 31) (show sz ≠ 0 by omega)
      have g1 := Int.emod_lt_of_pos (more / 31) z1
      have za : ∀ {x : Int}, 0 < x → x ≤ 1000000 → Sz 20 x := fun h1 h2 => by
        unfold Sz
        have : (2 : Nat) ^ 20 = 1048576 := by decide
        omega
      have zA := za (x := 1 + more / 4 % sz) (by omega) (by omega)
      have zB := za (x := 1 + more / 31 % sz) (by omega) (by omega)
      refine ⟨_, rfl, _, _, rfl, rfl, ⟨by decide, by decide⟩, _, rfl, _, _, rfl, rfl, z1, _, _, rfl, rfl, _, rfl, _, _, rfl, rfl, ⟨by decide, by decide⟩, _, rfl, _, _, rfl, rfl, z1, _, _, rfl, rfl,
        _, _, rfl, by omega, zA.mono (by decide), zB.mono (by decide), fun p H5 s5 n5 e5 => ?_⟩
      have sa := (s3.trans s4).trans s5
      have e6 := sa _ _ e2
      have hD5 : p ≠ D := fun z => by
        rw [z] at n5
        rw [(s3.trans s4) _ _ e2] at n5
        cases n5
      have hfr : ns[i] ∉ ns.take i := fun z => by
        obtain ⟨k, hk, ek⟩ := List.getElem_of_mem z
        have hk' : k < i := by
          have := hk
          simp at this
          omega
        rw [List.getElem_take] at ek
        have := List.pairwise_iff_getElem.mp nd k i (by omega) hi hk'
        exact this ek
      refine ⟨_, rfl, _, rfl, D, _, rfl, DPut.k (k := Sum.inr ns[i]) e6 ?_, ?_⟩
      · rw [List.length_map, sizeLine_eq]
        have : (ns.take i).length ≤ ns.length := by simp; omega
        omega
      · rw [putK_fresh hfr]
        have etk : ns.take (i + 1) = ns.take i ++ [ns[i]] := by rw [List.take_add_one, List.getElem?_eq_getElem hi]; rfl
        have ed : rtD (ns.take i) ad ++ [(Sum.inr ns[i], V.ref p)] = rtD (ns.take (i + 1)) (fun x => if x = ns[i] then p else ad x) := by
          rw [etk]
          unfold rtD
          rw [List.map_append]
          congr 1
          · refine List.map_congr_left fun x hx => ?_
            have hne : x ≠ ns[i] := fun z => hfr (by rw [← z]; exact hx)
            show (Sum.inr x, V.ref (ad x)) = (Sum.inr x, V.ref (if x = ns[i] then p else ad x))
            rw [if_neg hne]
          · simp
        rw [ed]
        have hpos : 0 < fa (1 + more / 4 % sz) (1 + more / 31 % sz) := fa_pos (by omega) (by omega)
        have hpos2 : 0 < fb (1 + more / 4 % sz) (1 + more / 31 % sz) := fb_pos _ (by omega)
        have hcop : Int.gcd (fa (1 + more / 4 % sz) (1 + more / 31 % sz)) (fb (1 + more / 4 % sz) (1 + more / 31 % sz)) = 1 := f_gcd _ (by omega)
        have zfa := fa_sz (b := 1 + more / 31 % sz) zA (by omega)
        have zfb := fb_sz (a := 1 + more / 4 % sz) zB (by omega)
        have ne : ∀ {b : Addr} {xs : List V}, H5 b = some (.tup xs) → b ≠ D := fun e z => by rw [z, e6] at e; cases e
        refine ⟨fun x => if x = ns[i] then p else ad x, fun x => if x = ns[i] then (fa (1 + more / 4 % sz) (1 + more / 31 % sz), fb (1 + more / 4 % sz) (1 + more / 31 % sz)) else r x, _, _, _, _, rfl, Same.store (s2.trans sa) hD, ⟨.inl upd_same, fun x hx => ?_, fun x hx => ?_, fun x hx => ?_, fun x => ?_, fun x => ?_⟩, upd_same⟩
        · by_cases ex : x = ns[i]
          · simp only [ex, if_true]
            rw [upd_ne hD5]; exact e5
          · have hx' : x ∈ ns.take i := by
              rw [etk] at hx
              rcases List.mem_append.mp hx with z | z
              · exact z
              · exact absurd (by simpa using z) ex
            simp only [if_neg ex]
            have := sa _ _ (rt.at' x hx')
            rw [upd_ne (ne this)]; exact this
        · exact nm x (List.mem_of_mem_take hx)
        · by_cases ex : x = ns[i]
          · simp only [ex, if_true]; exact hcop
          · have hx' : x ∈ ns.take i := by
              rw [etk] at hx
              rcases List.mem_append.mp hx with z | z
              · exact z
              · exact absurd (by simpa using z) ex
            simp only [if_neg ex]; exact rt.cop x hx'
        · by_cases ex : x = ns[i]
          · simp only [ex, if_true]; exact ⟨hpos, hpos2⟩
          · simp only [if_neg ex]; exact rt.pos x
        · by_cases ex : x = ns[i]
          · simp only [ex, if_true]; exact ⟨zfa, zfb⟩
          · simp only [if_neg ex]; exact rt.sml x
    · rintro σ H2 ⟨ad, r, v3, v4, v5, v6, rfl, s2, rt, e2⟩
      rw [List.take_length] at rt e2
      exact ⟨_, rfl, q D ad r H2 s2 rt e2⟩
end
end Fr

set_option Elab.async false
set_option linter.all false
set_option maxRecDepth 100000
set_option maxHeartbeats 400000
namespace Fr
open PySem PySem.Spec PyProof.Rows L2 FrM
section
variable {P : Program} {w : World} {K : PySem.W.Frag} {mg : Str → Option Value} {base : Heap}
/-! _law_product -/
def spLProd : Sp := fun vs H Q _ => ∃ (u d : Addr) (ps : List (Str × Int)) (ns : List Str) (ad : Str → Addr) (r : Str → Pr), vs = [.ref u, .ref d] ∧ UnAt H u ps ∧ RtAt H d ns ad r ∧ (∀ p ∈ ps, p.1 ∈ ns) ∧ wt ps ≤ 60 ∧ RetT H Q [.int (rA r ps), .int (rB r ps)]
theorem scLProd : FnScope ["_law_unit_here", "_law_rates_here", "_law_above", "_law_below", "_law_name", "_law_exponent", "_law_turn"] ["_law_unit_here", "_law_rates_here"] (defScope lProd) := ⟨rfl, rfl, rfl, by decide +kernel, rfl, by decide +kernel, by decide +kernel⟩
/-- the two factors of a turn -/
def fu (r : Pr) (e : Int) : Int := if e < 0 then r.2 else r.1
def fw (r : Pr) (e : Int) : Int := if e < 0 then r.1 else r.2
theorem up_fu (r : Pr) (e : Int) : fu r e ^ e.natAbs = up r e := by
  unfold fu up
  split
  · rw [show (-e).toNat = e.natAbs by omega]
  · rw [show e.toNat = e.natAbs by omega]
theorem dn_fw (r : Pr) (e : Int) : fw r e ^ e.natAbs = dn r e := by
  unfold fw dn
  split
  · rw [show (-e).toNat = e.natAbs by omega]
  · rw [show e.toNat = e.natAbs by omega]
theorem pow_le {x : Int} (h : Sz 20 x) (j : Nat) : (x ^ j).natAbs ≤ 2 ^ (20 * j) := by rw [Int.natAbs_pow]; exact sz_pow h j
theorem ok_lprod {f : Addr} {fd : FuncData} (F : Fun K "_law_product" "_law_product" lProd f fd) (B : Bn mg) : FnOk P w K mg base CX0 2 f fd ["_law_unit_here", "_law_rates_here"] spLProd := by
  refine F.ok scLProd (fun vs H Q E h => ?_) (fun cdv A outer s H vs Q E hr h => ?_)
  · obtain ⟨u, d, ps, ns, ad, r, rfl, _⟩ := h
    rfl
  · obtain ⟨u, d, ps, ns, ad, r, rfl, ⟨us, eu, pu⟩, rt, hin, hw, q⟩ := h
    have hu := hu_of hr
    have lu := Paired.length pu
    refine ⟨_, QB.out (b_cons 
      (s_set 2 scLProd.nd rfl (Or.inl rfl) q_int rfl (.inr rfl)) (b_cons 
      (s_set 3 scLProd.nd rfl (Or.inl rfl) q_int rfl (.inr rfl)) (b_cons 
      (s_forS PassesOwn.never rfl (i_tup (K := K) rfl (qv 0 rfl (.inl rfl) rfl rfl)) (g_tup (K := K) rfl rfl (g_cons (g_name 4 scLProd.nd rfl (Or.inl rfl) (.inr rfl)) (g_cons (g_name 5 scLProd.nd rfl (Or.inl rfl) (.inr rfl)) g_nil rfl) rfl) rfl rfl) (b_one 
        (s_forS PassesOwn.never rfl (i_rng1 rfl B.range (qc (q_callB call_abs rfl B.abs bt_abs (qc (qv 5 rfl (.inl rfl) rfl rfl) q_nil rfl) (by decide) rfl rfl rfl) q_nil rfl) rfl) (g_name 6 scLProd.nd rfl (Or.inl rfl) (.inr rfl)) (b_cons 
          (s_set 2 scLProd.nd rfl (Or.inl rfl) (q_mulS (qv 2 rfl (.inl rfl) rfl rfl) (q_ixt (K := K) rfl (q_dget hu (qv 1 rfl (.inl rfl) rfl rfl) (qv 4 rfl (.inl rfl) rfl rfl) (fun _ _ => rfl)) (q_callTy call_int1 rfl B.int bt_int (qc (q_cmp op_lt (qv 5 rfl (.inl rfl) rfl rfl) q_int rfl) q_nil rfl) (by decide) rfl rfl rfl) (fun _ _ => rfl))) rfl (.inr rfl)) (b_one 
          (s_set 3 scLProd.nd rfl (Or.inl rfl) (q_mulS (qv 3 rfl (.inl rfl) rfl rfl) (q_ixt (K := K) rfl (q_dget hu (qv 1 rfl (.inl rfl) rfl rfl) (qv 4 rfl (.inl rfl) rfl rfl) (fun _ _ => rfl)) (q_callTy call_int1 rfl B.int bt_int (qc (q_cmp op_gt (qv 5 rfl (.inl rfl) rfl rfl) q_int rfl) q_nil rfl) (by decide) rfl rfl rfl) (fun _ _ => rfl))) rfl (.inr rfl)))) (fun _ => rfl))) (fun _ => rfl)) (b_one 
      (s_ret (q_tup (qc (qv 2 rfl (.inl rfl) rfl rfl) (qc (qv 3 rfl (.inl rfl) rfl rfl) q_nil rfl) rfl))))))), ?_⟩
    refine ⟨_, rfl, u, rfl, ⟨_, SqT.of eu⟩, ?_⟩
    refine for_inv us.length (fun i σ H' => ∃ v4 v5 v6 : Option V, σ = [some (.ref u), some (.ref d), some (.int (rA r (ps.take i))), some (.int (rB r (ps.take i))), v4, v5, v6] ∧ H' = H) ⟨none, none, none, rfl, rfl⟩ ?_ ?_ ?_ ?_
    · rintro i σ H2 hi ⟨v4, v5, v6, rfl, rfl⟩
      exact ⟨_, _, SqT.of eu, List.getElem?_eq_getElem (by simpa using hi)⟩
    · rintro σ H2 ⟨v4, v5, v6, rfl, rfl⟩
      exact ⟨_, SqT.of eu, by simp⟩
    · rintro i σ H2 x H3 hi ⟨v4, v5, v6, rfl, rfl⟩ ⟨rfl, hx⟩
      have hx' := hx _ (SqT.of eu)
      rw [List.getElem?_map, List.getElem?_eq_getElem hi] at hx'
      cases hx'
      obtain ⟨n, e, en, et⟩ := pu.get (List.getElem?_eq_getElem hi)
      have hmem : (n, e) ∈ ps := List.mem_of_getElem? en
      have hns : n ∈ ns := hin _ hmem
      have etk : ps.take (i + 1) = ps.take i ++ [(n, e)] := by rw [List.take_add_one, en]; rfl
      have we : e.natAbs ≤ 60 := Nat.le_trans (wt_mem hmem) hw
      have wi : wt (ps.take i) ≤ 60 := Nat.le_trans (wt_take ps i) hw
      have ab : (if e < 0 then -e else e) = (e.natAbs : Int) := by split <;> omega
      have zu : Sz 20 (fu (r n) e) := by unfold fu; split; exact (rt.sml n).2; exact (rt.sml n).1
      have zw : Sz 20 (fw (r n) e) := by unfold fw; split; exact (rt.sml n).1; exact (rt.sml n).2
      refine ⟨us[i], _, rfl, SqT.of et, rfl, _, _, rfl, _, _, rfl, rfl, ?_⟩
      refine ⟨_, rfl, _, rfl, _, rfl, by rw [ab]; omega, by rw [ab]; omega, ?_⟩
      rw [ab, Int.toNat_natCast]
      refine for_inv e.natAbs (fun j σ H' => ∃ v6 : Option V, σ = [some (.ref u), some (.ref d), some (.int (rA r (ps.take i) * fu (r n) e ^ j)), some (.int (rB r (ps.take i) * fw (r n) e ^ j)), some (.str n), some (.int e), v6] ∧ H' = H3 ∧ j ≤ e.natAbs) ⟨v6, by simp, rfl, Nat.zero_le _⟩ ?_ ?_ ?_ ?_
      · rintro j σ H4 hj _
        exact hj
      · rintro σ H4 _
        exact Nat.le_refl _
      · rintro j σ H4 x H5 hj ⟨w6, rfl, rfl, _⟩ ⟨rfl, rfl⟩
        have b1 : Sz 4000 (rA r (ps.take i) * fu (r n) e ^ j) := by
          have := natAbs_mul_le (rA_le rt.sml (ps.take i)) (pow_le zu j)
          exact sz_of_le this (by omega)
        have b2 : Sz 4000 (rB r (ps.take i) * fw (r n) e ^ j) := by
          have := natAbs_mul_le (rB_le rt.sml (ps.take i)) (pow_le zw j)
          exact sz_of_le this (by omega)
        have i1 : atI [V.int (r n).1, .int (r n).2] (if decide (e < 0) then 1 else 0) = some (.int (fu (r n) e)) := by
          unfold fu
          by_cases c : e < 0
          · rw [if_pos c, decide_eq_true c]; rfl
          · rw [if_neg c, decide_eq_false c]; rfl
        have he0 : e ≠ 0 := fun z => by rw [z] at hj; simp at hj
        have i2 : atI [V.int (r n).1, .int (r n).2] (if decide (0 < e) then 1 else 0) = some (.int (fw (r n) e)) := by
          unfold fw
          by_cases c : e < 0
          · rw [if_pos c, decide_eq_false (by omega)]; rfl
          · rw [if_neg c, decide_eq_true (by omega)]; rfl
        refine ⟨_, rfl, _, rfl, _, rfl, d, _, rfl, rt.get hns, _, rfl, _, _, rfl, rfl, .inr ⟨_, rfl, ad n, _, _, _, rfl, rfl, SqT.of (rt.at' n hns), i1, _, _, rfl, rfl, ⟨b1, zu.mono (by decide)⟩, ?_⟩⟩
        refine ⟨_, rfl, _, rfl, _, rfl, d, _, rfl, rt.get hns, _, rfl, _, _, rfl, rfl, .inr ⟨_, rfl, ad n, _, _, _, rfl, rfl, SqT.of (rt.at' n hns), i2, _, _, rfl, rfl, ⟨b2, zw.mono (by decide)⟩, ?_⟩⟩
        refine ⟨some (.int (0 + (j : Int))), ?_, rfl, hj⟩
        rw [Int.pow_succ, Int.pow_succ, ← Int.mul_assoc, ← Int.mul_assoc]
        rfl
      · rintro σ H4 ⟨w6, rfl, rfl, _⟩
        refine ⟨some (.str n), some (.int e), w6, ?_, rfl⟩
        rw [up_fu, dn_fw, etk, rA_append, rB_append, rA_one, rB_one]
    · rintro σ H2 ⟨v4, v5, v6, rfl, rfl⟩
      rw [lu, List.take_length]
      exact ⟨_, rfl, _, rfl, by show 2 ≤ sizeLine; decide, fun t ht => q.new ht⟩
/-! _law_is -/
def spLIs (K : PySem.W.Frag) : Sp := fun vs H Q _ => ∃ (p q : Addr) (a b c d : Int), vs = [.ref p, .ref q] ∧ SqT K H p [.int a, .int b] ∧ Tp H q c d ∧ 0 < b ∧ Int.gcd a b = 1 ∧ a * d = c * b ∧ Sz 1900 a ∧ Sz 1900 b ∧ Sz 1900 c ∧ Sz 1900 d ∧ ∀ H', Same H H' → Q (.bl true) H'
theorem scLIs : FnScope ["_law_found", "_law_due"] ["_law_found", "_law_due"] (defScope lIs) := ⟨rfl, rfl, rfl, by decide +kernel, rfl, by decide +kernel, by decide +kernel⟩
theorem ok_lis {f fF : Addr} {fd fdF : FuncData} {dF : Value} (F : Fun K "_law_is" "_law_is" lIs f fd) (B : Bn mg)
    (FF : FunD K "fraction" "fraction" sFrac dF fF fdF) (bF : Binds K fdF ["above", "below"] []) (mF : mg "fraction" = some (.ref fF)) (GF : FnOk P w K mg base CX0 3 fF fdF ["above", "below"] spFracN) :
    FnOk P w K mg base CX0 4 f fd ["_law_found", "_law_due"] (spLIs K) := by
  refine F.ok scLIs (fun vs H Q E h => ?_) (fun cdv A outer s H vs Q E hr h => ?_)
  · obtain ⟨p, q, a, b, c, d, rfl, _⟩ := h
    rfl
  · obtain ⟨p, q, a, b, c, d, rfl, hp, hq, hb, hg, hx, za, zb, zc, zd, k⟩ := h
    have huT := hr.units0
    have m4 : ∀ {x : Int}, Sz 1900 x → Sz 4000 x := fun h => h.mono (by decide)
    obtain ⟨f1, f2⟩ := f_self hg
    refine ⟨_, QB.out (b_cons 
      (s_if (t_w (w_or (t_not (t_val (q_callB (call_isiTK (K := K) rfl) rfl B.isi bt_isinstance (qc (qv 0 rfl (.inl rfl) rfl rfl) (qc (q_bltn (v := .ty "tuple") rfl B.tuple bt_tuple rfl (by decide) rfl) q_nil rfl) rfl) (by decide) rfl rfl rfl) (fun _ => rfl))) (w_or (t_cmp op_ne (q_callB (call_lenK (K := K) rfl) rfl B.len bt_len (qc (qv 0 rfl (.inl rfl) rfl rfl) q_nil rfl) (by decide) rfl rfl rfl) q_int rfl) (w_or1 (t_cmp (op_neS (K := K) rfl huT) (q_call GF hr rfl mF FF.kp bF .nil pass0 (qc (q_ixt (K := K) rfl (qv 0 rfl (.inl rfl) rfl rfl) q_int (fun _ _ => rfl)) (qc (q_ixt (K := K) rfl (qv 0 rfl (.inl rfl) rfl rfl) q_int (fun _ _ => rfl)) q_nil rfl) rfl) rfl rfl rfl) (qv 0 rfl (.inl rfl) rfl rfl) rfl))))) (b_one 
        (s_ret q_bl)) b_nil) (b_one 
      (s_ret (q_cmp op_eq (q_mulS (q_ixt (K := K) rfl (qv 0 rfl (.inl rfl) rfl rfl) q_int (fun _ _ => rfl)) (q_ixt (K := K) rfl (qv 1 rfl (.inl rfl) rfl rfl) q_int (fun _ _ => rfl))) (q_mulS (q_ixt (K := K) rfl (qv 1 rfl (.inl rfl) rfl rfl) q_int (fun _ _ => rfl)) (q_ixt (K := K) rfl (qv 0 rfl (.inl rfl) rfl rfl) q_int (fun _ _ => rfl))) rfl)))), ?_⟩
    refine ⟨_, rfl, p, _, .ty "tuple", .type "tuple", _, rfl, rfl, hp, k_tuple_tuple K, _, rfl, ?_⟩
    refine iteF ?_
    refine ⟨_, rfl, p, _, rfl, .inr hp, rfl, _, rfl, ?_⟩
    refine iteNS rfl ?_
    refine ⟨_, rfl, p, _, _, _, rfl, rfl, hp, rfl, _, rfl, p, _, _, _, rfl, rfl, hp, rfl, a, b, rfl, hb, m4 za, m4 zb, fun t H1 s1 n1 e1 => ?_⟩
    rw [f1, f2] at e1
    refine ⟨_, rfl, t, p, _, rfl, rfl, SqT.of e1, sqT_same s1 hp, (fun x hx => by
      rcases List.mem_cons.mp hx with z | z
      · rw [z]; rfl
      · have z' : x = .int b := by simpa using z
        rw [z']; rfl), _, rfl, ?_⟩
    refine iteF ?_
    have hp1 := sqT_same s1 hp
    have hq1 := s1 _ _ hq
    refine ⟨_, rfl, p, _, _, _, rfl, rfl, hp1, rfl, _, rfl, q, _, _, _, rfl, rfl, SqT.of hq1, rfl, a, d, rfl, rfl, ⟨m4 za, m4 zd⟩, _, rfl, q, _, _, _, rfl, rfl, SqT.of hq1, rfl, _, rfl, p, _, _, _, rfl, rfl, hp1, rfl, c, b, rfl, rfl, ⟨m4 zc, m4 zb⟩, rfl, ?_⟩
    show Q (.bl (decide (V.int (a * d) = V.int (c * b)))) H1
    rw [hx, decide_eq_true rfl]
    exact k H1 s1
end
end Fr

set_option Elab.async false
set_option linter.all false
set_option maxRecDepth 100000
set_option maxHeartbeats 400000
namespace Fr
open PySem PySem.Spec PyProof.Rows L2 FrM
theorem kit_self (K : PySem.W.Frag) (C : Addr) : PySem.W.kitOne K (.ref C) (.ref C) = some true := by
  unfold PySem.W.kitOne
  rw [if_pos (by simp)]
section
variable {P : Program} {w : World} {K : PySem.W.Frag} {mg : Str → Option Value} {base : Heap}
/-- more of the classes of refusals -/
structure Ex3 (K : PySem.W.Frag) (mg : Str → Option Value) (BR ME BU : Addr) : Prop where
  mgM : mg "MeasureError" = some (.ref ME)
  mgU : mg "BadUnit" = some (.ref BU)
  ex : PySem.W.exmOne K (.ref BR) (.ref ME) = some true
  kv : PySem.W.kitOne K (.ref BR) (.type "ValueError") = some true
  ku : PySem.W.kitOne K (.ref BR) (.ref BU) = some false
  xc : XCls K BR
/-- rates that are refused -/
def WrongR (H : Hp) (x : V) (ps : List (Str × Int)) : Prop := NoD H x ∨ (∃ (d : Addr) (kvs : List (Key × V)), x = .ref d ∧ Rd H d (.dK kvs) ∧ ∃ i : Nat, (∀ p ∈ kvs.take i, GoodE H p) ∧ ∃ p, kvs[i]? = some p ∧ BadE H p) ∨
  ∃ (d : Addr) (ns : List Str) (ad : Str → Addr) (r : Str → Pr), x = .ref d ∧ RtAt H d ns ad r ∧ ∃ n e rest, ps = (n, e) :: rest ∧ n ∉ ns
def spLRef : Sp := fun vs H Q _ => ∃ (u : Addr) (x : V) (ps : List (Str × Int)) (t : Str), vs = [.ref u, x] ∧ UnAt H u ps ∧ StrA H x t ∧ WrongR H x ps ∧ ∀ H', (∀ b o, x ≠ .ref b → H b = some o → H' b = some o) → Q (.bl true) H'
theorem scLRef : FnScope ["_law_unit_here", "_law_rates_here", "_law_kept", "e", "_law_good"] ["_law_unit_here", "_law_rates_here"] (defScope lRef) := ⟨rfl, rfl, rfl, by decide +kernel, rfl, by decide +kernel, by decide +kernel⟩
theorem ok_lref {f fM BR ME BU : Addr} {fd fdM : FuncData} (F : Fun K "_law_refused" "_law_refused" lRef f fd) (B : Bn mg) (X : ExR K mg BR) (Y : Ex3 K mg BR ME BU)
    (FM : Fun K "measure_of" "measure_of" sMeas fM fdM) (bM : Binds K fdM ["unit", "rates"] []) (mM : mg "measure_of" = some (.ref fM)) (GM : FnOk P w K mg base (Fly P w) 5 fM fdM ["unit", "rates"] (spMeas K BR)) :
    FnOk P w K mg base CX0 6 f fd ["_law_unit_here", "_law_rates_here"] spLRef := by
  refine F.ok scLRef (fun vs H Q E h => ?_) (fun cdv A outer s H vs Q E hr h => ?_)
  · obtain ⟨u, x, ps, t, rfl, _⟩ := h
    rfl
  · obtain ⟨u, x, ps, t, rfl, hu, st, wr, q⟩ := h
    have hu11 : _ + 11 < cLine := Nat.lt_of_le_of_lt (Nat.add_le_add_left (by decide : 11 ≤ 64) _) hr.units
    refine ⟨_, QB.out (b_cons 
      (s_set 2 scLRef.nd rfl (Or.inl rfl) (q_callTy (call_strA hr.gd hu11) rfl B.str bt_str (qc (qv 1 rfl (.inl rfl) rfl rfl) q_nil rfl) (by decide) rfl rfl rfl) rfl (.inr rfl)) (b_cons 
      (s_try (K := K) 3 rfl rfl rfl scLRef.nd rfl rfl rfl (.inl Y.mgM) (fun ps xe E hp => (b_one 
        (s_expr (q_callS GM hr rfl mM FM.kp bM .nil hp (qc (qv 0 rfl (.inl rfl) rfl rfl) (qc (qv 1 rfl (.inl rfl) rfl rfl) q_nil rfl) rfl) rfl rfl rfl) rfl))) (fun e => (b_cons 
        (s_set 4 scLRef.nd rfl (Or.inl rfl) (q_and (q_callB (call_isiXK (K := K) rfl) rfl B.isi bt_isinstance (qc (qv 3 rfl (.inl rfl) rfl rfl) (qc (q_glob (v := .ref BR) rfl X.mgR rfl rfl) q_nil rfl) rfl) (by decide) rfl rfl rfl) (q_and (q_callB (call_isiXK (K := K) rfl) rfl B.isi bt_isinstance (qc (qv 3 rfl (.inl rfl) rfl rfl) (qc (q_bltn (v := .ty "ValueError") rfl B.verr bt_ValueError rfl (by decide) rfl) q_nil rfl) rfl) (by decide) rfl rfl rfl) (q_one (q_not (q_callB (call_isiXK (K := K) rfl) rfl B.isi bt_isinstance (qc (qv 3 rfl (.inl rfl) rfl rfl) (qc (q_glob (v := .ref BU) rfl Y.mgU rfl rfl) q_nil rfl) rfl) (by decide) rfl rfl rfl))))) rfl (.inr rfl)) (b_one 
        (s_ret (q_and (qv 4 rfl (.inl rfl) rfl rfl) (q_one (q_cmp op_eq (q_callTy (call_strA hr.gd hu11) rfl B.str bt_str (qc (qv 1 rfl (.inl rfl) rfl rfl) q_nil rfl) (by decide) rfl rfl rfl) (qv 2 rfl (.inl rfl) rfl rfl) rfl))))))) rfl) (b_one 
      (s_ret q_bl)))), ?_⟩
    refine ⟨_, rfl, x, t, rfl, st, ?_⟩
    have fin : ∀ (E : XK) (R : VK), (∀ H1, (∀ b o, x ≠ .ref b → H b = some o → H1 b = some o) → StrA H1 x t → E (.ref BR) none H1) → (BadR BR H E x ∨ ∃ (d : Addr) (ns : List Str) (ad : Str → Addr) (r : Str → Pr), x = .ref d ∧ RtAt H d ns ad r ∧
        (((∀ p ∈ ps, p.1 ∈ ns) ∧ wt ps ≤ 60 ∧ RetF K H R (rA r ps) (rB r ps)) ∨ ((∃ n e rest, ps = (n, e) :: rest ∧ n ∉ ns) ∧ ∀ H', Same H H' → E (.ref BR) none H'))) := fun E R k => by
      rcases wr with nd | ⟨d, kvs, rfl, hd, i, g, b⟩ | ⟨d, ns, ad, r, rfl, rt, lk⟩
      · exact .inl (.inl ⟨nd, k H (fun _ _ _ z => z) st⟩)
      · exact .inl (.inr ⟨d, kvs, rfl, hd, i, g, b, fun H' s' => k H' (fun b o ne z => s'.1 b o (fun y => ne (by rw [y])) z) (st.move hd s'.1 s'.2)⟩)
      · exact .inr ⟨d, ns, ad, r, rfl, rt, .inr ⟨lk, fun H' s' => k H' (fun b o _ z => s' b o z) (st.same s')⟩⟩
    refine ⟨_, rfl, _, rfl, u, x, ps, rfl, hu, fin _ _ fun H1 s1 st1 => ?_⟩
    refine ⟨Y.ex, fun ea hea => ?_⟩
    refine ⟨_, rfl, ea, BR, .ref BR, .ref BR, true, _, rfl, rfl, upd_same, fun _ z => z, Y.xc, kit_self K BR, _, rfl, ?_⟩
    refine iteT ?_
    refine ⟨_, rfl, ea, BR, .ty "ValueError", .type "ValueError", true, _, rfl, rfl, upd_same, fun _ z => z, Y.xc, Y.kv, _, rfl, ?_⟩
    refine iteT ?_
    refine ⟨_, rfl, ea, BR, .ref BU, .ref BU, false, _, rfl, rfl, upd_same, fun _ z => z, Y.xc, Y.ku, ?_⟩
    refine ⟨_, rfl, _, rfl, _, rfl, ?_⟩
    refine iteT ?_
    have s2 : Same H1 (L2.upd H1 ea (ExcO ea (.ref BR))) := Same.upd hea
    refine ⟨_, rfl, x, t, rfl, st1.same s2, _, rfl, rfl, ?_⟩
    rw [decide_eq_true rfl]
    exact q _ fun b o ne z => s2 _ _ (s1 b o ne z)
end
end Fr

set_option Elab.async false
set_option linter.all false
set_option maxRecDepth 100000
set_option maxHeartbeats 400000
namespace Fr
open PySem PySem.Spec PyProof.Rows L2 FrM
/-- a thing that is no rate -/
def BadV (H : Hp) (v : V) : Prop := (NoT H v ∨ ∃ (t : Addr) (xs : List V), v = .ref t ∧ H t = some (.tup xs) ∧ (∀ y ∈ xs, Kd H y) ∧ (isFr xs = false ∨ ∃ a b : Int, xs = [.int a, .int b] ∧ a ≤ 0)) ∧ ∃ d, Dat H 3 v d ∧ Sm d
theorem kd_same {H H' : Hp} {v : V} (k : Kd H v) (s : Same H H') : Kd H' v := by
  cases k with
  | non => exact .non
  | bl b => exact .bl b
  | int i => exact .int i
  | str x => exact .str x
  | lst e => exact .lst (s _ _ e)
  | tup e => exact .tup (s _ _ e)
theorem BadV.same {H H' : Hp} {v : V} (h : BadV H v) (s : Same H H') : BadV H' v := by
  obtain ⟨h, d, dt, sm⟩ := h
  refine ⟨?_, d, dat_same s _ dt, sm⟩
  rcases h with h | ⟨t, xs, rfl, e, kd, z⟩
  · refine .inl ?_
    cases h with
    | non => exact .non
    | str x => exact .str _
    | int i => exact .int _
    | lst e => exact .lst (s _ _ e)
  · exact .inr ⟨t, xs, rfl, s _ _ e, fun y hy => kd_same (kd y hy) s, z⟩
theorem kd_ints {H : Hp} {a b : Int} : ∀ y ∈ [V.int a, .int b], Kd H y := fun y hy => by
  rcases List.mem_cons.mp hy with z | z
  · subst z; exact .int a
  · have z' : y = .int b := by simpa using z
    subst z'; exact .int b
theorem dat_t2 {H : Hp} {t : Addr} {a b : Int} {n : Nat} (e : H t = some (.tup [.int a, .int b])) : Dat H (n + 1) (.ref t) (.tuple [.int a, .int b]) :=
  .inr ⟨_, _, rfl, e, .cons (by cases n <;> rfl) (.cons (by cases n <;> rfl) .nil)⟩
theorem two_le : 2 ≤ sizeLine := by decide
theorem sm_b1 : Sm (.tuple [.bool true, .int 1]) := by
  have a := sm_int (i := 1) (by decide)
  refine ⟨?_, ?_, ?_, ?_⟩
  · simp only [PyData.showable, PyData.showableAll, Bool.and_eq_true]
    exact ⟨trivial, by simpa only [PyData.showable] using a.sh, trivial⟩
  · simp only [PyData.leavesShort, PyData.leavesShortAll, Bool.and_eq_true]
    exact ⟨trivial, by simpa only [PyData.leavesShort] using a.lv, trivial⟩
  · simp only [PyData.bulk, PyData.bulkAll]; decide
  · simp only [PyData.depth, PyData.depthAll]; decide
theorem sm_t1 : Sm (.tuple [.int 1]) := by
  have a := sm_int (i := 1) (by decide)
  refine ⟨?_, ?_, ?_, ?_⟩
  · simp only [PyData.showable, PyData.showableAll, Bool.and_eq_true]
    exact ⟨by simpa only [PyData.showable] using a.sh, trivial⟩
  · simp only [PyData.leavesShort, PyData.leavesShortAll, Bool.and_eq_true]
    exact ⟨by simpa only [PyData.leavesShort] using a.lv, trivial⟩
  · simp only [PyData.bulk, PyData.bulkAll]; decide
  · simp only [PyData.depth, PyData.depthAll]; decide
theorem sm_l12 : Sm (.list [.int 1, .int 2]) := by
  have a := sm_int (i := 1) (by decide)
  have b := sm_int (i := 2) (by decide)
  refine ⟨?_, ?_, ?_, ?_⟩
  · simp only [PyData.showable, PyData.showableAll, Bool.and_eq_true]
    exact ⟨by simpa only [PyData.showable] using a.sh, by simpa only [PyData.showable] using b.sh, trivial⟩
  · simp only [PyData.leavesShort, PyData.leavesShortAll, Bool.and_eq_true]
    exact ⟨by simpa only [PyData.leavesShort] using a.lv, by simpa only [PyData.leavesShort] using b.lv, trivial⟩
  · simp only [PyData.bulk, PyData.bulkAll]; decide
  · simp only [PyData.depth, PyData.depthAll]; decide
theorem sm_nil : Sm (.list []) := by
  refine ⟨?_, ?_, ?_, ?_⟩
  · simp only [PyData.showable, PyData.showableAll]
  · simp only [PyData.leavesShort, PyData.leavesShortAll]
  · simp only [PyData.bulk, PyData.bulkAll]; decide
  · simp only [PyData.depth, PyData.depthAll]; decide
theorem sm_a11 : Sm (.tuple [.tuple [.str "a", .tuple [.int 1, .int 1]]]) := by
  have a := sm_int (i := 1) (by decide)
  refine ⟨?_, ?_, ?_, ?_⟩
  · simp only [PyData.showable, PyData.showableAll, Bool.and_eq_true]
    have := a.sh
    simp only [PyData.showable] at this
    exact ⟨⟨trivial, ⟨this, this, trivial⟩, trivial⟩, trivial⟩
  · simp only [PyData.leavesShort, PyData.leavesShortAll, Bool.and_eq_true]
    have := a.lv
    simp only [PyData.leavesShort] at this
    refine ⟨⟨by decide +kernel, ⟨this, this, trivial⟩, trivial⟩, trivial⟩
  · simp only [PyData.bulk, PyData.bulkAll]; decide +kernel
  · simp only [PyData.depth, PyData.depthAll]; decide
theorem at_all {xs : List V} {m n : Int} {p : V → Prop} (hx : ∀ v ∈ xs, p v) (hl : (xs.length : Int) = m) (hm : 0 < m) : ∃ v, atI xs (n % m) = some v ∧ p v := by
  have h0 := Int.emod_nonneg n (by omega : m ≠ 0)
  have h1 := Int.emod_lt_of_pos n hm
  obtain ⟨j, hj⟩ : ∃ j : Nat, n % m = j := ⟨(n % m).toNat, by omega⟩
  have hj2 : j < xs.length := by omega
  refine ⟨xs[j], ?_, hx _ (List.getElem_mem hj2)⟩
  rw [hj]
  exact atI_nat (List.getElem?_eq_getElem hj2)
/-- drop one name -/
theorem drop_rt {ns : List Str} {ad : Str → Addr} {m : Str} : dropK (rtD ns ad) (Sum.inr m) = rtD (ns.filter fun n => decide (n ≠ m)) ad := by
  unfold dropK rtD
  rw [List.filter_map]
  congr 1
  refine List.filter_congr fun n _ => ?_
  simp
/-- put another thing under a name that is there -/
theorem put_rt {ns : List Str} {ad : Str → Addr} {m : Str} {v : V} (h : m ∈ ns) : putK (rtD ns ad) (Sum.inr m) v = ns.map fun n => ((Sum.inr n : Key), if n = m then v else .ref (ad n)) := by
  unfold putK
  rw [valV_any, valV_fun, if_pos h, if_pos (by rfl), List.map_map]
  refine List.map_congr_left fun n _ => ?_
  show (if (Sum.inr n : Key) = Sum.inr m then _ else _) = _
  by_cases e : n = m
  · subst e; simp
  · rw [if_neg (fun z => e (Sum.inr.inj z)), if_neg e]
section
variable {P : Program} {w : World} {K : PySem.W.Frag} {mg : Str → Option Value} {base : Heap}
/-! _law_wrong -/
def spLWrong : Sp := fun vs H Q _ => ∃ (n : Int) (d : Addr) (m : Str) (ns : List Str) (ad : Str → Addr) (r : Str → Pr), vs = [.int n, .ref d, .str m] ∧ RtAt H d ns ad r ∧ ns.length = 5 ∧ ns.Nodup ∧ m ∈ ns ∧ (∀ x ∈ ns, Sh x) ∧
  ∀ x t H', Same H H' → (∀ b, x = .ref b → H b = none) → StrA H' x t → (∀ e, WrongR H' x [(m, e)]) → Q x H'
theorem scLWrong : FnScope ["_law_number_here", "_law_rates_here", "_law_name", "_law_bad", "_law_wrong_here", "_law_other"] ["_law_number_here", "_law_rates_here", "_law_name"] (defScope lWrong) := ⟨rfl, rfl, rfl, by decide +kernel, rfl, by decide +kernel, by decide +kernel⟩
theorem ok_lwrong {f : Addr} {fd : FuncData} (F : Fun K "_law_wrong" "_law_wrong" lWrong f fd) (B : Bn mg) : FnOk P w K mg base CX0 2 f fd ["_law_number_here", "_law_rates_here", "_law_name"] spLWrong := by
  refine F.ok scLWrong (fun vs H Q E h => ?_) (fun cdv A outer s H vs Q E hr h => ?_)
  · obtain ⟨n, d, m, ns, ad, r, rfl, _⟩ := h
    rfl
  · obtain ⟨n, d, m, ns, ad, r, rfl, rt, h5, nd, hm, sh, q⟩ := h
    have hu := hu_of hr
    refine ⟨_, QB.out (b_cons 
      (s_set 3 scLWrong.nd rfl (Or.inl rfl) (q_lst (qc (q_tup (qc q_int (qc q_int q_nil rfl) rfl)) (qc (q_tup (qc (q_neg q_int) (qc q_int q_nil rfl) rfl)) (qc (q_tup (qc q_int (qc q_int q_nil rfl) rfl)) (qc q_int (qc q_non (qc q_str (qc (q_tup (qc q_int (qc q_int q_nil rfl) rfl)) (qc (q_tup (qc q_bl (qc q_int q_nil rfl) rfl)) (qc (q_lst (qc q_int (qc q_int q_nil rfl) rfl)) (qc (q_tup (qc q_int q_nil rfl)) q_nil rfl) rfl) rfl) rfl) rfl) rfl) rfl) rfl) rfl) rfl)) rfl (.inr rfl)) (b_cons 
      (s_set 4 scLWrong.nd rfl (Or.inl rfl) (q_callTy call_dictC rfl B.dict bt_dict (qc (qv 1 rfl (.inl rfl) rfl rfl) q_nil rfl) (by decide) rfl rfl rfl) rfl (.inr rfl)) (b_cons 
      (s_set 5 scLWrong.nd rfl (Or.inl rfl) (q_ixl (K := K) rfl (q_callB (call_sortedD rfl) rfl B.sorted bt_sorted (qc (qv 1 rfl (.inl rfl) rfl rfl) q_nil rfl) (by decide) rfl rfl rfl) (q_mod (q_fdiv (qv 0 rfl (.inl rfl) rfl rfl) q_int) (q_callB call_lenD rfl B.len bt_len (qc (qv 1 rfl (.inl rfl) rfl rfl) q_nil rfl) (by decide) rfl rfl rfl)) (fun _ _ => rfl)) rfl (.inr rfl)) (b_cons 
      (s_if (t_cmp op_eq (q_mod (qv 0 rfl (.inl rfl) rfl rfl) q_int) q_int rfl) (b_cons 
        (s_dput hu (qv 4 rfl (.inl rfl) rfl rfl) (q_ixl (K := K) rfl (q_lst (qc q_str (qc q_str (qc q_int (qc q_str q_nil rfl) rfl) rfl) rfl)) (q_mod (q_fdiv (qv 0 rfl (.inl rfl) rfl rfl) q_int) q_int) (fun _ _ => rfl)) (q_tup (qc q_int (qc q_int q_nil rfl) rfl)) rfl) (b_one 
        (s_ret (qv 4 rfl (.inl rfl) rfl rfl)))) b_nil) (b_cons 
      (s_if (t_cmp op_eq (q_mod (qv 0 rfl (.inl rfl) rfl rfl) q_int) q_int rfl) (b_one 
        (s_ret (q_ixl (K := K) rfl (q_lst (qc q_non (qc (q_lst q_nil) (qc q_str (qc q_int (qc (q_tup (qc (q_tup (qc q_str (qc (q_tup (qc q_int (qc q_int q_nil rfl) rfl)) q_nil rfl) rfl)) q_nil rfl)) q_nil rfl) rfl) rfl) rfl) rfl)) (q_mod (q_fdiv (qv 0 rfl (.inl rfl) rfl rfl) q_int) q_int) (fun _ _ => rfl)))) b_nil) (b_cons 
      (s_if (t_cmp op_eq (q_mod (qv 0 rfl (.inl rfl) rfl rfl) q_int) q_int rfl) (b_one 
        (s_expr (q_dpop1 (qv 4 rfl (.inl rfl) rfl rfl) (qv 2 rfl (.inl rfl) rfl rfl) ⟨rfl, rfl, rfl, rfl⟩) rfl)) (b_one 
        (s_dput hu (qv 4 rfl (.inl rfl) rfl rfl) (q_ixl (K := K) rfl (q_lst (qc (qv 2 rfl (.inl rfl) rfl rfl) (qc (qv 5 rfl (.inl rfl) rfl rfl) q_nil rfl) rfl)) (q_mod (q_fdiv (qv 0 rfl (.inl rfl) rfl rfl) q_int) q_int) (fun _ _ => rfl)) (q_ixl (K := K) rfl (qv 3 rfl (.inl rfl) rfl rfl) (q_mod (qv 0 rfl (.inl rfl) rfl rfl) q_int) (fun _ _ => rfl)) rfl))) (b_one 
      (s_ret (qv 4 rfl (.inl rfl) rfl rfl))))))))), ?_⟩
    refine ⟨two_le, fun p1 g1 => ?_⟩
    have u1 : Same H (L2.upd H p1 (.tup [.int 0, .int 1])) := Same.upd g1
    have e1 : L2.upd H p1 (.tup [.int 0, .int 1]) p1 = some (.tup [.int 0, .int 1]) := upd_same
    generalize L2.upd H p1 (.tup [.int 0, .int 1]) = H1 at u1 e1 ⊢
    refine ⟨_, rfl, two_le, fun p2 g2 => ?_⟩
    have u2 : Same H1 (L2.upd H1 p2 (.tup [.int (-1), .int 2])) := Same.upd g2
    have e2 : L2.upd H1 p2 (.tup [.int (-1), .int 2]) p2 = some (.tup [.int (-1), .int 2]) := upd_same
    generalize L2.upd H1 p2 (.tup [.int (-1), .int 2]) = H2 at u2 e2 ⊢
    refine ⟨two_le, fun p3 g3 => ?_⟩
    have u3 : Same H2 (L2.upd H2 p3 (.tup [.int 2, .int 4])) := Same.upd g3
    have e3 : L2.upd H2 p3 (.tup [.int 2, .int 4]) p3 = some (.tup [.int 2, .int 4]) := upd_same
    generalize L2.upd H2 p3 (.tup [.int 2, .int 4]) = H3 at u3 e3 ⊢
    refine ⟨two_le, fun p4 g4 => ?_⟩
    have u4 : Same H3 (L2.upd H3 p4 (.tup [.int 1, .int 0])) := Same.upd g4
    have e4 : L2.upd H3 p4 (.tup [.int 1, .int 0]) p4 = some (.tup [.int 1, .int 0]) := upd_same
    generalize L2.upd H3 p4 (.tup [.int 1, .int 0]) = H4 at u4 e4 ⊢
    refine ⟨two_le, fun p5 g5 => ?_⟩
    have u5 : Same H4 (L2.upd H4 p5 (.tup [.bl true, .int 1])) := Same.upd g5
    have e5 : L2.upd H4 p5 (.tup [.bl true, .int 1]) p5 = some (.tup [.bl true, .int 1]) := upd_same
    generalize L2.upd H4 p5 (.tup [.bl true, .int 1]) = H5 at u5 e5 ⊢
    refine ⟨two_le, fun p6 g6 => ?_⟩
    have u6 : Same H5 (L2.upd H5 p6 (.lst [.int 1, .int 2])) := Same.upd g6
    have e6 : L2.upd H5 p6 (.lst [.int 1, .int 2]) p6 = some (.lst [.int 1, .int 2]) := upd_same
    generalize L2.upd H5 p6 (.lst [.int 1, .int 2]) = H6 at u6 e6 ⊢
    refine ⟨(by show 1 ≤ sizeLine; decide), fun p7 g7 => ?_⟩
    have u7 : Same H6 (L2.upd H6 p7 (.tup [.int 1])) := Same.upd g7
    have e7 : L2.upd H6 p7 (.tup [.int 1]) p7 = some (.tup [.int 1]) := upd_same
    generalize L2.upd H6 p7 (.tup [.int 1]) = H7 at u7 e7 ⊢
    refine ⟨(by show 10 ≤ sizeLine; decide), fun L gL => ?_⟩
    have u8 : Same H7 (L2.upd H7 L (.lst [.ref p1, .ref p2, .ref p3, .int 1, .non, .str "1", .ref p4, .ref p5, .ref p6, .ref p7])) := Same.upd gL
    have e8 : L2.upd H7 L (.lst [.ref p1, .ref p2, .ref p3, .int 1, .non, .str "1", .ref p4, .ref p5, .ref p6, .ref p7]) L = some (.lst [.ref p1, .ref p2, .ref p3, .int 1, .non, .str "1", .ref p4, .ref p5, .ref p6, .ref p7]) := upd_same
    generalize L2.upd H7 L (.lst [.ref p1, .ref p2, .ref p3, .int 1, .non, .str "1", .ref p4, .ref p5, .ref p6, .ref p7]) = H8 at u8 e8 ⊢
    have w7 := u8
    have w6 := u7.trans w7
    have w5 := u6.trans w6
    have w4 := u5.trans w5
    have w3 := u4.trans w4
    have w2 := u3.trans w3
    have w1 := u2.trans w2
    have w0 := u1.trans w1
    have f1 := w1 _ _ e1
    have f2 := w2 _ _ e2
    have f3 := w3 _ _ e3
    have f4 := w4 _ _ e4
    have f5 := w5 _ _ e5
    have f6 := w6 _ _ e6
    have f7 := w7 _ _ e7
    have bad : ∀ v ∈ ([.ref p1, .ref p2, .ref p3, .int 1, .non, .str "1", .ref p4, .ref p5, .ref p6, .ref p7] : List V), BadV H8 v := fun v hv => by
      simp only [List.mem_cons, List.not_mem_nil, or_false] at hv
      rcases hv with rfl | rfl | rfl | rfl | rfl | rfl | rfl | rfl | rfl | rfl
      · exact ⟨.inr ⟨p1, _, rfl, f1, kd_ints, .inr ⟨_, _, rfl, by decide⟩⟩, _, dat_t2 f1, sm_tup2 (by decide) (by decide)⟩
      · exact ⟨.inr ⟨p2, _, rfl, f2, kd_ints, .inr ⟨_, _, rfl, by decide⟩⟩, _, dat_t2 f2, sm_tup2 (by decide) (by decide)⟩
      · exact ⟨.inr ⟨p3, _, rfl, f3, kd_ints, .inl (by decide)⟩, _, dat_t2 f3, sm_tup2 (by decide) (by decide)⟩
      · exact ⟨.inl (.int 1), .int 1, rfl, sm_int (by decide)⟩
      · exact ⟨.inl .non, .none, rfl, sm_none⟩
      · exact ⟨.inl (.str _), .str "1", rfl, sm_str ⟨by decide +kernel, by decide +kernel⟩⟩
      · exact ⟨.inr ⟨p4, _, rfl, f4, kd_ints, .inl (by decide)⟩, _, dat_t2 f4, sm_tup2 (by decide) (by decide)⟩
      · refine ⟨.inr ⟨p5, _, rfl, f5, fun y hy => ?_, .inl rfl⟩, .tuple [.bool true, .int 1], .inr ⟨_, _, rfl, f5, .cons rfl (.cons rfl .nil)⟩, ?_⟩
        · rcases List.mem_cons.mp hy with z | z
          · subst z; exact .bl _
          · have z' : y = .int 1 := by simpa using z
            subst z'; exact .int 1
        · exact sm_b1
      · exact ⟨.inl (.lst f6), .list [.int 1, .int 2], .inl ⟨_, _, rfl, .inl f6, .cons rfl (.cons rfl .nil)⟩, sm_l12⟩
      · refine ⟨.inr ⟨p7, _, rfl, f7, fun y hy => ?_, .inl rfl⟩, .tuple [.int 1], .inr ⟨_, _, rfl, f7, .cons rfl .nil⟩, sm_t1⟩
        have z' : y = .int 1 := by simpa using hy
        subst z'; exact .int 1
    have rt8 := rt.same w0
    refine ⟨_, rfl, d, _, rfl, rt8.rd, fun D hD => ?_⟩
    have s9 : Same H8 (L2.upd H8 D (.dK (rtD ns ad))) := Same.upd hD
    have e9 : L2.upd H8 D (.dK (rtD ns ad)) D = some (.dK (rtD ns ad)) := upd_same
    generalize L2.upd H8 D (.dK (rtD ns ad)) = H9 at s9 e9 ⊢
    have rt9 := rt8.same s9
    refine ⟨_, rfl, d, _, ns, rfl, rt9.rd, by rw [List.map_map]; rfl, by rw [List.length_map]; omega, fun S ks hS hp hs => ?_⟩
    have s10 : Same H9 (L2.upd H9 S (.lst (ks.map V.str))) := Same.upd hS
    have e10 : L2.upd H9 S (.lst (ks.map V.str)) S = some (.lst (ks.map V.str)) := upd_same
    generalize L2.upd H9 S (.lst (ks.map V.str)) = HA at s10 e10 ⊢
    have rtA := rt9.same s10
    have eA := s10 _ _ e9
    have sA : Same H HA := (w0.trans s9).trans s10
    have c0 := Int.emod_nonneg (n / 60) (by decide : (5 : Int) ≠ 0)
    have c1 := Int.emod_lt_of_pos (n / 60) (by decide : (0 : Int) < 5)
    obtain ⟨j, hj⟩ : ∃ j : Nat, n / 60 % 5 = j := ⟨(n / 60 % 5).toNat, by omega⟩
    have hk5 : ks.length = 5 := by rw [hp.length_eq]; exact h5
    have hj5 : j < ks.length := by omega
    have ho : ks[j] ∈ ns := hp.mem_iff.mp (List.getElem_mem hj5)
    have l5 : ((rtD ns ad).length : Int) = 5 := by rw [List.length_map, h5]; rfl
    have ea : atI (ks.map V.str) (n / 60 % ((rtD ns ad).length : Int)) = some (.str ks[j]) := by
      rw [l5, hj]
      refine atI_nat ?_
      rw [List.getElem?_map, List.getElem?_eq_getElem hj5]
      rfl
    generalize ks[j] = other at ho ea
    have hDn : H D = none := by
      cases z : H D with
      | none => rfl
      | some o => rw [w0 _ _ z] at hD; cases hD
    refine ⟨_, rfl, _, _, rfl, rfl, ⟨by decide, by decide⟩, _, rfl, d, _, rfl, rtA.rd, _, _, rfl, rfl, by rw [l5]; show (0 : Int) < 5; decide, S, _, _, .str other, rfl, rfl, SqL.of e10, ea, ?_⟩
    -- the new dict, its entries being told
    have fin : ∀ H' kvs, Same H H' → H' D = some (.dK kvs) → kvs.length ≤ 100 → (∀ p ∈ kvs, Sm (kD p.1)) → (∀ p ∈ kvs, ∃ d, Dat H' 3 p.2 d ∧ Sm d) → (∀ e, WrongR H' (.ref D) [(m, e)]) → Q (.ref D) H' := fun H' kvs s' e' hl hk hv wr => by
      obtain ⟨t, st⟩ := str_small (.inl e') hl hk hv
      refine q _ t H' s' (fun b z => ?_) st wr
      cases z
      exact hDn
    have hnt : ∀ b xs, HA b = some (.tup xs) → b ≠ D := fun b xs e z => by
      rw [z, eA] at e
      cases e
    have hent : ∀ H', (∀ b xs, HA b = some (.tup xs) → H' b = some (.tup xs)) → ∀ x ∈ ns, ∃ d, Dat H' 3 (.ref (ad x)) d ∧ Sm d := fun H' tp x hx => by
      have := tp _ _ (rtA.at' x hx)
      have z1 := (rt.sml x).1
      have z2 := (rt.sml x).2
      unfold Sz at z1 z2
      have b9 : (2 : Nat) ^ 20 ≤ 10 ^ 9 := by decide
      exact ⟨_, dat_t2 this, sm_tup2 (Nat.lt_of_lt_of_le z1 b9) (Nat.lt_of_lt_of_le z2 b9)⟩
    have hgood : ∀ H', (∀ b xs, HA b = some (.tup xs) → H' b = some (.tup xs)) → ∀ x ∈ ns, GoodE H' (Sum.inr x, .ref (ad x)) := fun H' tp x hx =>
      ⟨x, ad x, (r x).1, (r x).2, rfl, rt.nm x hx, rfl, tp _ _ (rtA.at' x hx), (rt.pos x).1, (rt.pos x).2, rt.cop x hx⟩
    refine ⟨_, rfl, _, _, rfl, rfl, (by decide : (0 : Int) < 13), rfl, _, rfl, ?_⟩
    refine ite2 (fun c => ?_) (fun c => ?_)
    · refine ⟨two_le, fun t ht => ?_⟩
      have sB : Same HA (L2.upd HA t (.tup [.int 1, .int 1])) := Same.upd ht
      have eB : L2.upd HA t (.tup [.int 1, .int 1]) t = some (.tup [.int 1, .int 1]) := upd_same
      generalize L2.upd HA t (.tup [.int 1, .int 1]) = HB at sB eB ⊢
      refine ⟨_, rfl, (by show 4 ≤ sizeLine; decide), fun l hl => ?_⟩
      have sC : Same HB (L2.upd HB l (.lst [.str "A", .str "unit", .int 5, .str "abcdefghi"])) := Same.upd hl
      have eC : L2.upd HB l (.lst [.str "A", .str "unit", .int 5, .str "abcdefghi"]) l = some (.lst [.str "A", .str "unit", .int 5, .str "abcdefghi"]) := upd_same
      generalize L2.upd HB l (.lst [.str "A", .str "unit", .int 5, .str "abcdefghi"]) = HC at sC eC ⊢
      have ks4 : ∀ v ∈ ([.str "A", .str "unit", .int 5, .str "abcdefghi"] : List V), ∃ k : Key, v = kV k ∧ isNm (kV k) = false ∧ KeyOk k ∧ Sm (kD k) := fun v hv => by
        simp only [List.mem_cons, List.not_mem_nil, or_false] at hv
        rcases hv with rfl | rfl | rfl | rfl
        · exact ⟨.inr "A", rfl, by decide +kernel, by show ("A" : Str).length ≤ 100; decide +kernel, sm_str ⟨by decide +kernel, by decide +kernel⟩⟩
        · exact ⟨.inr "unit", rfl, by decide +kernel, by show ("unit" : Str).length ≤ 100; decide +kernel, sm_str ⟨by decide +kernel, by decide +kernel⟩⟩
        · exact ⟨.inl 5, rfl, rfl, trivial, sm_int (by decide)⟩
        · exact ⟨.inr "abcdefghi", rfl, by decide +kernel, by show ("abcdefghi" : Str).length ≤ 100; decide +kernel, sm_str ⟨by decide +kernel, by decide +kernel⟩⟩
      obtain ⟨v, hv, k, rfl, kn, ko, ksm⟩ := at_all (n := n / 13) (m := 4) ks4 rfl (by decide)
      refine ⟨_, rfl, _, _, rfl, rfl, ⟨by decide, by decide⟩, _, _, rfl, rfl, (by decide : (0 : Int) < 4), l, _, _, _, rfl, rfl, SqL.of eC, hv, ?_⟩
      have eD := sC _ _ (sB _ _ eA)
      refine ⟨D, _, rfl, DPut.k (k := k) eD (by rw [List.length_map, sizeLine_eq]; omega), _, rfl, ?_⟩
      have hkn : valV (rtD ns ad) k = none := by
        cases k with
        | inl i =>
          cases z : valV (rtD ns ad) (Sum.inl i) with
          | none => rfl
          | some v =>
            have : (rtD ns ad).any (fun kv => decide (kv.1 = (Sum.inl i : Key))) = true := by rw [valV_any, z]; rfl
            obtain ⟨p, hp', e'⟩ := List.any_eq_true.mp this
            obtain ⟨y, _, rfl⟩ := List.mem_map.mp hp'
            simp at e'
        | inr y =>
          rw [valV_fun, if_neg]
          intro hy
          have : isNm (.str y) = true := rt.nm y hy
          rw [show kV (Sum.inr y) = .str y from rfl, this] at kn
          cases kn
      rw [putK_new _ hkn]
      have tp : ∀ b xs, HA b = some (.tup xs) → L2.upd HC D (.dK (rtD ns ad ++ [(k, .ref t)])) b = some (.tup xs) := fun b xs e => by
        rw [upd_ne (hnt _ _ e)]; exact sC _ _ (sB _ _ e)
      have et : L2.upd HC D (.dK (rtD ns ad ++ [(k, .ref t)])) t = some (.tup [.int 1, .int 1]) := by
        rw [upd_ne]
        · exact sC _ _ eB
        · intro z
          rw [z, eA] at ht
          cases ht
      refine fin _ _ (Same.store ((sA.trans sB).trans sC) hDn) upd_same (by simp [h5]) (fun p hp' => ?_) (fun p hp' => ?_) (fun e => .inr (.inl ⟨D, _, rfl, .inl upd_same, ns.length, fun p hp' => ?_, (k, .ref t), ?_, ko, .inl kn⟩))
      · rcases List.mem_append.mp hp' with z | z
        · obtain ⟨y, hy, rfl⟩ := List.mem_map.mp z
          exact sm_str (sh y hy)
        · have z' : p = (k, .ref t) := by simpa using z
          subst z'; exact ksm
      · rcases List.mem_append.mp hp' with z | z
        · obtain ⟨y, hy, rfl⟩ := List.mem_map.mp z
          exact hent _ tp y hy
        · have z' : p = (k, .ref t) := by simpa using z
          subst z'; exact ⟨_, dat_t2 et, sm_tup2 (by decide) (by decide)⟩
      · rw [List.take_append_of_le_length (by simp), List.take_of_length_le (by simp)] at hp'
        obtain ⟨y, hy, rfl⟩ := List.mem_map.mp hp'
        exact hgood _ tp y hy
      · rw [List.getElem?_append_right (by simp)]; simp
    refine ⟨_, rfl, _, _, rfl, rfl, (by decide : (0 : Int) < 13), rfl, _, rfl, ?_⟩
    refine ite2 (fun c' => ?_) (fun c' => ?_)
    · refine ⟨(by show 0 ≤ sizeLine; decide), fun q1 r1 => ?_⟩
      have sB : Same HA (L2.upd HA q1 (.lst [])) := Same.upd r1
      have eB : L2.upd HA q1 (.lst []) q1 = some (.lst []) := upd_same
      generalize L2.upd HA q1 (.lst []) = HB at sB eB ⊢
      refine ⟨two_le, fun q2 r2 => ?_⟩
      have sC : Same HB (L2.upd HB q2 (.tup [.int 1, .int 1])) := Same.upd r2
      have eC : L2.upd HB q2 (.tup [.int 1, .int 1]) q2 = some (.tup [.int 1, .int 1]) := upd_same
      generalize L2.upd HB q2 (.tup [.int 1, .int 1]) = HC at sC eC ⊢
      refine ⟨two_le, fun q3 r3 => ?_⟩
      have sD : Same HC (L2.upd HC q3 (.tup [.str "a", .ref q2])) := Same.upd r3
      have eE : L2.upd HC q3 (.tup [.str "a", .ref q2]) q3 = some (.tup [.str "a", .ref q2]) := upd_same
      generalize L2.upd HC q3 (.tup [.str "a", .ref q2]) = HD at sD eE ⊢
      refine ⟨(by show 1 ≤ sizeLine; decide), fun q4 r4 => ?_⟩
      have sF : Same HD (L2.upd HD q4 (.tup [.ref q3])) := Same.upd r4
      have eF : L2.upd HD q4 (.tup [.ref q3]) q4 = some (.tup [.ref q3]) := upd_same
      generalize L2.upd HD q4 (.tup [.ref q3]) = HF at sF eF ⊢
      refine ⟨(by show 5 ≤ sizeLine; decide), fun q5 r5 => ?_⟩
      have sG : Same HF (L2.upd HF q5 (.lst [.non, .ref q1, .str "rates", .int 5, .ref q4])) := Same.upd r5
      have eG : L2.upd HF q5 (.lst [.non, .ref q1, .str "rates", .int 5, .ref q4]) q5 = some (.lst [.non, .ref q1, .str "rates", .int 5, .ref q4]) := upd_same
      generalize L2.upd HF q5 (.lst [.non, .ref q1, .str "rates", .int 5, .ref q4]) = HG at sG eG ⊢
      have t1 := sG _ _ (sF _ _ (sD _ _ (sC _ _ eB)))
      have t2 := sG _ _ (sF _ _ (sD _ _ eC))
      have t3 := sG _ _ (sF _ _ eE)
      have t4 := sG _ _ eF
      have new : ∀ {H' : Hp} {b : Addr}, Same H H' → H' b = none → H b = none := fun {H' b} s' e => by
        cases z : H b with
        | none => rfl
        | some o => rw [s' _ _ z] at e; cases e
      have no5 : ∀ v ∈ ([.non, .ref q1, .str "rates", .int 5, .ref q4] : List V), NoD HG v ∧ (∃ t, StrA HG v t) ∧ ∀ b, v = .ref b → H b = none := fun v hv => by
        simp only [List.mem_cons, List.not_mem_nil, or_false] at hv
        rcases hv with rfl | rfl | rfl | rfl | rfl
        · exact ⟨.non, ⟨_, .non⟩, fun _ z => nomatch z⟩
        · refine ⟨.lst t1, ⟨_, str_sm (n := 1) (.inl ⟨_, _, rfl, .inl t1, .nil⟩) sm_nil⟩, fun b z => ?_⟩
          cases z
          exact new sA r1
        · exact ⟨.str _, ⟨_, .str _⟩, fun _ z => nomatch z⟩
        · exact ⟨.int _, ⟨_, .int 5 (by decide)⟩, fun _ z => nomatch z⟩
        · refine ⟨.tup t4, ⟨_, str_sm (n := 3) (.inr ⟨_, _, rfl, t4, .cons (.inr ⟨_, _, rfl, t3, .cons rfl (.cons (dat_t2 t2) .nil)⟩) .nil⟩) sm_a11⟩, fun b z => ?_⟩
          cases z
          exact new (((sA.trans sB).trans sC).trans sD) r4
      obtain ⟨v, hv, nod, ⟨t, st⟩, hn⟩ := at_all (n := n / 12) (m := 5) no5 rfl (by decide)
      refine ⟨_, rfl, _, _, rfl, rfl, ⟨by decide, by decide⟩, _, _, rfl, rfl, (by decide : (0 : Int) < 5), q5, _, _, v, rfl, rfl, SqL.of eG, hv, ?_⟩
      exact q v t HG (((((sA.trans sB).trans sC).trans sD).trans sF).trans sG) hn st fun e => .inl nod
    refine ⟨_, rfl, _, _, rfl, rfl, (by decide : (0 : Int) < 13), rfl, _, rfl, ?_⟩
    refine ite2 (fun c'' => ?_) (fun c'' => ?_)
    · refine ⟨_, rfl, D, rfl, .inl ⟨_, .inl eA⟩, _, rfl, _, Sum.inr m, .ref (ad m), eA, rfl, by rw [valV_fun, if_pos hm], _, rfl, ?_⟩
      rw [drop_rt]
      have sub : ∀ x ∈ ns.filter (fun n => decide (n ≠ m)), x ∈ ns := fun x hx => (List.mem_filter.mp hx).1
      have tp : ∀ b xs, HA b = some (.tup xs) → L2.upd HA D (.dK (rtD (ns.filter fun n => decide (n ≠ m)) ad)) b = some (.tup xs) := fun b xs e => by
        rw [upd_ne (hnt _ _ e)]; exact e
      refine fin _ _ (Same.store sA hDn) upd_same ?_ (fun p hp' => ?_) (fun p hp' => ?_) (fun e => .inr (.inr ⟨D, _, ad, r, rfl, ⟨.inl upd_same, fun x hx => tp _ _ (rtA.at' x (sub x hx)), fun x hx => rt.nm x (sub x hx), fun x hx => rt.cop x (sub x hx), rt.pos, rt.sml⟩, m, e, [], rfl, fun z => ?_⟩))
      · rw [List.length_map]
        have := List.length_filter_le (fun n => decide (n ≠ m)) ns
        omega
      · obtain ⟨y, hy, rfl⟩ := List.mem_map.mp hp'
        exact sm_str (sh y (sub y hy))
      · obtain ⟨y, hy, rfl⟩ := List.mem_map.mp hp'
        exact hent _ tp y (sub y hy)
      · have := (List.mem_filter.mp z).2
        simp at this
    · have d0 := Int.emod_nonneg n (by decide : (13 : Int) ≠ 0)
      have d1 := Int.emod_lt_of_pos n (by decide : (0 : Int) < 13)
      have n12 : n % 13 ≠ 12 := fun z => (of_decide_eq_false (Bool.eq_false_iff.mpr c)) (congrArg V.int z)
      have n11 : n % 13 ≠ 11 := fun z => (of_decide_eq_false (Bool.eq_false_iff.mpr c')) (congrArg V.int z)
      have n10 : n % 13 ≠ 10 := fun z => (of_decide_eq_false (Bool.eq_false_iff.mpr c'')) (congrArg V.int z)
      obtain ⟨i0, hi0⟩ : ∃ i0 : Nat, n % 13 = i0 := ⟨(n % 13).toNat, by omega⟩
      have s8A : Same H8 HA := s9.trans s10
      obtain ⟨v, hv, bv⟩ : ∃ v, atI ([.ref p1, .ref p2, .ref p3, .int 1, .non, .str "1", .ref p4, .ref p5, .ref p6, .ref p7] : List V) (n % 13) = some v ∧ BadV HA v := by
        have hl : i0 < ([.ref p1, .ref p2, .ref p3, .int 1, .non, .str "1", .ref p4, .ref p5, .ref p6, .ref p7] : List V).length := by show i0 < 10; omega
        refine ⟨_, ?_, (bad _ (List.getElem_mem hl)).same s8A⟩
        rw [hi0]
        exact atI_nat (List.getElem?_eq_getElem hl)
      refine ⟨_, rfl, _, rfl, _, _, rfl, rfl, (by decide : (0 : Int) < 13), L, _, _, v, rfl, rfl, SqL.of (s8A _ _ e8), hv, _, rfl, ?_⟩
      refine ⟨_, rfl, _, rfl, two_le, fun l hl => ?_⟩
      have sB : Same HA (L2.upd HA l (.lst [.str m, .str other])) := Same.upd hl
      have eB : L2.upd HA l (.lst [.str m, .str other]) l = some (.lst [.str m, .str other]) := upd_same
      generalize L2.upd HA l (.lst [.str m, .str other]) = HB at sB eB ⊢
      have two : ∀ v ∈ ([.str m, .str other] : List V), ∃ z, v = .str z ∧ z ∈ ns := fun v hv => by
        simp only [List.mem_cons, List.not_mem_nil, or_false] at hv
        rcases hv with rfl | rfl
        · exact ⟨_, rfl, hm⟩
        · exact ⟨_, rfl, ho⟩
      obtain ⟨_, hz, z, rfl, zin⟩ := at_all (n := n / 300) (m := 2) two rfl (by decide)
      refine ⟨_, rfl, _, _, rfl, rfl, ⟨by decide, by decide⟩, _, _, rfl, rfl, (by decide : (0 : Int) < 2), l, _, _, _, rfl, rfl, SqL.of eB, hz, ?_⟩
      have eD := sB _ _ eA
      refine ⟨D, _, rfl, DPut.k (k := Sum.inr z) eD (by rw [List.length_map, sizeLine_eq]; omega), _, rfl, ?_⟩
      rw [put_rt zin]
      have kp : ∀ b o, b ≠ D → HB b = some o → L2.upd HB D (.dK (ns.map fun n => ((Sum.inr n : Key), if n = z then v else .ref (ad n)))) b = some o := fun b o hb e => by rw [upd_ne hb]; exact e
      have tp : ∀ b xs, HA b = some (.tup xs) → L2.upd HB D (.dK (ns.map fun n => ((Sum.inr n : Key), if n = z then v else .ref (ad n)))) b = some (.tup xs) := fun b xs e => kp _ _ (hnt _ _ e) (sB _ _ e)
      obtain ⟨bv, dt, hdt, smd⟩ := BadV.same bv sB
      have dt' := dat_move (.inl eD) kp _ hdt
      have bv' : BadE (L2.upd HB D (.dK (ns.map fun n => ((Sum.inr n : Key), if n = z then v else .ref (ad n))))) (Sum.inr z, v) := by
        refine ⟨by have := (rt.nm z zin).len; show z.length ≤ 100; omega, .inr ?_⟩
        rcases bv with z1 | ⟨t1, xs, rfl, e1, kd, z1⟩
        · exact .inl (not_move (.inl eD) kp z1)
        · exact .inr ⟨t1, xs, rfl, kp _ _ (ne_dict (.inl eD) e1 (fun _ _ z => by cases z) (fun _ z => by cases z)) e1, fun y hy => kd_move (.inl eD) kp (kd y hy), z1⟩
      generalize hH' : L2.upd HB D (.dK (ns.map fun n => ((Sum.inr n : Key), if n = z then v else .ref (ad n)))) = H' at *
      have eH : H' D = some (.dK (ns.map fun n => ((Sum.inr n : Key), if n = z then v else .ref (ad n)))) := by rw [← hH']; exact upd_same
      have sH : Same H H' := by rw [← hH']; exact Same.store (sA.trans sB) hDn
      obtain ⟨i, hi, ei⟩ := List.getElem_of_mem zin
      refine fin _ _ sH eH (by rw [List.length_map]; omega) (fun p hp' => ?_) (fun p hp' => ?_) (fun e => .inr (.inl ⟨D, _, rfl, .inl eH, i, fun p hp' => ?_, (Sum.inr z, v), ?_, bv'⟩))
      · obtain ⟨y, hy, rfl⟩ := List.mem_map.mp hp'
        exact sm_str (sh y hy)
      · obtain ⟨y, hy, rfl⟩ := List.mem_map.mp hp'
        by_cases ey : y = z
        · simp only [ey, if_true]; exact ⟨dt, dt', smd⟩
        · simp only [if_neg ey]; exact hent _ tp y hy
      · rw [← List.map_take] at hp'
        obtain ⟨y, hy, rfl⟩ := List.mem_map.mp hp'
        have ey : y ≠ z := fun e' => by
          obtain ⟨k, hk, ek⟩ := List.getElem_of_mem hy
          have hk' : k < i := by
            have := hk
            simp at this
            omega
          rw [List.getElem_take] at ek
          have := List.pairwise_iff_getElem.mp nd k i (by omega) hi hk'
          exact this (by rw [ek, ei, e'])
        simp only [if_neg ey]
        exact hgood _ tp y (List.mem_of_mem_take hy)
      · rw [List.getElem?_map, List.getElem?_eq_getElem hi, ei]
        simp
end
end Fr

set_option Elab.async false
set_option linter.all false
set_option maxRecDepth 100000
set_option maxHeartbeats 400000
namespace Fr
open PySem PySem.Spec PyProof.Rows L2 FrM
section
variable {P : Program} {w : World} {K : PySem.W.Frag} {mg : Str → Option Value} {base : Heap}
def spLaw (K : PySem.W.Frag) : Sp := fun vs H Q _ => ∃ (a : Addr) (ns : List Int), vs = [.ref a] ∧ SqL K H a (ns.map V.int) ∧ ns.length ≤ 63 ∧ ∀ H', Q (.bl true) H'
structure NmOk (H1 : Hp) (L : Addr) (names : List Str) : Prop where
  at' : H1 L = some (.lst (names.map V.str))
  l5 : names.length = 5
  nm : ∀ x ∈ names, Nm x
  nd : names.Nodup
  hm : ("m" : Str) ∈ names
  sh : ∀ x ∈ names, Sh x
theorem merge {T : L2.St → Hp → Prop} {c : Prop} [Decidable c] {A B : Prop} {a : Addr} {H : Hp} (hA : (∀ L H1 names, Same H H1 → NmOk H1 L names → T [some (.ref a), some (.ref L), none, none, none, none, none, none, none, none] H1) → A)
    (hB : (∀ L H1 names, Same H H1 → NmOk H1 L names → T [some (.ref a), some (.ref L), none, none, none, none, none, none, none, none] H1) → B)
    (h : ∀ L H1 names, Same H H1 → NmOk H1 L names → T [some (.ref a), some (.ref L), none, none, none, none, none, none, none, none] H1) : if c then A else B := by
  split
  · exact hA h
  · exact hB h
theorem nm_one {H1 : Hp} {L : Addr} (e : H1 L = some (.lst [.str "a", .str "ab", .str "abc", .str "m", .str "zz"])) : NmOk H1 L ["a", "ab", "abc", "m", "zz"] := by
  refine ⟨e, rfl, fun x hx => ?_, by decide +kernel, by decide +kernel, fun x hx => ?_⟩
  · simp only [List.mem_cons, List.not_mem_nil, or_false] at hx
    rcases hx with rfl | rfl | rfl | rfl | rfl <;> (show isNm (.str _) = true; decide +kernel)
  · simp only [List.mem_cons, List.not_mem_nil, or_false] at hx
    rcases hx with rfl | rfl | rfl | rfl | rfl <;> exact ⟨by decide +kernel, by decide +kernel⟩
theorem nm_two {H1 : Hp} {L : Addr} (e : H1 L = some (.lst [.str "m", .str "s", .str "kg", .str "coin", .str "k"])) : NmOk H1 L ["m", "s", "kg", "coin", "k"] := by
  refine ⟨e, rfl, fun x hx => ?_, by decide +kernel, by decide +kernel, fun x hx => ?_⟩
  · simp only [List.mem_cons, List.not_mem_nil, or_false] at hx
    rcases hx with rfl | rfl | rfl | rfl | rfl <;> (show isNm (.str _) = true; decide +kernel)
  · simp only [List.mem_cons, List.not_mem_nil, or_false] at hx
    rcases hx with rfl | rfl | rfl | rfl | rfl <;> exact ⟨by decide +kernel, by decide +kernel⟩
/-- the pairs of a list that is made into a dict -/
abbrev PrAt (H : Hp) (ts : List Addr) (kvs : List (Key × V)) : Prop := Paired (fun (t : Addr) (p : Key × V) => H t = some (.tup [kV p.1, p.2])) ts kvs
theorem PrAt.same {H H' : Hp} {ts : List Addr} {kvs : List (Key × V)} (h : PrAt H ts kvs) (s : ∀ b xs, H b = some (.tup xs) → H' b = some (.tup xs)) : PrAt H' ts kvs := paired_imp (fun _ _ e => s _ _ e) h
theorem paired_append {α β : Type} {R : α → β → Prop} {as cs : List α} {bs ds : List β} (p : Paired R as bs) (q : Paired R cs ds) : Paired R (as ++ cs) (bs ++ ds) := by
  induction p with
  | nil => exact q
  | cons h _ ih => exact .cons h ih
theorem rt_snoc {ns : List Str} {ad : Str → Addr} {n : Str} {t : Addr} (h : n ∉ ns) : rtD (ns ++ [n]) (fun x => if x = n then t else ad x) = rtD ns ad ++ [(Sum.inr n, .ref t)] := by
  unfold rtD
  rw [List.map_append]
  congr 1
  · refine List.map_congr_left fun x hx => ?_
    have hne : x ≠ n := fun z => h (by rw [← z]; exact hx)
    show (Sum.inr x, V.ref (if x = n then t else ad x)) = (Sum.inr x, V.ref (ad x))
    rw [if_neg hne]
  · simp
theorem nd_take {ns : List Str} (nd : ns.Nodup) {i : Nat} (hi : i < ns.length) : ns[i] ∉ ns.take i := fun z => by
  obtain ⟨k, hk, ek⟩ := List.getElem_of_mem z
  have hk' : k < i := by
    have := hk
    simp at this
    omega
  rw [List.getElem_take] at ek
  exact List.pairwise_iff_getElem.mp nd k i (by omega) hi hk' ek
theorem two_of {α : Type} {l : List α} (h : l.length = 2) : ∃ a b, l = [a, b] := by
  match l, h with
  | [a, b], _ => exact ⟨a, b, rfl⟩
theorem keys_nd {ns : List Str} {ad : Str → Addr} (nd : ns.Nodup) : ((rtD ns ad).map (·.1)).Nodup := by
  unfold rtD
  rw [List.map_map]
  exact List.Pairwise.map _ (fun a b h z => h (Sum.inr.inj z)) nd
theorem GoodE.same {H H' : Hp} {p : Key × V} (h : GoodE H p) (s : Same H H') : GoodE H' p := by
  obtain ⟨n, t, a, b, e1, nm, e2, e3, h⟩ := h
  exact ⟨n, t, a, b, e1, nm, e2, s _ _ e3, h⟩
theorem BadE.same {H H' : Hp} {p : Key × V} (h : BadE H p) (s : Same H H') : BadE H' p := by
  obtain ⟨k, h⟩ := h
  refine ⟨k, ?_⟩
  rcases h with h | h | ⟨t, xs, e, e1, kd, z⟩
  · exact .inl h
  · refine .inr (.inl ?_)
    generalize p.2 = v at h
    cases h with
    | non => exact .non
    | str x => exact .str _
    | int i => exact .int _
    | lst e => exact .lst (s _ _ e)
  · exact .inr (.inr ⟨t, xs, e, s _ _ e1, fun y hy => kd_same (kd y hy) s, z⟩)
theorem WrongR.same {H H' : Hp} {x : V} {ps : List (Str × Int)} (h : WrongR H x ps) (s : Same H H') : WrongR H' x ps := by
  rcases h with h | ⟨d, kvs, e, rd, i, g, p, ep, b⟩ | ⟨d, ns, ad, r, e, rt, h⟩
  · refine .inl ?_
    cases h with
    | non => exact .non
    | str x => exact .str _
    | int i => exact .int _
    | lst e => exact .lst (s _ _ e)
    | tup e => exact .tup (s _ _ e)
  · exact .inr (.inl ⟨d, kvs, e, Rd.same rd s, i, fun p hp => (g p hp).same s, p, ep, b.same s⟩)
  · exact .inr (.inr ⟨d, ns, ad, r, e, rt.same s, h⟩)
theorem scLaw : FnScope ["_law_script", "_law_names", "_law_rates_here", "_law_kept", "_law_one", "_law_other", "_law_found", "_law_exponent", "_law_over", "_law_wrong_here"] ["_law_script"] (defScope lLaw) := ⟨rfl, rfl, rfl, by decide +kernel, rfl, by decide +kernel, by decide +kernel⟩
theorem ok_law {f fNu fRa fLu fM fIs fLp fJ fP fPw fWr fRe : Addr} {fd fdNu fdRa fdLu fdM fdIs fdLp fdJ fdP fdPw fdWr fdRe : FuncData} (F : Fun K "law" "law" lLaw f fd) (B : Bn mg)
    (FNu : Fun K "_law_number" "_law_number" lNum fNu fdNu) (bNu : Binds K fdNu ["_law_script", "_law_k"] []) (mNu : mg "_law_number" = some (.ref fNu)) (GNu : FnOk P w K mg base CX0 2 fNu fdNu ["_law_script", "_law_k"] (spNum K))
    (FRa : Fun K "_law_rates" "_law_rates" lRates fRa fdRa) (bRa : Binds K fdRa ["_law_number_here", "_law_names"] []) (mRa : mg "_law_rates" = some (.ref fRa)) (GRa : FnOk P w K mg base CX0 4 fRa fdRa ["_law_number_here", "_law_names"] (spLRates K))
    (FLu : Fun K "_law_unit" "_law_unit" lUnit fLu fdLu) (bLu : Binds K fdLu ["_law_number_here", "_law_names", "_law_most"] []) (mLu : mg "_law_unit" = some (.ref fLu)) (GLu : FnOk P w K mg base CX0 5 fLu fdLu ["_law_number_here", "_law_names", "_law_most"] (spLUnit K))
    (FM : Fun K "measure_of" "measure_of" sMeas fM fdM) (bM : Binds K fdM ["unit", "rates"] []) (mM : mg "measure_of" = some (.ref fM)) (GM : FnOk P w K mg base CX0 5 fM fdM ["unit", "rates"] (spMeasN K))
    (FIs : Fun K "_law_is" "_law_is" lIs fIs fdIs) (bIs : Binds K fdIs ["_law_found", "_law_due"] []) (mIs : mg "_law_is" = some (.ref fIs)) (GIs : FnOk P w K mg base CX0 4 fIs fdIs ["_law_found", "_law_due"] (spLIs K))
    (FLp : Fun K "_law_product" "_law_product" lProd fLp fdLp) (bLp : Binds K fdLp ["_law_unit_here", "_law_rates_here"] []) (mLp : mg "_law_product" = some (.ref fLp)) (GLp : FnOk P w K mg base CX0 2 fLp fdLp ["_law_unit_here", "_law_rates_here"] spLProd)
    (FJ : Fun K "joined" "joined" sJoin fJ fdJ) (bJ : Binds K fdJ ["one", "other"] []) (mJ : mg "joined" = some (.ref fJ)) (GJ : FnOk P w K mg base CX0 5 fJ fdJ ["one", "other"] spJoin)
    (FP : Fun K "product_of" "product_of" sProd fP fdP) (bP : Binds K fdP ["one", "other"] []) (mP : mg "product_of" = some (.ref fP)) (GP : FnOk P w K mg base CX0 4 fP fdP ["one", "other"] (spProd K))
    (FPw : Fun K "powered" "powered" sPowd fPw fdPw) (bPw : Binds K fdPw ["unit", "exponent"] []) (mPw : mg "powered" = some (.ref fPw)) (GPw : FnOk P w K mg base CX0 5 fPw fdPw ["unit", "exponent"] spPowd)
    (FWr : Fun K "_law_wrong" "_law_wrong" lWrong fWr fdWr) (bWr : Binds K fdWr ["_law_number_here", "_law_rates_here", "_law_name"] []) (mWr : mg "_law_wrong" = some (.ref fWr)) (GWr : FnOk P w K mg base CX0 2 fWr fdWr ["_law_number_here", "_law_rates_here", "_law_name"] spLWrong)
    (FRe : Fun K "_law_refused" "_law_refused" lRef fRe fdRe) (bRe : Binds K fdRe ["_law_unit_here", "_law_rates_here"] []) (mRe : mg "_law_refused" = some (.ref fRe)) (GRe : FnOk P w K mg base CX0 6 fRe fdRe ["_law_unit_here", "_law_rates_here"] spLRef) :
    FnOk P w K mg base CX0 7 f fd ["_law_script"] (spLaw K) := by
  refine F.ok scLaw (fun vs H Q E h => ?_) (fun cdv A outer s H vs Q E hr h => ?_)
  · obtain ⟨a, ns, rfl, _⟩ := h
    rfl
  · obtain ⟨a, ns, rfl, hS, hlen, q⟩ := h
    have hr2 : Room 2 _ := hr.mono (by decide)
    have hr4 : Room 4 _ := hr.mono (by decide)
    have hr5 : Room 5 _ := hr.mono (by decide)
    have huT := hr.units0
    refine ⟨_, QB.out (b_cons 
      (s_set 1 scLaw.nd rfl (Or.inl rfl) (q_lst (qc q_str (qc q_str (qc q_str (qc q_str (qc q_str q_nil rfl) rfl) rfl) rfl) rfl)) rfl (.inr rfl)) (b_cons 
      (s_if (t_cmp op_eq (q_mod (q_call GNu hr2 rfl mNu FNu.kp bNu .nil pass0 (qc (qv 0 rfl (.inl rfl) rfl rfl) (qc q_int q_nil rfl) rfl) rfl rfl rfl) q_int) q_int rfl) (b_one 
        (s_set 1 scLaw.nd rfl (Or.inl rfl) (q_lst (qc q_str (qc q_str (qc q_str (qc q_str (qc q_str q_nil rfl) rfl) rfl) rfl) rfl)) rfl (.inr rfl))) b_nil) (b_cons 
      (s_set 2 scLaw.nd rfl (Or.inl rfl) (q_call GRa hr4 rfl mRa FRa.kp bRa .nil pass0 (qc (q_call GNu hr2 rfl mNu FNu.kp bNu .nil pass0 (qc (qv 0 rfl (.inl rfl) rfl rfl) (qc q_int q_nil rfl) rfl) rfl rfl rfl) (qc (qv 1 rfl (.inl rfl) rfl rfl) q_nil rfl) rfl) rfl rfl rfl) rfl (.inr rfl)) (b_cons 
      (s_set 3 scLaw.nd rfl (Or.inl rfl) (q_callTy call_dictC rfl B.dict bt_dict (qc (qv 2 rfl (.inl rfl) rfl rfl) q_nil rfl) (by decide) rfl rfl rfl) rfl (.inr rfl)) (b_cons 
      (s_set 4 scLaw.nd rfl (Or.inl rfl) (q_call GLu hr5 rfl mLu FLu.kp bLu .nil pass0 (qc (q_call GNu hr2 rfl mNu FNu.kp bNu .nil pass0 (qc (qv 0 rfl (.inl rfl) rfl rfl) (qc q_int q_nil rfl) rfl) rfl rfl rfl) (qc (qv 1 rfl (.inl rfl) rfl rfl) (qc q_int q_nil rfl) rfl) rfl) rfl rfl rfl) rfl (.inr rfl)) (b_cons 
      (s_set 5 scLaw.nd rfl (Or.inl rfl) (q_call GLu hr5 rfl mLu FLu.kp bLu .nil pass0 (qc (q_call GNu hr2 rfl mNu FNu.kp bNu .nil pass0 (qc (qv 0 rfl (.inl rfl) rfl rfl) (qc q_int q_nil rfl) rfl) rfl rfl rfl) (qc (qv 1 rfl (.inl rfl) rfl rfl) (qc q_int q_nil rfl) rfl) rfl) rfl rfl rfl) rfl (.inr rfl)) (b_cons 
      (s_set 6 scLaw.nd rfl (Or.inl rfl) (q_call GM hr5 rfl mM FM.kp bM .nil pass0 (qc (qv 4 rfl (.inl rfl) rfl rfl) (qc (qv 2 rfl (.inl rfl) rfl rfl) q_nil rfl) rfl) rfl rfl rfl) rfl (.inr rfl)) (b_cons 
      (s_if (t_w (w_or (t_not (t_val (q_call GIs hr4 rfl mIs FIs.kp bIs .nil pass0 (qc (qv 6 rfl (.inl rfl) rfl rfl) (qc (q_call GLp hr2 rfl mLp FLp.kp bLp .nil pass0 (qc (qv 4 rfl (.inl rfl) rfl rfl) (qc (qv 2 rfl (.inl rfl) rfl rfl) q_nil rfl) rfl) rfl rfl rfl) q_nil rfl) rfl) rfl rfl rfl) (fun _ => rfl))) (w_or1 (t_cmp (op_neD huT) (qv 2 rfl (.inl rfl) rfl rfl) (qv 3 rfl (.inl rfl) rfl rfl) rfl)))) (b_one 
        (s_ret q_bl)) b_nil) (b_cons 
      (s_if (t_cmp (op_neS (K := K) rfl huT) (q_call GM hr5 rfl mM FM.kp bM .nil pass0 (qc (q_call GJ hr5 rfl mJ FJ.kp bJ .nil pass0 (qc (qv 4 rfl (.inl rfl) rfl rfl) (qc (qv 5 rfl (.inl rfl) rfl rfl) q_nil rfl) rfl) rfl rfl rfl) (qc (qv 2 rfl (.inl rfl) rfl rfl) q_nil rfl) rfl) rfl rfl rfl) (q_call GP hr4 rfl mP FP.kp bP .nil pass0 (qc (qv 6 rfl (.inl rfl) rfl rfl) (qc (q_call GM hr5 rfl mM FM.kp bM .nil pass0 (qc (qv 5 rfl (.inl rfl) rfl rfl) (qc (qv 2 rfl (.inl rfl) rfl rfl) q_nil rfl) rfl) rfl rfl rfl) q_nil rfl) rfl) rfl rfl rfl) rfl) (b_one 
        (s_ret q_bl)) b_nil) (b_cons 
      (s_set 7 scLaw.nd rfl (Or.inl rfl) (q_sub (q_mod (q_call GNu hr2 rfl mNu FNu.kp bNu .nil pass0 (qc (qv 0 rfl (.inl rfl) rfl rfl) (qc q_int q_nil rfl) rfl) rfl rfl rfl) q_int) q_int) rfl (.inr rfl)) (b_cons 
      (s_if (t_not (t_val (q_call GIs hr4 rfl mIs FIs.kp bIs .nil pass0 (qc (q_call GM hr5 rfl mM FM.kp bM .nil pass0 (qc (q_call GPw hr5 rfl mPw FPw.kp bPw .nil pass0 (qc (qv 5 rfl (.inl rfl) rfl rfl) (qc (qv 7 rfl (.inl rfl) rfl rfl) q_nil rfl) rfl) rfl rfl rfl) (qc (qv 2 rfl (.inl rfl) rfl rfl) q_nil rfl) rfl) rfl rfl rfl) (qc (q_call GLp hr2 rfl mLp FLp.kp bLp .nil pass0 (qc (q_call GPw hr5 rfl mPw FPw.kp bPw .nil pass0 (qc (qv 5 rfl (.inl rfl) rfl rfl) (qc (qv 7 rfl (.inl rfl) rfl rfl) q_nil rfl) rfl) rfl rfl rfl) (qc (qv 2 rfl (.inl rfl) rfl rfl) q_nil rfl) rfl) rfl rfl rfl) q_nil rfl) rfl) rfl rfl rfl) (fun _ => rfl))) (b_one 
        (s_ret q_bl)) b_nil) (b_cons 
      (s_set 8 scLaw.nd rfl (Or.inl rfl) (q_callTy (call_dictL rfl) rfl B.dict bt_dict (qc (q_compS (cl := []) ["_law_name", "_law_rate"] [] [] rfl (i_items (qv 2 rfl (.inl rfl) rfl rfl) rfl rfl) rfl (by decide +kernel) rfl (by decide +kernel) (fun _ _ h => nomatch h) rfl (fun j y i h => nomatch h) (comp_has rfl) (fun C s₂ H₂ fp => (g_tup (K := K) (n := 2) rfl rfl (g_cons (g_name 0 (show (["_law_name", "_law_rate"] : List Str).Nodup by decide +kernel) rfl (.inl rfl) (.inr rfl)) (g_cons (g_name 1 (show (["_law_name", "_law_rate"] : List Str).Nodup by decide +kernel) rfl (.inl rfl) (.inr rfl)) g_nil rfl) rfl) rfl rfl)) (fun C s₂ H₂ fp => ts_nil) (fun C s₂ H₂ fp => (q_tup (qc (qv 0 rfl (.inl rfl) rfl rfl) (qc (q_tup (qc (q_ixt (K := K) rfl (qv 1 rfl (.inl rfl) rfl rfl) q_int (fun _ _ => rfl)) (qc (q_ixt (K := K) rfl (qv 1 rfl (.inl rfl) rfl rfl) q_int (fun _ _ => rfl)) q_nil rfl) rfl)) q_nil rfl) rfl))) (fun _ => rfl)) q_nil rfl) (by decide) rfl rfl rfl) rfl (.inr rfl)) (b_cons 
      (s_if (t_w (w_or (t_cmp (op_neS (K := K) rfl huT) (q_call GM hr5 rfl mM FM.kp bM .nil pass0 (qc (qv 4 rfl (.inl rfl) rfl rfl) (qc (qv 8 rfl (.inl rfl) rfl rfl) q_nil rfl) rfl) rfl rfl rfl) (q_tup (qc (q_ixt (K := K) rfl (qv 6 rfl (.inl rfl) rfl rfl) q_int (fun _ _ => rfl)) (qc (q_ixt (K := K) rfl (qv 6 rfl (.inl rfl) rfl rfl) q_int (fun _ _ => rfl)) q_nil rfl) rfl)) rfl) (w_or1 (t_cmp (op_neS (K := K) rfl huT) (q_call GM hr5 rfl mM FM.kp bM .nil pass0 (qc (q_tup q_nil) (qc q_dnew q_nil rfl) rfl) rfl rfl rfl) (q_tup (qc q_int (qc q_int q_nil rfl) rfl)) rfl)))) (b_one 
        (s_ret q_bl)) b_nil) (b_cons 
      (s_if (t_cmp (op_neS (K := K) rfl huT) (q_call GM hr5 rfl mM FM.kp bM .nil pass0 (qc (qv 4 rfl (.inl rfl) rfl rfl) (qc (q_callTy (call_dictL rfl) rfl B.dict bt_dict (qc (q_compS (cl := []) ["_law_name"] [] [] rfl (i_list (K := K) rfl (qv 1 rfl (.inl rfl) rfl rfl)) rfl (by decide +kernel) rfl (by decide +kernel) (fun _ _ h => nomatch h) rfl (fun j y i h => nomatch h) (comp_has rfl) (fun C s₂ H₂ fp => (g_name 0 (show (["_law_name"] : List Str).Nodup by decide +kernel) rfl (.inl rfl) (.inr rfl))) (fun C s₂ H₂ fp => ts_nil) (fun C s₂ H₂ fp => (q_tup (qc (qv 0 rfl (.inl rfl) rfl rfl) (qc (q_tup (qc q_int (qc q_int q_nil rfl) rfl)) q_nil rfl) rfl))) (fun _ => rfl)) q_nil rfl) (by decide) rfl rfl rfl) q_nil rfl) rfl) rfl rfl rfl) (q_tup (qc q_int (qc q_int q_nil rfl) rfl)) rfl) (b_one 
        (s_ret q_bl)) b_nil) (b_cons 
      (s_set 9 scLaw.nd rfl (Or.inl rfl) (q_call GWr hr2 rfl mWr FWr.kp bWr .nil pass0 (qc (q_call GNu hr2 rfl mNu FNu.kp bNu .nil pass0 (qc (qv 0 rfl (.inl rfl) rfl rfl) (qc q_int q_nil rfl) rfl) rfl rfl rfl) (qc (qv 2 rfl (.inl rfl) rfl rfl) (qc q_str q_nil rfl) rfl) rfl) rfl rfl rfl) rfl (.inr rfl)) (b_one 
      (s_ret (q_and (q_call GRe hr rfl mRe FRe.kp bRe .nil pass0 (qc (q_tup (qc (q_tup (qc q_str (qc (q_add q_int (q_mod (q_call GNu hr2 rfl mNu FNu.kp bNu .nil pass0 (qc (qv 0 rfl (.inl rfl) rfl rfl) (qc q_int q_nil rfl) rfl) rfl rfl rfl) q_int)) q_nil rfl) rfl)) q_nil rfl)) (qc (qv 9 rfl (.inl rfl) rfl rfl) q_nil rfl) rfl) rfl rfl rfl) (q_one (q_cmp (op_eqS (K := K) rfl huT) (q_call GM hr5 rfl mM FM.kp bM .nil pass0 (qc (qv 4 rfl (.inl rfl) rfl rfl) (qc (qv 2 rfl (.inl rfl) rfl rfl) q_nil rfl) rfl) rfl rfl rfl) (qv 6 rfl (.inl rfl) rfl rfl) rfl)))))))))))))))))))), ?_⟩
    refine ⟨(by show 5 ≤ sizeLine; decide), fun L0 hL0 => ?_⟩
    have s0 : Same H (L2.upd H L0 (.lst [.str "a", .str "ab", .str "abc", .str "m", .str "zz"])) := Same.upd hL0
    have e0 : L2.upd H L0 (.lst [.str "a", .str "ab", .str "abc", .str "m", .str "zz"]) L0 = some (.lst [.str "a", .str "ab", .str "abc", .str "m", .str "zz"]) := upd_same
    generalize L2.upd H L0 (.lst [.str "a", .str "ab", .str "abc", .str "m", .str "zz"]) = H0 at s0 e0 ⊢
    refine ⟨_, rfl, a, ns, _, rfl, s0.seq hS, hlen, by decide, by decide, fun r0 H0' s0' _ _ => ?_⟩
    refine ⟨_, _, rfl, rfl, (by decide : (0 : Int) < 2), rfl, _, rfl, ?_⟩
    refine' merge (a := a) (H := H) (fun h => ?_) (fun h => ?_) ?_
    rotate_left
    · refine ⟨(by show 5 ≤ sizeLine; decide), fun L hL => ?_⟩
      exact h L _ _ ((s0.trans s0').trans (Same.upd hL)) (nm_two upd_same)
    · exact h L0 _ _ (s0.trans s0') (nm_one (s0' _ _ e0))
    intro L H1 names s1 N
    clear e0 s0'
    have num : ∀ {H' : Hp}, Same H H' → SqL K H' a (ns.map V.int) := fun s => s.seq hS
    -- the rates
    refine ⟨_, rfl, a, ns, _, rfl, num s1, hlen, by decide, by decide, fun r1 H2 s2 _ _ => ?_⟩
    have t2 := s1.trans s2
    refine ⟨_, rfl, r1, L, names, rfl, SqL.of (s2 _ _ N.at'), N.l5, N.nm, N.nd, fun d ad r H3 s3 rt3 e3 => ?_⟩
    have t3 := t2.trans s3
    refine ⟨_, rfl, d, _, rfl, rt3.rd, fun kp hkp => ?_⟩
    have s4 : Same H3 (L2.upd H3 kp (.dK (rtD names ad))) := Same.upd hkp
    have e4 : L2.upd H3 kp (.dK (rtD names ad)) kp = some (.dK (rtD names ad)) := upd_same
    generalize L2.upd H3 kp (.dK (rtD names ad)) = H4 at s4 e4 ⊢
    have t4 := t3.trans s4
    -- two units
    refine ⟨_, rfl, a, ns, _, rfl, num t4, hlen, by decide, by decide, fun r2 H5 s5 r20 _ => ?_⟩
    have t5 := t4.trans s5
    have N5 : SqL K H5 L (names.map V.str) := SqL.of (s5 _ _ (s4 _ _ (s3 _ _ (s2 _ _ N.at'))))
    refine ⟨_, rfl, r2, L, names, 9, rfl, r20, N5, N.l5, N.nm, by decide, by decide, fun u1 ps H6 s6 un1 in1 w1 l1 => ?_⟩
    have t6 := t5.trans s6
    refine ⟨_, rfl, a, ns, _, rfl, num t6, hlen, by decide, by decide, fun r3 H7 s7 r30 _ => ?_⟩
    have t7 := t6.trans s7
    refine ⟨_, rfl, r3, L, names, 5, rfl, r30, s7.seq (s6.seq N5), N.l5, N.nm, by decide, by decide, fun u2 qs H8 s8 un2 in2 w2 l2 => ?_⟩
    have t8 := t7.trans s8
    have rt8 : RtAt H8 d names ad r := rt3.same (s4.trans (s5.trans (s6.trans (s7.trans s8))))
    have N8 : H8 L = some (.lst (names.map V.str)) := s8 _ _ (s7 _ _ (s6 _ _ (s5 _ _ (s4 _ _ (s3 _ _ (s2 _ _ N.at'))))))
    have e8 : H8 kp = some (.dK (rtD names ad)) := s8 _ _ (s7 _ _ (s6 _ _ (s5 _ _ e4)))
    have un1 : UnAt H8 u1 ps := un1.same (s7.trans s8)
    have w1 : wt ps ≤ 36 := w1
    have w2 : wt qs ≤ 20 := w2
    clear s1 s2 s3 s4 s5 s6 s7 s8 t2 t3 t4 t5 t6 t7 N5 rt3 e3 e4
    -- the measure of the one
    refine ⟨_, rfl, _, rfl, u1, d, ps, names, ad, r, rfl, un1, rt8, in1, by omega, fun f1 H9 s9 hf1 => ?_⟩
    have Cp : 0 < rA r ps := rA_pos rt8.pos _
    have Dp : 0 < rB r ps := rB_pos rt8.pos _
    have C2p : 0 < rA r qs := rA_pos rt8.pos _
    have D2p : 0 < rB r qs := rB_pos rt8.pos _
    have szA : ∀ {us : List (Str × Int)}, wt us ≤ 60 → Sz 1900 (rA r us) := fun h => sz_of_le (rA_le rt8.sml _) (by omega)
    have szB : ∀ {us : List (Str × Int)}, wt us ≤ 60 → Sz 1900 (rB r us) := fun h => sz_of_le (rB_le rt8.sml _) (by omega)
    have flat2 : ∀ {x y : Int}, ∀ v ∈ [V.int x, .int y], isFlat v = true := fun {x y} v hv => by
      rcases List.mem_cons.mp hv with z | z
      · rw [z]; rfl
      · have z' : v = .int y := by simpa using z
        rw [z']; rfl
    -- it is the product
    refine ⟨_, rfl, _, rfl, _, rfl, u1, d, ps, names, ad, r, rfl, un1.same s9, rt8.same s9, in1, by omega, fun p1 HA sA _ eA => ?_⟩
    refine ⟨f1, p1, _, _, _, _, rfl, sqT_same sA hf1, eA, fb_pos _ Dp, f_gcd _ Dp, f_across _ _, fa_sz (szA (by omega)) Dp, fb_sz (szB (by omega)) Dp, szA (by omega), szB (by omega), fun HB sB => ⟨_, rfl, ?_⟩⟩
    refine iteF ?_
    have s8B := (s9.trans sA).trans sB
    have t8B := t8.trans s8B
    have rtB := rt8.same s8B
    have hfB := sqT_same (sA.trans sB) hf1
    have unB1 := un1.same s8B
    have unB2 := un2.same s8B
    have NB := s8B _ _ N8
    refine ⟨_, rfl, _, rfl, d, kp, _, rfl, rfl, rtB.rd, .inl (s8B _ _ e8), fun p hp => ?_, _, rfl, ?_⟩
    · obtain ⟨y, _, rfl⟩ := List.mem_map.mp hp
      exact ⟨_, rfl⟩
    refine iteF ?_
    clear s9 sA sB eA hf1 un1 un2 N8 e8
    have nm1 : ∀ p ∈ ps, Nm p.1 := fun p hp => N.nm _ (in1 p hp)
    have nm2 : ∀ p ∈ qs, Nm p.1 := fun p hp => N.nm _ (in2 p hp)
    -- joined
    refine ⟨_, rfl, _, rfl, u1, u2, ps, qs, rfl, unB1, unB2, nm1, nm2, by omega, fun u3 k3 HC sC nd3 hk3 un3 => ?_⟩
    have in3 : ∀ p ∈ unitOf (ps ++ qs) k3, p.1 ∈ names := fun p hp => by
      obtain ⟨p', hp', e'⟩ := List.mem_map.mp ((hk3 p.1).mp (unit_mem hp))
      rw [← e']
      exact (List.mem_append.mp hp').elim (in1 p') (in2 p')
    have w3 : wt (unitOf (ps ++ qs) k3) ≤ 60 := by
      have := wt_unit nd3 (ps ++ qs)
      rw [wt_append] at this
      omega
    refine ⟨_, rfl, u3, d, _, names, ad, r, rfl, un3, rtB.same sC, in3, w3, fun f3 HD sD hf3 => ?_⟩
    have sBD := sC.trans sD
    refine ⟨_, rfl, _, rfl, _, rfl, u2, d, qs, names, ad, r, rfl, unB2.same sBD, rtB.same sBD, in2, by omega, fun f4 HE sE hf4 => ?_⟩
    refine ⟨f1, f4, _, _, _, _, rfl, sqT_same (sBD.trans sE) hfB, hf4, fb_pos _ Dp, fb_pos _ D2p, fa_sz (szA (by omega)) Dp, fb_sz (szB (by omega)) Dp, fa_sz (szA (by omega)) D2p, fb_sz (szB (by omega)) D2p, fun f5 HF sF _ eF => ?_⟩
    obtain ⟨j1, j2⟩ := join_step rt8.pos nd3 (ps := ps) (qs := qs) (fun p hp => (hk3 p.1).mpr (List.mem_map.mpr ⟨p, hp, rfl⟩))
    rw [← j1, ← j2] at eF
    refine ⟨f3, f5, _, rfl, rfl, sqT_same (sE.trans sF) hf3, SqT.of eF, flat2, _, rfl, ?_⟩
    refine iteF ?_
    have sBF := (sBD.trans sE).trans sF
    have t8F := t8B.trans sBF
    have rtF := rtB.same sBF
    have hfF := sqT_same sBF hfB
    have unF1 := unB1.same sBF
    have unF2 := unB2.same sBF
    have NF := sBF _ _ NB
    clear sC sD sE sF eF hf3 hf4 un3 hfB unB1 unB2 NB rtB t8B sBF sBD
    -- powered
    refine ⟨_, rfl, a, ns, _, rfl, num t8F, hlen, by decide, by decide, fun r4 HG sG _ _ => ?_⟩
    have x0 := Int.emod_nonneg r4 (by decide : (5 : Int) ≠ 0)
    have x1 := Int.emod_lt_of_pos r4 (by decide : (0 : Int) < 5)
    refine ⟨_, _, rfl, rfl, (by decide : (0 : Int) < 5), _, _, rfl, rfl, ?_⟩
    refine ⟨_, rfl, _, rfl, u2, qs, _, rfl, unF2.same sG, nm2, by omega, by show -2 ≤ r4 % 5 - 2; omega, by show r4 % 5 - 2 ≤ 2; omega, fun u6 k6 HI sI nd6 hk6 un6 => ?_⟩
    have kab : (r4 % 5 - 2).natAbs ≤ 2 := by omega
    generalize hqk : (qs.map fun p => (p.1, p.2 * (r4 % 5 - 2))) = qk at *
    have wk : wt qk ≤ 40 := by
      rw [← hqk]
      have := wt_scale kab qs
      omega
    have inK : ∀ p ∈ qk, p.1 ∈ names := fun p hp => by
      rw [← hqk] at hp
      obtain ⟨p', hp', rfl⟩ := List.mem_map.mp hp
      exact in2 p' hp'
    have inU : ∀ {ks : List Str}, (∀ n, n ∈ ks ↔ n ∈ qk.map (·.1)) → ∀ p ∈ unitOf qk ks, p.1 ∈ names := fun hk p hp => by
      obtain ⟨p', hp', e'⟩ := List.mem_map.mp ((hk p.1).mp (unit_mem hp))
      rw [← e']; exact inK p' hp'
    have sFI := sG.trans sI
    refine ⟨_, rfl, u6, d, _, names, ad, r, rfl, un6, rtF.same sFI, inU hk6, Nat.le_trans (wt_unit nd6 qk) (by omega), fun f6 HJ sJ hf6 => ?_⟩
    have sFJ := sFI.trans sJ
    refine ⟨_, rfl, _, rfl, u2, qs, _, rfl, unF2.same sFJ, nm2, by omega, by show -2 ≤ r4 % 5 - 2; omega, by show r4 % 5 - 2 ≤ 2; omega, fun u7 k7 HK sK nd7 hk7 un7 => ?_⟩
    have sFK := sFJ.trans sK
    rw [hqk] at hk7 un7
    refine ⟨_, rfl, u7, d, _, names, ad, r, rfl, un7, rtF.same sFK, inU hk7, Nat.le_trans (wt_unit nd7 qk) (by omega), fun p7 HL sL _ e7 => ?_⟩
    have hm6 : ∀ p ∈ qk, p.1 ∈ k6 := fun p hp => (hk6 p.1).mpr (List.mem_map.mpr ⟨p, hp, rfl⟩)
    have hm7 : ∀ p ∈ qk, p.1 ∈ k7 := fun p hp => (hk7 p.1).mpr (List.mem_map.mpr ⟨p, hp, rfl⟩)
    have W6 := Nat.le_trans (wt_unit nd6 qk) (show wt qk ≤ 60 by omega)
    have W7 := Nat.le_trans (wt_unit nd7 qk) (show wt qk ≤ 60 by omega)
    have P6 : 0 < rB r (unitOf qk k6) := rB_pos rt8.pos _
    have P7 : 0 < rB r (unitOf qk k7) := rB_pos rt8.pos _
    refine ⟨f6, p7, _, _, _, _, rfl, sqT_same (sK.trans sL) hf6, e7, fb_pos _ P6, f_gcd _ P6, f_cross2 P6 P7 (unit_two rt8.pos nd6 nd7 hm6 hm7), fa_sz (szA W6) P6, fb_sz (szB W6) P6, szA W7, szB W7, fun HM sM => ⟨_, rfl, ?_⟩⟩
    refine iteF ?_
    have sFM := (sFK.trans sL).trans sM
    have t8M := t8F.trans sFM
    have rtM := rtF.same sFM
    have hfM := sqT_same sFM hfF
    have unM1 := unF1.same sFM
    have NM := sFM _ _ NF
    clear sG sI sJ sK sL sM e7 hf6 un6 un7 hfF unF1 unF2 NF rtF t8F sFI sFJ sFK sFM
    -- turned over
    refine ⟨_, rfl, d, _, rfl, rtM.rd, fun ob hob D hD => ?_⟩
    have kpX : ∀ b o, b ≠ d → HM b = some o → L2.upd HM d (.frz ob (.dK (rtD names ad))) b = some o := fun b o hb e => by rw [upd_ne hb]; exact e
    have eX : L2.upd HM d (.frz ob (.dK (rtD names ad))) d = some (.frz ob (.dK (rtD names ad))) := upd_same
    generalize L2.upd HM d (.frz ob (.dK (rtD names ad))) = HX at kpX eX hD ⊢
    have ndt : ∀ {b : Addr} {xs : List V}, HM b = some (.tup xs) → b ≠ d := fun e => ne_dict rtM.rd e (fun _ _ z => by cases z) (fun _ z => by cases z)
    have rtX : RtAt HX d names ad r := ⟨.inr ⟨ob, eX⟩, fun n hn => kpX _ _ (ndt (rtM.at' n hn)) (rtM.at' n hn), rtM.nm, rtM.cop, rtM.pos, rtM.sml⟩
    have unX1 : UnAt HX u1 ps := by
      obtain ⟨us, e, p⟩ := unM1
      exact ⟨us, kpX _ _ (ndt e) e, paired_imp (fun _ _ e => kpX _ _ (ndt e) e) p⟩
    have NX : HX L = some (.lst (names.map V.str)) := kpX _ _ (ne_dict rtM.rd NM (fun _ _ z => by cases z) (fun _ z => by cases z)) NM
    have numX : SqL K HX a (ns.map V.int) := by
      have := num t8M
      rcases this with z | z
      · refine .inl ?_
        have ne : a ≠ d := fun y => by
          subst y
          cases Rd.two z rtM.rd (fun _ _ z => by cases z) (fun _ _ z => by cases z)
        rcases z with e | ⟨o, e⟩
        · exact .inl (kpX _ _ ne e)
        · exact .inr ⟨o, kpX _ _ ne e⟩
      · exact .inr z
    have hfX : SqT K HX f1 [.int (fa (rA r ps) (rB r ps)), .int (fb (rA r ps) (rB r ps))] := by
      rcases hfM with z | z
      · refine .inl ?_
        have ne : f1 ≠ d := fun y => by
          subst y
          cases Rd.two z rtM.rd (fun _ _ z => by cases z) (fun _ _ z => by cases z)
        rcases z with e | ⟨o, e⟩
        · exact .inl (kpX _ _ ne e)
        · exact .inr ⟨o, kpX _ _ ne e⟩
      · exact .inr z
    clear hfM unM1 NM
    refine comp_inv names.length (fun i ys H' => ∃ (ts : List Addr) (ad' : Str → Addr), i ≤ names.length ∧ ts.length = i ∧ ys = ts.map V.ref ∧ PrAt H' ts (rtD (names.take i) ad') ∧ (∀ n ∈ names.take i, H' (ad' n) = some (.tup [.int (r n).2, .int (r n).1])) ∧ Same HX H' ∧ H' D = some (.lst ys))
      ⟨[], ad, Nat.zero_le _, rfl, rfl, .nil, fun n hn => (nomatch hn), Same.upd hD, upd_same⟩ (by rw [sizeLine_eq, N.l5]; decide) ?_ ?_ ?_
    · rintro i ys H' hi ⟨ts, ad', _, hl, rfl, _, _, s', e'⟩
      refine ⟨by rw [List.length_map]; omega, e', fun h => ⟨s' _ _ eX, by rw [List.length_map]; exact h⟩, fun h => ⟨s' _ _ eX, by rw [List.length_map]; omega⟩⟩
    · rintro i ys H' x H'' hi ⟨ts, ad', _, hl, rfl, hps, hat, s', e'⟩ ⟨t0, k, v, hkv, ht0, rfl, rfl⟩ pre hpre
      obtain ⟨q0, q1, rfl⟩ := two_of hpre
      rw [List.getElem?_map, List.getElem?_eq_getElem hi] at hkv
      cases hkv
      have sa : Same H' (L2.upd H' t0 (.tup [kV (Sum.inr names[i]), .ref (ad names[i])])) := Same.upd ht0
      have ea : L2.upd H' t0 (.tup [kV (Sum.inr names[i]), .ref (ad names[i])]) t0 = some (.tup [.str names[i], .ref (ad names[i])]) := upd_same
      generalize L2.upd H' t0 (.tup [kV (Sum.inr names[i]), .ref (ad names[i])]) = H3 at sa ea ⊢
      have er := sa _ _ (s' _ _ (rtX.at' names[i] (List.getElem_mem hi)))
      refine ⟨t0, _, rfl, SqT.of ea, rfl, _, _, rfl, _, _, rfl, rfl, ⟨⟨[some (.str names[i]), some (.ref (ad names[i]))], rfl, rfl⟩, ?_⟩⟩
      refine iteT ?_
      refine ⟨_, rfl, _, rfl, ad names[i], _, _, _, rfl, rfl, SqT.of er, rfl, _, rfl, ad names[i], _, _, _, rfl, rfl, SqT.of er, rfl, two_le, fun t1 ht1 => ⟨two_le, fun t2 ht2 => ?_⟩⟩
      have sb := sa.trans (Same.upd (o := .tup [.int (r names[i]).2, .int (r names[i]).1]) ht1)
      have eb : L2.upd H3 t1 (.tup [.int (r names[i]).2, .int (r names[i]).1]) t1 = some (.tup [.int (r names[i]).2, .int (r names[i]).1]) := upd_same
      have sc := sb.trans (Same.upd (o := .tup [.str names[i], .ref t1]) ht2)
      have ec := Same.upd (o := .tup [.str names[i], .ref t1]) ht2 _ _ eb
      have ed : L2.upd (L2.upd H3 t1 (.tup [.int (r names[i]).2, .int (r names[i]).1])) t2 (.tup [.str names[i], .ref t1]) t2 = some (.tup [.str names[i], .ref t1]) := upd_same
      refine ⟨sc _ _ e', ?_⟩
      generalize L2.upd (L2.upd H3 t1 (.tup [.int (r names[i]).2, .int (r names[i]).1])) t2 (.tup [.str names[i], .ref t1]) = H5 at sc ec ed ⊢
      have e5 := sc _ _ e'
      have tD : ∀ {b : Addr} {xs : List V}, H5 b = some (.tup xs) → b ≠ D := fun e z => by rw [z, e5] at e; cases e
      have hfr := nd_take N.nd hi
      have etk : names.take (i + 1) = names.take i ++ [names[i]] := by rw [List.take_add_one, List.getElem?_eq_getElem hi]; rfl
      refine ⟨ts ++ [t2], fun x => if x = names[i] then t1 else ad' x, hi, by simp [hl], by simp, ?_, fun n hn => ?_, Same.store (s'.trans sc) hD, upd_same⟩
      · rw [etk, rt_snoc hfr]
        refine paired_append (PrAt.same hps fun b xs e => ?_) (.cons ?_ .nil)
        · rw [upd_ne (tD (sc _ _ e))]; exact sc _ _ e
        · show L2.upd H5 D _ t2 = some (.tup [.str names[i], .ref t1])
          rw [upd_ne (tD ed)]; exact ed
      · rw [etk] at hn
        by_cases en : n = names[i]
        · simp only [en, if_true]
          rw [upd_ne (tD ec)]; exact ec
        · have hn' : n ∈ names.take i := by
            rcases List.mem_append.mp hn with z | z
            · exact z
            · exact absurd (by simpa using z) en
          simp only [if_neg en]
          have := sc _ _ (hat n hn')
          rw [upd_ne (tD this)]; exact this
    rintro ys HY ⟨ts, ad', _, hl, rfl, hps, hat, sXY, eY⟩
    rw [List.take_length] at hps hat
    refine ⟨D, ts, _, rfl, eY, hps, keys_nd N.nd, fun O hO => ?_⟩
    have sO : Same HY (L2.upd HY O (.dK (rtD names ad'))) := Same.upd hO
    have eO : L2.upd HY O (.dK (rtD names ad')) O = some (.dK (rtD names ad')) := upd_same
    generalize L2.upd HY O (.dK (rtD names ad')) = HO' at sO eO ⊢
    have sXO := sXY.trans sO
    have rtO : RtAt HO' O names ad' (fun n => ((r n).2, (r n).1)) := ⟨.inl eO, fun n hn => sO _ _ (hat n hn), N.nm, fun n hn => by rw [Int.gcd_comm]; exact rt8.cop n hn, fun n => ⟨(rt8.pos n).2, (rt8.pos n).1⟩, fun n => ⟨(rt8.sml n).2, (rt8.sml n).1⟩⟩
    refine ⟨_, rfl, _, rfl, u1, O, ps, names, ad', _, rfl, unX1.same sXO, rtO, in1, by omega, fun f8 HZ sZ hf8 => ?_⟩
    rw [rA_swap, rB_swap] at hf8
    obtain ⟨z1, z2⟩ := f_swap (rA r ps) (rB r ps) Cp Dp
    rw [z1, z2] at hf8
    have hfZ := sqT_same (sXO.trans sZ) hfX
    refine ⟨_, rfl, f1, _, _, _, rfl, rfl, hfZ, rfl, _, rfl, f1, _, _, _, rfl, rfl, hfZ, rfl, two_le, fun t9 ht9 => ?_⟩
    have s9 : Same HZ (L2.upd HZ t9 (.tup [.int (fb (rA r ps) (rB r ps)), .int (fa (rA r ps) (rB r ps))])) := Same.upd ht9
    refine ⟨f8, t9, _, rfl, rfl, sqT_same s9 hf8, SqT.of upd_same, flat2, _, rfl, ?_⟩
    refine iteF ?_
    generalize L2.upd HZ t9 (.tup [.int (fb (rA r ps) (rB r ps)), .int (fa (rA r ps) (rB r ps))]) = G1 at s9 ⊢
    have sX1 := (sXO.trans sZ).trans s9
    have pos1 : Pos (fun _ : Str => ((1, 1) : Pr)) := fun n => ⟨by show (0 : Int) < 1; decide, by show (0 : Int) < 1; decide⟩
    have sml1 : Sml (fun _ : Str => ((1, 1) : Pr)) := fun n => ⟨by show (1 : Nat) < 2 ^ 20; decide, by show (1 : Nat) < 2 ^ 20; decide⟩
    -- nothing at all
    refine ⟨(by show 0 ≤ sizeLine; decide), fun t10 ht10 d10 hd10 => ?_⟩
    have s10 : Same G1 (L2.upd G1 t10 (.tup [])) := Same.upd ht10
    have e10 : L2.upd G1 t10 (.tup []) t10 = some (.tup []) := upd_same
    generalize L2.upd G1 t10 (.tup []) = G2 at s10 e10 hd10 ⊢
    have s11 : Same G2 (L2.upd G2 d10 (.dK [])) := Same.upd hd10
    have e11 : L2.upd G2 d10 (.dK []) d10 = some (.dK []) := upd_same
    generalize L2.upd G2 d10 (.dK []) = G3 at s11 e11 ⊢
    refine ⟨t10, d10, [], [], ad, fun _ => (1, 1), rfl, ⟨[], s11 _ _ e10, .nil⟩, ⟨.inl e11, fun n hn => (nomatch hn), fun n hn => (nomatch hn), fun n hn => (nomatch hn), pos1, sml1⟩, fun p hp => (nomatch hp), by decide, fun f9 G4 s12 hf9 => ?_⟩
    rw [rA_ones, rB_ones, fa_one, fb_one] at hf9
    refine ⟨two_le, fun t11 ht11 => ?_⟩
    have s13 : Same G4 (L2.upd G4 t11 (.tup [.int 1, .int 1])) := Same.upd ht11
    refine ⟨f9, t11, _, rfl, rfl, sqT_same s13 hf9, SqT.of upd_same, flat2, _, rfl, ?_⟩
    refine iteF ?_
    generalize L2.upd G4 t11 (.tup [.int 1, .int 1]) = G5 at s13 ⊢
    have sX5 := (((sX1.trans s10).trans s11).trans s12).trans s13
    have N5 := sX5 _ _ NX
    have rt5 := rtX.same sX5
    have un5 := unX1.same sX5
    have hf5 := sqT_same sX5 hfX
    have num5 : SqL K G5 a (ns.map V.int) := sX5.seq numX
    clear s9 s10 s11 s12 s13 hf9 hf8 hfZ rtO sZ sXO hps hat
    -- ones
    refine ⟨_, rfl, _, rfl, L, rfl, ⟨_, SqL.of N5⟩, fun D2 hD2 => ?_⟩
    refine comp_inv names.length (fun i ys H' => ∃ (ts : List Addr) (ad' : Str → Addr), i ≤ names.length ∧ ts.length = i ∧ ys = ts.map V.ref ∧ PrAt H' ts (rtD (names.take i) ad') ∧ (∀ n ∈ names.take i, H' (ad' n) = some (.tup [.int 1, .int 1])) ∧ Same G5 H' ∧ H' D2 = some (.lst ys))
      ⟨[], ad, Nat.zero_le _, rfl, rfl, .nil, fun n hn => (nomatch hn), Same.upd hD2, upd_same⟩ (by rw [sizeLine_eq, N.l5]; decide) ?_ ?_ ?_
    · rintro i ys H' hi ⟨ts, ad', _, hl, rfl, _, _, s', e'⟩
      have hq : SqL K H' L (names.map V.str) := SqL.of (s' _ _ N5)
      exact ⟨by rw [List.length_map]; omega, e', fun h => ⟨_, _, hq, List.getElem?_eq_getElem (by simpa using h)⟩, fun h => ⟨_, hq, by simp; omega⟩⟩
    · rintro i ys H' x H3 hi ⟨ts, ad', _, hl, rfl, hps, hat, s', e'⟩ ⟨rfl, hx⟩ pre hpre
      obtain ⟨q0, rfl⟩ := List.length_eq_one_iff.mp hpre
      have hx' := hx _ (SqL.of (s' _ _ N5))
      rw [List.getElem?_map, List.getElem?_eq_getElem hi] at hx'
      cases hx'
      refine ⟨⟨[some (.str names[i])], rfl, rfl⟩, ?_⟩
      refine iteT ?_
      refine ⟨_, rfl, two_le, fun t1 ht1 => ⟨two_le, fun t2 ht2 => ?_⟩⟩
      have sb : Same H3 (L2.upd H3 t1 (.tup [.int 1, .int 1])) := Same.upd ht1
      have eb : L2.upd H3 t1 (.tup [.int 1, .int 1]) t1 = some (.tup [.int 1, .int 1]) := upd_same
      have sc := sb.trans (Same.upd (o := .tup [.str names[i], .ref t1]) ht2)
      have ec := Same.upd (o := .tup [.str names[i], .ref t1]) ht2 _ _ eb
      have ed : L2.upd (L2.upd H3 t1 (.tup [.int 1, .int 1])) t2 (.tup [.str names[i], .ref t1]) t2 = some (.tup [.str names[i], .ref t1]) := upd_same
      refine ⟨sc _ _ e', ?_⟩
      generalize L2.upd (L2.upd H3 t1 (.tup [.int 1, .int 1])) t2 (.tup [.str names[i], .ref t1]) = H5 at sc ec ed ⊢
      have e5 := sc _ _ e'
      have tD : ∀ {b : Addr} {xs : List V}, H5 b = some (.tup xs) → b ≠ D2 := fun e z => by rw [z, e5] at e; cases e
      have hfr := nd_take N.nd hi
      have etk : names.take (i + 1) = names.take i ++ [names[i]] := by rw [List.take_add_one, List.getElem?_eq_getElem hi]; rfl
      refine ⟨ts ++ [t2], fun x => if x = names[i] then t1 else ad' x, hi, by simp [hl], by simp, ?_, fun n hn => ?_, Same.store (s'.trans sc) hD2, upd_same⟩
      · rw [etk, rt_snoc hfr]
        refine paired_append (PrAt.same hps fun b xs e => ?_) (.cons ?_ .nil)
        · rw [upd_ne (tD (sc _ _ e))]; exact sc _ _ e
        · show L2.upd H5 D2 _ t2 = some (.tup [.str names[i], .ref t1])
          rw [upd_ne (tD ed)]; exact ed
      · rw [etk] at hn
        by_cases en : n = names[i]
        · simp only [en, if_true]
          rw [upd_ne (tD ec)]; exact ec
        · have hn' : n ∈ names.take i := by
            rcases List.mem_append.mp hn with z | z
            · exact z
            · exact absurd (by simpa using z) en
          simp only [if_neg en]
          have := sc _ _ (hat n hn')
          rw [upd_ne (tD this)]; exact this
    rintro ys G6 ⟨ts2, ad2, _, hl2, rfl, hps2, hat2, s6, e6⟩
    rw [List.take_length] at hps2 hat2
    refine ⟨D2, ts2, _, rfl, e6, hps2, keys_nd N.nd, fun O2 hO2 => ?_⟩
    have s7 : Same G6 (L2.upd G6 O2 (.dK (rtD names ad2))) := Same.upd hO2
    have e7 : L2.upd G6 O2 (.dK (rtD names ad2)) O2 = some (.dK (rtD names ad2)) := upd_same
    generalize L2.upd G6 O2 (.dK (rtD names ad2)) = G7 at s7 e7 ⊢
    have s57 := s6.trans s7
    refine ⟨u1, O2, ps, names, ad2, fun _ => (1, 1), rfl, un5.same s57, ⟨.inl e7, fun n hn => s7 _ _ (hat2 n hn), N.nm, fun n hn => rfl, pos1, sml1⟩, in1, by omega, fun f12 G8 s8 hf12 => ?_⟩
    rw [rA_ones, rB_ones, fa_one, fb_one] at hf12
    refine ⟨two_le, fun t13 ht13 => ?_⟩
    have s9 : Same G8 (L2.upd G8 t13 (.tup [.int 1, .int 1])) := Same.upd ht13
    refine ⟨f12, t13, _, rfl, rfl, sqT_same s9 hf12, SqT.of upd_same, flat2, _, rfl, ?_⟩
    refine iteF ?_
    generalize L2.upd G8 t13 (.tup [.int 1, .int 1]) = G9 at s9 ⊢
    have s59 := (s57.trans s8).trans s9
    -- what is wrong
    refine ⟨_, rfl, a, ns, _, rfl, s59.seq num5, hlen, by decide, by decide, fun r13 J1 v1 _ _ => ?_⟩
    have s5J := s59.trans v1
    have rtJ := rt5.same s5J
    refine ⟨_, rfl, r13, d, "m", names, ad, r, rfl, rtJ, N.l5, N.nd, N.hm, N.sh, fun x t J2 v2 newx st wr => ?_⟩
    have s5K := s5J.trans v2
    refine ⟨_, rfl, a, ns, _, rfl, s5K.seq num5, hlen, by decide, by decide, fun r14 J3 v3 _ _ => ?_⟩
    refine ⟨_, _, rfl, rfl, (by decide : (0 : Int) < 9), _, _, rfl, rfl, two_le, fun t15 ht15 => ⟨(by show 1 ≤ sizeLine; decide), fun t16 ht16 => ?_⟩⟩
    have v4 : Same J3 (L2.upd J3 t15 (.tup [.str "m", .int (1 + r14 % 9)])) := Same.upd ht15
    have e15 : L2.upd J3 t15 (.tup [.str "m", .int (1 + r14 % 9)]) t15 = some (.tup [.str "m", .int (1 + r14 % 9)]) := upd_same
    have v5 : Same J3 (L2.upd (L2.upd J3 t15 (.tup [.str "m", .int (1 + r14 % 9)])) t16 (.tup [.ref t15])) := v4.trans (Same.upd ht16)
    have e16 : L2.upd (L2.upd J3 t15 (.tup [.str "m", .int (1 + r14 % 9)])) t16 (.tup [.ref t15]) t16 = some (.tup [.ref t15]) := upd_same
    have e17 := Same.upd (o := .tup [.ref t15]) ht16 _ _ e15
    refine ⟨_, rfl, t16, x, [("m", 1 + r14 % 9)], t, rfl, ⟨[t15], e16, .cons e17 .nil⟩, st.same (v3.trans v5), (wr _).same (v3.trans v5), fun J4 v6 => ⟨_, rfl, ?_⟩⟩
    refine iteT ?_
    have sJ4 : Same J1 J4 := fun b o e => v6 b o (fun z => by rw [newx b z] at e; cases e) (v5 _ _ (v3 _ _ (v2 _ _ e)))
    have s54 := s5J.trans sJ4
    refine ⟨_, rfl, _, rfl, u1, d, ps, names, ad, r, rfl, un5.same s54, rt5.same s54, in1, by omega, fun f17 J5 v7 hf17 => ?_⟩
    exact ⟨_, rfl, f17, f1, _, rfl, rfl, hf17, sqT_same (s54.trans v7) hf5, flat2, q _⟩
end
end Fr

set_option Elab.async false
set_option linter.all false
set_option maxRecDepth 100000
set_option maxHeartbeats 4000000
namespace Fr
open PySem PySem.Spec PyProof.Rows L2 FrM
/-- what is asked of a class of refusals without an __init__ -/
def xOk (K : PySem.W.Frag) (C : Addr) : Bool := (PySem.W.clsIn K C).any (fun cd => PySem.W.excMro cd.mro) && PySem.W.hasDictIn K C &&
  PySem.W.findIn K (.ref C) "__getattribute__" == some (some (.builtin "BaseException.__getattribute__")) && PySem.W.findIn K (.ref C) "__getattr__" == some none && PySem.W.findIn K (.ref C) "__setattr__" == some (some (.builtin "object.__setattr__")) &&
  PySem.W.mroIn K C (.type "BaseException") == some true && PySem.W.mroIn K C (.type "object") == some true && PySem.W.findIn K (.ref C) "__class__" == some (some (.builtin "object.__class__"))
theorem x_mk {K : PySem.W.Frag} {C : Addr} (cg : PySem.W.specialIn K (.builtin "object.__class__") "__get__" = some (some (.builtin "getset_descriptor.__get__"))) (ct : PySem.W.takesIn K (.builtin "object.__class__") = some true) (h : xOk K C = true) : XCls K C := by
  unfold xOk at h
  simp only [Bool.and_eq_true, beq_iff_eq] at h
  obtain ⟨⟨⟨⟨⟨⟨⟨h4, h5⟩, h6⟩, h7⟩, h8⟩, h9⟩, h10⟩, h11⟩ := h
  exact ⟨h6, h7, h8, h9, h10, h4, h5, h11, cg, ct⟩
theorem len1 {us : List Value} (h : us.length = 1) : ∃ a, us = [a] := List.length_eq_one_iff.mp h
theorem len2 {us : List Value} (h : us.length = 2) : ∃ a b, us = [a, b] := by
  cases us with
  | nil => cases h
  | cons a r =>
    obtain ⟨b, rfl⟩ := len1 (us := r) (by simpa using h)
    exact ⟨a, b, rfl⟩
theorem len3 {us : List Value} (h : us.length = 3) : ∃ a b c, us = [a, b, c] := by
  cases us with
  | nil => cases h
  | cons a r =>
    obtain ⟨b, c, rfl⟩ := len2 (us := r) (by simpa using h)
    exact ⟨a, b, c, rfl⟩
theorem all_mk {l : PySem.W.OpenLaw} {w : World} {K : PySem.W.Frag} {h : Heap} {mg : Str → Option Value} {fa f0 f1 f2 f3 T3 f4 f5 T5 f6 f7 f8 f9 f10 f11 f12 f13 f14 f15 f16 f17 f18 f19 f20 f21 f22 f23 f24 f25 BN BR ME BU W O : Addr} (X : K.In h) (G : h.Ns mainGlobals mg) (hfa : mg "law" = some (.ref fa))
    {od0 an0 od1 an1 od2 an2 od3 an3 td3 od4 an4 od5 an5 td5 od6 an6 od7 an7 od8 an8 od9 an9 od10 an10 od11 an11 od12 an12 od13 an13 od14 an14 od15 an15 od16 an16 od17 an17 od18 an18 od19 an19 od20 an20 od21 an21 od22 an22 od23 an23 od24 an24 od25 an25 odW odO : Option Addr} {sl0 sl1 sl2 sl3 ts3 sl4 sl5 ts5 sl6 sl7 sl8 sl9 sl10 sl11 sl12 sl13 sl14 sl15 sl16 sl17 sl18 sl19 sl20 sl21 sl22 sl23 sl24 sl25 slW slO : Array (Option Value)} {oc0 kV0 dc0 pm0 cd0 ct0 oc1 kV1 dc1 pm1 cd1 ct1 oc2 kV2 dc2 pm2 cd2 ct2 oc3 kV3 dc3 pm3 cd3 ct3 to3 oc4 kV4 dc4 pm4 cd4 ct4 oc5 kV5 dc5 pm5 cd5 ct5 to5 oc6 kV6 dc6 pm6 cd6 ct6 oc7 kV7 dc7 pm7 cd7 ct7 oc8 kV8 dc8 pm8 cd8 ct8 oc9 kV9 dc9 pm9 cd9 ct9 oc10 kV10 dc10 pm10 cd10 ct10 oc11 kV11 dc11 pm11 cd11 ct11 oc12 kV12 dc12 pm12 cd12 ct12 oc13 kV13 dc13 pm13 cd13 ct13 oc14 kV14 dc14 pm14 cd14 ct14 oc15 kV15 dc15 pm15 cd15 ct15 oc16 kV16 dc16 pm16 cd16 ct16 oc17 kV17 dc17 pm17 cd17 ct17 oc18 kV18 dc18 pm18 cd18 ct18 oc19 kV19 dc19 pm19 cd19 ct19 oc20 kV20 dc20 pm20 cd20 ct20 oc21 kV21 dc21 pm21 cd21 ct21 oc22 kV22 dc22 pm22 cd22 ct22 oc23 kV23 dc23 pm23 cd23 ct23 oc24 kV24 dc24 pm24 cd24 ct24 oc25 kV25 dc25 pm25 cd25 ct25 : Value} {tn3 tn5 nW nO : Nat} {tk5 tL tw0 tw1 tw2 tw3 tw4 tw5 tw6 tw7 tw8 tw9 tw10 to_0 to_1 : Tok}
    (a0 : PySem.W.nsIn K mainGlobals "is_whole" = some (some (.ref f0)))
    (l0 : K.lookup f0 = some ⟨oc0, od0, .func (PySem.W.fnOf "is_whole" "is_whole" (defArgs sWhole) (defBody sWhole) (defScope sWhole) .none kV0 dc0 pm0 an0 cd0 ct0), sl0⟩)
    (c0 : PySem.W.codeIn K cd0 "is_whole" = true)
    (k0 : PySem.W.keepIn K (.ref f0) = true)
    (a1 : PySem.W.nsIn K mainGlobals "is_small_letter" = some (some (.ref f1)))
    (l1 : K.lookup f1 = some ⟨oc1, od1, .func (PySem.W.fnOf "is_small_letter" "is_small_letter" (defArgs sLetter) (defBody sLetter) (defScope sLetter) .none kV1 dc1 pm1 an1 cd1 ct1), sl1⟩)
    (c1 : PySem.W.codeIn K cd1 "is_small_letter" = true)
    (k1 : PySem.W.keepIn K (.ref f1) = true)
    (a2 : PySem.W.nsIn K mainGlobals "is_name" = some (some (.ref f2)))
    (l2 : K.lookup f2 = some ⟨oc2, od2, .func (PySem.W.fnOf "is_name" "is_name" (defArgs sName) (defBody sName) (defScope sName) .none kV2 dc2 pm2 an2 cd2 ct2), sl2⟩)
    (c2 : PySem.W.codeIn K cd2 "is_name" = true)
    (k2 : PySem.W.keepIn K (.ref f2) = true)
    (a3 : PySem.W.nsIn K mainGlobals "need_whole" = some (some (.ref f3)))
    (l3 : K.lookup f3 = some ⟨oc3, od3, .func (PySem.W.fnOf "need_whole" "need_whole" (defArgs sNeed) (defBody sNeed) (defScope sNeed) (.ref T3) kV3 dc3 pm3 an3 cd3 ct3), sl3⟩)
    (c3 : PySem.W.codeIn K cd3 "need_whole" = true)
    (k3 : PySem.W.keepIn K (.ref f3) = true)
    (d3 : K.lookup T3 = some ⟨to3, td3, .seq #[.none] tn3, ts3⟩)
    (a4 : PySem.W.nsIn K mainGlobals "common_divisor" = some (some (.ref f4)))
    (l4 : K.lookup f4 = some ⟨oc4, od4, .func (PySem.W.fnOf "common_divisor" "common_divisor" (defArgs sDiv) (defBody sDiv) (defScope sDiv) .none kV4 dc4 pm4 an4 cd4 ct4), sl4⟩)
    (c4 : PySem.W.codeIn K cd4 "common_divisor" = true)
    (k4 : PySem.W.keepIn K (.ref f4) = true)
    (a5 : PySem.W.nsIn K mainGlobals "fraction" = some (some (.ref f5)))
    (l5 : K.lookup f5 = some ⟨oc5, od5, .func (PySem.W.fnOf "fraction" "fraction" (defArgs sFrac) (defBody sFrac) (defScope sFrac) (.ref T5) kV5 dc5 pm5 an5 cd5 ct5), sl5⟩)
    (c5 : PySem.W.codeIn K cd5 "fraction" = true)
    (k5 : PySem.W.keepIn K (.ref f5) = true)
    (d5 : K.lookup T5 = some ⟨to5, td5, .seq #[.int 1 tk5] tn5, ts5⟩)
    (a6 : PySem.W.nsIn K mainGlobals "is_fraction" = some (some (.ref f6)))
    (l6 : K.lookup f6 = some ⟨oc6, od6, .func (PySem.W.fnOf "is_fraction" "is_fraction" (defArgs sIsF) (defBody sIsF) (defScope sIsF) .none kV6 dc6 pm6 an6 cd6 ct6), sl6⟩)
    (c6 : PySem.W.codeIn K cd6 "is_fraction" = true)
    (k6 : PySem.W.keepIn K (.ref f6) = true)
    (a7 : PySem.W.nsIn K mainGlobals "product_of" = some (some (.ref f7)))
    (l7 : K.lookup f7 = some ⟨oc7, od7, .func (PySem.W.fnOf "product_of" "product_of" (defArgs sProd) (defBody sProd) (defScope sProd) .none kV7 dc7 pm7 an7 cd7 ct7), sl7⟩)
    (c7 : PySem.W.codeIn K cd7 "product_of" = true)
    (k7 : PySem.W.keepIn K (.ref f7) = true)
    (a8 : PySem.W.nsIn K mainGlobals "whole_power" = some (some (.ref f8)))
    (l8 : K.lookup f8 = some ⟨oc8, od8, .func (PySem.W.fnOf "whole_power" "whole_power" (defArgs sWPow) (defBody sWPow) (defScope sWPow) .none kV8 dc8 pm8 an8 cd8 ct8), sl8⟩)
    (c8 : PySem.W.codeIn K cd8 "whole_power" = true)
    (k8 : PySem.W.keepIn K (.ref f8) = true)
    (a9 : PySem.W.nsIn K mainGlobals "turned_over" = some (some (.ref f9)))
    (l9 : K.lookup f9 = some ⟨oc9, od9, .func (PySem.W.fnOf "turned_over" "turned_over" (defArgs sTurn) (defBody sTurn) (defScope sTurn) .none kV9 dc9 pm9 an9 cd9 ct9), sl9⟩)
    (c9 : PySem.W.codeIn K cd9 "turned_over" = true)
    (k9 : PySem.W.keepIn K (.ref f9) = true)
    (a10 : PySem.W.nsIn K mainGlobals "power_of" = some (some (.ref f10)))
    (l10 : K.lookup f10 = some ⟨oc10, od10, .func (PySem.W.fnOf "power_of" "power_of" (defArgs sPow) (defBody sPow) (defScope sPow) .none kV10 dc10 pm10 an10 cd10 ct10), sl10⟩)
    (c10 : PySem.W.codeIn K cd10 "power_of" = true)
    (k10 : PySem.W.keepIn K (.ref f10) = true)
    (a11 : PySem.W.nsIn K mainGlobals "is_pair" = some (some (.ref f11)))
    (l11 : K.lookup f11 = some ⟨oc11, od11, .func (PySem.W.fnOf "is_pair" "is_pair" (defArgs sPair) (defBody sPair) (defScope sPair) .none kV11 dc11 pm11 an11 cd11 ct11), sl11⟩)
    (c11 : PySem.W.codeIn K cd11 "is_pair" = true)
    (k11 : PySem.W.keepIn K (.ref f11) = true)
    (a12 : PySem.W.nsIn K mainGlobals "unit_of" = some (some (.ref f12)))
    (l12 : K.lookup f12 = some ⟨oc12, od12, .func (PySem.W.fnOf "unit_of" "unit_of" (defArgs sUnit) (defBody sUnit) (defScope sUnit) .none kV12 dc12 pm12 an12 cd12 ct12), sl12⟩)
    (c12 : PySem.W.codeIn K cd12 "unit_of" = true)
    (k12 : PySem.W.keepIn K (.ref f12) = true)
    (a13 : PySem.W.nsIn K mainGlobals "joined" = some (some (.ref f13)))
    (l13 : K.lookup f13 = some ⟨oc13, od13, .func (PySem.W.fnOf "joined" "joined" (defArgs sJoin) (defBody sJoin) (defScope sJoin) .none kV13 dc13 pm13 an13 cd13 ct13), sl13⟩)
    (c13 : PySem.W.codeIn K cd13 "joined" = true)
    (k13 : PySem.W.keepIn K (.ref f13) = true)
    (a14 : PySem.W.nsIn K mainGlobals "powered" = some (some (.ref f14)))
    (l14 : K.lookup f14 = some ⟨oc14, od14, .func (PySem.W.fnOf "powered" "powered" (defArgs sPowd) (defBody sPowd) (defScope sPowd) .none kV14 dc14 pm14 an14 cd14 ct14), sl14⟩)
    (c14 : PySem.W.codeIn K cd14 "powered" = true)
    (k14 : PySem.W.keepIn K (.ref f14) = true)
    (a15 : PySem.W.nsIn K mainGlobals "need_rates" = some (some (.ref f15)))
    (l15 : K.lookup f15 = some ⟨oc15, od15, .func (PySem.W.fnOf "need_rates" "need_rates" (defArgs sRates) (defBody sRates) (defScope sRates) .none kV15 dc15 pm15 an15 cd15 ct15), sl15⟩)
    (c15 : PySem.W.codeIn K cd15 "need_rates" = true)
    (k15 : PySem.W.keepIn K (.ref f15) = true)
    (a16 : PySem.W.nsIn K mainGlobals "measure_of" = some (some (.ref f16)))
    (l16 : K.lookup f16 = some ⟨oc16, od16, .func (PySem.W.fnOf "measure_of" "measure_of" (defArgs sMeas) (defBody sMeas) (defScope sMeas) .none kV16 dc16 pm16 an16 cd16 ct16), sl16⟩)
    (c16 : PySem.W.codeIn K cd16 "measure_of" = true)
    (k16 : PySem.W.keepIn K (.ref f16) = true)
    (a17 : PySem.W.nsIn K mainGlobals "_law_mixed" = some (some (.ref f17)))
    (l17 : K.lookup f17 = some ⟨oc17, od17, .func (PySem.W.fnOf "_law_mixed" "_law_mixed" (defArgs lMix) (defBody lMix) (defScope lMix) .none kV17 dc17 pm17 an17 cd17 ct17), sl17⟩)
    (c17 : PySem.W.codeIn K cd17 "_law_mixed" = true)
    (k17 : PySem.W.keepIn K (.ref f17) = true)
    (a18 : PySem.W.nsIn K mainGlobals "_law_number" = some (some (.ref f18)))
    (l18 : K.lookup f18 = some ⟨oc18, od18, .func (PySem.W.fnOf "_law_number" "_law_number" (defArgs lNum) (defBody lNum) (defScope lNum) .none kV18 dc18 pm18 an18 cd18 ct18), sl18⟩)
    (c18 : PySem.W.codeIn K cd18 "_law_number" = true)
    (k18 : PySem.W.keepIn K (.ref f18) = true)
    (a19 : PySem.W.nsIn K mainGlobals "_law_unit" = some (some (.ref f19)))
    (l19 : K.lookup f19 = some ⟨oc19, od19, .func (PySem.W.fnOf "_law_unit" "_law_unit" (defArgs lUnit) (defBody lUnit) (defScope lUnit) .none kV19 dc19 pm19 an19 cd19 ct19), sl19⟩)
    (c19 : PySem.W.codeIn K cd19 "_law_unit" = true)
    (k19 : PySem.W.keepIn K (.ref f19) = true)
    (a20 : PySem.W.nsIn K mainGlobals "_law_rates" = some (some (.ref f20)))
    (l20 : K.lookup f20 = some ⟨oc20, od20, .func (PySem.W.fnOf "_law_rates" "_law_rates" (defArgs lRates) (defBody lRates) (defScope lRates) .none kV20 dc20 pm20 an20 cd20 ct20), sl20⟩)
    (c20 : PySem.W.codeIn K cd20 "_law_rates" = true)
    (k20 : PySem.W.keepIn K (.ref f20) = true)
    (a21 : PySem.W.nsIn K mainGlobals "_law_product" = some (some (.ref f21)))
    (l21 : K.lookup f21 = some ⟨oc21, od21, .func (PySem.W.fnOf "_law_product" "_law_product" (defArgs lProd) (defBody lProd) (defScope lProd) .none kV21 dc21 pm21 an21 cd21 ct21), sl21⟩)
    (c21 : PySem.W.codeIn K cd21 "_law_product" = true)
    (k21 : PySem.W.keepIn K (.ref f21) = true)
    (a22 : PySem.W.nsIn K mainGlobals "_law_is" = some (some (.ref f22)))
    (l22 : K.lookup f22 = some ⟨oc22, od22, .func (PySem.W.fnOf "_law_is" "_law_is" (defArgs lIs) (defBody lIs) (defScope lIs) .none kV22 dc22 pm22 an22 cd22 ct22), sl22⟩)
    (c22 : PySem.W.codeIn K cd22 "_law_is" = true)
    (k22 : PySem.W.keepIn K (.ref f22) = true)
    (a23 : PySem.W.nsIn K mainGlobals "_law_refused" = some (some (.ref f23)))
    (l23 : K.lookup f23 = some ⟨oc23, od23, .func (PySem.W.fnOf "_law_refused" "_law_refused" (defArgs lRef) (defBody lRef) (defScope lRef) .none kV23 dc23 pm23 an23 cd23 ct23), sl23⟩)
    (c23 : PySem.W.codeIn K cd23 "_law_refused" = true)
    (k23 : PySem.W.keepIn K (.ref f23) = true)
    (a24 : PySem.W.nsIn K mainGlobals "_law_wrong" = some (some (.ref f24)))
    (l24 : K.lookup f24 = some ⟨oc24, od24, .func (PySem.W.fnOf "_law_wrong" "_law_wrong" (defArgs lWrong) (defBody lWrong) (defScope lWrong) .none kV24 dc24 pm24 an24 cd24 ct24), sl24⟩)
    (c24 : PySem.W.codeIn K cd24 "_law_wrong" = true)
    (k24 : PySem.W.keepIn K (.ref f24) = true)
    (a25 : PySem.W.nsIn K mainGlobals "law" = some (some (.ref f25)))
    (l25 : K.lookup f25 = some ⟨oc25, od25, .func (PySem.W.fnOf "law" "law" (defArgs lLaw) (defBody lLaw) (defScope lLaw) .none kV25 dc25 pm25 an25 cd25 ct25), sl25⟩)
    (c25 : PySem.W.codeIn K cd25 "law" = true)
    (k25 : PySem.W.keepIn K (.ref f25) = true)
    (mBN : PySem.W.nsIn K mainGlobals "BadNumber" = some (some (.ref BN)))
    (mBR : PySem.W.nsIn K mainGlobals "BadRate" = some (some (.ref BR)))
    (mME : PySem.W.nsIn K mainGlobals "MeasureError" = some (some (.ref ME)))
    (mBU : PySem.W.nsIn K mainGlobals "BadUnit" = some (some (.ref BU)))
    (mW : PySem.W.nsIn K mainGlobals "WORDS" = some (some (.ref W)))
    (mO : PySem.W.nsIn K mainGlobals "ONE" = some (some (.ref O)))
    (mL : PySem.W.nsIn K mainGlobals "MOST_LETTERS" = some (some (.int 8 tL)))
    (lW : K.lookup W = some ⟨.type "tuple", odW, .seq #[.str "unit" tw0, .str "take" tw1, .str "let" tw2, .str "fun" tw3, .str "show" tw4, .str "if" tw5, .str "then" tw6, .str "else" tw7, .str "loop" tw8, .str "for" tw9, .str "do" tw10] nW, slW⟩)
    (lO : K.lookup O = some ⟨.type "tuple", odO, .seq #[.int 1 to_0, .int 1 to_1] nO, slO⟩)
    (inB : PySem.W.excIn K BN [.type "ValueError", .type "Exception", .type "BaseException", .type "object"] "ValueError.__new__" = true)
    (inR : PySem.W.excIn K BR [.type "ValueError", .type "Exception", .type "BaseException", .type "object"] "ValueError.__new__" = true)
    (xB : xOk K BR = true)
    (ex : PySem.W.exmOne K (.ref BR) (.ref ME) = some true)
    (kv : PySem.W.kitOne K (.ref BR) (.type "ValueError") = some true)
    (ku : PySem.W.kitOne K (.ref BR) (.ref BU) = some false)
    (cg : PySem.W.specialIn K (.builtin "object.__class__") "__get__" = some (some (.builtin "getset_descriptor.__get__")))
    (ct : PySem.W.takesIn K (.builtin "object.__class__") = some true)
    (zisi : PySem.W.nsIn K mainGlobals "isinstance" = some none)
    (zint : PySem.W.nsIn K mainGlobals "int" = some none)
    (zbool : PySem.W.nsIn K mainGlobals "bool" = some none)
    (ztuple : PySem.W.nsIn K mainGlobals "tuple" = some none)
    (zlen : PySem.W.nsIn K mainGlobals "len" = some none)
    (zrange : PySem.W.nsIn K mainGlobals "range" = some none)
    (zstr : PySem.W.nsIn K mainGlobals "str" = some none)
    (zabs : PySem.W.nsIn K mainGlobals "abs" = some none)
    (zverr : PySem.W.nsIn K mainGlobals "ValueError" = some none)
    (zlist : PySem.W.nsIn K mainGlobals "list" = some none)
    (zdict : PySem.W.nsIn K mainGlobals "dict" = some none)
    (zall : PySem.W.nsIn K mainGlobals "all" = some none)
    (zsorted : PySem.W.nsIn K mainGlobals "sorted" = some none)
    (zenumerate : PySem.W.nsIn K mainGlobals "enumerate" = some none) :
    ∃ fd : FuncData, (∀ (s : Shared) (v : Value), BindsTo s fd ⟨[v], []⟩ [("_law_script", v)]) ∧ ∀ base : Heap, K.In base → base.Ns mainGlobals mg → FnOk l.prog w K mg base CX0 7 fa fd ["_law_script"] (spLaw K) := by
  have e := hfa.symm.trans (PySem.W.mg_of X G a25)
  cases e
  have B : Bn mg := ⟨PySem.W.mg_none_of X G zisi, PySem.W.mg_none_of X G zint, PySem.W.mg_none_of X G zbool, PySem.W.mg_none_of X G ztuple, PySem.W.mg_none_of X G zlen, PySem.W.mg_none_of X G zrange, PySem.W.mg_none_of X G zstr, PySem.W.mg_none_of X G zabs, PySem.W.mg_none_of X G zverr, PySem.W.mg_none_of X G zlist, PySem.W.mg_none_of X G zdict, PySem.W.mg_none_of X G zall, PySem.W.mg_none_of X G zsorted, PySem.W.mg_none_of X G zenumerate⟩
  have EX : Ex K mg BN := ⟨PySem.W.mg_of X G mBN, inB⟩
  have ER : ExR K mg BR := ⟨PySem.W.mg_of X G mBR, inR⟩
  have Y : Ex3 K mg BR ME BU := ⟨PySem.W.mg_of X G mME, PySem.W.mg_of X G mBU, ex, kv, ku, x_mk cg ct xB⟩
  have V : Gv K mg W O := ⟨PySem.W.mg_of X G mW, fun H => .inr ⟨_, _, _, lW, rfl, rfl, by show 11 ≤ sizeLine; decide, (.cons ⟨_, rfl⟩ (.cons ⟨_, rfl⟩ (.cons ⟨_, rfl⟩ (.cons ⟨_, rfl⟩ (.cons ⟨_, rfl⟩ (.cons ⟨_, rfl⟩ (.cons ⟨_, rfl⟩ (.cons ⟨_, rfl⟩ (.cons ⟨_, rfl⟩ (.cons ⟨_, rfl⟩ (.cons ⟨_, rfl⟩ .nil)))))))))))⟩, ⟨_, PySem.W.mg_of X G mL⟩, PySem.W.mg_of X G mO, fun H => .inr ⟨_, _, _, lO, rfl, rfl, by show 2 ≤ sizeLine; decide, .cons ⟨_, rfl⟩ (.cons ⟨_, rfl⟩ .nil)⟩⟩
  have F0 := fun_mk (st := sWhole) l0 c0 k0
  have B0 := F0.binds (ps := ["thing"]) fun _ _ _ _ _ _ us hl => by
    obtain ⟨v0, rfl⟩ := len1 hl
    rfl
  have M0 := PySem.W.mg_of X G a0
  have F1 := fun_mk (st := sLetter) l1 c1 k1
  have B1 := F1.binds (ps := ["sign"]) fun _ _ _ _ _ _ us hl => by
    obtain ⟨v0, rfl⟩ := len1 hl
    rfl
  have M1 := PySem.W.mg_of X G a1
  have F2 := fun_mk (st := sName) l2 c2 k2
  have B2 := F2.binds (ps := ["thing"]) fun _ _ _ _ _ _ us hl => by
    obtain ⟨v0, rfl⟩ := len1 hl
    rfl
  have M2 := PySem.W.mg_of X G a2
  have F3 := funD_mk (st := sNeed) l3 c3 k3
  have D3 : L2.Binds K _ ["thing", "least", "most"] [.none] := fun s us KX hl => by
    have hl : us.length = 2 := by simpa using hl
    obtain ⟨v0, v1, rfl⟩ := len2 hl
    exact PySem.W.binds_K (fd := PySem.W.fnOf "need_whole" "need_whole" (defArgs sNeed) (defBody sNeed) (defScope sNeed) (.ref T3) kV3 dc3 pm3 an3 cd3 ct3) KX rfl d3 rfl rfl rfl
  have M3 := PySem.W.mg_of X G a3
  have F4 := fun_mk (st := sDiv) l4 c4 k4
  have B4 := F4.binds (ps := ["above", "below"]) fun _ _ _ _ _ _ us hl => by
    obtain ⟨v0, v1, rfl⟩ := len2 hl
    rfl
  have M4 := PySem.W.mg_of X G a4
  have F5 := funD_mk (st := sFrac) l5 c5 k5
  have B5 : L2.Binds K _ ["above", "below"] [] := fun s us KX hl => by
    rw [List.append_nil] at hl ⊢
    obtain ⟨v0, v1, rfl⟩ := len2 hl
    exact PySem.W.binds_K (fd := PySem.W.fnOf "fraction" "fraction" (defArgs sFrac) (defBody sFrac) (defScope sFrac) (.ref T5) kV5 dc5 pm5 an5 cd5 ct5) KX rfl d5 rfl rfl rfl
  have M5 := PySem.W.mg_of X G a5
  have F6 := fun_mk (st := sIsF) l6 c6 k6
  have B6 := F6.binds (ps := ["thing"]) fun _ _ _ _ _ _ us hl => by
    obtain ⟨v0, rfl⟩ := len1 hl
    rfl
  have M6 := PySem.W.mg_of X G a6
  have F7 := fun_mk (st := sProd) l7 c7 k7
  have B7 := F7.binds (ps := ["one", "other"]) fun _ _ _ _ _ _ us hl => by
    obtain ⟨v0, v1, rfl⟩ := len2 hl
    rfl
  have M7 := PySem.W.mg_of X G a7
  have F8 := fun_mk (st := sWPow) l8 c8 k8
  have B8 := F8.binds (ps := ["base", "exponent"]) fun _ _ _ _ _ _ us hl => by
    obtain ⟨v0, v1, rfl⟩ := len2 hl
    rfl
  have M8 := PySem.W.mg_of X G a8
  have F9 := fun_mk (st := sTurn) l9 c9 k9
  have B9 := F9.binds (ps := ["one"]) fun _ _ _ _ _ _ us hl => by
    obtain ⟨v0, rfl⟩ := len1 hl
    rfl
  have M9 := PySem.W.mg_of X G a9
  have F10 := fun_mk (st := sPow) l10 c10 k10
  have B10 := F10.binds (ps := ["one", "exponent"]) fun _ _ _ _ _ _ us hl => by
    obtain ⟨v0, v1, rfl⟩ := len2 hl
    rfl
  have M10 := PySem.W.mg_of X G a10
  have F11 := fun_mk (st := sPair) l11 c11 k11
  have B11 := F11.binds (ps := ["thing"]) fun _ _ _ _ _ _ us hl => by
    obtain ⟨v0, rfl⟩ := len1 hl
    rfl
  have M11 := PySem.W.mg_of X G a11
  have F12 := fun_mk (st := sUnit) l12 c12 k12
  have B12 := F12.binds (ps := ["pairs"]) fun _ _ _ _ _ _ us hl => by
    obtain ⟨v0, rfl⟩ := len1 hl
    rfl
  have M12 := PySem.W.mg_of X G a12
  have F13 := fun_mk (st := sJoin) l13 c13 k13
  have B13 := F13.binds (ps := ["one", "other"]) fun _ _ _ _ _ _ us hl => by
    obtain ⟨v0, v1, rfl⟩ := len2 hl
    rfl
  have M13 := PySem.W.mg_of X G a13
  have F14 := fun_mk (st := sPowd) l14 c14 k14
  have B14 := F14.binds (ps := ["unit", "exponent"]) fun _ _ _ _ _ _ us hl => by
    obtain ⟨v0, v1, rfl⟩ := len2 hl
    rfl
  have M14 := PySem.W.mg_of X G a14
  have F15 := fun_mk (st := sRates) l15 c15 k15
  have B15 := F15.binds (ps := ["rates"]) fun _ _ _ _ _ _ us hl => by
    obtain ⟨v0, rfl⟩ := len1 hl
    rfl
  have M15 := PySem.W.mg_of X G a15
  have F16 := fun_mk (st := sMeas) l16 c16 k16
  have B16 := F16.binds (ps := ["unit", "rates"]) fun _ _ _ _ _ _ us hl => by
    obtain ⟨v0, v1, rfl⟩ := len2 hl
    rfl
  have M16 := PySem.W.mg_of X G a16
  have F17 := fun_mk (st := lMix) l17 c17 k17
  have B17 := F17.binds (ps := ["_law_number_here", "_law_k"]) fun _ _ _ _ _ _ us hl => by
    obtain ⟨v0, v1, rfl⟩ := len2 hl
    rfl
  have M17 := PySem.W.mg_of X G a17
  have F18 := fun_mk (st := lNum) l18 c18 k18
  have B18 := F18.binds (ps := ["_law_script", "_law_k"]) fun _ _ _ _ _ _ us hl => by
    obtain ⟨v0, v1, rfl⟩ := len2 hl
    rfl
  have M18 := PySem.W.mg_of X G a18
  have F19 := fun_mk (st := lUnit) l19 c19 k19
  have B19 := F19.binds (ps := ["_law_number_here", "_law_names", "_law_most"]) fun _ _ _ _ _ _ us hl => by
    obtain ⟨v0, v1, v2, rfl⟩ := len3 hl
    rfl
  have M19 := PySem.W.mg_of X G a19
  have F20 := fun_mk (st := lRates) l20 c20 k20
  have B20 := F20.binds (ps := ["_law_number_here", "_law_names"]) fun _ _ _ _ _ _ us hl => by
    obtain ⟨v0, v1, rfl⟩ := len2 hl
    rfl
  have M20 := PySem.W.mg_of X G a20
  have F21 := fun_mk (st := lProd) l21 c21 k21
  have B21 := F21.binds (ps := ["_law_unit_here", "_law_rates_here"]) fun _ _ _ _ _ _ us hl => by
    obtain ⟨v0, v1, rfl⟩ := len2 hl
    rfl
  have M21 := PySem.W.mg_of X G a21
  have F22 := fun_mk (st := lIs) l22 c22 k22
  have B22 := F22.binds (ps := ["_law_found", "_law_due"]) fun _ _ _ _ _ _ us hl => by
    obtain ⟨v0, v1, rfl⟩ := len2 hl
    rfl
  have M22 := PySem.W.mg_of X G a22
  have F23 := fun_mk (st := lRef) l23 c23 k23
  have B23 := F23.binds (ps := ["_law_unit_here", "_law_rates_here"]) fun _ _ _ _ _ _ us hl => by
    obtain ⟨v0, v1, rfl⟩ := len2 hl
    rfl
  have M23 := PySem.W.mg_of X G a23
  have F24 := fun_mk (st := lWrong) l24 c24 k24
  have B24 := F24.binds (ps := ["_law_number_here", "_law_rates_here", "_law_name"]) fun _ _ _ _ _ _ us hl => by
    obtain ⟨v0, v1, v2, rfl⟩ := len3 hl
    rfl
  have M24 := PySem.W.mg_of X G a24
  have F25 := fun_mk (st := lLaw) l25 c25 k25
  refine ⟨PySem.W.fnOf "law" "law" (defArgs lLaw) (defBody lLaw) (defScope lLaw) .none kV25 dc25 pm25 an25 cd25 ct25, fun s v => .of_eq rfl, fun base _ _ => ?_⟩
  have GF : FnOk l.prog w K mg base (Fly l.prog w) 3 f5 _ ["above", "below"] (spFrac BN) := ok_frac F5 B EX F0 B0 M0 F3 D3 M3 F4 B4 M4
  have GFn : FnOk l.prog w K mg base CX0 3 f5 _ ["above", "below"] spFracN := frac_nox GF
  have GPo : FnOk l.prog w K mg base (Fly l.prog w) 3 f10 _ ["one", "exponent"] (spPow BN) := ok_pow F10 B10 M10 B EX F0 B0 M0 F8 B8 M8 F9 B9 M9
  have GPr : FnOk l.prog w K mg base CX0 4 f7 _ ["one", "other"] (spProd K) := ok_prod F7 F5 B5 M5 GF
  have GIf : FnOk l.prog w K mg base CX0 2 f6 _ ["thing"] spIsF := ok_isf F6 B F0 B0 M0 F4 B4 M4
  have GNm : FnOk l.prog w K mg base CX0 2 f2 _ ["thing"] spName := ok_name F2 B V F1 B1 M1
  have GPa : FnOk l.prog w K mg base CX0 3 f11 _ ["thing"] spPair := ok_pair F11 B F2 B2 M2 GNm F0 B0 M0
  have GU : FnOk l.prog w K mg base CX0 4 f12 _ ["pairs"] spUnit := ok_unit F12 B F11 B11 M11 GPa
  have GJ : FnOk l.prog w K mg base CX0 5 f13 _ ["one", "other"] spJoin := ok_join F13 B F12 B12 M12 GU
  have GPw : FnOk l.prog w K mg base CX0 5 f14 _ ["unit", "exponent"] spPowd := ok_powd F14 B F12 B12 M12 GU
  have GR : FnOk l.prog w K mg base (Fly l.prog w) 3 f15 _ ["rates"] (spRates BR) := ok_rates F15 B ER F2 B2 M2 GNm F6 B6 M6 GIf
  have GM : FnOk l.prog w K mg base (Fly l.prog w) 5 f16 _ ["unit", "rates"] (spMeas K BR) := ok_meas F16 B ER V F15 B15 M15 (GR.mono (by decide)) F7 B7 M7 GPr F10 B10 M10 (pow_nox GPo)
  have GNu : FnOk l.prog w K mg base CX0 2 f18 _ ["_law_script", "_law_k"] (spNum K) := ok_num F18 B F17 B17 M17
  have GLu : FnOk l.prog w K mg base CX0 5 f19 _ ["_law_number_here", "_law_names", "_law_most"] (spLUnit K) := ok_lunit F19 B F17 B17 M17 F12 B12 M12 GU
  have GRa : FnOk l.prog w K mg base CX0 4 f20 _ ["_law_number_here", "_law_names"] (spLRates K) := ok_lrates F20 B F17 B17 M17 F5 B5 M5 GFn
  have GLp : FnOk l.prog w K mg base CX0 2 f21 _ ["_law_unit_here", "_law_rates_here"] spLProd := ok_lprod F21 B
  have GIs : FnOk l.prog w K mg base CX0 4 f22 _ ["_law_found", "_law_due"] (spLIs K) := ok_lis F22 B F5 B5 M5 GFn
  have GRe : FnOk l.prog w K mg base CX0 6 f23 _ ["_law_unit_here", "_law_rates_here"] spLRef := ok_lref F23 B ER Y F16 B16 M16 GM
  have GWr : FnOk l.prog w K mg base CX0 2 f24 _ ["_law_number_here", "_law_rates_here", "_law_name"] spLWrong := ok_lwrong F24 B
  exact ok_law F25 B F18 B18 M18 GNu F20 B20 M20 GRa F19 B19 M19 GLu F16 B16 M16 (meas_nox GM) F22 B22 M22 GIs F21 B21 M21 GLp F13 B13 M13 GJ F7 B7 M7 GPr F14 B14 M14 GPw F24 B24 M24 GWr F23 B23 M23 GRe
theorem walk {l : PySem.W.OpenLaw} {q : Program} {loose : List Str} {XP : (Str → Option Value) → Heap → Prop} {YP : World → Heap → Prop} {d : DefRec} {K : Params → PySem.W.Frag} (hn : l.most = some 63) (hdf : d.params.defaults = [])
    (hY : ∀ (w : World) (h : Heap), YP w h → (K w.params).In h)
    (F : ∀ (w : World) (mg : Str → Option Value) (fa : Addr) (h : Heap), (K w.params).In h → h.Ns mainGlobals mg → mg d.name = some (.ref fa) →
      ∃ fd : FuncData, (∀ (s : Shared) (u : Value), BindsTo s fd ⟨[u], []⟩ [("_law_script", u)]) ∧ ∀ base : Heap, (K w.params).In base → base.Ns mainGlobals mg → FnOk l.prog w (K w.params) mg base CX0 7 fa fd ["_law_script"] (spLaw (K w.params))) :
    PySem.W.WalkO q loose XP YP l.row.toRowW d [] (fun f vs => PySem.call f vs) :=
  L2.walk_of (n := 63) (k := 7) (x := "_law_script") (CX := fun _ => CX0) (sp := fun w => spLaw (K w.params)) hn (by decide) hdf ⟨rfl, by decide, by decide, rfl⟩ hY F (fun _ _ a ns hl _ hS => ⟨a, ns, rfl, hS, hl, fun _ => rfl⟩) fun _ _ _ _ _ z => z
end Fr

set_option Elab.async false
set_option linter.all false
open PySem PySem.W PyProof.Rows
set_option maxRecDepth 100000 in
set_option maxHeartbeats 0 in
theorem PySem.Challenge.cw_measurewise_k03_measures_holds : PySem.Challenge.rw_measurewise_k03_measures.Holds := by
  w_on; o_law; k_head; (case hw => w_witness2)
  k_fill
  refine Fr.walk (l := PySem.Challenge.rw_measurewise_k03_measures) rfl rfl (fun w h Y => PySem.W.kIn_of Y) ?F
  case F =>
    intro w mg fa h KX G hmg
    refine' Fr.all_mk KX G hmg ?a0 ?l0 ?c0 ?k0 ?a1 ?l1 ?c1 ?k1 ?a2 ?l2 ?c2 ?k2 ?a3 ?l3 ?c3 ?k3 ?d3 ?a4 ?l4 ?c4 ?k4 ?a5 ?l5 ?c5 ?k5 ?d5 ?a6 ?l6 ?c6 ?k6 ?a7 ?l7 ?c7 ?k7 ?a8 ?l8 ?c8 ?k8 ?a9 ?l9 ?c9 ?k9 ?a10 ?l10 ?c10 ?k10 ?a11 ?l11 ?c11 ?k11 ?a12 ?l12 ?c12 ?k12 ?a13 ?l13 ?c13 ?k13 ?a14 ?l14 ?c14 ?k14 ?a15 ?l15 ?c15 ?k15 ?a16 ?l16 ?c16 ?k16 ?a17 ?l17 ?c17 ?k17 ?a18 ?l18 ?c18 ?k18 ?a19 ?l19 ?c19 ?k19 ?a20 ?l20 ?c20 ?k20 ?a21 ?l21 ?c21 ?k21 ?a22 ?l22 ?c22 ?k22 ?a23 ?l23 ?c23 ?k23 ?a24 ?l24 ?c24 ?k24 ?a25 ?l25 ?c25 ?k25 ?mBN ?mBR ?mME ?mBU ?mW ?mO ?mL ?lW ?lO ?inB ?inR ?xB ?ex ?kv ?ku ?cg ?ct ?zisi ?zint ?zbool ?ztuple ?zlen ?zrange ?zstr ?zabs ?zverr ?zlist ?zdict ?zall ?zsorted ?zenumerate
    (case a0 => k_is)
    (case l0 => k_is)
    (case c0 => k_is)
    (case k0 => k_is)
    (case a1 => k_is)
    (case l1 => k_is)
    (case c1 => k_is)
    (case k1 => k_is)
    (case a2 => k_is)
    (case l2 => k_is)
    (case c2 => k_is)
    (case k2 => k_is)
    (case a3 => k_is)
    (case l3 => k_is)
    (case c3 => k_is)
    (case k3 => k_is)
    (case d3 => k_is)
    (case a4 => k_is)
    (case l4 => k_is)
    (case c4 => k_is)
    (case k4 => k_is)
    (case a5 => k_is)
    (case l5 => k_is)
    (case c5 => k_is)
    (case k5 => k_is)
    (case d5 => k_is)
    (case a6 => k_is)
    (case l6 => k_is)
    (case c6 => k_is)
    (case k6 => k_is)
    (case a7 => k_is)
    (case l7 => k_is)
    (case c7 => k_is)
    (case k7 => k_is)
    (case a8 => k_is)
    (case l8 => k_is)
    (case c8 => k_is)
    (case k8 => k_is)
    (case a9 => k_is)
    (case l9 => k_is)
    (case c9 => k_is)
    (case k9 => k_is)
    (case a10 => k_is)
    (case l10 => k_is)
    (case c10 => k_is)
    (case k10 => k_is)
    (case a11 => k_is)
    (case l11 => k_is)
    (case c11 => k_is)
    (case k11 => k_is)
    (case a12 => k_is)
    (case l12 => k_is)
    (case c12 => k_is)
    (case k12 => k_is)
    (case a13 => k_is)
    (case l13 => k_is)
    (case c13 => k_is)
    (case k13 => k_is)
    (case a14 => k_is)
    (case l14 => k_is)
    (case c14 => k_is)
    (case k14 => k_is)
    (case a15 => k_is)
    (case l15 => k_is)
    (case c15 => k_is)
    (case k15 => k_is)
    (case a16 => k_is)
    (case l16 => k_is)
    (case c16 => k_is)
    (case k16 => k_is)
    (case a17 => k_is)
    (case l17 => k_is)
    (case c17 => k_is)
    (case k17 => k_is)
    (case a18 => k_is)
    (case l18 => k_is)
    (case c18 => k_is)
    (case k18 => k_is)
    (case a19 => k_is)
    (case l19 => k_is)
    (case c19 => k_is)
    (case k19 => k_is)
    (case a20 => k_is)
    (case l20 => k_is)
    (case c20 => k_is)
    (case k20 => k_is)
    (case a21 => k_is)
    (case l21 => k_is)
    (case c21 => k_is)
    (case k21 => k_is)
    (case a22 => k_is)
    (case l22 => k_is)
    (case c22 => k_is)
    (case k22 => k_is)
    (case a23 => k_is)
    (case l23 => k_is)
    (case c23 => k_is)
    (case k23 => k_is)
    (case a24 => k_is)
    (case l24 => k_is)
    (case c24 => k_is)
    (case k24 => k_is)
    (case a25 => k_is)
    (case l25 => k_is)
    (case c25 => k_is)
    (case k25 => k_is)
    (case mBN => k_is)
    (case mBR => k_is)
    (case mME => k_is)
    (case mBU => k_is)
    (case mW => k_is)
    (case mO => k_is)
    (case mL => k_is)
    (case lW => k_is)
    (case lO => k_is)
    (case inB => kernel_rfl)
    (case inR => kernel_rfl)
    (case xB => kernel_rfl)
    (case ex => kernel_rfl)
    (case kv => kernel_rfl)
    (case ku => kernel_rfl)
    (case cg => k_is)
    (case ct => k_is)
    (case zisi => k_is)
    (case zint => k_is)
    (case zbool => k_is)
    (case ztuple => k_is)
    (case zlen => k_is)
    (case zrange => k_is)
    (case zstr => k_is)
    (case zabs => k_is)
    (case zverr => k_is)
    (case zlist => k_is)
    (case zdict => k_is)
    (case zall => k_is)
    (case zsorted => k_is)
    (case zenumerate => k_is)
#print axioms PySem.Challenge.cw_measurewise_k03_measures_holds
