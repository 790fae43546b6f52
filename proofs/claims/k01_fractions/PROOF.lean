import PyProof.Rows.All
import Wide.All
import OpenK.AllK
import Wide.FinOn
import Lean
import PyProof.EqAt
import PyProof.EqKinds
import PyProof.TupleCall
import PyProof.ExcInit
import PyProof.ExcClass2
import PyProof.InstStoreFacts
import PyProof.ExcArgsOwn
import PyProof.ExcAttrAll.ValueError
import PySem.Challenge.RW_measurewise_k01_fractions

set_option Elab.async false
set_option linter.all false
set_option maxRecDepth 100000
/-! THE HAND LAYER, for ints, bools, texts, own classes, LISTS and tuples (index, slices, in, append, pop ..), calls, loops. Paste it whole ahead of your own text; what your proof does not reach may be deleted. -/
namespace L2
open PySem PySem.Spec PyProof.Rows

/-- a key: an int or a str -/
abbrev Key := Sum Int Str
def keyIs : Key → Value → Bool
  | .inl k, v => Value.isInt k v
  | .inr x, v => Value.isStrOf x v
def keyH (w : World) : Key → Int
  | .inl k => hashInt k
  | .inr x => hashStr w x
theorem keyIs_shape : ∀ {k : Key} {v : Value}, keyIs k v = true → (∃ i t, k = Sum.inl i ∧ v = Value.int i t) ∨ (∃ x t, k = Sum.inr x ∧ v = Value.str x t)
  | .inl i, v, h => by
    obtain ⟨t, e⟩ := Value.isInt_shape (k := i) (v := v) h
    exact .inl ⟨i, t, rfl, e⟩
  | .inr x, v, h => by
    obtain ⟨t, e⟩ := Value.isStrOf_shape (x := x) (v := v) h
    exact .inr ⟨x, t, rfl, e⟩
theorem key_ll (a b : Int) : decide ((Sum.inl a : Key) = Sum.inl b) = (a == b) := by
  by_cases e : a = b
  · subst e; simp
  · have h : ¬ (Sum.inl a : Key) = Sum.inl b := fun q => e (Sum.inl.inj q)
    rw [decide_eq_false h]
    exact (beq_eq_false_iff_ne.mpr e).symm
theorem key_rr (a b : Str) : decide ((Sum.inr a : Key) = Sum.inr b) = decide (a = b) := by
  by_cases e : a = b
  · subst e; simp
  · have h : ¬ (Sum.inr a : Key) = Sum.inr b := fun q => e (Sum.inr.inj q)
    rw [decide_eq_false h, decide_eq_false e]
theorem key_lr (a : Int) (b : Str) : decide ((Sum.inl a : Key) = Sum.inr b) = false := decide_eq_false (fun q => nomatch q)
theorem key_rl (a : Str) (b : Int) : decide ((Sum.inr a : Key) = Sum.inl b) = false := decide_eq_false (fun q => nomatch q)

def mixKind (prog : Program) (w : World) : PySem.KeyKind prog w Key where
  is := keyIs
  hash := keyH w
  inj := fun v a b ha hb => by
    rcases keyIs_shape ha with ⟨i, t, rfl, rfl⟩ | ⟨x, t, rfl, rfl⟩
    · rcases keyIs_shape hb with ⟨j, u, rfl, e⟩ | ⟨y, u, rfl, e⟩
      · injection e with e1 _; rw [e1]
      · exact nomatch e
    · rcases keyIs_shape hb with ⟨j, u, rfl, e⟩ | ⟨y, u, rfl, e⟩
      · exact nomatch e
      · injection e with e1 _; rw [e1]
  byValue := fun k v h => by
    rcases keyIs_shape h with ⟨i, t, rfl, rfl⟩ | ⟨x, t, rfl, rfl⟩ <;> rfl
  pyHash := fun hv h => by
    rcases keyIs_shape hv with ⟨i, t, rfl, rfl⟩ | ⟨x, t, rfl, rfl⟩
    · exact wpAny_pyHash_int h
    · exact wpAny_pyHash_str h
  eqBool := fun hu hv h => by
    rcases keyIs_shape hu with ⟨i, t, rfl, rfl⟩ | ⟨x, t, rfl, rfl⟩
    · rcases keyIs_shape hv with ⟨j, u, rfl, rfl⟩ | ⟨y, u, rfl, rfl⟩
      · rw [key_ll] at h; exact wpAny_eqBool_int h
      · rw [key_lr] at h; exact SeqAt.EqAt.int_str i t y u _ _ _ _ h
    · rcases keyIs_shape hv with ⟨j, u, rfl, rfl⟩ | ⟨y, u, rfl, rfl⟩
      · rw [key_rl] at h; exact SeqAt.EqAt.str_int x t j u _ _ _ _ h
      · rw [key_rr] at h; exact wpAny_eqBool_str h
  «strs» := fun k x t v h => by
    rcases keyIs_shape h with ⟨i, u, rfl, e⟩ | ⟨y, u, rfl, e⟩
    · exact nomatch e
    · injection e with e1 _
      subst e1
      cases v <;> rfl

end L2

namespace L2
open PySem PySem.Spec PyProof.Rows

/-- a value, without the heap -/
inductive V where
  | non | bl (b : Bool) | int (i : Int) | str (x : Str) | byt (b : Array UInt8) | flt (b : UInt64) | ref (a : Addr) | ty (n : String)
  deriving DecidableEq

def RelV : V → Value → Prop
  | .non, u => u = Value.none
  | .bl b, u => u = Value.bool b
  | .int i, u => ∃ t, u = Value.int i t
  | .str x, u => ∃ t, u = Value.str x t
  | .byt b, u => ∃ t, u = Value.bytes b t
  | .flt b, u => ∃ t, u = Value.float b t
  | .ref a, u => u = Value.ref a
  | .ty n, u => u = Value.type n

abbrev Vals : List V → List Value → Prop := Paired RelV
theorem Vals.length {xs : List V} {us : List Value} (r : Vals xs us) : xs.length = us.length := Paired.length r
theorem Vals.get : ∀ {xs : List V} {us : List Value} {i : Nat} {x : V}, Vals xs us → xs[i]? = some x → ∃ u, us[i]? = some u ∧ RelV x u
  | _, _, _, _, .nil, e => by simp at e
  | _, _, 0, _, .cons r _, e => by simp at e; subst e; exact ⟨_, rfl, r⟩
  | _, _, i + 1, x, .cons _ t, e => by
    obtain ⟨u, h1, h2⟩ := Vals.get (i := i) (x := x) t (by simpa using e)
    exact ⟨u, by simpa using h1, h2⟩
theorem Vals.append : ∀ {xs ys : List V} {us ws : List Value}, Vals xs us → Vals ys ws → Vals (xs ++ ys) (us ++ ws)
  | _, _, _, _, .nil, s => s
  | _, _, _, _, .cons r t, s => .cons r (Vals.append t s)
def RelO : Option V → Option Value → Prop
  | some v, some u => RelV v u
  | none, none => True
  | _, _ => False
def KV {κ : Type} : List (κ × V) → List (κ × Value) → Prop := Paired fun (p : κ × V) (q : κ × Value) => p.1 = q.1 ∧ RelV p.2 q.2

/-- a key of a dict (00_mix): an int or a text -/
def kV : Key → V
  | .inl i => .int i
  | .inr x => .str x

/-- what stands at a tracked address -/
inductive HO where
  /-- a list -/
  | lst (xs : List V)
  /-- a tuple (never changes) -/
  | tup (xs : List V)
  /-- a dict whose keys are ints and texts; one whose keys are tuples of ints and texts (the empty one is both) -/
  | dK (kvs : List (Key × V)) | dT (kvs : List (List Key × V))
  /-- a set of ints: its members, its size -/
  | set (S : Int → Bool) (n : Nat)
  /-- an instance of the class at C, its dict at dx, its attributes -/
  | ins (C dx : Addr) (fs : List (Str × V))
  /-- the dict of the instance at x -/
  | own (x : Addr)
  /-- the dict of an exception -/
  | xd (fs : List (Str × V))
  /-- a bound method, f of x -/
  | met (f x : Addr)
  /-- a range object lo, lo + 1, .. below hi -/
  | rng (lo hi : Int)
  /-- a thing that is known to the object (the script; a dict while a loop walks it): read, never written while it is so -/
  | frz (o : Obj) (u : HO)
  /-- a code object's table -/
  | tbl (ps : Array Value)
  /-- any other thing, by what is true of its one object (a def of one's own: SetO a S n := HO.ext fun h => ..) -/
  | ext (φ : Heap → Prop)

abbrev Hp := Addr → Option HO
def upd (H : Hp) (a : Addr) (o : HO) : Hp := fun b => if b = a then some o else H b
theorem upd_same {H : Hp} {a : Addr} {o : HO} : upd H a o a = some o := by unfold upd; rw [if_pos rfl]
theorem upd_ne {H : Hp} {a b : Addr} {o : HO} (h : b ≠ a) : upd H a o b = H b := by unfold upd; rw [if_neg h]
/-- two objects of different content stand apart -/
theorem ne_of {H : Hp} {a b : Addr} {o u : HO} (h : H a = some o) (h' : H b = some u) (d : o ≠ u) : a ≠ b := by
  intro e; subst e; rw [h] at h'; exact d (Option.some.inj h')
theorem ne_of_none {H : Hp} {a b : Addr} {o : HO} (h : H a = some o) (h' : H b = none) : a ≠ b := by
  intro e; subst e; rw [h] at h'; cases h'

section
variable (P : Program) (w : World)
def ObjOk (H : Hp) (h : Heap) (a : Addr) : HO → Prop
  | .lst xs => xs.length ≤ sizeLine ∧ ∃ (its : List Value) (n : Nat), Vals xs its ∧ h.get? a = some { cls := .type "list", data := .seq its.toArray n }
  | .tup xs => xs.length ≤ sizeLine ∧ ∃ its : List Value, Vals xs its ∧ IsTup h a its.toArray
  | .dK kvs => kvs.length ≤ sizeLine ∧ (a == sysModules) = false ∧ ∃ vs, KV kvs vs ∧ h.DictOf (mixKind P w) a vs
  | .dT kvs => kvs.length ≤ sizeLine ∧ (a == sysModules) = false ∧ ∃ xs : List (List Key × Addr × Value),
      Paired (fun (p : List Key × V) (q : List Key × Addr × Value) => p.1 = q.1 ∧ H q.2.1 = some (.tup (p.1.map kV)) ∧ RelV p.2 q.2.2) kvs xs ∧
      ∃ o es ep, h.get? a = some o ∧ o.ExactDict ∧ o.data = .dict es ep ∧ es.toList = xs.map (entryOfKey (tupleKind (mixKind P w))) ∧ (xs.map (·.1)).Nodup
  | .set S n => h.SetOf (intKind P w) a S n
  | .ins C dx fs => H dx = some (.own a) ∧ fs.length ≤ 1000 ∧ dx ≠ a ∧ h.get? a = some (PySem.W.instObj C dx) ∧
      ∃ mA, h.Ns1 dx mA ∧ (∀ f, RelO (fs.lookup f) (mA f)) ∧ PySem.Within mA (fs.map (·.1))
  | .own _ => ∃ o, h.get? a = some o
  | .xd fs => ∃ mA, h.Ns1 a mA ∧ ∀ f, RelO (fs.lookup f) (mA f)
  | .rng lo hi => ∃ t u v, h.get? a = some { cls := .type "range", data := .fields #[.int lo t, .int hi u, .int 1 v] }
  | .frz o u => h.get? a = some o ∧ ObjOk H h a u
  | .tbl ps => h.get? a = some { cls := .none, data := .fields ps }
  | .met f x => h.get? a = some (PySem.W.methodObj (.ref f) (.ref x))
  | .ext φ => φ h ∧ (∃ o, h.get? a = some o) ∧ ∀ h1 h2 : Heap, φ h1 → (∀ o, h1.get? a = some o → h2.get? a = some o) → φ h2
/-- the abstract heap is held -/
def HOk (H : Hp) (h : Heap) : Prop := ∀ a o, H a = some o → ObjOk P w H h a o
end

section
variable {P : Program} {w : World} {H H' : Hp} {h h' : Heap} {a : Addr} {o : HO}
theorem ObjOk.lt (x : ObjOk P w H h a o) : a < h.objs.size := by
  cases o with
  | lst xs => obtain ⟨_, _, _, _, e⟩ := x; exact Heap.lt_size e
  | tup xs => obtain ⟨_, _, _, p⟩ := x; exact p.lt
  | dK kvs => obtain ⟨_, _, _, _, o, _, _, e, _⟩ := x; exact Heap.lt_size e
  | dT kvs => obtain ⟨_, _, _, _, o, _, _, e, _⟩ := x; exact Heap.lt_size e
  | set S n => obtain ⟨o, _, _, _, e, _⟩ := x; exact Heap.lt_size e
  | ins C dx fs => obtain ⟨_, _, _, e, _⟩ := x; exact Heap.lt_size e
  | own y => obtain ⟨_, e⟩ := x; exact Heap.lt_size e
  | xd fs => obtain ⟨_, ⟨_, _, _, e, _⟩, _⟩ := x; exact Heap.lt_size e
  | rng lo hi => obtain ⟨_, _, _, e⟩ := x; exact Heap.lt_size e
  | frz ob u => obtain ⟨e, _⟩ := x; exact Heap.lt_size e
  | tbl ps => exact Heap.lt_size (show h.get? a = some _ from x)
  | met f y => exact Heap.lt_size (show h.get? a = some _ from x)
  | ext φ => obtain ⟨_, ⟨_, e⟩, _⟩ := x; exact Heap.lt_size e
theorem Paired.mapP {α β : Type} {F G : α → β → Prop} : ∀ {l₁ : List α} {l₂ : List β}, Paired F l₁ l₂ → (∀ a b, F a b → G a b) → Paired G l₁ l₂
  | _, _, .nil, _ => .nil
  | _, _, .cons r t, f => .cons (f _ _ r) (Paired.mapP t f)
/-- what an object's description leans on: its own object, its own dict, the tuples -/
theorem ObjOk.stay (x : ObjOk P w H h a o) (k : ∀ b u, (b = a ∨ H b = some (.own a)) → h.get? b = some u → h'.get? b = some u)
    (ho : ∀ b, H b = some (.own a) → H' b = some (.own a)) (ht : ∀ b xs, H b = some (.tup xs) → H' b = some (.tup xs)) : ObjOk P w H' h' a o := by
  induction o with
  | lst xs => obtain ⟨z, its, n, r, e⟩ := x; exact ⟨z, its, n, r, k _ _ (.inl rfl) e⟩
  | tup xs => obtain ⟨z, its, r, ob, e, c⟩ := x; exact ⟨z, its, r, ob, k _ _ (.inl rfl) e, c⟩
  | dK kvs => obtain ⟨z, y, vs, r, ob, es, ep, e, c⟩ := x; exact ⟨z, y, vs, r, ob, es, ep, k _ _ (.inl rfl) e, c⟩
  | dT kvs =>
    obtain ⟨z, y, xs, r, ob, es, ep, e, c⟩ := x
    exact ⟨z, y, xs, Paired.mapP r fun p q z => ⟨z.1, ht _ _ z.2.1, z.2.2⟩, ob, es, ep, k _ _ (.inl rfl) e, c⟩
  | set S n => obtain ⟨ob, es, ep, t, e, c⟩ := x; exact ⟨ob, es, ep, t, k _ _ (.inl rfl) e, c⟩
  | ins C dx fs =>
    obtain ⟨d, z, ne, e, mA, ⟨od, es, ep, e2, c⟩, r⟩ := x
    exact ⟨ho _ d, z, ne, k _ _ (.inl rfl) e, mA, ⟨od, es, ep, k _ _ (.inr d) e2, c⟩, r⟩
  | own y => obtain ⟨ob, e⟩ := x; exact ⟨ob, k _ _ (.inl rfl) e⟩
  | xd fs => obtain ⟨mA, ⟨od, es, ep, e, c⟩, r⟩ := x; exact ⟨mA, ⟨od, es, ep, k _ _ (.inl rfl) e, c⟩, r⟩
  | rng lo hi => obtain ⟨t, u, v, e⟩ := x; exact ⟨t, u, v, k _ _ (.inl rfl) e⟩
  | frz ob u ih => obtain ⟨e, q⟩ := x; exact ⟨k _ _ (.inl rfl) e, ih q⟩
  | tbl ps =>
    have e : h.get? a = some { cls := .none, data := .fields ps } := x
    show h'.get? a = some { cls := .none, data := .fields ps }
    exact k a _ (.inl rfl) e
  | met f y =>
    have e : h.get? a = some (PySem.W.methodObj (.ref f) (.ref y)) := x
    show h'.get? a = some (PySem.W.methodObj (.ref f) (.ref y))
    exact k a _ (.inl rfl) e
  | ext φ => obtain ⟨p, ⟨o, e⟩, st⟩ := x; exact ⟨st _ _ p fun o q => k _ _ (.inl rfl) q, ⟨o, k _ _ (.inl rfl) e⟩, st⟩
theorem HOk.lt (x : HOk P w H h) (e : H a = some o) : a < h.objs.size := (x a o e).lt
theorem HOk.fresh (x : HOk P w H h) (e : h.objs.size ≤ a) : H a = none := by
  cases q : H a with
  | none => rfl
  | some u => exact absurd (Nat.lt_of_lt_of_le (x.lt q) e) (Nat.lt_irrefl _)
/-- every object of the heap is kept -/
theorem HOk.kept (x : HOk P w H h) (k : ∀ b u, h.get? b = some u → h'.get? b = some u) : HOk P w H h' := fun a o e =>
  (x a o e).stay (fun b u _ q => k b u q) (fun _ q => q) fun _ _ q => q
/-- a new object is laid and tracked -/
theorem HOk.laid (x : HOk P w H h) (k : ∀ b u, h.get? b = some u → h'.get? b = some u) (hp : h.objs.size ≤ a) (new : ObjOk P w (upd H a o) h' a o) : HOk P w (upd H a o) h' := fun b u e => by
  have hn := x.fresh hp
  by_cases hb : b = a
  · subst hb; rw [upd_same] at e; cases e; exact new
  · rw [upd_ne hb] at e
    exact (x b u e).stay (fun c v _ q => k c v q) (fun c q => by rw [upd_ne (ne_of_none q hn)]; exact q) fun c xs q => by rw [upd_ne (ne_of_none q hn)]; exact q
end

/-- what may be read as u: it is u, or a known u -/
def Rd (H : Hp) (a : Addr) (u : HO) : Prop := H a = some u ∨ ∃ o, H a = some (.frz o u)
theorem Rd.ok {P : Program} {w : World} {H : Hp} {h : Heap} {a : Addr} {u : HO} (r : Rd H a u) (x : HOk P w H h) : ObjOk P w H h a u := by
  rcases r with r | ⟨o, r⟩
  · exact x a u r
  · obtain ⟨_, q⟩ := x a _ r
    exact q
/-- what may be written -/
def Mut : Option HO → Prop
  | some (.lst _) => True
  | some (.dK _) => True
  | some (.dT _) => True
  | some (.set _ _) => True
  | some (.ins _ _ _) => True
  | some (.ext _) => True
  | _ => False
section
variable {P : Program} {w : World} {H : Hp} {h h' : Heap} {x e : Addr} {o' : HO}
/-- the object at e is changed: x itself, or the dict of the instance x -/
theorem HOk.write (ok : HOk P w H h) (mu : Mut (H x)) (he : e = x ∨ H e = some (.own x)) (k : ∀ b u, b ≠ e → h.get? b = some u → h'.get? b = some u) (heo : ∃ u, h'.get? e = some u)
    (new : ObjOk P w (upd H x o') h' x o') : HOk P w (upd H x o') h' := fun b u q => by
  have nown : ∀ c y, H c = some (.own y) → c ≠ x := fun c y r z => by subst z; rw [r] at mu; exact mu
  have ntup : ∀ c xs, H c = some (.tup xs) → c ≠ x := fun c xs r z => by subst z; rw [r] at mu; exact mu
  by_cases hb : b = x
  · subst hb; rw [upd_same] at q; cases q; exact new
  · rw [upd_ne hb] at q
    by_cases hbe : b = e
    · have q' : H b = some (.own x) := by
        rcases he with z | z
        · exact absurd (hbe.trans z) hb
        · rw [hbe]; exact z
      rw [q] at q'; cases q'
      obtain ⟨v, hv⟩ := heo
      exact ⟨v, by rw [hbe]; exact hv⟩
    · refine (ok b u q).stay (fun c v hc r => k c v ?_ r) (fun c r => by rw [upd_ne (nown c b r)]; exact r) fun c xs r => by rw [upd_ne (ntup c xs r)]; exact r
      rcases hc with rfl | hc
      · exact hbe
      · rintro rfl
        rcases he with z | z
        · exact nown c b hc z
        · rw [hc] at z; cases z; exact hb rfl
end

/-! ### kept unless tracked; of the frames at fs (the callers') the slots may change (an exception that passes writes there); of the records at ex (iterators) nothing is said -/
structure Un (fs ex : List Addr) (H H' : Hp) (h h' : Heap) : Prop where
  keep : ∀ b o, h.get? b = some o → H b = none → b ∉ fs → b ∉ ex → h'.get? b = some o
  slot : ∀ b o, h.get? b = some o → H b = none → b ∈ fs → b ∉ ex → ∃ sl, h'.get? b = some { o with slots := sl }
  free : ∀ b o, h.get? b = some o → H b = none → b ∉ ex → H' b = none
  there : ∀ b o, h.get? b = some o → b ∉ ex → ∃ o', h'.get? b = some o'
  tups : ∀ b xs, H b = some (.tup xs) → H' b = some (.tup xs)
  frzs : ∀ b o u, H b = some (.frz o u) → H' b = some (.frz o u)
  tbls : ∀ b ps, H b = some (.tbl ps) → ∃ more, H' b = some (.tbl (ps ++ more))
section
variable {fs fs' ex ex' : List Addr} {H H1 H2 : Hp} {h h1 h2 h' : Heap} {a x e : Addr} {o : HO}
theorem Un.any (u : Un fs ex H H1 h h1) {b : Addr} {ob : Obj} (q : h.get? b = some ob) (n : H b = none) (hx : b ∉ ex) : ∃ sl, h1.get? b = some { ob with slots := sl } := by
  by_cases hb : b ∈ fs
  · exact u.slot b ob q n hb hx
  · exact ⟨ob.slots, u.keep b ob q n hb hx⟩
theorem Un.kept (k : ∀ b u, h.get? b = some u → h'.get? b = some u) : Un fs ex H H h h' :=
  ⟨fun b ob q _ _ _ => k b ob q, fun b ob q _ _ _ => ⟨ob.slots, k b ob q⟩, fun _ _ _ n _ => n, fun b ob q _ => ⟨ob, k b ob q⟩, fun _ _ q => q, fun _ _ _ q => q, fun _ ps q => ⟨#[], by rw [q]; simp⟩⟩
theorem Un.refl : Un fs ex H H h h := Un.kept fun _ _ q => q
theorem Un.laid (k : ∀ b u, h.get? b = some u → h'.get? b = some u) (hp : h.objs.size ≤ a) (hn : H a = none) : Un fs ex H (upd H a o) h h' where
  keep := fun b u q _ _ _ => k b u q
  slot := fun b u q _ _ _ => ⟨u.slots, k b u q⟩
  free := fun b u q n _ => by rw [upd_ne (Nat.ne_of_lt (Nat.lt_of_lt_of_le (Heap.lt_size q) hp))]; exact n
  there := fun b u q _ => ⟨u, k b u q⟩
  tups := fun b xs q => by rw [upd_ne (ne_of_none q hn)]; exact q
  frzs := fun b u xs q => by rw [upd_ne (ne_of_none q hn)]; exact q
  tbls := fun b ps q => ⟨#[], by rw [upd_ne (ne_of_none q hn), q]; simp⟩
theorem Un.write (mu : Mut (H x)) (he : e = x ∨ H e = some (.own x)) (k : ∀ b u, b ≠ e → h.get? b = some u → h'.get? b = some u) (heo : ∃ u, h'.get? e = some u) : Un fs ex H (upd H x o) h h' := by
  have hx : ∀ b, H b = none → b ≠ x := fun b n z => by subst z; rw [n] at mu; exact mu
  have hb : ∀ b, H b = none → b ≠ e := fun b n z => by
    subst z
    rcases he with r | r
    · exact hx b n r
    · rw [n] at r; cases r
  have hm : ∀ b u, H b = some u → ¬ Mut (some u) → b ≠ x := fun b u q nm z => by subst z; rw [q] at mu; exact nm mu
  refine ⟨fun b u q n _ _ => k b u (hb b n) q, fun b u q n _ _ => ⟨u.slots, k b u (hb b n) q⟩, fun b u q n _ => by rw [upd_ne (hx b n)]; exact n, fun b u q _ => ?_,
    fun b xs q => by rw [upd_ne (hm b _ q fun z => z)]; exact q, fun b u xs q => by rw [upd_ne (hm b _ q fun z => z)]; exact q, fun b ps q => ⟨#[], by rw [upd_ne (hm b _ q fun z => z), q]; simp⟩⟩
  by_cases hbe : b = e
  · subst hbe; exact heo
  · exact ⟨u, k b u hbe q⟩
end

/-! ### the heap without what is tracked -/
def trk (h : Heap) (H : Hp) : List Addr := (List.range h.objs.size).filter fun a => (H a).isSome
def hidT (h : Heap) (H : Hp) : Heap := PySem.W.hideAll h (trk h H)
theorem hidT_size (h : Heap) (H : Hp) : (hidT h H).objs.size = h.objs.size := PySem.W.hideAll_size _ _
theorem hidT_get {h : Heap} {H : Hp} {b : Addr} {o : Obj} (e : h.get? b = some o) (n : H b = none) : (hidT h H).get? b = some o :=
  PySem.W.hideAll_get _ e fun hm => by
    have q : (H b).isSome = true := (List.mem_filter.mp hm).2
    rw [n] at q; simp at q
theorem of_hidT {h : Heap} {H : Hp} {b : Addr} {o : Obj} (e : (hidT h H).get? b = some o) : h.get? b = some o ∧ H b = none := by
  have e' : h.get? b = some o := PySem.W.of_hideAll (trk h H) e
  refine ⟨e', ?_⟩
  cases q : H b with
  | none => rfl
  | some x =>
    have hm : b ∈ trk h H := List.mem_filter.mpr ⟨List.mem_range.mpr (Heap.lt_size e'), by simp [q]⟩
    have z : (hidT h H).get? b = none := PySem.W.hideAll_none (trk h H) hm
    rw [z] at e; cases e

/-! ### OpenK's ledger, filled with every new object but one -/
end L2

namespace L2
open PySem PySem.Spec PyProof.Rows

/-- the module's facts, over the base: the heap at the law's entry without what is tracked there -/
structure Mod (K : PySem.W.Frag) (mg : Str → Option Value) (base : Heap) : Prop where
  kin : K.In base
  glob : base.Ns mainGlobals mg
  blt : ∃ mb, base.Ns builtinsNs mb ∧ ∀ x : Str, x ≠ "__name__" → mb x = bootBuiltins x
  nolimit : base.NoLimit

/-- the context: a def's body (or a comprehension's block) running. base: fixed through the whole law; s₀, H₀: the entry; outer: the frames whose slots others may change (a def's callers); stack: all frames that run;
   ex: iterators that were made ahead of the entry and are walked here (a comprehension's); fn: the names whose cells were made at the entry (a def: all; a comprehension's block: its own); calm: not within an except suite; pn: pins that every state bears; xe: what is wanted of an exception that leaves the code -/
structure Cx where
  prog : Program
  w : World
  K : PySem.W.Frag
  mg : Str → Option Value
  base : Heap
  A : Around
  N : List Str
  s₀ : Shared
  H₀ : Hp
  env : Env
  outer : List Env
  stack : List Env
  ex : List Addr
  fn : Str → Bool
  calm : Bool
  pn : List (Addr × Obj)
  xe : Value → Shared → Prop
/-- the callers' frames -/
def frs (l : List Env) : List Addr := l.filterMap (·.frame)
abbrev Cx.fs (X : Cx) : List Addr := frs X.outer

def Vis (sc : Scope) (x : Str) : Prop := sc.names.lookup x = some .local ∨ sc.names.lookup x = some .cell ∨ sc.names.lookup x = some .free
def Loc (sc : Scope) (x : Str) : Prop := sc.names.lookup x = some .local ∨ sc.names.lookup x = some .cell
def Look (env : Env) (h : Heap) (m : Str → Option Value) (x : Str) (u : Value) : Prop :=
  (env.kindOf x = some .local ∧ m x = some u) ∨ ((env.kindOf x = some .cell ∨ env.kindOf x = some .free) ∧ ∃ c, env.cells.lookup x = some c ∧ h.IsCell c (some u))

structure Cx.Ok (X : Cx) : Prop where
  mod : Mod X.K X.mg X.base
  kind : X.env.scope.kind = .function
  glob : X.env.globals = mainGlobals
  blt : X.env.builtins = builtinsNs
  above : X.s₀.heap.objs.size ≤ X.env.locals
  inj : ∀ x y c, X.env.cells.lookup x = some c → X.env.cells.lookup y = some c → x = y
  has : ∀ x, (X.env.kindOf x = some .cell ∨ X.env.kindOf x = some .free) → ∃ c, X.env.cells.lookup x = some c
  cab : ∀ x c, X.fn x = true → X.env.cells.lookup x = some c → X.s₀.heap.objs.size ≤ c
  hd : X.calm = true → X.A.handled = none
  frames : X.A.frames = some X.stack
  stk : X.stack = X.outer ∨ (X.stack = X.env :: X.outer ∧ X.env.frame = some X.env.locals)
  exf : ∀ b ∈ X.ex, b ≠ X.env.locals ∧ ∀ x c, X.env.cells.lookup x = some c → c ≠ b
  bs : ∀ b o, X.base.get? b = some o → X.s₀.heap.get? b = some o ∧ X.H₀ b = none
  bsz : X.base.objs.size ≤ X.s₀.heap.objs.size
  noex : ∀ b o, X.base.get? b = some o → b ∉ X.ex
  exfs : ∀ b ∈ X.ex, b ∉ X.fs
  funs : X.s₀.heap.FunFrames X.base X.outer
  frf : ∀ b ∈ X.fs, X.H₀ b = none

structure Inv (X : Cx) (pins : List (Addr × Obj)) (σ : List (Option V)) (H : Hp) (s : Shared) : Prop where
  ok : X.Ok
  os : s.os = X.s₀.os
  bare : AllBare s.gens
  base : Un X.fs X.ex X.H₀ H X.s₀.heap s.heap
  loc : ∃ m, s.heap.Ns X.env.locals m ∧ ∀ (i : Nat) (x : Str) (v : V), X.N[i]? = some x → σ[i]? = some (some v) → Vis X.env.scope x → ∃ u, RelV v u ∧ Look X.env s.heap m x u
  cell : ∀ x c, X.env.cells.lookup x = some c → ∃ v, s.heap.IsCell c v
  free : H X.env.locals = none
  freeC : ∀ x c, X.env.cells.lookup x = some c → H c = none
  pin : ∀ p ∈ X.pn ++ pins, s.heap.get? p.1 = some p.2 ∧ H p.1 = none ∧ p.1 ≠ X.env.locals ∧ p.1 ∉ X.fs ∧ ∀ v, p.2.data ≠ .cell v
  hok : HOk X.prog X.w H s.heap
  len : σ.length = X.N.length

section
variable {X : Cx} {pins : List (Addr × Obj)} {σ : List (Option V)} {H H' : Hp} {s : Shared} {h' : Heap}

theorem Cx.Ok.nofr (ok : X.Ok) {b : Addr} {o : Obj} (e : X.base.get? b = some o) : b ∉ X.fs := fun hb => by
  have := (ok.funs.mem hb).1
  rw [e] at this; cases this
theorem Inv.bs (I : Inv X pins σ H s) : ∀ b o, X.base.get? b = some o → s.heap.get? b = some o ∧ H b = none := fun b o e =>
  ⟨I.base.keep b o (I.ok.bs b o e).1 (I.ok.bs b o e).2 (I.ok.nofr e) (I.ok.noex b o e), I.base.free b o (I.ok.bs b o e).1 (I.ok.bs b o e).2 (I.ok.noex b o e)⟩
theorem Inv.bk (I : Inv X pins σ H s) : ∀ b o, X.base.get? b = some o → s.heap.get? b = some o := fun b o e => (I.bs b o e).1
theorem Inv.mod (I : Inv X pins σ H s) : Mod X.K X.mg X.base := I.ok.mod
theorem Inv.kIn (I : Inv X pins σ H s) : X.K.In s.heap := I.ok.mod.kin.keeps I.bk
theorem Inv.lt (I : Inv X pins σ H s) : X.env.locals < s.heap.objs.size := let ⟨_, hn, _⟩ := I.loc; hn.lt
theorem Inv.sz (I : Inv X pins σ H s) : X.s₀.heap.objs.size ≤ s.heap.objs.size := Nat.le_trans I.ok.above (Nat.le_of_lt I.lt)
theorem Inv.nofs (I : Inv X pins σ H s) {a : Addr} (h : s.heap.objs.size ≤ a) : a ∉ X.fs := fun hb => by
  obtain ⟨_, o, ho, _⟩ := I.ok.funs.mem hb
  exact absurd (Nat.lt_of_lt_of_le (Heap.lt_size ho) (Nat.le_trans I.sz h)) (Nat.lt_irrefl _)
theorem Inv.cne (I : Inv X pins σ H s) : ∀ x c, X.env.cells.lookup x = some c → c ≠ X.env.locals := fun x c e z => by
  obtain ⟨v, o, ho, hd⟩ := I.cell x c e
  obtain ⟨m, ⟨o', es, ep, ho', hd', _⟩, _⟩ := I.loc
  rw [z, ho'] at ho; cases ho; rw [hd'] at hd; cases hd
theorem Inv.funs (I : Inv X pins σ H s) : s.heap.FunFrames X.base X.outer := by
  have all : ∀ (l : List Env), (∀ b ∈ frs l, b ∈ X.fs) → X.s₀.heap.FunFrames X.base l → s.heap.FunFrames X.base l := by
    intro l
    induction l with
    | nil => intro _ _; trivial
    | cons env r ih =>
      intro hs hl
      obtain ⟨hk, ⟨L, o, hf, hn, ho, hd⟩, hr⟩ := hl
      have hL : L ∈ X.fs := hs L (by unfold frs; rw [List.filterMap_cons, hf]; exact List.mem_cons_self)
      obtain ⟨sl, e⟩ := I.base.slot L o ho (I.ok.frf L hL) hL fun z => I.ok.exfs L z hL
      exact ⟨hk, ⟨L, _, hf, hn, e, hd⟩, ih (fun b hb => hs b (by unfold frs; rw [List.filterMap_cons, hf]; exact List.mem_cons_of_mem _ hb)) hr⟩
  exact all X.outer (fun _ hb => hb) I.ok.funs

/-- the frames that run, for a call -/
theorem Inv.stack (I : Inv X pins σ H s) : s.heap.FunFrames X.base X.stack := by
  rcases I.ok.stk with e | ⟨e, hf⟩
  · rw [e]; exact I.funs
  · rw [e]
    obtain ⟨m, hn, _⟩ := I.loc
    refine .cons (by rw [I.ok.kind]; decide) hf hn ?_ I.funs
    exact Heap.get?_none_of_le (Nat.le_trans I.ok.bsz I.ok.above)
theorem Inv.stkSub (I : Inv X pins σ H s) : ∀ b ∈ frs X.stack, b ∈ X.env.locals :: X.fs := fun b hb => by
  rcases I.ok.stk with e | ⟨e, hf⟩
  · rw [e] at hb; exact List.mem_cons_of_mem _ hb
  · rw [e] at hb
    unfold frs at hb
    rw [List.filterMap_cons, hf] at hb
    exact hb
theorem Inv.stkFree (I : Inv X pins σ H s) : ∀ b ∈ frs X.stack, H b = none := fun b hb => by
  rcases List.mem_cons.mp (I.stkSub b hb) with e | hb
  · rw [e]; exact I.free
  · obtain ⟨_, o, ho, _⟩ := I.ok.funs.mem hb
    exact I.base.free b o ho (I.ok.frf b hb) fun z => I.ok.exfs b z hb

/-- THE STEP: the untracked objects but the frame and the records at ch are kept (the callers' frames up to slots), the frame's map is kept, the new abstract heap is held -/
theorem Inv.step {g' : Array GenState} {t' : Nat} {d' : Drawn} {ch : List Addr} (I : Inv X pins σ H s)
    (hch : ∀ b ∈ ch, (b ∈ X.ex ∨ X.s₀.heap.objs.size ≤ b) ∧ b ≠ X.env.locals ∧ (∀ x c, X.env.cells.lookup x = some c → c ≠ b) ∧ ∀ p ∈ X.pn ++ pins, p.1 ≠ b)
    (keep : ∀ b o, b ≠ X.env.locals → b ∉ X.fs → b ∉ ch → s.heap.get? b = some o → H b = none → h'.get? b = some o)
    (slot : ∀ b o, b ≠ X.env.locals → b ∈ X.fs → b ∉ ch → s.heap.get? b = some o → H b = none → ∃ sl, h'.get? b = some { o with slots := sl }) (free : ∀ b o, b ∉ ch → s.heap.get? b = some o → H b = none → H' b = none)
    (there : ∀ b o, b ∉ ch → s.heap.get? b = some o → ∃ o', h'.get? b = some o')
    (tups : ∀ b xs, H b = some (.tup xs) → H' b = some (.tup xs)) (frzs : ∀ b o u, H b = some (.frz o u) → H' b = some (.frz o u)) (tbls : ∀ b ps, H b = some (.tbl ps) → ∃ more, H' b = some (.tbl (ps ++ more)))
    (ns : ∀ m, s.heap.Ns X.env.locals m → h'.Ns X.env.locals m) (hok : HOk X.prog X.w H' h') (hg : AllBare g') :
    Inv X pins σ H' { s with heap := h', gens := g', drawn := d', toks := t' } := by
  have neL : ∀ b o, X.s₀.heap.get? b = some o → b ≠ X.env.locals := fun b o e => Nat.ne_of_lt (Nat.lt_of_lt_of_le (Heap.lt_size e) I.ok.above)
  have neC : ∀ b o, X.s₀.heap.get? b = some o → b ∉ X.ex → b ∉ ch := fun b o e hx hb => by
    rcases (hch b hb).1 with z | z
    · exact hx z
    · exact absurd (Nat.lt_of_lt_of_le (Heap.lt_size e) z) (Nat.lt_irrefl _)
  have cellK : ∀ x c, X.env.cells.lookup x = some c → ∀ v, s.heap.IsCell c v → h'.IsCell c v := fun x c e v ⟨o, ho, hd⟩ => by
    have nch : c ∉ ch := fun z => (hch c z).2.2.1 x c e rfl
    by_cases hc : c ∈ X.fs
    · obtain ⟨sl, q⟩ := slot c o (I.cne x c e) hc nch ho (I.freeC x c e)
      exact ⟨_, q, hd⟩
    · exact ⟨o, keep c o (I.cne x c e) hc nch ho (I.freeC x c e), hd⟩
  refine ⟨I.ok, I.os, hg, ⟨fun b o e n hb hx => ?_, fun b o e n hb hx => ?_, fun b o e n hx => ?_, fun b o e hx => ?_, fun b xs e => tups b xs (I.base.tups b xs e), fun b o xs e => frzs b o xs (I.base.frzs b o xs e), fun b ps e => ?_⟩, ?_, fun x c e => ?_, ?_, fun x c e => ?_, fun p hp => ?_, hok, I.len⟩
  · exact keep b o (neL b o e) hb (neC b o e hx) (I.base.keep b o e n hb hx) (I.base.free b o e n hx)
  · obtain ⟨sl, e1⟩ := I.base.slot b o e n hb hx
    obtain ⟨sl', e2⟩ := slot b _ (neL b o e) hb (neC b o e hx) e1 (I.base.free b o e n hx)
    exact ⟨sl', e2⟩
  · obtain ⟨o', e1⟩ := I.base.there b o e hx
    exact free b o' (neC b o e hx) e1 (I.base.free b o e n hx)
  · obtain ⟨o', e1⟩ := I.base.there b o e hx
    exact there b o' (neC b o e hx) e1
  · obtain ⟨m1, e1⟩ := I.base.tbls b ps e
    obtain ⟨m2, e2⟩ := tbls b _ e1
    exact ⟨m1 ++ m2, by rw [e2, Array.append_assoc]⟩
  · obtain ⟨m, hn, hl⟩ := I.loc
    refine ⟨m, ns m hn, fun i x v e1 e2 e3 => ?_⟩
    obtain ⟨u, r, l⟩ := hl i x v e1 e2 e3
    refine ⟨u, r, ?_⟩
    rcases l with l | ⟨k, c, e, z⟩
    · exact .inl l
    · exact .inr ⟨k, c, e, cellK x c e _ z⟩
  · obtain ⟨v, z⟩ := I.cell x c e
    exact ⟨v, cellK x c e v z⟩
  · obtain ⟨m, ⟨o, _, _, ho, _⟩, _⟩ := I.loc
    exact free _ o (fun z => (hch _ z).2.1 rfl) ho I.free
  · obtain ⟨v, o, ho, hd⟩ := I.cell x c e
    exact free c o (fun z => (hch c z).2.2.1 x c e rfl) ho (I.freeC x c e)
  · obtain ⟨e, n, ne, nf, d⟩ := I.pin p hp
    have nch : p.1 ∉ ch := fun z => (hch p.1 z).2.2.2 p hp rfl
    exact ⟨keep p.1 p.2 ne nf nch e n, free p.1 p.2 nch e n, ne, nf, d⟩
/-- .. where the frame's own object is kept too -/
theorem Inv.un {t' : Nat} (I : Inv X pins σ H s) (u : Un X.fs [] H H' s.heap h') (hok : HOk X.prog X.w H' h') : Inv X pins σ H' { s with heap := h', toks := t' } := by
  obtain ⟨m, ⟨o, es, ep, ho, r⟩, _⟩ := id I.loc
  obtain ⟨sl, hL⟩ := u.any ho I.free (by simp)
  exact I.step (g' := s.gens) (d' := s.drawn) (ch := []) (fun _ z => nomatch z) (fun b o _ hb _ e n => u.keep b o e n hb (by simp)) (fun b o _ hb _ e n => u.slot b o e n hb (by simp)) (fun b o _ e n => u.free b o e n (by simp)) (fun b o _ e => u.there b o e (by simp)) u.tups u.frzs u.tbls (fun m' hm => by
    obtain ⟨o', es', ep', ho', r'⟩ := hm
    rw [ho] at ho'; cases ho'
    exact ⟨_, es', ep', hL, r'⟩) hok I.bare
/-- behind a call (or a comprehension's block): the slots of this frame may have changed too, the records at ch may have turned -/
theorem Inv.call {g' : Array GenState} {t' : Nat} {d' : Drawn} {ch : List Addr} (I : Inv X pins σ H s) (u : Un (frs X.stack) ch H H' s.heap h') (hok : HOk X.prog X.w H' h') (hg : AllBare g')
    (hch : ∀ b ∈ ch, (b ∈ X.ex ∨ X.s₀.heap.objs.size ≤ b) ∧ b ≠ X.env.locals ∧ (∀ x c, X.env.cells.lookup x = some c → c ≠ b) ∧ ∀ p ∈ X.pn ++ pins, p.1 ≠ b) :
    Inv X pins σ H' { s with heap := h', gens := g', drawn := d', toks := t' } := by
  obtain ⟨m, ⟨o, es, ep, ho, r⟩, _⟩ := id I.loc
  obtain ⟨sl, hL⟩ := u.any ho I.free fun z => (hch _ z).2.1 rfl
  exact I.step (ch := ch) hch (fun b o hL hb hc e n => u.keep b o e n (fun z => (List.mem_cons.mp (I.stkSub b z)).elim hL hb) hc) (fun b o _ _ hc e n => u.any e n hc) (fun b o hc e n => u.free b o e n hc) (fun b o hc e => u.there b o e hc) u.tups u.frzs u.tbls (fun m' hm => by
    obtain ⟨o', es', ep', ho', r'⟩ := hm
    rw [ho] at ho'; cases ho'
    exact ⟨_, es', ep', hL, r'⟩) hok hg
/-- an untracked record of ours (an iterator) has turned -/
theorem Inv.turned {t' : Nat} {it : Addr} (I : Inv X pins σ H s) (k : ∀ b o, b ≠ it → s.heap.get? b = some o → h'.get? b = some o) (hn : H it = none) (hL : it ≠ X.env.locals)
    (h1 : it ∈ X.ex ∨ X.s₀.heap.objs.size ≤ it) (h2 : ∀ x c, X.env.cells.lookup x = some c → c ≠ it) (h3 : ∀ p ∈ X.pn ++ pins, p.1 ≠ it) : Inv X pins σ H { s with heap := h', toks := t' } := by
  have nit : ∀ b u, H b = some u → b ≠ it := fun b u e z => by rw [z, hn] at e; cases e
  refine I.step (g' := s.gens) (d' := s.drawn) (ch := [it]) (fun b hb => ?_) (fun b o _ _ hc e _ => k b o (fun z => hc (by simp [z])) e) (fun b o _ _ hc e _ => ⟨o.slots, k b o (fun z => hc (by simp [z])) e⟩) (fun _ _ _ _ n => n)
    (fun b o hc e => ⟨o, k b o (fun z => hc (by simp [z])) e⟩) (fun _ _ e => e) (fun _ _ _ e => e) (fun b ps e => ⟨#[], by rw [e]; simp⟩) (fun m hm => ?_) (fun b u e => ?_) I.bare
  · have e : b = it := by simpa using hb
    subst e
    exact ⟨h1, hL, h2, h3⟩
  · obtain ⟨o, es, ep, ho, r⟩ := hm
    exact ⟨o, es, ep, k _ o (Ne.symm hL) ho, r⟩
  · refine (I.hok b u e).stay (fun c v hc q => k c v ?_ q) (fun _ q => q) fun _ _ q => q
    rcases hc with z | z
    · rw [z]; exact nit b u e
    · exact nit c _ z
theorem Inv.tok (I : Inv X pins σ H s) (t : Nat) : Inv X pins σ H { s with toks := t } := I.un (h' := s.heap) (t' := t) Un.refl I.hok
/-- all objects kept -/
theorem Inv.kept {t' : Nat} (I : Inv X pins σ H s) (k : ∀ b u, s.heap.get? b = some u → h'.get? b = some u) : Inv X pins σ H { s with heap := h', toks := t' } := I.un (Un.kept k) (I.hok.kept k)
/-- a new object laid and tracked -/
theorem Inv.laid {a : Addr} {o : HO} {t' : Nat} (I : Inv X pins σ H s) (k : ∀ b u, s.heap.get? b = some u → h'.get? b = some u) (hp : s.heap.objs.size ≤ a) (new : ObjOk X.prog X.w (upd H a o) h' a o) :
    Inv X pins σ (upd H a o) { s with heap := h', toks := t' } := I.un (Un.laid k hp (I.hok.fresh hp)) (I.hok.laid k hp new)
/-- an object written -/
theorem Inv.write {x e : Addr} {o : HO} {t' : Nat} (I : Inv X pins σ H s) (mu : Mut (H x)) (he : e = x ∨ H e = some (.own x)) (k : ∀ b u, b ≠ e → s.heap.get? b = some u → h'.get? b = some u) (heo : ∃ u, h'.get? e = some u)
    (new : ObjOk X.prog X.w (upd H x o) h' x o) : Inv X pins σ (upd H x o) { s with heap := h', toks := t' } := I.un (Un.write mu he k heo) (I.hok.write mu he k heo new)
theorem Inv.pins_of {pins' : List (Addr × Obj)} (I : Inv X pins σ H s) (h : ∀ p ∈ pins', s.heap.get? p.1 = some p.2 ∧ H p.1 = none ∧ p.1 ≠ X.env.locals ∧ p.1 ∉ X.fs ∧ ∀ v, p.2.data ≠ .cell v) : Inv X pins' σ H s :=
  ⟨I.ok, I.os, I.bare, I.base, I.loc, I.cell, I.free, I.freeC, fun p hp => (List.mem_append.mp hp).elim (fun z => I.pin p (List.mem_append_left _ z)) (h p), I.hok, I.len⟩

theorem nodup_ix {N : List Str} (hN : N.Nodup) {i j : Nat} {x : Str} (a : N[i]? = some x) (b : N[j]? = some x) : i = j := by
  obtain ⟨h1, e1⟩ := List.getElem?_eq_some_iff.mp a
  obtain ⟨h2, e2⟩ := List.getElem?_eq_some_iff.mp b
  exact (List.getElem_inj hN).mp (e1.trans e2.symm)

/-- a name is stored; what changed -/
theorem store_ok2 {M : Model} {A : Around} {E : Value → Shared → Prop} {i : Nat} {x : Str} {v : V} {u : Value} {Q : Unit → Shared → Prop} (I : Inv X pins σ H s) (hN : X.N.Nodup) (hi : X.N[i]? = some x) (hx : Loc X.env.scope x) (r : RelV v u)
    (h : ∀ s', Inv X pins (σ.set i (some v)) H s' → (∃ a, Heap.SameBut a s.heap s'.heap ∧ (a = X.env.locals ∨ X.env.cells.lookup x = some a)) → Q () s') (hf : X.fn x = true ∨ X.env.scope.names.lookup x = some .local := by first | exact .inl rfl | exact .inr rfl | assumption) : wpAny M A (storeName X.env x u) Q E s := by
  obtain ⟨m, hn, hl⟩ := id I.loc
  have hcls : (X.env.scope.kind == .class || (X.env.scope.kind == .module && X.env.locals != X.env.globals)) = false := by rw [I.ok.kind]; rfl
  have hiσ : i < σ.length := by rw [I.len]; exact (List.getElem?_eq_some_iff.mp hi).1
  have cne := I.cne
  have tracked : ∀ {a : Addr} {h' : Heap}, (∃ o, s.heap.get? a = some o ∧ H a = none) → Heap.SameBut a s.heap h' → HOk X.prog X.w H h' := fun {a h'} ha hs b ob e => by
    obtain ⟨_, _, hfree⟩ := ha
    refine (I.hok b ob e).stay (fun c w' hc q => (hs.2 c ?_).trans q) (fun _ q => q) fun _ _ q => q
    rintro rfl
    rcases hc with rfl | hc
    · rw [hfree] at e; cases e
    · rw [hfree] at hc; cases hc
  rcases hx with hk | hk
  · refine wpAny_storeName_local hk hn (fun h' hn' hs => ?_) hcls
    obtain ⟨oL, _, _, hoL, _⟩ := id hn
    refine h _ ⟨I.ok, I.os, I.bare, ⟨fun b o e n hb hx => ?_, fun b o e n hb hx => ?_, I.base.free, fun b o e hx => ?_, I.base.tups, I.base.frzs, I.base.tbls⟩, ⟨_, hn', fun j y v' e1 e2 e3 => ?_⟩, fun y c e => ?_, I.free, I.freeC, fun p hp => ?_, tracked ⟨oL, hoL, I.free⟩ hs, by simpa using I.len⟩ ⟨_, hs, .inl rfl⟩
    · exact (hs.2 b (Nat.ne_of_lt (Nat.lt_of_lt_of_le (Heap.lt_size e) I.ok.above))).trans (I.base.keep b o e n hb hx)
    · obtain ⟨sl, e1⟩ := I.base.slot b o e n hb hx
      exact ⟨sl, (hs.2 b (Nat.ne_of_lt (Nat.lt_of_lt_of_le (Heap.lt_size e) I.ok.above))).trans e1⟩
    · obtain ⟨o', e1⟩ := I.base.there b o e hx
      exact ⟨o', (hs.2 b (Nat.ne_of_lt (Nat.lt_of_lt_of_le (Heap.lt_size e) I.ok.above))).trans e1⟩
    · by_cases hj : j = i
      · subst hj
        rw [hi] at e1; cases e1
        rw [List.getElem?_set_self hiσ] at e2
        cases e2
        exact ⟨u, r, .inl ⟨hk, by simp⟩⟩
      · rw [List.getElem?_set_ne (Ne.symm hj)] at e2
        obtain ⟨u', r', q⟩ := hl j y v' e1 e2 e3
        refine ⟨u', r', ?_⟩
        rcases q with ⟨k, e⟩ | ⟨k, c, e, z⟩
        · refine .inl ⟨k, ?_⟩
          have : y ≠ x := fun e => hj (nodup_ix hN e1 (e ▸ hi))
          simp [this, e]
        · exact .inr ⟨k, c, e, z.sameBut hs (cne y c e)⟩
    · obtain ⟨w', z⟩ := I.cell y c e
      exact ⟨w', z.sameBut hs (cne y c e)⟩
    · obtain ⟨e, n, ne, nf, d⟩ := I.pin p hp
      exact ⟨(hs.2 p.1 ne).trans e, n, ne, nf, d⟩
  · have hfn : X.fn x = true := by
      rcases hf with z | z
      · exact z
      · rw [z] at hk; cases hk
    obtain ⟨c, hc⟩ := I.ok.has x (.inl hk)
    obtain ⟨w', z⟩ := I.cell x c hc
    refine wpAny_storeName_cell I.ok.kind hk hc z (fun h' hc' hs => ?_)
    obtain ⟨oc, hoc, hocd⟩ := id z
    refine h { s with heap := h' } ⟨I.ok, I.os, I.bare, ⟨fun b o e n hb hx => ?_, fun b o e n hb hx => ?_, I.base.free, fun b o e hx => ?_, I.base.tups, I.base.frzs, I.base.tbls⟩, ⟨m, hn.sameBut hs (Ne.symm (cne x c hc)), fun j y v' e1 e2 e3 => ?_⟩, fun y c' e => ?_, I.free, I.freeC, fun p hp => ?_, tracked ⟨oc, hoc, I.freeC x c hc⟩ hs, by simpa using I.len⟩ ⟨c, hs, .inr hc⟩
    · exact (hs.2 b (Nat.ne_of_lt (Nat.lt_of_lt_of_le (Heap.lt_size e) (I.ok.cab x c hfn hc)))).trans (I.base.keep b o e n hb hx)
    · obtain ⟨sl, e1⟩ := I.base.slot b o e n hb hx
      exact ⟨sl, (hs.2 b (Nat.ne_of_lt (Nat.lt_of_lt_of_le (Heap.lt_size e) (I.ok.cab x c hfn hc)))).trans e1⟩
    · obtain ⟨o', e1⟩ := I.base.there b o e hx
      exact ⟨o', (hs.2 b (Nat.ne_of_lt (Nat.lt_of_lt_of_le (Heap.lt_size e) (I.ok.cab x c hfn hc)))).trans e1⟩
    · by_cases hj : j = i
      · subst hj
        rw [hi] at e1; cases e1
        rw [List.getElem?_set_self hiσ] at e2
        cases e2
        exact ⟨u, r, .inr ⟨.inl hk, c, hc, hc'⟩⟩
      · rw [List.getElem?_set_ne (Ne.symm hj)] at e2
        obtain ⟨u', r', q⟩ := hl j y v' e1 e2 e3
        refine ⟨u', r', ?_⟩
        rcases q with q | ⟨k, c', e, z'⟩
        · exact .inl q
        · refine .inr ⟨k, c', e, z'.sameBut hs ?_⟩
          rintro rfl
          exact hj (nodup_ix hN e1 (I.ok.inj _ _ _ e hc ▸ hi))
    · by_cases hcc : c' = c
      · subst hcc; exact ⟨_, hc'⟩
      · obtain ⟨w2, z2⟩ := I.cell y c' e
        exact ⟨w2, z2.sameBut hs hcc⟩
    · obtain ⟨e, n, ne, nf, d⟩ := I.pin p hp
      refine ⟨(hs.2 p.1 ?_).trans e, n, ne, nf, d⟩
      intro q
      rw [q, hoc] at e
      have q' : oc = p.2 := Option.some.inj e
      exact d w' (by rw [← q']; exact hocd)
theorem store_ok {M : Model} {A : Around} {E : Value → Shared → Prop} {i : Nat} {x : Str} {v : V} {u : Value} {Q : Unit → Shared → Prop} (I : Inv X pins σ H s) (hN : X.N.Nodup) (hi : X.N[i]? = some x) (hx : Loc X.env.scope x) (r : RelV v u)
    (h : ∀ s', Inv X pins (σ.set i (some v)) H s' → Q () s') (hf : X.fn x = true ∨ X.env.scope.names.lookup x = some .local := by first | exact .inl rfl | exact .inr rfl | assumption) : wpAny M A (storeName X.env x u) Q E s :=
  store_ok2 I hN hi hx r (fun s' I' _ => h s' I') hf
/-- behind a call or a block, the state as it is -/
theorem Inv.call' {s' : Shared} {ch : List Addr} (I : Inv X pins σ H s) (ho : s'.os = s.os) (u : Un (frs X.stack) ch H H' s.heap s'.heap) (hok : HOk X.prog X.w H' s'.heap) (hg : AllBare s'.gens)
    (hch : ∀ b ∈ ch, (b ∈ X.ex ∨ X.s₀.heap.objs.size ≤ b) ∧ b ≠ X.env.locals ∧ (∀ x c, X.env.cells.lookup x = some c → c ≠ b) ∧ ∀ p ∈ X.pn ++ pins, p.1 ≠ b) : Inv X pins σ H' s' := by
  obtain ⟨h', g', d', t', o'⟩ := s'
  have e : o' = s.os := ho
  subst e
  exact I.call (g' := g') (t' := t') (d' := d') u hok hg hch
end

/-! ### the judgements -/
/-- an exception: its class, its own dict's address (where it has one), the abstract heap behind it -/
abbrev XK := Value → Option Addr → Hp → Prop
abbrev St := List (Option V)
abbrev VK := V → Hp → Prop
/-- an expression's reading; a test's; an argument list's -/
abbrev TE := St → Hp → VK → Prop
abbrev TT := St → Hp → (Bool → Hp → Prop) → Prop
abbrev TA := St → Hp → (List V → Hp → Prop) → Prop
/-- what is wanted behind a statement -/
structure Ends where
  nx : St → Hp → Prop
  rt : VK
  bk : St → Hp → Prop := fun _ _ => False
  ct : St → Hp → Prop := fun _ _ => False
abbrev TS := Ends → St → Hp → Prop

def EP (X : Cx) (pins : List (Addr × Obj)) (σ : St) (Q : VK) (u : Value) (s' : Shared) : Prop := ∃ v H', Inv X pins σ H' s' ∧ RelV v u ∧ Q v H'
def TP (X : Cx) (pins : List (Addr × Obj)) (σ : St) (Q : Bool → Hp → Prop) (b : Bool) (s' : Shared) : Prop := ∃ H', Inv X pins σ H' s' ∧ Q b H'
def AP (X : Cx) (pins : List (Addr × Obj)) (σ : St) (Q : List V → Hp → Prop) (us : List Value) (s' : Shared) : Prop := ∃ vs H', Inv X pins σ H' s' ∧ Vals vs us ∧ Q vs H'
def SP (X : Cx) (pins : List (Addr × Obj)) (D : Ends) (f : Flow) (s' : Shared) : Prop :=
  match f with
  | .next => ∃ σ' H', Inv X pins σ' H' s' ∧ D.nx σ' H'
  | .brk => ∃ σ' H', Inv X pins σ' H' s' ∧ D.bk σ' H'
  | .cont => ∃ σ' H', Inv X pins σ' H' s' ∧ D.ct σ' H'
  | .ret u => ∃ v σ' H', Inv X pins σ' H' s' ∧ RelV v u ∧ D.rt v H'

def PE (X : Cx) (e : Expr) (t : TE) : Prop :=
  ∀ (pins : List (Addr × Obj)) (s : Shared) (σ : St) (H : Hp) (Q : VK), Inv X pins σ H s → t σ H Q → wpAny (model X.prog X.w) X.A (eval e X.env) (EP X pins σ Q) X.xe s
def PT (X : Cx) (e : Expr) (t : TT) : Prop :=
  ∀ (pins : List (Addr × Obj)) (s : Shared) (σ : St) (H : Hp) (Q : Bool → Hp → Prop), Inv X pins σ H s → t σ H Q → wpAny (model X.prog X.w) X.A (isTrue e X.env (eval e X.env)) (TP X pins σ Q) X.xe s
/-- a test whatever its 'whole' is (and, or) -/
def PW (X : Cx) (e : Expr) (t : TT) : Prop :=
  ∀ (whole : Sem Value) (pins : List (Addr × Obj)) (s : Shared) (σ : St) (H : Hp) (Q : Bool → Hp → Prop), Inv X pins σ H s → t σ H Q → wpAny (model X.prog X.w) X.A (isTrue e X.env whole) (TP X pins σ Q) X.xe s
theorem PW.pt {X : Cx} {e : Expr} {t : TT} (h : PW X e t) : PT X e t := h _
/-- an argument list (no star), from the left -/
def PA (X : Cx) (es : List Expr) (t : TA) : Prop :=
  ∀ (pos : Pos) (pins : List (Addr × Obj)) (s : Shared) (σ : St) (H : Hp) (Q : List V → Hp → Prop), Inv X pins σ H s → t σ H Q → wpAny (model X.prog X.w) X.A (spliced (backTo pos (starEach es X.env))) (AP X pins σ Q) X.xe s
def PS (X : Cx) (st : Stmt) (t : TS) : Prop :=
  ∀ (pins : List (Addr × Obj)) (s : Shared) (σ : St) (H : Hp) (D : Ends), Inv X pins σ H s → t D σ H → wpAny (model X.prog X.w) X.A (exec st X.env) (SP X pins D) X.xe s
def PSs (X : Cx) (st : List Stmt) (t : TS) : Prop :=
  ∀ (pins : List (Addr × Obj)) (s : Shared) (σ : St) (H : Hp) (D : Ends), Inv X pins σ H s → t D σ H → wpAny (model X.prog X.w) X.A (execs st X.env) (SP X pins D) X.xe s
/-- weaken the end -/
theorem thn {α : Type} {t : Sem α} {Q Q' : α → Shared → Prop} {M : Model} {A : Around} {E : Value → Shared → Prop} {s : Shared} (h : wpAny M A t Q E s) (hQ : ∀ a s, Q a s → Q' a s) : wpAny M A t Q' E s := wpAny_mono h hQ fun _ _ x => x
end L2

namespace L2
open PySem PySem.Spec PyProof.Rows
section
variable {X : Cx}

/-! ### names and constants -/
def tVar (i : Nat) : TE := fun σ H Q => ∃ v, σ[i]? = some (some v) ∧ Q v H
def tC (v : V) : TE := fun _ H Q => Q v H
theorem pe_var {i : Nat} {x : Str} {pos : Pos} (hN : X.N[i]? = some x) (hv : Vis X.env.scope x) (hd : (x == ("__debug__" : Str)) = false := by decide) (hcd : (x == ("__classdict__" : Str)) = false := by decide) : PE X (.Name x pos) (tVar i) := by
  intro pins s σ H Q I h
  obtain ⟨v, e, h⟩ := h
  obtain ⟨m, hn, hl⟩ := I.loc
  obtain ⟨u, r, l⟩ := hl i x v hN e hv
  have fin : EP X pins σ Q u s := ⟨v, H, I, r, h⟩
  rcases l with ⟨hk, hm⟩ | ⟨hk, c, hc, hcell⟩
  · exact wpAny_Name (wpAny_loadName_local I.ok.kind hk hn hm fin) hd
  · rcases hk with hk | hk
    · exact wpAny_Name (wpAny_loadName_cell I.ok.kind hk hc hcell fin) hd
    · exact wpAny_Name (wpAny_loadName_free I.ok.kind hk hc hcell fin hcd) hd
theorem pe_int {i j pos} : PE X (.Constant (.int i) j pos) (tC (.int i)) := fun _ _ _ H _ I h => wpAny_Constant_int ⟨.int i, H, I.tok _, ⟨_, rfl⟩, h⟩
theorem pe_bl {b j pos} : PE X (.Constant (.bool b) j pos) (tC (.bl b)) := fun _ _ _ H _ I h => Constant_bool ⟨.bl b, H, I, rfl, h⟩
theorem pe_non {j pos} : PE X (.Constant .none j pos) (tC .non) := fun _ _ _ H _ I h => Constant_none ⟨.non, H, I, rfl, h⟩
theorem pe_str {x j pos} : PE X (.Constant (.str x) j pos) (tC (.str x)) := fun _ _ _ H _ I h => Calls.Constant_str ⟨.str x, H, I.tok _, ⟨_, rfl⟩, h⟩

/-- a global name of the def -/
def Gl (X : Cx) (x : Str) : Prop := X.env.kindOf x = some .globalImplicit
theorem ld_glob {E : Value → Shared → Prop} {pins : List (Addr × Obj)} {s : Shared} {σ : St} {H : Hp} {x : Str} {u : Value} {pos : Pos} {Q : Value → Shared → Prop} (I : Inv X pins σ H s) (hg : Gl X x) (hm : X.mg x = some u) (h : Q u s)
    (hd : (x == ("__debug__" : Str)) = false := by decide) : wpAny (model X.prog X.w) X.A (eval (.Name x pos) X.env) Q E s :=
  Calls.Name_function_global I.ok.kind hg (Calls.loadGlobal_global (by rw [I.ok.glob]; exact I.mod.glob.keeps I.bk) hm h) hd
theorem ld_blt {E : Value → Shared → Prop} {pins : List (Addr × Obj)} {s : Shared} {σ : St} {H : Hp} {x : Str} {u : Value} {pos : Pos} {Q : Value → Shared → Prop} (I : Inv X pins σ H s) (hg : Gl X x) (hm : X.mg x = none) (hv : bootBuiltins x = some u) (h : Q u s)
    (hn : x ≠ "__name__" := by decide) (hd : (x == ("__debug__" : Str)) = false := by decide) : wpAny (model X.prog X.w) X.A (eval (.Name x pos) X.env) Q E s := by
  obtain ⟨mb, h1, h2⟩ := I.mod.blt
  exact Calls.Name_function_global I.ok.kind hg (Calls.loadGlobal_builtin (by rw [I.ok.glob]; exact I.mod.glob.keeps I.bk) hm (by rw [I.ok.blt]; exact h1.keeps I.bk) ((h2 x hn).trans hv) h) hd
/-- a module's constant, a class, a function, as a value -/
theorem pe_glob {x : Str} {v : V} {u : Value} {pos : Pos} (hg : Gl X x) (hm : X.mg x = some u) (r : RelV v u) (hd : (x == ("__debug__" : Str)) = false := by decide) : PE X (.Name x pos) (tC v) :=
  fun _ _ _ H _ I h => ld_glob I hg hm ⟨v, H, I, r, h⟩ hd
theorem pe_bltn {x : Str} {v : V} {u : Value} {pos : Pos} (hg : Gl X x) (hm : X.mg x = none) (hv : bootBuiltins x = some u) (r : RelV v u) (hn : x ≠ "__name__" := by decide) (hd : (x == ("__debug__" : Str)) = false := by decide) : PE X (.Name x pos) (tC v) :=
  fun _ _ _ H _ I h => ld_blt I hg hm hv ⟨v, H, I, r, h⟩ hn hd

/-! ### arithmetic -/
variable {a b : Expr} {ta tb : TE} {pos : Pos}
/-! ### comparisons -/
def PC (X : Cx) (op : CmpOp) (a b : Expr) (t : TE) : Prop :=
  ∀ (pins : List (Addr × Obj)) (s : Shared) (σ : St) (H : Hp) (Q : VK), Inv X pins σ H s → t σ H Q →
    wpAny (model X.prog X.w) X.A (eval a X.env) (fun v s₁ => wpAny (model X.prog X.w) X.A (eval b X.env) (fun u s₂ => wpAny (model X.prog X.w) X.A (compareOp op v u) (EP X pins σ Q) X.xe s₂) X.xe s₁) X.xe s
theorem nobehind (b : Expr) {op : CmpOp} (h : op ≠ .In) (h2 : op ≠ .NotIn) : behindInMarks op b = false := by
  have e1 : (op == CmpOp.In) = false := by cases op <;> first | rfl | exact absurd rfl h
  have e2 : (op == CmpOp.NotIn) = false := by cases op <;> first | rfl | exact absurd rfl h2
  cases b <;> simp [behindInMarks, e1, e2]
/-- is None -/
def tIsN (ta : TE) : TE := fun σ H Q => ta σ H fun x H1 => Q (.bl (decide (x = .non))) H1
def tNotN (ta : TE) : TE := fun σ H Q => ta σ H fun x H1 => Q (.bl (!decide (x = .non))) H1
theorem RelV.none_iff {x : V} {v : Value} (r : RelV x v) : (v == Value.none) = decide (x = .non) := by
  cases x with
  | non => cases r; rfl
  | bl _ => cases r; rfl
  | int _ => obtain ⟨t, rfl⟩ := r; rfl
  | str _ => obtain ⟨t, rfl⟩ := r; rfl
  | byt _ => obtain ⟨t, rfl⟩ := r; rfl
  | flt _ => obtain ⟨t, rfl⟩ := r; rfl
  | ref _ => cases r; rfl
  | ty _ => cases r; rfl
theorem pc_isN {j pos'} (ha : PE X a ta) : PC X .Is a (.Constant .none j pos') (tIsN ta) := by
  intro pins s σ H Q I h
  refine thn (ha pins s σ H _ I h) fun v s1 ⟨x, H1, I1, r1, q1⟩ => ?_
  exact Constant_none (is_none_gen ⟨.bl _, H1, I1, by rw [r1.none_iff]; rfl, q1⟩)
theorem pc_notN {j pos'} (ha : PE X a ta) : PC X .IsNot a (.Constant .none j pos') (tNotN ta) := by
  intro pins s σ H Q I h
  refine thn (ha pins s σ H _ I h) fun v s1 ⟨x, H1, I1, r1, q1⟩ => ?_
  exact Constant_none (isnot_none_gen ⟨.bl _, H1, I1, by rw [r1.none_iff]; rfl, q1⟩)
/-- a comparison as a value, as a test -/
def tB (t : TE) : TT := fun σ H Q => t σ H fun x H1 => ∃ c, x = .bl c ∧ Q c H1
theorem pe_cmp {op : CmpOp} {t : TE} (h : PC X op a b t) (h1 : behindInMarks op b = false := by first | exact nobehind _ (by decide) (by decide) | rfl) : PE X (.Compare a [op] [b] pos) t := fun pins s σ H Q I hw => wpAny_Compare1 (h pins s σ H Q I hw) h1
theorem pt_cmp {op : CmpOp} {t : TE} (h : PC X op a b t) (h1 : behindInMarks op b = false := by first | exact nobehind _ (by decide) (by decide) | rfl) : PT X (.Compare a [op] [b] pos) (tB t) := by
  intro pins s σ H Q I hw
  refine wpAny_isTrue_Compare1 (thn (h pins s σ H _ I hw) fun v s1 h1 => thn h1 fun u s2 h2 => thn h2 fun c s3 ⟨x, H1, I1, r1, q1⟩ => ?_) h1
  obtain ⟨d, rfl, q⟩ := q1
  cases r1
  exact wpAny_truthy_bool ⟨H1, I1, q⟩
/-- an expression whose value is a bool, as a test -/
theorem pt_val {e : Expr} {t : TE} (h : PE X e t) (he : ∀ whole, isTrue e X.env whole = (do let v ← whole; standAt e.pos; holding [v] (truthy v)) := by intro _; rfl) : PT X e (tB t) := by
  intro pins s σ H Q I hw
  refine isTrue_plain (thn (h pins s σ H _ I hw) fun v s1 ⟨x, H1, I1, r1, q1⟩ => ?_) (he _)
  obtain ⟨d, rfl, q⟩ := q1
  cases r1
  exact wpAny_truthy_bool ⟨H1, I1, q⟩

/-! ### and, or, not -/
variable {tA tB' : TT} {rest : List Expr}
def tAnd (t u : TT) : TT := fun σ H Q => t σ H fun c H1 => if c = true then u σ H1 Q else Q false H1
def tOr (t u : TT) : TT := fun σ H Q => t σ H fun c H1 => if c = true then Q true H1 else u σ H1 Q
def tNot (t : TT) : TT := fun σ H Q => t σ H fun c H1 => Q (!c) H1
theorem pw_and1 (ha : PT X a tA) : PW X (.BoolOp .And [a] pos) tA := by
  intro wh pins s σ H Q I h
  refine isTrue_and (thn (ha pins s σ H Q I h) fun c s1 e => ?_)
  cases c with
  | true => exact isTrue_and_nil e
  | false => exact e
theorem pw_or1 (ha : PT X a tA) : PW X (.BoolOp .Or [a] pos) tA := by
  intro wh pins s σ H Q I h
  refine isTrue_or (thn (ha pins s σ H Q I h) fun c s1 e => ?_)
  cases c with
  | false => exact isTrue_or_nil e
  | true => exact e
theorem pw_and (ha : PT X a tA) (hb : PW X (.BoolOp .And (b :: rest) pos) tB') : PW X (.BoolOp .And (a :: b :: rest) pos) (tAnd tA tB') := by
  intro wh pins s σ H Q I h
  refine isTrue_and (thn (ha pins s σ H _ I h) fun c s1 ⟨H1, I1, q1⟩ => ?_)
  cases c with
  | true => exact hb wh pins s1 σ H1 Q I1 q1
  | false => exact ⟨H1, I1, q1⟩
theorem pw_or (ha : PT X a tA) (hb : PW X (.BoolOp .Or (b :: rest) pos) tB') : PW X (.BoolOp .Or (a :: b :: rest) pos) (tOr tA tB') := by
  intro wh pins s σ H Q I h
  refine isTrue_or (thn (ha pins s σ H _ I h) fun c s1 ⟨H1, I1, q1⟩ => ?_)
  cases c with
  | true => exact ⟨H1, I1, q1⟩
  | false => exact hb wh pins s1 σ H1 Q I1 q1
theorem pt_not (ha : PT X a tA) : PT X (.UnaryOp .Not a pos) (tNot tA) := by
  intro pins s σ H Q I h
  exact isTrue_not (ha pins s σ H (fun c H1 => Q (!c) H1) I h)
/-- .. as values (bools) -/
def tAndV (ta tb : TE) : TE := fun σ H Q => ta σ H fun x H1 => ∃ c, x = .bl c ∧ if c = true then tb σ H1 Q else Q (.bl false) H1
def tOrV (ta tb : TE) : TE := fun σ H Q => ta σ H fun x H1 => ∃ c, x = .bl c ∧ if c = true then Q (.bl true) H1 else tb σ H1 Q
def tNotV (ta : TE) : TE := fun σ H Q => ta σ H fun x H1 => ∃ c, x = .bl c ∧ Q (.bl (!c)) H1
theorem pe_one {op} {t : TE} (h : PE X a t) : PE X (.BoolOp op [a] pos) t := fun pins s σ H Q I hw => BoolOp_one (h pins s σ H Q I hw)
theorem pe_and (ha : PE X a ta) (hb : PE X (.BoolOp .And (b :: rest) pos) tb) : PE X (.BoolOp .And (a :: b :: rest) pos) (tAndV ta tb) := by
  intro pins s σ H Q I h
  refine BoolOp_and (thn (ha pins s σ H _ I h) fun v s1 ⟨x, H1, I1, r1, q1⟩ => ?_)
  obtain ⟨c, rfl, q1⟩ := q1
  cases r1
  refine wpAny_truthy_bool ?_
  cases c with
  | true => exact hb pins s1 σ H1 Q I1 q1
  | false => exact ⟨.bl false, H1, I1, rfl, q1⟩
theorem pe_or (ha : PE X a ta) (hb : PE X (.BoolOp .Or (b :: rest) pos) tb) : PE X (.BoolOp .Or (a :: b :: rest) pos) (tOrV ta tb) := by
  intro pins s σ H Q I h
  refine BoolOp_or (thn (ha pins s σ H _ I h) fun v s1 ⟨x, H1, I1, r1, q1⟩ => ?_)
  obtain ⟨c, rfl, q1⟩ := q1
  cases r1
  refine wpAny_truthy_bool ?_
  cases c with
  | false => exact hb pins s1 σ H1 Q I1 q1
  | true => exact ⟨.bl true, H1, I1, rfl, q1⟩
theorem pe_not (ha : PE X a ta) : PE X (.UnaryOp .Not a pos) (tNotV ta) := by
  intro pins s σ H Q I h
  refine UnaryOp_ (thn (ha pins s σ H _ I h) fun v s1 ⟨x, H1, I1, r1, q1⟩ => ?_)
  obtain ⟨c, rfl, q1⟩ := q1
  cases r1
  exact not_of (wpAny_truthy_bool ⟨.bl (!c), H1, I1, rfl, q1⟩)
/-- a if t else b -/
def tIf (t : TT) (ta tb : TE) : TE := fun σ H Q => t σ H fun c H1 => if c = true then ta σ H1 Q else tb σ H1 Q
theorem pe_ifExp {c : Expr} (hc : PT X c tA) (ha : PE X a ta) (hb : PE X b tb) : PE X (.IfExp c a b pos) (tIf tA ta tb) := by
  intro pins s σ H Q I h
  refine wpAny_IfExp (thn (hc pins s σ H _ I h) fun d s1 ⟨H1, I1, q1⟩ => ?_)
  cases d with
  | true => exact ha pins s1 σ H1 Q I1 q1
  | false => exact hb pins s1 σ H1 Q I1 q1
end
end L2

namespace L2
open PySem PySem.Spec PyProof.Rows

/-! ### a list, a tuple that is read: tracked, frozen, or an object of the module -/
def SqL (K : PySem.W.Frag) (H : Hp) (a : Addr) (xs : List V) : Prop :=
  Rd H a (.lst xs) ∨
    ∃ (o : Obj) (its : Array Value) (n : Nat), K.lookup a = some o ∧ o.cls = .type "list" ∧ o.dict = none ∧ o.data = .seq its n ∧ its.size ≤ sizeLine ∧ Vals xs its.toList
def SqT (K : PySem.W.Frag) (H : Hp) (a : Addr) (xs : List V) : Prop :=
  Rd H a (.tup xs) ∨
    ∃ (o : Obj) (its : Array Value) (n : Nat), K.lookup a = some o ∧ o.cls = .type "tuple" ∧ o.data = .seq its n ∧ its.size ≤ sizeLine ∧ Vals xs its.toList
def absV : Value → Option V
  | .none => some .non
  | .bool b => some (.bl b)
  | .int i _ => some (.int i)
  | .str x _ => some (.str x)
  | .bytes b _ => some (.byt b)
  | .float b _ => some (.flt b)
  | .ref a => some (.ref a)
  | .type n => some (.ty n)
  | _ => none
theorem RelV.abs {x : V} {u : Value} (r : RelV x u) : absV u = some x := by
  cases x with
  | non => cases r; rfl
  | bl _ => cases r; rfl
  | int _ => obtain ⟨t, rfl⟩ := r; rfl
  | str _ => obtain ⟨t, rfl⟩ := r; rfl
  | byt _ => obtain ⟨t, rfl⟩ := r; rfl
  | flt _ => obtain ⟨t, rfl⟩ := r; rfl
  | ref _ => cases r; rfl
  | ty _ => cases r; rfl
theorem RelV.inj {x y : V} {u : Value} (r : RelV x u) (q : RelV y u) : x = y := Option.some.inj (r.abs.symm.trans q.abs)
theorem Vals.inj : ∀ {xs ys : List V} {us : List Value}, Vals xs us → Vals ys us → xs = ys
  | _, _, _, .nil, .nil => rfl
  | _, _, _, .cons r t, .cons r' t' => by rw [r.inj r', Vals.inj t t']
section
variable {X : Cx} {pins : List (Addr × Obj)} {σ : St} {H : Hp} {s : Shared} {a : Addr} {xs ys : List V}
theorem SqL.of {K : PySem.W.Frag} (h : H a = some (.lst xs)) : SqL K H a xs := .inl (.inl h)
theorem SqT.of {K : PySem.W.Frag} (h : H a = some (.tup xs)) : SqT K H a xs := .inl (.inl h)
theorem Inv.list (I : Inv X pins σ H s) (h : SqL X.K H a xs) : ∃ its : List Value, Vals xs its ∧ PlainL s.heap a its.toArray ∧ xs.length ≤ sizeLine := by
  rcases h with h | ⟨o, its, n, hk, hc, hd, hs, hz, r⟩
  · obtain ⟨z, its, n, r, e⟩ := h.ok I.hok
    exact ⟨its, r, ⟨_, n, e, rfl, rfl, rfl⟩, z⟩
  · refine ⟨its.toList, r, ⟨o, n, I.kIn a o hk, hc, hd, by simpa using hs⟩, ?_⟩
    have e := r.length
    simp only [Array.length_toList] at e
    omega
theorem Inv.tuple (I : Inv X pins σ H s) (h : SqT X.K H a xs) : ∃ its : List Value, Vals xs its ∧ IsTup s.heap a its.toArray ∧ xs.length ≤ sizeLine := by
  rcases h with h | ⟨o, its, n, hk, hc, hs, hz, r⟩
  · obtain ⟨z, its, r, p⟩ := h.ok I.hok
    exact ⟨its, r, p, z⟩
  · refine ⟨its.toList, r, ⟨o, I.kIn a o hk, hc, n, by simpa using hs⟩, ?_⟩
    have e := r.length
    simp only [Array.length_toList] at e
    omega
theorem Inv.list_inj (I : Inv X pins σ H s) (h : SqL X.K H a xs) (h' : SqL X.K H a ys) : xs = ys := by
  obtain ⟨its, r, ⟨o, n, e, _, _, d⟩, _⟩ := I.list h
  obtain ⟨its', r', ⟨o', n', e', _, _, d'⟩, _⟩ := I.list h'
  rw [e] at e'; cases e'
  rw [d] at d'
  injection d' with d1 _
  have : its = its' := by simpa using congrArg Array.toList d1
  subst this
  exact r.inj r'
theorem Inv.tuple_inj (I : Inv X pins σ H s) (h : SqT X.K H a xs) (h' : SqT X.K H a ys) : xs = ys := by
  obtain ⟨its, r, ⟨o, e, _, n, d⟩, _⟩ := I.tuple h
  obtain ⟨its', r', ⟨o', e', _, n', d'⟩, _⟩ := I.tuple h'
  rw [e] at e'; cases e'
  rw [d] at d'
  injection d' with d1 _
  have : its = its' := by simpa using congrArg Array.toList d1
  subst this
  exact r.inj r'
end

/-! ### another wish about exceptions -/
abbrev Cx.wish (X : Cx) (E : Value → Shared → Prop) : Cx := { X with xe := E }
/-- no exception leaves -/
abbrev Cx.nox (X : Cx) : Cx := X.wish fun _ _ => False
theorem Cx.Ok.wish {X : Cx} (ok : X.Ok) (E : Value → Shared → Prop) : (X.wish E).Ok :=
  ⟨ok.mod, ok.kind, ok.glob, ok.blt, ok.above, ok.inj, ok.has, ok.cab, ok.hd, ok.frames, ok.stk, ok.exf, ok.bs, ok.bsz, ok.noex, ok.exfs, ok.funs, ok.frf⟩
theorem Cx.Ok.unwish {X : Cx} {E : Value → Shared → Prop} (ok : (X.wish E).Ok) : X.Ok :=
  ⟨ok.mod, ok.kind, ok.glob, ok.blt, ok.above, ok.inj, ok.has, ok.cab, ok.hd, ok.frames, ok.stk, ok.exf, ok.bs, ok.bsz, ok.noex, ok.exfs, ok.funs, ok.frf⟩
section
variable {X : Cx} {pins : List (Addr × Obj)} {σ : St} {H : Hp} {s : Shared} {E : Value → Shared → Prop}
theorem Inv.wish (I : Inv X pins σ H s) (E : Value → Shared → Prop) : Inv (X.wish E) pins σ H s := ⟨I.ok.wish E, I.os, I.bare, I.base, I.loc, I.cell, I.free, I.freeC, I.pin, I.hok, I.len⟩
theorem Inv.unwish (I : Inv (X.wish E) pins σ H s) : Inv X pins σ H s := ⟨I.ok.unwish, I.os, I.bare, I.base, I.loc, I.cell, I.free, I.freeC, I.pin, I.hok, I.len⟩
theorem SP.unwish {D : Ends} {f : Flow} {s' : Shared} (h : SP (X.wish E) pins D f s') : SP X pins D f s' := by
  cases f with
  | next => obtain ⟨σ', H', I, q⟩ := h; exact ⟨σ', H', I.unwish, q⟩
  | brk => obtain ⟨σ', H', I, q⟩ := h; exact ⟨σ', H', I.unwish, q⟩
  | cont => obtain ⟨σ', H', I, q⟩ := h; exact ⟨σ', H', I.unwish, q⟩
  | ret u => obtain ⟨v, σ', H', I, r, q⟩ := h; exact ⟨v, σ', H', I.unwish, r, q⟩
theorem PSs.nox {st : List Stmt} {t : TS} (h : PSs X.nox st t) : PSs X st t := fun pins s σ H D I hw =>
  wpAny_mono (h pins s σ H D (I.wish _) hw) (fun _ _ q => q.unwish) fun _ _ z => False.elim z
end

/-! ### blocks and small statements -/
section
variable {X : Cx} {st : Stmt} {rest : List Stmt} {t u : TS} {e : Expr} {te : TE} {pos : Pos}
def tNext : TS := fun D σ H => D.nx σ H
def tSeq (t u : TS) : TS := fun D σ H => t { D with nx := u D } σ H
theorem pss_nil : PSs X [] tNext := fun _ _ σ H _ I h => wpAny_execs_nil ⟨σ, H, I, h⟩
theorem pss_cons (h1 : PS X st t) (h2 : PSs X rest u) : PSs X (st :: rest) (tSeq t u) := by
  intro pins s σ H D I h
  refine wpAny_execs_cons (thn (h1 pins s σ H { D with nx := u D } I h) fun f s1 q => ?_)
  cases f with
  | next =>
    obtain ⟨σ', H', I', q⟩ := q
    exact h2 pins s1 σ' H' D I' q
  | ret v => exact q
  | brk => exact q
  | cont => exact q
theorem pss_one (h1 : PS X st t) : PSs X [st] t := by
  intro pins s σ H D I h
  refine wpAny_execs_cons (thn (h1 pins s σ H D I h) fun f s1 q => ?_)
  cases f with
  | next => exact wpAny_execs_nil q
  | ret v => exact q
  | brk => exact q
  | cont => exact q
/-- in a def's body nothing is shown -/
theorem Inv.quiet {pins : List (Addr × Obj)} {σ : St} {H : Hp} {s : Shared} (I : Inv X pins σ H s) : interactive X.env = false := by simp [interactive, I.ok.kind]
/-- an expression whose value is dropped -/
def tDrop (te : TE) : TS := fun D σ H => te σ H fun _ H1 => D.nx σ H1
theorem ps_expr (he : PE X e te) (hs : swapsWith e none pos.line X.env = pure false := by rfl) : PS X (.Expr e pos) (tDrop te) := by
  intro pins s σ H D I h
  exact wpAny_Expr_any (thn (he pins s σ H _ I h) fun v s1 ⟨x, H1, I1, r1, q1⟩ => ⟨σ, H1, I1, q1⟩) I.quiet hs
def tRet (te : TE) : TS := fun D σ H => te σ H D.rt
theorem ps_ret (he : PE X e te) : PS X (.Return (some e) pos) (tRet te) := by
  intro pins s σ H D I h
  exact wpAny_Return_some (thn (he pins s σ H _ I h) fun v s1 ⟨x, H1, I1, r1, q1⟩ => ⟨x, σ, H1, I1, r1, q1⟩)
def tIfS (c : TT) (t u : TS) : TS := fun D σ H => c σ H fun b H1 => if b = true then t D σ H1 else u D σ H1
theorem ps_if {c : Expr} {a b : List Stmt} {tc : TT} (hc : PT X c tc) (ha : PSs X a t) (hb : PSs X b u) : PS X (.If c a b pos) (tIfS tc t u) := by
  intro pins s σ H D I h
  refine wpAny_If (thn (hc pins s σ H _ I h) fun d s1 ⟨H1, I1, q1⟩ => ?_)
  cases d with
  | true => exact ha pins s1 σ H1 D I1 q1
  | false => exact hb pins s1 σ H1 D I1 q1
/-- code that the proof never comes to -/
def tNever : TS := fun _ _ _ => False
theorem pss_never {sts : List Stmt} : PSs X sts tNever := fun _ _ _ _ _ _ h => h.elim
end

/-! ### targets -/
abbrev TG := V → St → Hp → (St → Hp → Prop) → Prop
abbrev TGs := List V → St → Hp → (St → Hp → Prop) → Prop
def PG (X : Cx) (target : Expr) (t : TG) : Prop :=
  ∀ (pins : List (Addr × Obj)) (s : Shared) (σ : St) (H : Hp) (v : V) (u : Value) (Q : St → Hp → Prop), Inv X pins σ H s → RelV v u → t v σ H Q →
    wpAny (model X.prog X.w) X.A (assign target X.env u) (fun _ s' => ∃ σ' H', Inv X pins σ' H' s' ∧ Q σ' H') X.xe s
/-- several targets, one after another -/
def PGs (X : Cx) (ts : List Expr) (t : TGs) : Prop :=
  ∀ (pins : List (Addr × Obj)) (s : Shared) (σ : St) (H : Hp) (vs : List V) (us : List Value) (Q : St → Hp → Prop), Inv X pins σ H s → Vals vs us → t vs σ H Q →
    wpAny (model X.prog X.w) X.A (assignInOrder ((assignEach ts X.env).map (·.2)) us) (fun _ s' => ∃ σ' H', Inv X pins σ' H' s' ∧ Q σ' H') X.xe s
section
variable {X : Cx} {pos : Pos}
def gName (i : Nat) : TG := fun v σ H Q => Q (σ.set i (some v)) H
theorem pg_name {i : Nat} {x : Str} (hN : X.N.Nodup) (hi : X.N[i]? = some x) (hx : Loc X.env.scope x) (hf : X.fn x = true ∨ X.env.scope.names.lookup x = some .local := by first | exact .inl rfl | exact .inr rfl | assumption) : PG X (.Name x pos) (gName i) := by
  intro pins s σ H v u Q I r h
  exact wpAny_assign_Name (store_ok I hN hi hx r (fun s' I' => ⟨_, H, I', h⟩) hf)
def gNil : TGs := fun vs σ H Q => vs = [] ∧ Q σ H
def gCons (t : TG) (u : TGs) : TGs := fun vs σ H Q => ∃ v r, vs = v :: r ∧ t v σ H fun σ' H' => u r σ' H' Q
theorem pgs_nil : PGs X [] gNil := by
  intro pins s σ H vs us Q I r h
  obtain ⟨e, h⟩ := h
  subst e
  cases r
  exact assignInOrder_nil ⟨σ, H, I, h⟩
theorem pgs_cons {e : Expr} {es : List Expr} {t : TG} {u : TGs} (h1 : PG X e t) (h2 : PGs X es u)
    (hs : (assignEach (e :: es) X.env).map (·.2) = assign e X.env :: (assignEach es X.env).map (·.2) := by rfl) : PGs X (e :: es) (gCons t u) := by
  intro pins s σ H vs us Q I r h
  obtain ⟨v, vr, e1, h⟩ := h
  subst e1
  cases r with
  | cons r rr =>
    rw [hs]
    refine assignInOrder_cons (thn (h1 pins s σ H _ _ _ I r h) fun _ s1 ⟨σ1, H1, I1, q1⟩ => ?_)
    exact h2 pins s1 σ1 H1 _ _ Q I1 rr q1
/-- (a, b, ..) = a tuple of that length -/
def gTup (K : PySem.W.Frag) (n : Nat) (t : TGs) : TG := fun v σ H Q => ∃ a xs, v = .ref a ∧ SqT K H a xs ∧ xs.length = n ∧ t xs σ H Q
theorem pg_tup {es : List Expr} {k : Nat} {t : TGs} {n : Nat} (hc : X.calm = true) (h : PGs X es t)
    (hn : (assignEach es X.env).length = n := by rfl) (hst : (assignEach es X.env).findIdx? (·.1) = none := by rfl) : PG X (.Tuple es k pos) (gTup X.K n t) := by
  intro pins s σ H v u Q I r hw
  obtain ⟨a, xs, e1, hq, hl, hw⟩ := hw
  subst e1
  cases r
  obtain ⟨its, rv, ht, hz⟩ := I.tuple hq
  refine assign_Tuple_tuple (I.ok.hd hc) ht (by simp [hn, ← hl, rv.length]) hst fun h' hx => ?_
  have I1 : Inv X pins σ H { s with heap := h' } := I.kept (t' := s.toks) fun b o e => hx b o (Nat.ne_of_lt (Heap.lt_size e)) e
  exact h pins _ σ H xs _ Q I1 (by simpa using rv) hw
/-- target = value -/
def tAsg (te : TE) (g : TG) : TS := fun D σ H => te σ H fun x H1 => g x σ H1 D.nx
theorem ps_asg {tg e : Expr} {te : TE} {g : TG} (he : PE X e te) (hg : PG X tg g) (hs : swapsWithSole [tg] e pos.line X.env = pure false := by rfl) (hw : swappedStores [tg] e X.env = pure none := by rfl)
    (h1 : (assignEach [tg] X.env).map (·.2) = [assign tg X.env] := by rfl) : PS X (.Assign [tg] e pos) (tAsg te g) := by
  intro pins s σ H D I h
  refine wpAny_Assign_stores (thn (he pins s σ H _ I h) fun v s1 ⟨x, H1, I1, r1, q1⟩ => ?_) hs hw
  rw [h1]
  exact thn (hg pins s1 σ H1 x v _ I1 r1 q1) fun _ s2 q => q
/-- name = value -/
theorem ps_set {i : Nat} {x : Str} {e : Expr} {te : TE} {pos' : Pos} (hN : X.N.Nodup) (hi : X.N[i]? = some x) (hx : Loc X.env.scope x) (he : PE X e te) (hs : swapsWith e (some (.Name x pos')) pos.line X.env = pure false := by rfl) (hf : X.fn x = true ∨ X.env.scope.names.lookup x = some .local := by first | exact .inl rfl | exact .inr rfl | assumption) :
    PS X (.Assign [.Name x pos'] e pos) (tAsg te (gName i)) := by
  intro pins s σ H D I h
  refine wpAny_Assign_Name (thn (he pins s σ H _ I h) fun v s1 ⟨y, H1, I1, r1, q1⟩ => ?_) hs
  exact store_ok I1 hN hi hx r1 (fun s2 I2 => ⟨_, H1, I2, q1⟩) hf
end

/-! ### while -/
section
variable {X : Cx} {pos : Pos}
/-- the invariant W with its measure -/
def tWhile (c : TT) (tb : TS) : TS := fun D σ H => ∃ W : Nat → St → Hp → Prop, (∃ m, W m σ H) ∧ ∀ m σ H, W m σ H →
  c σ H fun b H1 => if b = true then ∃ N : St → Hp → Prop, (∀ σ' H', N σ' H' → ∃ m', m' < m ∧ W m' σ' H') ∧ tb { D with nx := N, ct := N, bk := D.nx } σ H1 else D.nx σ H1
theorem ps_while {c : Expr} {body : List Stmt} {tc : TT} {tb : TS} (hp : PassesOwn (model X.prog X.w) X.A X.env X.xe) (hc : PT X c tc) (hb : PSs X body tb) : PS X (.While c body [] pos) (tWhile tc tb) := by
  intro pins s σ H D I h
  obtain ⟨W, ⟨m0, w0⟩, turn⟩ := h
  refine wpAny_While (codeAny_whileLoop (fun n s' => ∃ σ' H', Inv X pins σ' H' s' ∧ W n σ' H') ?_ m0 ⟨σ, H, I, w0⟩)
  rintro n s1 ⟨σ1, H1, I1, w1⟩
  refine wpAny_passesOwn hp (thn (hc pins s1 σ1 H1 _ I1 (turn n σ1 H1 w1)) fun b s2 ⟨H2, I2, q2⟩ => ?_)
  cases b with
  | true =>
    obtain ⟨N, hN, q2⟩ := q2
    rw [if_pos rfl]
    refine wpAny_passesOwn hp (thn (hb pins s2 σ1 H2 _ I2 q2) fun f s3 q3 => ?_)
    cases f with
    | next =>
      obtain ⟨σ3, H3, I3, n3⟩ := q3
      obtain ⟨m', hm, w3⟩ := hN σ3 H3 n3
      exact ⟨m', hm, σ3, H3, I3, w3⟩
    | cont =>
      obtain ⟨σ3, H3, I3, n3⟩ := q3
      obtain ⟨m', hm, w3⟩ := hN σ3 H3 n3
      exact ⟨m', hm, σ3, H3, I3, w3⟩
    | brk => exact q3
    | ret v => exact q3
  | false =>
    rw [if_neg Bool.false_ne_true]
    exact wpAny_execs_nil ⟨σ1, H2, I2, q2⟩
end

/-! ### what a loop or a comprehension walks -/
/-- at turn i: it yields x (the heap may grow), or it stops -/
structure It where
  go : Nat → Hp → Prop
  yld : Nat → Hp → V → Hp → Prop
  stop : Nat → Hp → Prop
/-- the iterator's own objects may turn: they are not the frame's, not pinned, younger than the entry (or a comprehension's own) -/
def FpOk (X : Cx) (pins : List (Addr × Obj)) (H : Hp) (b : Addr) : Prop :=
  H b = none ∧ b ≠ X.env.locals ∧ b ∉ X.fs ∧ (b ∈ X.ex ∨ X.s₀.heap.objs.size ≤ b) ∧ (∀ x c, X.env.cells.lookup x = some c → c ≠ b) ∧ ∀ p ∈ X.pn ++ pins, p.1 ≠ b
theorem Inv.fpOk {X : Cx} {pins : List (Addr × Obj)} {σ : St} {H H' : Hp} {s : Shared} {b : Addr} (I : Inv X pins σ H s) (hb : s.heap.objs.size ≤ b) (hn : H' b = none) : FpOk X pins H' b := by
  refine ⟨hn, Nat.ne_of_gt (Nat.lt_of_lt_of_le I.lt hb), I.nofs hb, .inr (Nat.le_trans I.sz hb), fun x c e z => ?_, fun p hp z => ?_⟩
  · obtain ⟨v, q⟩ := I.cell x c e
    exact absurd (Nat.lt_of_lt_of_le q.lt (by rw [z]; exact hb)) (Nat.lt_irrefl _)
  · exact absurd (Nat.lt_of_lt_of_le (Heap.lt_size (I.pin p hp).1) (by rw [z]; exact hb)) (Nat.lt_irrefl _)
structure Turn (P : Program) (w : World) (K : PySem.W.Frag) (tg : Expr) (J : It) (fp : List Addr) (it : Addr) (tn : Nat → Heap → Prop) : Prop where
  mem : it ∈ fp
  obj : ∀ i h, tn i h → ∀ b ∈ fp, ∃ o, h.get? b = some o ∧ ∀ v, o.data ≠ .cell v
  keep : ∀ i h h', tn i h → (∀ b ∈ fp, ∀ o, h.get? b = some o → h'.get? b = some o) → tn i h'
  item : ∀ (X : Cx), X.prog = P → X.w = w → X.K = K → X.calm = true → ∀ (i : Nat) (pins : List (Addr × Obj)) (s : Shared) (σ : St) (H : Hp) (E : Value → Shared → Prop), Inv X pins σ H s → (∀ b ∈ fp, FpOk X pins H b) → tn i s.heap → J.go i H →
    wpAny (model P w) X.A (pyNext (.ref it)) (fun r s1 => ∃ u, r = some u ∧
      wpAny (model P w) X.A (letOwnedTupleGo tg (.ref it) u) (fun _ s2 => ∃ x H', Inv X pins σ H' s2 ∧ RelV x u ∧ J.yld i H x H' ∧ tn (i + 1) s2.heap ∧ ∀ b ∈ fp, H' b = none) E s1) E s
  done : ∀ (X : Cx), X.prog = P → X.w = w → X.K = K → X.calm = true → ∀ (i : Nat) (pins : List (Addr × Obj)) (s : Shared) (σ : St) (H : Hp) (E : Value → Shared → Prop), Inv X pins σ H s → (∀ b ∈ fp, FpOk X pins H b) → tn i s.heap → J.stop i H →
    wpAny (model P w) X.A (pyNext (.ref it)) (fun r s1 => r = none ∧ Inv X pins σ H s1) E s
  self : ∀ (A : Around) (i : Nat) (s : Shared) (Q : Value → Shared → Prop) (E : Value → Shared → Prop), tn i s.heap → Q (.ref it) s → wpAny (model P w) A (pyIter (.ref it)) Q E s
abbrev TI := St → Hp → (It → Hp → Prop) → Prop
/-- an iterator has come -/
def PIE (X : Cx) (pins : List (Addr × Obj)) (σ : St) (tg : Expr) (R : It → Hp → Prop) (itv : Value) (s2 : Shared) : Prop :=
  ∃ (it : Addr) (fp : List Addr) (tn : Nat → Heap → Prop) (J : It) (H' : Hp), itv = .ref it ∧ Inv X pins σ H' s2 ∧ Turn X.prog X.w X.K tg J fp it tn ∧ tn 0 s2.heap ∧ (∀ b ∈ fp, FpOk X pins H' b) ∧ R J H'
def PI (X : Cx) (tg iter : Expr) (wi : TI) : Prop :=
  ∀ (pins : List (Addr × Obj)) (s : Shared) (σ : St) (H : Hp) (R : It → Hp → Prop), Inv X pins σ H s → wi σ H R →
    wpAny (model X.prog X.w) X.A (eval iter X.env) (fun v s1 => wpAny (model X.prog X.w) X.A (pyIter v) (PIE X pins σ tg R) X.xe s1) X.xe s

/-- the step ahead of the store is nothing for an iterator that keeps no tuple -/
theorem go_of {M : Model} {A : Around} {E : Value → Shared → Prop} {s : Shared} {tg : Expr} {it : Addr} {u : Value} {o : Obj} {n : String} {vs : Array Value} {Q : Unit → Shared → Prop} (ho : s.heap.get? it = some o) (hc : o.cls = .type n) (hd : o.data = .fields vs)
    (hn : ["enumerate", "zip", "dict_itemiterator", "dict_reverseitemiterator", "odict_iterator", "itertools.zip_longest", "itertools.pairwise"].contains n = false) (hQ : Q () s) : wpAny M A (letOwnedTupleGo tg (.ref it) u) Q E s := by
  unfold letOwnedTupleGo
  cases tg <;> first
    | exact wpAny_pure hQ
    | (cases u <;> first
        | exact wpAny_pure hQ
        | (refine wpAny_bind (wpAny_load ho ?_)
           rw [hc, hd]
           show wpAny M A (if (["enumerate", "zip", "dict_itemiterator", "dict_reverseitemiterator", "odict_iterator", "itertools.zip_longest", "itertools.pairwise"].contains n && vs[0]? == some (rawInt _)) = true then _ else _) Q E s
           rw [if_neg (by intro h; rw [hn, Bool.false_and] at h; cases h)]
           exact wpAny_pure hQ))

/-- the list at a, as it stands at each turn (a loop may append to it) -/
def Itl (K : PySem.W.Frag) (a : Addr) : It :=
  ⟨fun i H => ∃ xs x, SqL K H a xs ∧ xs[i]? = some x, fun i H x H' => H' = H ∧ ∀ xs, SqL K H a xs → xs[i]? = some x, fun i H => ∃ xs, SqL K H a xs ∧ xs.length ≤ i⟩
def Itt (K : PySem.W.Frag) (a : Addr) : It :=
  ⟨fun i H => ∃ xs x, SqT K H a xs ∧ xs[i]? = some x, fun i H x H' => H' = H ∧ ∀ xs, SqT K H a xs → xs[i]? = some x, fun i H => ∃ xs, SqT K H a xs ∧ xs.length ≤ i⟩
/-- lo, lo + 1, .. (n of them) -/
def Itr (lo : Int) (n : Nat) : It := ⟨fun i _ => i < n, fun i H x H' => H' = H ∧ x = .int (lo + i), fun i _ => n ≤ i⟩
theorem turn_list {P : Program} {w : World} {K : PySem.W.Frag} {tg : Expr} (a it : Addr) : Turn P w K tg (Itl K a) [it] it (fun i h => h.IsListIter it a i) where
  mem := by simp
  obj := fun i h st b hb => by
    have e : b = it := by simpa using hb
    subst e
    obtain ⟨o, e, c, d⟩ := st
    exact ⟨o, e, fun v z => by rw [d] at z; cases z⟩
  keep := fun i h h' st k => st.at fun o e => k it (by simp) o e
  item := by
    intro X hP hw hK hc i pins s σ H E I hf st hg
    subst hP hw hK
    obtain ⟨xs, x, hq, hx⟩ := hg
    obtain ⟨its, rv, p, hz⟩ := I.list hq
    obtain ⟨u, hu, ru⟩ := rv.get hx
    obtain ⟨f0, f1, f2, f3, f4, f5⟩ := hf it (by simp)
    refine wpAny_pyNext_list_item st p.isList (x := u) (by simpa using hu) fun h' st' sb => ?_
    have I1 : Inv X pins σ H { s with heap := h' } := I.turned (t' := s.toks) (fun b o hb e => (sb.2 b hb).trans e) f0 f1 f3 f4 f5
    obtain ⟨o, e, c, d⟩ := id st'
    exact ⟨u, rfl, go_of (s := { s with heap := h' }) e c d (by decide) ⟨x, H, I1, ru, ⟨rfl, fun ys hy => by rw [I.list_inj hy hq]; exact hx⟩, st', fun b hb => (hf b hb).1⟩⟩
  done := by
    intro X hP hw hK hc i pins s σ H E I hf st hg
    subst hP hw hK
    obtain ⟨xs, hq, hx⟩ := hg
    obtain ⟨its, rv, p, hz⟩ := I.list hq
    obtain ⟨f0, f1, f2, f3, f4, f5⟩ := hf it (by simp)
    have hl := rv.length
    exact wpAny_pyNext_list_end (I.ok.hd hc) st p.isList (by simp; omega) fun h' eb => ⟨rfl, I.turned (t' := s.toks) (fun b o hb e => eb b o hb e) f0 f1 f3 f4 f5⟩
  self := fun _ _ _ _ _ st h => wpAny_pyIter_listiter st h
theorem turn_tuple {P : Program} {w : World} {K : PySem.W.Frag} {tg : Expr} (a it : Addr) : Turn P w K tg (Itt K a) [it] it (fun i h => h.IsTupleIter it a i) where
  mem := by simp
  obj := fun i h st b hb => by
    have e : b = it := by simpa using hb
    subst e
    obtain ⟨o, e, c, d⟩ := st
    exact ⟨o, e, fun v z => by rw [d] at z; cases z⟩
  keep := fun i h h' st k => st.at fun o e => k it (by simp) o e
  item := by
    intro X hP hw hK hc i pins s σ H E I hf st hg
    subst hP hw hK
    obtain ⟨xs, x, hq, hx⟩ := hg
    obtain ⟨its, rv, p, hz⟩ := I.tuple hq
    obtain ⟨u, hu, ru⟩ := rv.get hx
    obtain ⟨f0, f1, f2, f3, f4, f5⟩ := hf it (by simp)
    refine wpAny_pyNext_tuple_item st (show s.heap.IsTuple a its.toArray from p) (x := u) (by simpa using hu) fun h' st' sb => ?_
    have I1 : Inv X pins σ H { s with heap := h' } := I.turned (t' := s.toks) (fun b o hb e => (sb.2 b hb).trans e) f0 f1 f3 f4 f5
    obtain ⟨o, e, c, d⟩ := id st'
    exact ⟨u, rfl, go_of (s := { s with heap := h' }) e c d (by decide) ⟨x, H, I1, ru, ⟨rfl, fun ys hy => by rw [I.tuple_inj hy hq]; exact hx⟩, st', fun b hb => (hf b hb).1⟩⟩
  done := by
    intro X hP hw hK hc i pins s σ H E I hf st hg
    subst hP hw hK
    obtain ⟨xs, hq, hx⟩ := hg
    obtain ⟨its, rv, p, hz⟩ := I.tuple hq
    obtain ⟨f0, f1, f2, f3, f4, f5⟩ := hf it (by simp)
    have hl := rv.length
    exact wpAny_pyNext_tuple_end (I.ok.hd hc) st (show s.heap.IsTuple a its.toArray from p) (by simp; omega) fun h' eb => ⟨rfl, I.turned (t' := s.toks) (fun b o hb e => eb b o hb e) f0 f1 f3 f4 f5⟩
  self := fun _ _ _ _ _ st h => wpAny_pyIter_tupleiter st h
theorem turn_range {P : Program} {w : World} {K : PySem.W.Frag} {tg : Expr} (it : Addr) (lo : Int) (n : Nat) : Turn P w K tg (Itr lo n) [it] it (fun i h => IsRangeIter h it (lo + (i : Nat) * 1) ((n : Int) - (i : Nat)) 1) where
  mem := by simp
  obj := fun i h st b hb => by
    have e : b = it := by simpa using hb
    subst e
    exact ⟨_, st, fun v z => by
      have z' : Data.fields _ = Data.cell v := z
      cases z'⟩
  keep := fun i h h' st k => k it (by simp) _ st
  item := by
    intro X hP hw hK hc i pins s σ H E I hf st hg
    subst hP hw hK
    obtain ⟨f0, f1, f2, f3, f4, f5⟩ := hf it (by simp)
    have W := Walks.range (prog := X.prog) (w := X.w) (I.ok.hd hc) it lo 1 n
    refine W.item i s _ _ hg st fun v h' tk hv st' kk => ?_
    obtain ⟨t, rfl⟩ := hv
    have I1 : Inv X pins σ H { s with heap := h', toks := tk } := I.turned (fun b o hb e => kk b o (by simpa using hb) e) f0 f1 f3 f4 f5
    refine ⟨_, rfl, go_of (s := { s with heap := h', toks := tk }) (n := "range_iterator") st' rfl rfl (by decide) ⟨.int (lo + i), H, I1, ⟨t, ?_⟩, ⟨rfl, rfl⟩, st', fun b hb => (hf b hb).1⟩⟩
    rw [Int.mul_one]
  done := by
    intro X hP hw hK hc i pins s σ H E I hf st hg
    subst hP hw hK
    obtain ⟨f0, f1, f2, f3, f4, f5⟩ := hf it (by simp)
    exact wpAny_pyNext_range_end (I.ok.hd hc) st (by have : n ≤ i := hg; omega) fun h' eb => ⟨rfl, I.turned (t' := s.toks) (fun b o hb e => eb b o hb e) f0 f1 f3 f4 f5⟩
  self := fun _ _ _ _ _ st h => wpAny_pyIter_rangeiter st h
end L2

namespace L2
open PySem PySem.Spec PyProof.Rows
section
variable {X : Cx} {tg : Expr}
def iList (K : PySem.W.Frag) (tl : TE) : TI := fun σ H R => tl σ H fun x H1 => ∃ a, x = .ref a ∧ (∃ xs, SqL K H1 a xs) ∧ R (Itl K a) H1
def iTup (K : PySem.W.Frag) (tl : TE) : TI := fun σ H R => tl σ H fun x H1 => ∃ a, x = .ref a ∧ (∃ xs, SqT K H1 a xs) ∧ R (Itt K a) H1
theorem pi_list {l : Expr} {tl : TE} (hl : PE X l tl) : PI X tg l (iList X.K tl) := by
  intro pins s σ H R I h
  refine thn (hl pins s σ H _ I h) fun v s1 ⟨x, H1, I1, r1, q1⟩ => ?_
  obtain ⟨a, e, ⟨xs, hq⟩, q⟩ := q1
  subst e
  cases r1
  obtain ⟨its, rv, p, hz⟩ := I1.list hq
  refine wpAny_pyIter_list p.isList ?_
  refine ⟨s1.heap.objs.size, [s1.heap.objs.size], _, _, H1, rfl, I1.kept (t' := s1.toks) fun b o e => Heap.get?_push_of_some _ e, turn_list a _, ⟨_, Heap.get?_push_size _ rfl, rfl, rfl⟩, fun b hb => ?_, q⟩
  have e : b = s1.heap.objs.size := by simpa using hb
  subst e
  exact I1.fpOk (Nat.le_refl _) (I1.hok.fresh (Nat.le_refl _))
theorem pi_tup {l : Expr} {tl : TE} (hl : PE X l tl) : PI X tg l (iTup X.K tl) := by
  intro pins s σ H R I h
  refine thn (hl pins s σ H _ I h) fun v s1 ⟨x, H1, I1, r1, q1⟩ => ?_
  obtain ⟨a, e, ⟨xs, hq⟩, q⟩ := q1
  subst e
  cases r1
  obtain ⟨its, rv, p, hz⟩ := I1.tuple hq
  refine wpAny_pyIter_tuple (show s1.heap.IsTuple a its.toArray from p) ?_
  refine ⟨s1.heap.objs.size, [s1.heap.objs.size], _, _, H1, rfl, I1.kept (t' := s1.toks) fun b o e => Heap.get?_push_of_some _ e, turn_tuple a _, ⟨_, Heap.get?_push_size _ rfl, rfl, rfl⟩, fun b hb => ?_, q⟩
  have e : b = s1.heap.objs.size := by simpa using hb
  subst e
  exact I1.fpOk (Nat.le_refl _) (I1.hok.fresh (Nat.le_refl _))
/-- a range object just made, walked -/
theorem range_it {pins : List (Addr × Obj)} {σ : St} {H : Hp} {s : Shared} {R : It → Hp → Prop} {E : Value → Shared → Prop} {lo hi : Int} {t u v : Tok} {tk : Nat} (I : Inv X pins σ H s) (h1 : -(2 ^ 62) ≤ lo) (h2 : lo < 2 ^ 62) (h3 : -(2 ^ 62) ≤ hi) (h4 : hi < 2 ^ 62)
    (q : R (Itr lo (hi - lo).toNat) H) : wpAny (model X.prog X.w) X.A (pyIter (.ref s.heap.objs.size)) (PIE X pins σ tg R) E { s with heap := s.heap.push { cls := .type "range", data := .fields #[.int lo t, .int hi u, .int 1 v] }, toks := tk } := by
  refine wpAny_pyIter_range (IsRange.new ..) (small_one h1 h2 h3 h4) ?_
  have I1 : Inv X pins σ H { s with heap := s.heap.push { cls := .type "range", data := .fields #[.int lo t, .int hi u, .int 1 v] }, toks := tk } := I.kept fun b o e => Heap.get?_push_of_some _ e
  refine ⟨(s.heap.push { cls := .type "range", data := .fields #[.int lo t, .int hi u, .int 1 v] }).objs.size, [(s.heap.push { cls := .type "range", data := .fields #[.int lo t, .int hi u, .int 1 v] }).objs.size], _, _, H, rfl,
    I1.kept (t' := tk) fun b o e => Heap.get?_push_of_some _ e, turn_range _ lo (hi - lo).toNat, ?_, fun b hb => ?_, q⟩
  · have e1 : lo + ((0 : Nat) : Int) * 1 = lo := by simp
    have e2 : (((hi - lo).toNat : Nat) : Int) - ((0 : Nat) : Int) = Builtin.Range.rangeSize lo hi 1 := by rw [rangeSize_one]; split <;> omega
    show IsRangeIter _ _ (lo + ((0 : Nat) : Int) * 1) ((((hi - lo).toNat : Nat) : Int) - ((0 : Nat) : Int)) 1
    rw [e1, e2]
    exact Heap.get?_push_size _ rfl
  · have e : b = (s.heap.push { cls := .type "range", data := .fields #[.int lo t, .int hi u, .int 1 v] }).objs.size := by simpa using hb
    subst e
    exact I1.fpOk (Nat.le_refl _) (I1.hok.fresh (Nat.le_refl _))
def iRng1 (ta : TA) : TI := fun σ H R => ta σ H fun vs H1 => ∃ j : Int, vs = [.int j] ∧ -(2 ^ 62) ≤ j ∧ j < 2 ^ 62 ∧ R (Itr 0 j.toNat) H1
def iRng2 (ta : TA) : TI := fun σ H R => ta σ H fun vs H1 => ∃ i j : Int, vs = [.int i, .int j] ∧ (-(2 ^ 62) ≤ i ∧ i < 2 ^ 62 ∧ -(2 ^ 62) ≤ j ∧ j < 2 ^ 62) ∧ R (Itr i (j - i).toNat) H1
theorem pi_range1 {a : Expr} {ta : TA} {p pos : Pos} (hg : Gl X "range") (hm : X.mg "range" = none) (ha : PA X [a] ta) (hs : starEach [a] X.env = [(false, eval a X.env)] := by rfl) : PI X tg (.Call (.Name "range" p) [a] [] pos) (iRng1 ta) := by
  intro pins s σ H R I h
  refine Call_ (ld_blt I hg hm boot_range (PyProof.Rows.callWith_type1 (thn (ha pos pins s σ H _ I h) fun us s1 ⟨vs, H1, I1, r1, q1⟩ => ?_) hs rfl))
  obtain ⟨j, e, q1, q2, q⟩ := q1
  subst e
  cases r1 with
  | cons r rr =>
    cases rr
    obtain ⟨t, rfl⟩ := r
    exact call_range_1 (range_it I1 (by omega) (by omega) q1 q2 (by simpa using q))
theorem pi_range2 {a b : Expr} {ta : TA} {p pos : Pos} (hg : Gl X "range") (hm : X.mg "range" = none) (ha : PA X [a, b] ta) (hs : starEach [a, b] X.env = [(false, eval a X.env), (false, eval b X.env)] := by rfl) (hs2 : starEach [b] X.env = [(false, eval b X.env)] := by rfl) :
    PI X tg (.Call (.Name "range" p) [a, b] [] pos) (iRng2 ta) := by
  intro pins s σ H R I h
  refine Call_ (ld_blt I hg hm boot_range (PyProof.Rows.callWith_type1 (thn (ha pos pins s σ H _ I h) fun us s1 ⟨vs, H1, I1, r1, q1⟩ => ?_) (by rw [hs, hs2]) (by rw [hs2]; rfl)))
  obtain ⟨i, j, e, ⟨q1, q2, q3, q4⟩, q⟩ := q1
  subst e
  cases r1 with
  | cons r rr =>
    cases rr with
    | cons r' rr =>
      cases rr
      obtain ⟨t, rfl⟩ := r
      obtain ⟨t', rfl⟩ := r'
      exact call_range_2 (range_it I1 q1 q2 q3 q4 q)

/-! ### for -/
/-- W: the invariant by the turn and a measure; N: what the body is to reach -/
def tFor (wi : TI) (g : TG) (tb : TS) : TS := fun D σ H => wi σ H fun J H1 => ∃ W : Nat → Nat → St → Hp → Prop, (∃ m, W 0 m σ H1) ∧ ∀ i m σ H, W i m σ H →
  (J.stop i H ∧ D.nx σ H) ∨ (J.go i H ∧ ∃ N : St → Hp → Prop, (∀ σ' H', N σ' H' → ∃ m', m' < m ∧ W (i + 1) m' σ' H') ∧ ∀ x H', J.yld i H x H' → g x σ H' fun σ2 H2 => tb { D with nx := N, ct := N, bk := D.nx } σ2 H2)
/-- the records at fp as they stand -/
def pinsAt (fp : List Addr) (h : Heap) : List (Addr × Obj) := fp.filterMap fun b => (h.get? b).map fun o => (b, o)
theorem mem_pinsAt {fp : List Addr} {h : Heap} {b : Addr} {o : Obj} (hb : b ∈ fp) (e : h.get? b = some o) : (b, o) ∈ pinsAt fp h := List.mem_filterMap.mpr ⟨b, hb, by rw [e]; rfl⟩
theorem of_pinsAt {fp : List Addr} {h : Heap} {p : Addr × Obj} (hp : p ∈ pinsAt fp h) : p.1 ∈ fp ∧ h.get? p.1 = some p.2 := by
  obtain ⟨b, hb, e⟩ := List.mem_filterMap.mp hp
  cases q : h.get? b with
  | none => rw [q] at e; cases e
  | some o =>
    rw [q] at e
    have e' : (b, o) = p := Option.some.inj e
    subst e'
    exact ⟨hb, q⟩
theorem Inv.pinned {pins : List (Addr × Obj)} {σ : St} {H : Hp} {s : Shared} {fp : List Addr} (I : Inv X pins σ H s) (hf : ∀ b ∈ fp, FpOk X pins H b) (ho : ∀ b ∈ fp, ∃ o, s.heap.get? b = some o ∧ ∀ v, o.data ≠ .cell v) : Inv X (pins ++ pinsAt fp s.heap) σ H s :=
  I.pins_of fun p hp => (List.mem_append.mp hp).elim (fun z => I.pin p (List.mem_append_right _ z)) fun z => by
    obtain ⟨hb, e⟩ := of_pinsAt z
    obtain ⟨f0, f1, f2, _⟩ := hf p.1 hb
    obtain ⟨o, e', d⟩ := ho p.1 hb
    rw [e] at e'; cases e'
    exact ⟨e, f0, f1, f2, d⟩
theorem Inv.unpinned {pins pl : List (Addr × Obj)} {σ : St} {H : Hp} {s : Shared} (I : Inv X (pins ++ pl) σ H s) : Inv X pins σ H s := I.pins_of fun p hp => I.pin p (List.mem_append_right _ (List.mem_append_left _ hp))
theorem ps_for {iter : Expr} {body : List Stmt} {wi : TI} {g : TG} {tb : TS} {pos : Pos} (hp : PassesOwn (model X.prog X.w) X.A X.env X.xe) (hc : X.calm = true) (hi : PI X tg iter wi) (hg : PG X tg g) (hb : PSs X body tb)
    (hs : ∀ x, foldedSetIterable iter X.env x = pure x := by intro _; rfl) : PS X (.For tg iter body [] pos) (tFor wi g tb) := by
  intro pins s σ H D I h
  refine wpAny_For (thn (hi pins s σ H _ I h) fun v s1 h1 => thn h1 fun itv s2 h2 => ?_) hs
  obtain ⟨it, fp, tn, J, H2, e, I2, T, st2, f2, W, ⟨m0, w0⟩, turn⟩ := h2
  subst e
  -- what stays true of the iterator's objects through the loop
  have stat : ∀ {H' : Hp}, (∀ b ∈ fp, H' b = none) → ∀ b ∈ fp, FpOk X pins H' b := fun hn b hb => ⟨hn b hb, (f2 b hb).2⟩
  refine codeAny_forLoop_any (fun n s' => ∃ i σ' H', Inv X pins σ' H' s' ∧ tn i s'.heap ∧ (∀ b ∈ fp, H' b = none) ∧ W i n σ' H') ?_ m0 ⟨0, σ, H2, I2, st2, fun b hb => (f2 b hb).1, w0⟩
  rintro n s3 ⟨i, σ3, H3, I3, st3, fr3, w3⟩
  rcases turn i n σ3 H3 w3 with ⟨stop, qn⟩ | ⟨go, N, hN, step⟩
  · refine wpAny_passesOwn hp (thn (T.done X rfl rfl rfl hc i pins s3 σ3 H3 X.xe I3 (stat fr3) st3 stop) fun r s4 ⟨hr, I4⟩ => ?_)
    subst hr
    exact wpAny_execs_nil ⟨σ3, H3, I4, qn⟩
  · refine wpAny_passesOwn hp (thn (T.item X rfl rfl rfl hc i pins s3 σ3 H3 X.xe I3 (stat fr3) st3 go) fun r s4 ⟨u, hr, h4⟩ => ?_)
    subst hr
    refine wpAny_passesOwn hp (thn h4 fun _ s5 ⟨x, H5, I5, r5, y5, st5, fr5⟩ => ?_)
    have I5' := I5.pinned (stat fr5) (T.obj _ _ st5)
    refine wpAny_passesOwn hp (thn (hg _ s5 σ3 H5 x u _ I5' r5 (step x H5 y5)) fun _ s6 ⟨σ6, H6, I6, q6⟩ => ?_)
    refine wpAny_passesOwn hp (thn (hb _ s6 σ6 H6 _ I6 q6) fun f s7 q7 => ?_)
    have again : ∀ {σ7 : St} {H7 : Hp}, Inv X (pins ++ pinsAt fp s5.heap) σ7 H7 s7 → N σ7 H7 → ∃ m, m < n ∧ ∃ i σ' H', Inv X pins σ' H' s7 ∧ tn i s7.heap ∧ (∀ b ∈ fp, H' b = none) ∧ W i m σ' H' := fun {σ7 H7} I7 n7 => by
      obtain ⟨m', hm, w7⟩ := hN σ7 H7 n7
      refine ⟨m', hm, i + 1, σ7, H7, I7.unpinned, T.keep _ _ _ st5 fun b hb o e => (I7.pin (b, o) (List.mem_append_right _ (List.mem_append_right _ (mem_pinsAt hb e)))).1, fun b hb => ?_, w7⟩
      obtain ⟨o, e, d⟩ := T.obj _ _ st5 b hb
      exact (I7.pin (b, o) (List.mem_append_right _ (List.mem_append_right _ (mem_pinsAt hb e)))).2.1
    cases f with
    | next => obtain ⟨σ7, H7, I7, n7⟩ := q7; exact again I7 n7
    | cont => obtain ⟨σ7, H7, I7, n7⟩ := q7; exact again I7 n7
    | brk => obtain ⟨σ7, H7, I7, q7⟩ := q7; exact ⟨σ7, H7, I7.unpinned, q7⟩
    | ret v => obtain ⟨x7, σ7, H7, I7, r7, q7⟩ := q7; exact ⟨x7, σ7, H7, I7.unpinned, r7, q7⟩
end

/-! ### the forms one uses -/
theorem for_range {lo : Int} {n : Nat} {g : TG} {tb : TS} {D : Ends} {σ : St} {H : Hp} (Pv : Nat → St → Hp → Prop) (h0 : Pv 0 σ H)
    (hs : ∀ i σ H, i < n → Pv i σ H → g (.int (lo + i)) σ H fun σ2 H2 => tb { D with nx := Pv (i + 1), ct := Pv (i + 1), bk := D.nx } σ2 H2) (hd : ∀ σ H, Pv n σ H → D.nx σ H) :
    ∃ W : Nat → Nat → St → Hp → Prop, (∃ m, W 0 m σ H) ∧ ∀ i m σ H, W i m σ H →
      ((Itr lo n).stop i H ∧ D.nx σ H) ∨ ((Itr lo n).go i H ∧ ∃ N : St → Hp → Prop, (∀ σ' H', N σ' H' → ∃ m', m' < m ∧ W (i + 1) m' σ' H') ∧ ∀ x H', (Itr lo n).yld i H x H' → g x σ H' fun σ2 H2 => tb { D with nx := N, ct := N, bk := D.nx } σ2 H2) := by
  refine ⟨fun i m σ H => m = n - i ∧ i ≤ n ∧ Pv i σ H, ⟨n, by simp, Nat.zero_le _, h0⟩, ?_⟩
  rintro i m σ H ⟨rfl, hi, p⟩
  by_cases hlt : i < n
  · refine .inr ⟨hlt, Pv (i + 1), fun σ' H' p' => ⟨n - (i + 1), by omega, rfl, hlt, p'⟩, fun x H' y => ?_⟩
    obtain ⟨e, y⟩ := y
    subst e y
    exact hs i σ _ hlt p
  · have e : i = n := by omega
    subst e
    exact .inl ⟨Nat.le_refl _, hd σ H p⟩
/-- while, by a word and a measure of the state -/
theorem while_by {c : TT} {tb : TS} {D : Ends} {σ : St} {H : Hp} (Pv : St → Hp → Prop) (μ : St → Hp → Nat) (h0 : Pv σ H)
    (hs : ∀ σ H, Pv σ H → c σ H fun b H1 => if b = true then tb { D with nx := fun σ' H' => Pv σ' H' ∧ μ σ' H' < μ σ H, ct := fun σ' H' => Pv σ' H' ∧ μ σ' H' < μ σ H, bk := D.nx } σ H1 else D.nx σ H1)
    (mono : ∀ σ H Q Q', (∀ b H1, Q b H1 → Q' b H1) → c σ H Q → c σ H Q') : tWhile c tb D σ H := by
  refine ⟨fun m σ H => m = μ σ H ∧ Pv σ H, ⟨_, rfl, h0⟩, ?_⟩
  rintro m σ H ⟨rfl, p⟩
  refine mono σ H _ _ (fun b H1 q => ?_) (hs σ H p)
  cases b with
  | true => exact ⟨_, fun σ' H' ⟨p', l⟩ => ⟨_, l, rfl, p'⟩, q⟩
  | false => exact q
end L2

namespace L2
open PySem PySem.Spec PyProof.Rows

abbrev R2 := V → V → Hp → VK → Prop
/-- a two-place operation on values: f is binaryOp op, inplaceOp op or compareOp op -/
def OpR (X : Cx) (f : Value → Value → Sem Value) (r : R2) : Prop :=
  ∀ (pins : List (Addr × Obj)) (s : Shared) (σ : St) (H : Hp) (x y : V) (v u : Value) (Q : VK), Inv X pins σ H s → RelV x v → RelV y u → r x y H Q →
    wpAny (model X.prog X.w) X.A (f v u) (EP X pins σ Q) X.xe s
/-- a one-place operation -/
def UnR (X : Cx) (f : Value → Sem Value) (r : V → Hp → VK → Prop) : Prop :=
  ∀ (pins : List (Addr × Obj)) (s : Shared) (σ : St) (H : Hp) (x : V) (v : Value) (Q : VK), Inv X pins σ H s → RelV x v → r x H Q →
    wpAny (model X.prog X.w) X.A (f v) (EP X pins σ Q) X.xe s
/-- a call of a value that is known (a builtin, a type) with values -/
def CallR (X : Cx) (f : Value) (r : List V → Hp → VK → Prop) : Prop :=
  ∀ (pins : List (Addr × Obj)) (s : Shared) (σ : St) (H : Hp) (xs : List V) (us : List Value) (Q : VK), Inv X pins σ H s → Vals xs us → r xs H Q →
    wpAny (model X.prog X.w) X.A (call f us) (EP X pins σ Q) X.xe s
def tOp (r : R2) (ta tb : TE) : TE := fun σ H Q => ta σ H fun x H1 => tb σ H1 fun y H2 => r x y H2 Q
def tUn (r : V → Hp → VK → Prop) (ta : TE) : TE := fun σ H Q => ta σ H fun x H1 => r x H1 Q
/-- ints in, under C, and a value out -/
def rI (C : Int → Int → Prop) (g : Int → Int → V) : R2 := fun x y H Q => ∃ i j, x = .int i ∧ y = .int j ∧ C i j ∧ Q (g i j) H
def rI0 (g : Int → Int → V) : R2 := fun x y H Q => ∃ i j, x = .int i ∧ y = .int j ∧ Q (g i j) H
def rU (g : Int → V) : V → Hp → VK → Prop := fun x H Q => ∃ i, x = .int i ∧ Q (g i) H

section
variable {X : Cx} {a b c : Expr} {ta tb tc : TE} {pos : Pos}

theorem binT (ha : PE X a ta) (hb : PE X b tb) {pins : List (Addr × Obj)} {s : Shared} {σ : St} {H : Hp} {R : V → V → Hp → Prop} (I : Inv X pins σ H s)
    (h : ta σ H fun x H1 => tb σ H1 fun y H2 => R x y H2) {Q : Value → Shared → Prop} {f : Value → Value → Sem Value}
    (hf : ∀ v u s2 x y H2, Inv X pins σ H2 s2 → RelV x v → RelV y u → R x y H2 → wpAny (model X.prog X.w) X.A (f v u) Q X.xe s2) :
    wpAny (model X.prog X.w) X.A (eval a X.env) (fun v s₁ => wpAny (model X.prog X.w) X.A (eval b X.env) (fun u s₂ => wpAny (model X.prog X.w) X.A (f v u) Q X.xe s₂) X.xe s₁) X.xe s := by
  refine thn (ha pins s σ H _ I h) fun v s1 ⟨x, H1, I1, r1, q1⟩ => ?_
  refine thn (hb pins s1 σ H1 _ I1 q1) fun u s2 ⟨y, H2, I2, r2, q2⟩ => ?_
  exact hf v u s2 x y H2 I2 r1 r2 q2

theorem pe_op {op : Operator} {r : R2} (ho : OpR X (binaryOp op) r) (ha : PE X a ta) (hb : PE X b tb) : PE X (.BinOp a op b pos) (tOp r ta tb) := by
  intro pins s σ H Q I h
  exact wpAny_BinOp (binT ha hb I h fun v u s2 x y H2 I2 rx ry q => ho pins s2 σ H2 x y v u Q I2 rx ry q)
theorem pe_un {op : UnaryOp} {r : V → Hp → VK → Prop} (ho : UnR X (unaryOp op) r) (ha : PE X a ta) : PE X (.UnaryOp op a pos) (tUn r ta) := by
  intro pins s σ H Q I h
  exact UnaryOp_ (thn (ha pins s σ H _ I h) fun v s1 ⟨x, H1, I1, r1, q1⟩ => ho pins s1 σ H1 x v Q I1 r1 q1)
/-! ### ints -/
theorem opI {f : Value → Value → Sem Value} {C : Int → Int → Prop} {g : Int → Int → Int}
    (rule : ∀ (i j : Int) (t u : Tok) (s : Shared) (Q : Value → Shared → Prop) (E : Value → Shared → Prop), C i j → Q (.int (g i j) s.toks) { s with toks := s.toks + 1 } → wpAny (model X.prog X.w) X.A (f (.int i t) (.int j u)) Q E s) :
    OpR X f (rI C fun i j => .int (g i j)) := by
  intro pins s σ H x y v u Q I rx ry h
  obtain ⟨i, j, rfl, rfl, hc, q⟩ := h
  obtain ⟨t, rfl⟩ := rx
  obtain ⟨t', rfl⟩ := ry
  exact rule i j t t' s _ _ hc ⟨.int (g i j), H, I.tok _, ⟨_, rfl⟩, q⟩
theorem opI0 {f : Value → Value → Sem Value} {g : Int → Int → Int}
    (rule : ∀ (i j : Int) (t u : Tok) (s : Shared) (Q : Value → Shared → Prop) (E : Value → Shared → Prop), Q (.int (g i j) s.toks) { s with toks := s.toks + 1 } → wpAny (model X.prog X.w) X.A (f (.int i t) (.int j u)) Q E s) :
    OpR X f (rI0 fun i j => .int (g i j)) := by
  intro pins s σ H x y v u Q I rx ry h
  obtain ⟨i, j, rfl, rfl, q⟩ := h
  obtain ⟨t, rfl⟩ := rx
  obtain ⟨t', rfl⟩ := ry
  exact rule i j t t' s _ _ ⟨.int (g i j), H, I.tok _, ⟨_, rfl⟩, q⟩
theorem opB0 {f : Value → Value → Sem Value} {g : Int → Int → Bool}
    (rule : ∀ (i j : Int) (t u : Tok) (s : Shared) (Q : Value → Shared → Prop) (E : Value → Shared → Prop), Q (.bool (g i j)) s → wpAny (model X.prog X.w) X.A (f (.int i t) (.int j u)) Q E s) :
    OpR X f (rI0 fun i j => .bl (g i j)) := by
  intro pins s σ H x y v u Q I rx ry h
  obtain ⟨i, j, rfl, rfl, q⟩ := h
  obtain ⟨t, rfl⟩ := rx
  obtain ⟨t', rfl⟩ := ry
  exact rule i j t t' s _ _ ⟨.bl (g i j), H, I, rfl, q⟩

def CDiv (i j : Int) : Prop := 0 < j ∧ j < 1073741824
def CPow (i j : Int) : Prop := 0 ≤ j ∧ j ≤ 1000000 ∧ i.natAbs < 2 ^ 64
def CMul (i j : Int) : Prop := (-(2 ^ 64) < i ∧ i < 2 ^ 64) ∨ (-(2 ^ 64) < j ∧ j < 2 ^ 64)
theorem CMul.ok {i j : Int} (h : CMul i j) : IntMulOk i j := by
  rcases h with ⟨h1, h2⟩ | ⟨h1, h2⟩
  · exact .of_left (intBits_le_64 h1 h2)
  · exact .of_right (intBits_le_64 h1 h2)
theorem op_add : OpR X (binaryOp .Add) (rI0 fun i j => .int (i + j)) := opI0 fun _ _ _ _ _ _ _ q => add_int q
theorem op_sub : OpR X (binaryOp .Sub) (rI0 fun i j => .int (i - j)) := opI0 fun _ _ _ _ _ _ _ q => sub_int q
theorem op_mul : OpR X (binaryOp .Mult) (rI CMul fun i j => .int (i * j)) := opI fun _ _ _ _ _ _ _ hc q => mul_int q hc.ok
/-- // by a positive divisor -/
theorem op_fdiv : OpR X (binaryOp .FloorDiv) (rI CDiv fun i j => .int (i / j)) := opI fun i j _ _ _ _ _ hc q => by
  have h1 : (0 : Int) < j := hc.1
  have h2 : j < 1073741824 := hc.2
  exact floordiv_int (by omega) (by rw [Int.fdiv_eq_ediv_of_nonneg i (by omega)]; exact q) (.inl (PyProof.noPylong_small (by omega)))
/-- % by a positive divisor of any size -/
theorem op_mod : OpR X (binaryOp .Mod) (rI (fun _ j => 0 < j) fun i j => .int (i % j)) := opI fun i j _ _ _ _ _ hc q => by
  have h1 : (0 : Int) < j := hc
  exact mod_int' (by omega) (by rw [Int.fmod_eq_emod_of_nonneg i (by omega)]; exact q)
theorem op_pow : OpR X (binaryOp .Pow) (rI CPow fun i j => .int (i ^ j.toNat)) := opI fun _ _ _ _ _ _ _ hc q => pow_int_small hc.1 hc.2.1 hc.2.2 q
theorem unI {f : Value → Sem Value} {g : Int → Int}
    (rule : ∀ (i : Int) (t : Tok) (s : Shared) (Q : Value → Shared → Prop) (E : Value → Shared → Prop), Q (.int (g i) s.toks) { s with toks := s.toks + 1 } → wpAny (model X.prog X.w) X.A (f (.int i t)) Q E s) :
    UnR X f (rU fun i => .int (g i)) := by
  intro pins s σ H x v Q I rx h
  obtain ⟨i, rfl, q⟩ := h
  obtain ⟨t, rfl⟩ := rx
  exact rule i t s _ _ ⟨.int (g i), H, I.tok _, ⟨_, rfl⟩, q⟩
theorem un_neg : UnR X (unaryOp .USub) (rU fun i => .int (-i)) := unI fun _ _ _ _ _ q => neg_int q
/-! ### bools among ints: n += (a < b) -/
end

/-! ### comparisons -/
/-- the scalars that == tells apart as data does -/
def scal : V → V → Bool
  | .non, .non => true | .non, .int _ => true | .int _, .non => true | .non, .bl _ => true | .bl _, .non => true | .non, .str _ => true | .str _, .non => true
  | .int _, .int _ => true | .bl _, .bl _ => true | .str _, .str _ => true | .byt _, .byt _ => true
  | .int _, .str _ => true | .str _, .int _ => true | .bl _, .str _ => true | .str _, .bl _ => true
  | _, _ => false
def rEq : R2 := fun x y H Q => scal x y = true ∧ Q (.bl (decide (x = y))) H
def rNe : R2 := fun x y H Q => scal x y = true ∧ Q (.bl (!decide (x = y))) H

theorem dec_int {i j : Int} : decide (V.int i = V.int j) = (i == j) := by
  rw [Bool.eq_iff_iff]
  simp
theorem dec_bl {i j : Bool} : decide (V.bl i = V.bl j) = (i == j) := by
  rw [Bool.eq_iff_iff]
  simp
theorem dec_str {i j : Str} : decide (V.str i = V.str j) = (i == j) := by
  rw [Bool.eq_iff_iff]
  simp
theorem dec_byt {i j : Array UInt8} : decide (V.byt i = V.byt j) = (i.toList == j.toList) := by
  rw [Bool.eq_iff_iff]
  cases i
  cases j
  simp

section
variable {X : Cx} {a b c : Expr} {ta tb tc : TE} {pos : Pos}
theorem fin_bl {pins : List (Addr × Obj)} {σ : St} {H : Hp} {s : Shared} {Q : VK} {k k' : Bool} (I : Inv X pins σ H s) (q : Q (.bl k) H) (e : k = k') : EP X pins σ Q (.bool k') s := by
  subst e
  exact ⟨.bl k, H, I, rfl, q⟩
theorem op_eq : OpR X (compareOp .Eq) rEq := by
  intro pins s σ H x y v u Q I rx ry h
  obtain ⟨hs, q⟩ := h
  cases x with
  | non =>
    cases rx
    cases y with
    | non => cases ry; exact PySem.EqNone.eq_none_none (fin_bl I q (by simp))
    | bl j => cases ry; exact PySem.EqNone.eq_none_bool (fin_bl I q (by simp))
    | int j => obtain ⟨t', rfl⟩ := ry; exact PySem.EqNone.eq_none_int (fin_bl I q (by simp))
    | str j => obtain ⟨t', rfl⟩ := ry; exact PySem.EqNone.eq_none_str (fin_bl I q (by simp))
    | _ => exact absurd (show false = true from hs) Bool.false_ne_true
  | bl i =>
    cases rx
    cases y with
    | non => cases ry; exact PySem.EqNone.eq_bool_none (fin_bl I q (by simp))
    | bl j => cases ry; exact eq_bool (fin_bl I q dec_bl)
    | str j => obtain ⟨t', rfl⟩ := ry; exact PySem.EqMixed.eq_bool_str (fin_bl I q (by simp))
    | _ => exact absurd (show false = true from hs) Bool.false_ne_true
  | int i =>
    obtain ⟨t, rfl⟩ := rx
    cases y with
    | non => cases ry; exact PySem.EqNone.eq_int_none (fin_bl I q (by simp))
    | int j => obtain ⟨t', rfl⟩ := ry; exact eq_int (fin_bl I q dec_int)
    | str j => obtain ⟨t', rfl⟩ := ry; exact PySem.EqMixed.eq_int_str (fin_bl I q (by simp))
    | _ => exact absurd (show false = true from hs) Bool.false_ne_true
  | str i =>
    obtain ⟨t, rfl⟩ := rx
    cases y with
    | non => cases ry; exact PySem.EqNone.eq_str_none (fin_bl I q (by simp))
    | bl j => cases ry; exact PySem.EqMixed.eq_str_bool (fin_bl I q (by simp))
    | int j => obtain ⟨t', rfl⟩ := ry; exact PySem.EqMixed.eq_str_int (fin_bl I q (by simp))
    | str j => obtain ⟨t', rfl⟩ := ry; exact eq_str (fin_bl I q dec_str)
    | _ => exact absurd (show false = true from hs) Bool.false_ne_true
  | byt i =>
    obtain ⟨t, rfl⟩ := rx
    cases y with
    | byt j => obtain ⟨t', rfl⟩ := ry; exact PySem.W.eq_bytes (fin_bl I q dec_byt)
    | _ => exact absurd (show false = true from hs) Bool.false_ne_true
  | _ => cases y <;> exact absurd (show false = true from hs) Bool.false_ne_true
theorem op_ne : OpR X (compareOp .NotEq) rNe := by
  intro pins s σ H x y v u Q I rx ry h
  obtain ⟨hs, q⟩ := h
  cases x with
  | non =>
    cases rx
    cases y with
    | non => cases ry; exact PySem.EqNone.ne_none_none (fin_bl I q (by simp))
    | bl j => cases ry; exact PySem.EqNone.ne_none_bool (fin_bl I q (by simp))
    | int j => obtain ⟨t', rfl⟩ := ry; exact PySem.EqNone.ne_none_int (fin_bl I q (by simp))
    | str j => obtain ⟨t', rfl⟩ := ry; exact PySem.EqNone.ne_none_str (fin_bl I q (by simp))
    | _ => exact absurd (show false = true from hs) Bool.false_ne_true
  | bl i =>
    cases rx
    cases y with
    | non => cases ry; exact PySem.EqNone.ne_bool_none (fin_bl I q (by simp))
    | bl j => cases ry; exact ne_bool (fin_bl I q (congrArg not dec_bl))
    | str j => obtain ⟨t', rfl⟩ := ry; exact PySem.EqMixed.ne_bool_str (fin_bl I q (by simp))
    | _ => exact absurd (show false = true from hs) Bool.false_ne_true
  | int i =>
    obtain ⟨t, rfl⟩ := rx
    cases y with
    | non => cases ry; exact PySem.EqNone.ne_int_none (fin_bl I q (by simp))
    | int j => obtain ⟨t', rfl⟩ := ry; exact ne_int (fin_bl I q (congrArg not dec_int))
    | str j => obtain ⟨t', rfl⟩ := ry; exact PySem.EqMixed.ne_int_str (fin_bl I q (by simp))
    | _ => exact absurd (show false = true from hs) Bool.false_ne_true
  | str i =>
    obtain ⟨t, rfl⟩ := rx
    cases y with
    | non => cases ry; exact PySem.EqNone.ne_str_none (fin_bl I q (by simp))
    | bl j => cases ry; exact PySem.EqMixed.ne_str_bool (fin_bl I q (by simp))
    | int j => obtain ⟨t', rfl⟩ := ry; exact PySem.EqMixed.ne_str_int (fin_bl I q (by simp))
    | str j => obtain ⟨t', rfl⟩ := ry; exact ne_str (fin_bl I q (congrArg not dec_str))
    | _ => exact absurd (show false = true from hs) Bool.false_ne_true
  | byt i =>
    obtain ⟨t, rfl⟩ := rx
    cases y with
    | byt j => obtain ⟨t', rfl⟩ := ry; exact PySem.W.ne_bytes (fin_bl I q (congrArg not dec_byt))
    | _ => exact absurd (show false = true from hs) Bool.false_ne_true
  | _ => cases y <;> exact absurd (show false = true from hs) Bool.false_ne_true

theorem op_lt : OpR X (compareOp .Lt) (rI0 fun i j => .bl (decide (i < j))) := opB0 fun _ _ _ _ _ _ _ q => lt_int q
theorem op_le : OpR X (compareOp .LtE) (rI0 fun i j => .bl (decide (i ≤ j))) := opB0 fun _ _ _ _ _ _ _ q => le_int q
theorem op_gt : OpR X (compareOp .Gt) (rI0 fun i j => .bl (decide (j < i))) := opB0 fun _ _ _ _ _ _ _ q => gt_int q
theorem op_ge : OpR X (compareOp .GtE) (rI0 fun i j => .bl (decide (j ≤ i))) := opB0 fun _ _ _ _ _ _ _ q => ge_int q
theorem nomark (b : Expr) {op : CmpOp} (h : op ≠ .In := by decide) (h2 : op ≠ .NotIn := by decide) : behindInMarks op b = false := by
  have e1 : (op == CmpOp.In) = false := by cases op <;> first | rfl | exact absurd rfl h
  have e2 : (op == CmpOp.NotIn) = false := by cases op <;> first | rfl | exact absurd rfl h2
  cases b <;> simp [behindInMarks, e1, e2]
/-- a comparison as a value; hm: nomark b, or (for in, not in) by with_unfolding_all rfl -/
theorem pe_cmpR {op : CmpOp} {r : R2} (ho : OpR X (compareOp op) r) (ha : PE X a ta) (hb : PE X b tb) (hm : behindInMarks op b = false) : PE X (.Compare a [op] [b] pos) (tOp r ta tb) := by
  intro pins s σ H Q I h
  exact wpAny_Compare1 (binT ha hb I h fun v u s2 x y H2 I2 rx ry q => ho pins s2 σ H2 x y v u Q I2 rx ry q) hm
/-- a reading of a value as a test -/
def tTest (t : TE) : TT := fun σ H Q => t σ H fun x H' => ∃ k, x = .bl k ∧ Q k H'
theorem pt_cmpR {op : CmpOp} {r : R2} (ho : OpR X (compareOp op) r) (ha : PE X a ta) (hb : PE X b tb) (hm : behindInMarks op b = false) : PT X (.Compare a [op] [b] pos) (tTest (tOp r ta tb)) := by
  intro pins s σ H Q I h
  refine wpAny_isTrue_Compare1 (thn (ha pins s σ H _ I h) fun v s1 ⟨x, H1, I1, r1, q1⟩ => thn (hb pins s1 σ H1 _ I1 q1) fun u s2 ⟨y, H2, I2, r2, q2⟩ =>
    thn (ho pins s2 σ H2 x y v u _ I2 r1 r2 q2) fun c s3 ⟨z, H3, I3, r3, k, e, q3⟩ => ?_) hm
  subst e
  cases r3
  exact wpAny_truthy_bool ⟨H3, I3, q3⟩
/-! ### truth -/
theorem line63 : (sizeLine : Nat) < 2 ^ 63 := by rw [sizeLine_eq]; decide
/-! ### strs and bytes -/
theorem op_add_str : OpR X (binaryOp .Add) (fun x y H Q => ∃ i j, x = .str i ∧ y = .str j ∧ i.length + j.length ≤ sizeLine ∧ Q (.str (i ++ j)) H) := by
  intro pins s σ H x y v u Q I rx ry h
  obtain ⟨i, j, rfl, rfl, hz, q⟩ := h
  obtain ⟨t, rfl⟩ := rx
  obtain ⟨t', rfl⟩ := ry
  exact add_str (fun t' tk => ⟨.str (i ++ j), H, I.tok _, ⟨_, rfl⟩, q⟩) hz
/-! ### scalar builtins, by CallR -/
theorem vals1 {x : V} {us : List Value} (r : Vals [x] us) : ∃ u, us = [u] ∧ RelV x u := by
  cases r with
  | cons r1 r2 => cases r2; exact ⟨_, rfl, r1⟩
theorem call_abs : CallR X (.builtin "abs") (fun xs H Q => ∃ i, xs = [.int i] ∧ Q (.int (if i < 0 then -i else i)) H) := by
  intro pins s σ H xs us Q I r h
  obtain ⟨i, rfl, q⟩ := h
  obtain ⟨u, rfl, t, rfl⟩ := vals1 r
  exact call_abs_int fun u tk => ⟨.int (if i < 0 then -i else i), H, I.tok _, ⟨_, rfl⟩, q⟩
theorem call_int1 : CallR X (.type "int") (fun xs H Q => (∃ i, xs = [.int i] ∧ Q (.int i) H) ∨ ∃ k, xs = [.bl k] ∧ Q (.int (if k then 1 else 0)) H) := by
  intro pins s σ H xs us Q I r h
  rcases h with ⟨i, rfl, q⟩ | ⟨k, rfl, q⟩
  · obtain ⟨u, rfl, t, rfl⟩ := vals1 r
    exact call_int_int ⟨.int i, H, I, ⟨_, rfl⟩, q⟩
  · obtain ⟨u, rfl, r1⟩ := vals1 r
    cases r1
    exact call_int_bool ⟨.int (if k then 1 else 0), H, I.tok _, ⟨_, rfl⟩, q⟩
theorem call_str_int : CallR X (.type "str") (fun xs H Q => ∃ i, xs = [.int i] ∧ i.natAbs.log2 < 1920 ∧ Q (.str (toString i)) H) := by
  intro pins s σ H xs us Q I r h
  obtain ⟨i, rfl, hz, q⟩ := h
  obtain ⟨u, rfl, t, rfl⟩ := vals1 r
  exact PySem.P.str_of_int hz ⟨.str _, H, I.tok _, ⟨_, rfl⟩, q⟩
end
end L2

namespace L2
open PySem PySem.Spec PyProof.Rows

/-! ### an instance, its attributes a map -/
structure ObjM (h : Heap) (x dx C : Addr) (mA : Str → Option Value) : Prop where
  obj : h.get? x = some (PySem.W.instObj C dx)
  ns : h.Ns1 dx mA
  ne : dx ≠ x

theorem lookIn_ns {h : Heap} {dx : Addr} {mA : Str → Option Value} (n : h.Ns1 dx mA) : ∃ od, h.get? dx = some od ∧ ∀ name, PySem.W.lookIn name od = some (mA name) := by
  obtain ⟨o, es, ep, ho, hd, hk, _, hm⟩ := n
  refine ⟨o, ho, fun name => ?_⟩
  have e := hm name
  unfold nsFind findBy at e
  rw [← Array.find?_toList] at e
  unfold PySem.W.lookIn
  rw [hd]
  dsimp only
  split
  · rename_i y q
    rw [q] at e
    exact congrArg some e
  · rename_i q
    rw [q] at e
    have a : es.toList.any (·.refKey) = false := by
      rw [List.any_eq_false]
      intro y hy
      obtain ⟨z, t, hkey⟩ := hk y (Array.mem_toList_iff.mp hy)
      simp [DictEntry.refKey, hkey]
    have a' : ¬ es.toList.any (·.refKey) = true := by rw [a]; exact Bool.false_ne_true
    rw [if_neg a']
    exact congrArg some e

theorem ObjM.look {h : Heap} {x dx C : Addr} {mA : Str → Option Value} (I : ObjM h x dx C mA) : ∃ od, PySem.W.InstAt h x (PySem.W.instObj C dx) C (some od) ∧ ∀ name, PySem.W.lookIn name od = some (mA name) :=
  let ⟨od, ho, hl⟩ := lookIn_ns I.ns
  ⟨od, ⟨I.obj, rfl, rfl, ho⟩, hl⟩

section
variable {prog : Program} {w : World} {A : Around} {E : Value → Shared → Prop} {s : Shared} {K : PySem.W.Frag} {x dx C f : Addr} {mA : Str → Option Value} {name : Str} {v : Value}

end

/-! ### the attributes as a list of pairs -/
def putF (f : Str) (v : V) : List (Str × V) → List (Str × V)
  | [] => [(f, v)]
  | (g, x) :: r => if g = f then (g, v) :: r else (g, x) :: putF f v r
theorem lookup_putF (f g : Str) (v : V) : ∀ fs : List (Str × V), (putF f v fs).lookup g = if g = f then some v else fs.lookup g
  | [] => by
    show List.lookup g [(f, v)] = _
    by_cases h : g = f
    · have hb : (g == f) = true := beq_iff_eq.mpr h
      simp only [List.lookup, hb, if_pos h]
    · have hb : (g == f) = false := beq_eq_false_iff_ne.mpr h
      simp only [List.lookup, hb, if_neg h]
  | (k, x) :: r => by
    have ih := lookup_putF f g v r
    rw [show putF f v ((k, x) :: r) = (if k = f then (k, v) :: r else (k, x) :: putF f v r) from rfl]
    by_cases hk : k = f
    · rw [if_pos hk]
      by_cases h : g = k
      · have hb : (g == k) = true := beq_iff_eq.mpr h
        simp only [List.lookup, hb, if_pos (h.trans hk)]
      · have hb : (g == k) = false := beq_eq_false_iff_ne.mpr h
        simp only [List.lookup, hb, if_neg (fun e : g = f => h (e.trans hk.symm))]
    · rw [if_neg hk]
      by_cases h : g = k
      · have hb : (g == k) = true := beq_iff_eq.mpr h
        simp only [List.lookup, hb, if_neg (fun e : g = f => hk (h.symm.trans e))]
      · have hb : (g == k) = false := beq_eq_false_iff_ne.mpr h
        simp only [List.lookup, hb]
        exact ih
theorem keys_putF (f : Str) (v : V) : ∀ fs : List (Str × V), f ∈ (putF f v fs).map (·.1) ∧ ∀ g, g ∈ fs.map (·.1) → g ∈ (putF f v fs).map (·.1)
  | [] => ⟨by simp [putF], fun g h => by simp at h⟩
  | (k, x) :: r => by
    obtain ⟨i1, i2⟩ := keys_putF f v r
    rw [show putF f v ((k, x) :: r) = (if k = f then (k, v) :: r else (k, x) :: putF f v r) from rfl]
    by_cases hk : k = f
    · rw [if_pos hk]
      subst hk
      exact ⟨by simp, fun g h => by simpa using h⟩
    · rw [if_neg hk]
      refine ⟨?_, fun g h => ?_⟩
      · rw [List.map_cons]
        exact List.mem_cons_of_mem _ i1
      · rw [List.map_cons] at h ⊢
        rcases List.mem_cons.mp h with e | e
        · exact List.mem_cons.mpr (.inl e)
        · exact List.mem_cons_of_mem _ (i2 g e)
theorem length_putF (f : Str) (v : V) : ∀ fs : List (Str × V), (putF f v fs).length ≤ fs.length + 1
  | [] => by simp [putF]
  | (k, x) :: r => by
    have ih := length_putF f v r
    rw [show putF f v ((k, x) :: r) = (if k = f then (k, v) :: r else (k, x) :: putF f v r) from rfl]
    by_cases hk : k = f
    · rw [if_pos hk, List.length_cons, List.length_cons]; omega
    · rw [if_neg hk, List.length_cons, List.length_cons]; omega

theorem RelO.some_of {v : V} {o : Option Value} (r : RelO (some v) o) : ∃ u, o = some u ∧ RelV v u := by
  cases o with
  | none => exact (show False from r).elim
  | some u => exact ⟨u, rfl, r⟩
theorem handed_of {v : V} {u : Value} (r : RelV v u) : PySem.W.handedIn u = true := by
  cases v with
  | non => cases (show u = Value.none from r); rfl
  | bl b => cases (show u = Value.bool b from r); rfl
  | int i => obtain ⟨t, e⟩ := (show ∃ t, u = Value.int i t from r); cases e; rfl
  | str x => obtain ⟨t, e⟩ := (show ∃ t, u = Value.str x t from r); cases e; rfl
  | byt b => obtain ⟨t, e⟩ := (show ∃ t, u = Value.bytes b t from r); cases e; rfl
  | flt b => obtain ⟨t, e⟩ := (show ∃ t, u = Value.float b t from r); cases e; rfl
  | ref a => cases (show u = Value.ref a from r); rfl
  | ty n => cases (show u = Value.type n from r); rfl

section
variable {P : Program} {w : World} {H H' : Hp} {h h' : Heap} {a C dx : Addr} {fs fs' : List (Str × V)}
theorem ins_get (hok : HOk P w H h) (e : H a = some (.ins C dx fs)) : ∃ mA, ObjM h a dx C mA ∧ (∀ f, RelO (fs.lookup f) (mA f)) ∧ PySem.Within mA (fs.map (·.1)) ∧ fs.length ≤ 1000 ∧ H dx = some (.own a) := by
  obtain ⟨d, z, ne, ob, mA, n, r, q⟩ := (show ObjOk P w H h a (.ins C dx fs) from hok a _ e)
  exact ⟨mA, ⟨ob, n, ne⟩, r, q, z, d⟩
end

/-! ### what of the text a class must have -/
structure Cls (K : PySem.W.Frag) (C : Addr) : Prop where
  pg : PySem.W.plainGet K C Str.empty = true
  hd : PySem.W.hasDictIn K C = true
  po : PySem.W.plainOver K C = true
  sa : PySem.W.findIn K (.ref C) "__setattr__" = some (some (.builtin "object.__setattr__"))
theorem Cls.get {K : PySem.W.Frag} {C : Addr} (c : Cls K C) (f : Str) : PySem.W.plainGet K C f = true := c.pg
/-- no class of it has the name -/
def NoAttr (K : PySem.W.Frag) (C : Addr) (f : Str) : Prop := PySem.W.findIn K (.ref C) f = some none
theorem NoAttr.taker {K : PySem.W.Frag} {C : Addr} {f : Str} (n : NoAttr K C f) : PySem.W.takerIn K C f = some none := by
  unfold PySem.W.takerIn
  rw [show PySem.W.findIn K (.ref C) f = some none from n]
  rfl
section
variable {X : Cx} {pins : List (Addr × Obj)} {σ : St} {H : Hp} {s : Shared} {a C dx : Addr} {fs : List (Str × V)} {f : Str} {v : V} {A : Around} {E : Value → Shared → Prop}

/-- e.f where nothing but the object is asked: through attributeBase (super) and the last hold -/
theorem attr_of {prog : Program} {w : World} {env : Env} {e : Expr} {f : Str} {pos : Pos} {s : Shared} {Q : Value → Shared → Prop} (hb : attributeBase e f env (eval e env) = eval e env)
    (h : wpAny (model prog w) A (eval e env) (fun o s₁ => wpAny (model prog w) A (getAttr o f true) Q E s₁) E s) : wpAny (model prog w) A (eval (.Attribute e f pos) env) Q E s :=
  Attribute_any_ h (by rw [arm_eval_Attribute, hb])
end

/-! ### readings and rules -/
section
variable {X : Cx} {o e value : Expr} {f : Str} {pos pos' tpos : Pos} {ta tv : TE}
end

/-! ### isinstance -/
section
variable {X : Cx} {pins : List (Addr × Obj)} {σ : St} {H : Hp} {s : Shared} {A : Around} {E : Value → Shared → Prop} {Q : Value → Shared → Prop} {c : Value} {b : Bool}
/-- the type of a value, as the fragment's deciders take it; for an instance its class -/
inductive TyOf (K : PySem.W.Frag) (H : Hp) : V → Value → Prop where
  | non : TyOf K H .non (.type "NoneType")
  | bl (x : Bool) : TyOf K H (.bl x) (.type "bool")
  | int (i : Int) : TyOf K H (.int i) (.type "int")
  | str (x : Str) : TyOf K H (.str x) (.type "str")
  | flt (x : UInt64) : TyOf K H (.flt x) (.type "float")
  | lst {a : Addr} {xs : List V} (e : H a = some (.lst xs)) : TyOf K H (.ref a) (.type "list")
  | frz {a : Addr} {o : Obj} {xs : List V} (e : H a = some (.frz o (.lst xs))) : TyOf K H (.ref a) (.type "list")
  | tup {a : Addr} {xs : List V} (e : H a = some (.tup xs)) : TyOf K H (.ref a) (.type "tuple")
  | dK {a : Addr} {kvs : List (Key × V)} (e : H a = some (.dK kvs)) : TyOf K H (.ref a) (.type "dict")
  | dT {a : Addr} {kvs : List (List Key × V)} (e : H a = some (.dT kvs)) : TyOf K H (.ref a) (.type "dict")
  | ins {a C dx : Addr} {fs : List (Str × V)} (e : H a = some (.ins C dx fs)) (cl : Cls K C) (ha : PySem.W.findIn K (.ref C) "__class__" = some (some (.builtin "object.__class__")))
      (hn : PySem.W.specialIn K (.builtin "object.__class__") "__get__" = some (some (.builtin "getset_descriptor.__get__"))) (htk : PySem.W.takesIn K (.builtin "object.__class__") = some true)
      (hm : PySem.W.mroIn K C (.type "object") = some true) : TyOf K H (.ref a) (.ref C)
/-- isinstance(x, c) for one class c, a built-in or an own one: kitOne's answer -/
theorem isinst_ok {x : V} {u t : Value} (I : Inv X pins σ H s) (rx : RelV x u) (ty : TyOf X.K H x t) (e : PySem.W.kitOne X.K t c = some b) (h : ∀ tk, Q (.bool b) { s with toks := tk }) :
    wpAny (model X.prog X.w) A (call (.builtin "isinstance") [u, c]) Q E s := by
  cases ty with
  | non => cases (show u = Value.none from rx); exact PySem.W.kia_one PySem.W.kitx_none I.kIn True.intro e (fun z => nomatch z) h
  | bl y => cases (show u = Value.bool y from rx); exact PySem.W.kia_one PySem.W.kitx_bool I.kIn True.intro e (fun z => nomatch z) h
  | int i => obtain ⟨t, q⟩ := (show ∃ t, u = Value.int i t from rx); cases q; exact PySem.W.kia_one PySem.W.kitx_int I.kIn True.intro e (fun z => nomatch z) h
  | str y => obtain ⟨t, q⟩ := (show ∃ t, u = Value.str y t from rx); cases q; exact PySem.W.kia_one PySem.W.kitx_str I.kIn True.intro e (fun z => nomatch z) h
  | flt y => obtain ⟨t, q⟩ := (show ∃ t, u = Value.float y t from rx); cases q; exact PySem.W.kia_one PySem.W.kitx_float I.kIn True.intro e (fun z => nomatch z) h
  | @lst a xs ea =>
    cases (show u = Value.ref a from rx)
    obtain ⟨_, _, n, _, h1⟩ := (show ObjOk X.prog X.w H s.heap a (.lst xs) from I.hok a _ ea)
    exact PySem.W.kia_one PySem.W.kitx_list I.kIn ⟨_, h1, rfl⟩ e (fun z => nomatch z) h
  | @frz a ob xs ea =>
    cases (show u = Value.ref a from rx)
    obtain ⟨_, _, _, n, _, h1⟩ := (show ObjOk X.prog X.w H s.heap a (.frz ob (.lst xs)) from I.hok a _ ea)
    exact PySem.W.kia_one PySem.W.kitx_list I.kIn ⟨_, h1, rfl⟩ e (fun z => nomatch z) h
  | @tup a xs ea =>
    cases (show u = Value.ref a from rx)
    obtain ⟨_, _, _, p⟩ := (show ObjOk X.prog X.w H s.heap a (.tup xs) from I.hok a _ ea)
    obtain ⟨o, h1, h2, _⟩ := p
    exact PySem.W.kia_one PySem.W.kitx_tuple I.kIn ⟨o, h1, h2⟩ e (fun z => nomatch z) h
  | @dK a kvs ea =>
    cases (show u = Value.ref a from rx)
    obtain ⟨_, _, vs, _, p⟩ := (show ObjOk X.prog X.w H s.heap a (.dK kvs) from I.hok a _ ea)
    obtain ⟨o, es, ep, h1, h2, _⟩ := p
    exact PySem.W.kia_one PySem.W.kitx_dict I.kIn ⟨o, h1, h2.1⟩ e (fun z => nomatch z) h
  | @dT a kvs ea =>
    cases (show u = Value.ref a from rx)
    obtain ⟨_, _, xs, _, o, es, ep, h1, h2, _⟩ := (show ObjOk X.prog X.w H s.heap a (.dT kvs) from I.hok a _ ea)
    exact PySem.W.kia_one PySem.W.kitx_dict I.kIn ⟨o, h1, h2.1⟩ e (fun z => nomatch z) h
  | @ins a C dx fs ea cl ha hn htk hm =>
    cases (show u = Value.ref a from rx)
    obtain ⟨mA, O, _⟩ := ins_get I.hok ea
    obtain ⟨od, J, _⟩ := O.look
    exact PySem.W.kia_one (PySem.W.kitx_own (cl.get _) cl.hd ha hn htk hm) I.kIn J e (fun z => nomatch z) h
end
end L2

namespace L2
open PySem PySem.Spec PyProof.Rows

/-! ### room -/
structure Room (k : Nat) (A : Around) : Prop where
  hd : A.handled = none
  dp : A.depth + 3 * k + 5 < recursionLimit
  un : A.units + 16 * k + 200 < cLine
theorem Room.mono {j k : Nat} {A : Around} (r : Room k A) (h : j ≤ k) : Room j A := ⟨r.hd, by have := r.dp; omega, by have := r.un; omega⟩
theorem Room.deeper {k : Nat} {A : Around} (r : Room (k + 1) A) (env : Env) : Room k (A.deeper env) :=
  ⟨r.hd, by have := r.dp; show A.depth + 1 + 3 * k + 5 < _; omega, by have := r.un; show A.units + 3 + 16 * k + 200 < _; omega⟩
theorem make_depth {A : Around} {C : Addr} {us : List Value} {kw : List (Str × Value)} : (A.under (.builtin "type.__call__" ⟨.ref C :: us, kw⟩)).depth = A.depth + 1 := by
  first | rfl | simp [Around.under, Code.weight, Code.isCreation, Code.isGuard, Code.isCaller, Code.frames, Code.isFrame, guardIds]
theorem make_units {A : Around} {C : Addr} {us : List Value} {kw : List (Str × Value)} : (A.under (.builtin "type.__call__" ⟨.ref C :: us, kw⟩)).units = A.units + 1 := by
  first | rfl | simp [Around.under, Code.cUnits, Code.frames, Code.isFrame]
theorem Room.make {k : Nat} {A : Around} (r : Room (k + 1) A) (C : Addr) (us : List Value) (kw : List (Str × Value)) : Room k (A.under (.builtin "type.__call__" ⟨.ref C :: us, kw⟩)) :=
  ⟨r.hd, by have := r.dp; rw [make_depth]; omega, by have := r.un; rw [make_units]; omega⟩
theorem Room.depth {k : Nat} {A : Around} (r : Room k A) : A.depth < recursionLimit := by have := r.dp; omega
theorem Room.units {k : Nat} {A : Around} (r : Room k A) : A.units + 64 < cLine := by have := r.un; omega
/-! ### argument lists and displays -/
def tNil : TA := fun _ H Q => Q [] H
def tCons (ta : TE) (tr : TA) : TA := fun σ H Q => ta σ H fun x H1 => tr σ H1 fun xs H2 => Q (x :: xs) H2
section
variable {X : Cx} {e : Expr} {es : List Expr} {te : TE} {t : TA} {pos : Pos}
theorem pa_nil : PA X [] tNil := fun _ _ _ _ H Q I h => Calls.spliced_nil ⟨[], H, I, .nil, h⟩
theorem pa_cons (ha : PE X e te) (hr : PA X es t) (hs : starEach (e :: es) X.env = (false, eval e X.env) :: starEach es X.env := by rfl) : PA X (e :: es) (tCons te t) := by
  intro pos pins s σ H Q I h
  rw [hs]
  show wpAny _ _ (spliced ((false, eval e X.env) :: backTo pos (starEach es X.env))) _ _ s
  refine Calls.spliced_cons (thn (ha pins s σ H _ I h) fun u s1 ⟨x, H1, I1, r1, q1⟩ => ?_)
  exact thn (hr pos pins s1 σ H1 _ I1 q1) fun us s2 ⟨xs, H2, I2, r2, q2⟩ => ⟨x :: xs, H2, I2, .cons r1 r2, q2⟩

/-- a tuple, a list of written items -/
def tTup (t : TA) : TE := fun σ H Q => t σ H fun xs H1 => xs.length ≤ sizeLine ∧ ∀ p, H1 p = none → Q (.ref p) (upd H1 p (.tup xs))
def tLst (t : TA) : TE := fun σ H Q => t σ H fun xs H1 => xs.length ≤ sizeLine ∧ ∀ p, H1 p = none → Q (.ref p) (upd H1 p (.lst xs))
theorem pe_tup {x1} (h : PA X es t) : PE X (.Tuple es x1 pos) (tTup t) := by
  intro pins s σ H Q I hq
  refine wpAny_Tuple_spliced (thn (h pos pins s σ H _ I hq) fun us s1 ⟨xs, H1, I1, r, z, q⟩ => ⟨by rw [← r.length]; exact z, ?_⟩)
  have hf : H1 s1.heap.objs.size = none := I1.hok.fresh (Nat.le_refl _)
  refine ⟨.ref s1.heap.objs.size, upd H1 s1.heap.objs.size (.tup xs), I1.laid (t' := s1.toks) (fun b u e => Heap.get?_push_of_some _ e) (Nat.le_refl _) ?_, rfl, q _ hf⟩
  exact ⟨z, us, r, ⟨_, Heap.get?_push_size _ rfl, rfl, _, rfl⟩⟩
theorem pe_lst (h : PA X es t) : PE X (.List es pos) (tLst t) := by
  intro pins s σ H Q I hq
  refine wpAny_List_spliced (thn (h pos pins s σ H _ I hq) fun us s1 ⟨xs, H1, I1, r, z, q⟩ => ⟨by rw [← r.length]; exact z, ?_⟩)
  have hf : H1 s1.heap.objs.size = none := I1.hok.fresh (Nat.le_refl _)
  refine ⟨.ref s1.heap.objs.size, upd H1 s1.heap.objs.size (.lst xs), I1.laid (t' := s1.toks) (fun b u e => Heap.get?_push_of_some _ e) (Nat.le_refl _) ?_, rfl, q _ hf⟩
  exact ⟨z, us, 0, r, Heap.get?_push_size _ rfl⟩
end

/-! ### what a def promises -/
/-- a def's promise: the bound arguments in the parameters' order, the heap, the wanted end, the wanted exception -/
abbrev Sp := List V → Hp → VK → XK → Prop
/-- how an exception lies behind a call (file 08 gives it): the callers' frames, abstract heap and state ahead of the call, the wish, the exception, the state -/
abbrev CXT := List Env → Hp → Shared → XK → Value → Shared → Prop

/-- the state at a call -/
structure Env0 (P : Program) (w : World) (K : PySem.W.Frag) (mg : Str → Option Value) (base : Heap) (A : Around) (outer : List Env) (s : Shared) (H : Hp) : Prop where
  frames : A.frames = some outer
  mod : Mod K mg base
  bs : ∀ b o, base.get? b = some o → s.heap.get? b = some o ∧ H b = none
  bsz : base.objs.size ≤ s.heap.objs.size
  funs : s.heap.FunFrames base outer
  frf : ∀ b ∈ frs outer, H b = none
  hok : HOk P w H s.heap
  bare : AllBare s.gens
/-- a call's end -/
def CE (outer : List Env) (P : Program) (w : World) (H : Hp) (s : Shared) (Q : VK) (u : Value) (s' : Shared) : Prop :=
  ∃ v H', s'.os = s.os ∧ AllBare s'.gens ∧ Un (frs outer) [] H H' s.heap s'.heap ∧ HOk P w H' s'.heap ∧ RelV v u ∧ Q v H'
def CR (CX : CXT) (outer : List Env) (P : Program) (w : World) (H : Hp) (s : Shared) (Q : VK) (E : XK) (r : Result) (s' : Shared) : Prop :=
  match r with
  | .ok (.ret u) => CE outer P w H s Q u s'
  | .ok _ => False
  | .error e => CX outer H s E e s'
structure FnOk (P : Program) (w : World) (K : PySem.W.Frag) (mg : Str → Option Value) (base : Heap) (CX : CXT) (k : Nat) (f : Addr) (fd : FuncData) (ps : List Str) (sp : Sp) : Prop where
  len : ∀ vs H Q E, sp vs H Q E → vs.length = ps.length
  run : ∀ (A : Around) (outer : List Env) (s : Shared) (H : Hp) (args : Args) (us : List Value) (vs : List V) (Q : VK) (E : XK), Room k A → Env0 P w K mg base A outer s H → BindsTo s fd args (ps.zip us) → Vals vs us → sp vs H Q E →
    codeAny (model P w) A (.call (.ref f) args) (CR CX outer P w H s Q E) s
theorem FnOk.mono {P : Program} {w : World} {K : PySem.W.Frag} {mg : Str → Option Value} {base : Heap} {CX : CXT} {j k : Nat} {f : Addr} {fd : FuncData} {ps : List Str} {sp : Sp} (F : FnOk P w K mg base CX j f fd ps sp) (h : j ≤ k) :
    FnOk P w K mg base CX k f fd ps sp := ⟨F.len, fun A outer s H args us vs Q E hr => F.run A outer s H args us vs Q E (hr.mono h)⟩
/-- a weaker promise -/
theorem FnOk.imp {P : Program} {w : World} {K : PySem.W.Frag} {mg : Str → Option Value} {base : Heap} {CX : CXT} {k : Nat} {f : Addr} {fd : FuncData} {ps : List Str} {sp sp' : Sp} (F : FnOk P w K mg base CX k f fd ps sp)
    (h : ∀ vs H Q E, sp' vs H Q E → sp vs H Q E) : FnOk P w K mg base CX k f fd ps sp' :=
  ⟨fun vs H Q E q => F.len vs H Q E (h _ _ _ _ q), fun A outer s H args us vs Q E hr he hb hv hs => F.run A outer s H args us vs Q E hr he hb hv (h _ _ _ _ hs)⟩

theorem Env0.make {P : Program} {w : World} {K : PySem.W.Frag} {mg : Str → Option Value} {base : Heap} {A : Around} {outer : List Env} {s : Shared} {H : Hp} (e : Env0 P w K mg base A outer s H) (C : Addr) (us : List Value) (kw : List (Str × Value)) :
    Env0 P w K mg base (A.under (.builtin "type.__call__" ⟨.ref C :: us, kw⟩)) outer s H := ⟨by first | exact e.frames | (simpa [Around.under, Code.envs, Code.isFrame, pushEnvs] using e.frames), e.mod, e.bs, e.bsz, e.funs, e.frf, e.hok, e.bare⟩
section
variable {X : Cx} {pins : List (Addr × Obj)} {σ : St} {H : Hp} {s s' : Shared}
/-- from a body: what a callee wants -/
theorem Inv.env0 (I : Inv X pins σ H s) : Env0 X.prog X.w X.K X.mg X.base X.A X.stack s H :=
  ⟨I.ok.frames, I.ok.mod, I.bs, Nat.le_trans I.ok.bsz I.sz, I.stack, I.stkFree, I.hok, I.bare⟩
/-- behind a call -/
theorem Inv.after {Q : VK} {u : Value} (I : Inv X pins σ H s) (h : CE X.stack X.prog X.w H s Q u s') : EP X pins σ Q u s' := by
  obtain ⟨v, H', os, bare, un, hok, r, q⟩ := h
  obtain ⟨hh, g, d, t, os'⟩ := s'
  obtain rfl : os' = s.os := os
  exact ⟨v, H', I.call (h' := hh) (g' := g) (d' := d) (t' := t) (ch := []) un hok bare (fun b z => absurd z (by simp)), r, q⟩
end

/-! ### calls -/
/-- f(..): the written arguments, then the defaults dvs; E: what is wanted of an exception -/
def tCall (sp : Sp) (dvs : List V) (E : XK) (t : TA) : TE := fun σ H Q => t σ H fun vs H1 => sp (vs ++ dvs) H1 Q E
/-- how the parameters are bound: us the positional arguments, kw the keywords' values by name, ds the defaults that fill up -/
def Binds (K : PySem.W.Frag) (fd : FuncData) (ps : List Str) (ds : List Value) : Prop :=
  ∀ (s : Shared) (us : List Value), K.In s.heap → (us ++ ds).length = ps.length → BindsTo s fd ⟨us, []⟩ (ps.zip (us ++ ds))
/-- every parameter is given -/
theorem Binds.all {K : PySem.W.Frag} {fd : FuncData} {ps : List Str} (h : ∀ us : List Value, us.length = ps.length → bindArgs fd ⟨us, []⟩ = pure (ps.zip us)) : Binds K fd ps [] := fun s us _ hl => by
  rw [List.append_nil] at hl ⊢
  exact .of_eq (h us hl)

/-- an exception of a callee reaches what this body wants of exceptions -/
def Passes (CX : CXT) (X : Cx) (E : XK) : Prop := ∀ (pins : List (Addr × Obj)) (σ : St) (H : Hp) (s : Shared) (e : Value) (s' : Shared), Inv X pins σ H s → CX X.stack H s E e s' → X.xe e s'

section
variable {X : Cx} {CX : CXT} {k : Nat} {f C : Addr} {fd : FuncData} {ps : List Str} {sp : Sp} {dvs : List V} {ds : List Value} {E : XK} {x m : Str} {p pos apos : Pos} {e o : Expr} {es : List Expr} {ta : TE} {t : TA}

/-- the callee runs -/
theorem run_fn {pins : List (Addr × Obj)} {σ : St} {H : Hp} {s : Shared} {Q : VK} {us : List Value} {vs : List V} (F : FnOk X.prog X.w X.K X.mg X.base CX k f fd ps sp) (hr : Room k X.A) (hb : Binds X.K fd ps ds) (hd : Vals dvs ds) (hx : Passes CX X E)
    (I : Inv X pins σ H s) (r : Vals vs us) (h : sp (vs ++ dvs) H Q E) : wpAny (model X.prog X.w) X.A (call (.ref f) us) (EP X pins σ Q) X.xe s := by
  have r2 : Vals (vs ++ dvs) (us ++ ds) := r.append hd
  have hl : (us ++ ds).length = ps.length := by rw [← r2.length]; exact F.len _ _ _ _ h
  refine wpAny_call (codeAny_mono (F.run X.A X.stack s H ⟨us, []⟩ (us ++ ds) (vs ++ dvs) Q E hr I.env0 (hb s us I.kIn hl) r2 h) fun r s' hq => ?_)
  cases r with
  | error e => exact hx pins σ H s e s' I hq
  | ok fl =>
    cases fl with
    | ret u => exact I.after hq
    | next => exact False.elim hq
    | brk => exact False.elim hq
    | cont => exact False.elim hq

theorem pe_call (F : FnOk X.prog X.w X.K X.mg X.base CX k f fd ps sp) (hr : Room k X.A) (hg : Gl X x) (hm : X.mg x = some (.ref f)) (hk : PySem.W.keepIn X.K (.ref f) = true) (hb : Binds X.K fd ps ds) (hd : Vals dvs ds) (hx : Passes CX X E)
    (ha : PA X (e :: es) t) (hdb : (x == ("__debug__" : Str)) = false := by decide) (he : starEach (e :: es) X.env = (false, eval e X.env) :: starEach es X.env := by rfl) (hpl : (backTo pos (starEach es X.env)).any (·.1) = false := by rfl) :
    PE X (.Call (.Name x p) (e :: es) [] pos) (tCall sp dvs E t) := by
  intro pins s σ H Q I h
  refine wpAny_Call_Name_kw (ld_glob I hg hm ?_ hdb)
  refine PySem.W.callWith_K (h₀ := X.base) I.ok.mod.kin hk (thn (ha pos pins s σ H _ I h) fun us s1 ⟨vs, H1, I1, r, q⟩ => ⟨I1.kIn, ?_⟩) he hpl
  exact run_fn F hr hb hd hx I1 r q
end

/-! ### keywords -/
section
variable {X : Cx} {CX : CXT} {k : Nat} {f C : Addr} {fd : FuncData} {ps ks : List Str} {sp : Sp} {E : XK} {x m : Str} {p pos apos kpos : Pos} {e o : Expr} {es : List Expr} {kws : List Keyword} {te ta : TE} {t tk : TA} {nm : Option Str}
variable {g : List Value → List Value → List Value} {gV : List V → List V → List V}
end

/-! ### a def's body keeps its promise -/
/-- names: the parameters first -/
structure FnScope (N P : List Str) (sc : Scope) : Prop where
  kind : sc.kind = .function
  co : sc.isCoroutine = false
  gen : sc.isGenerator = false
  nd : N.Nodup
  pre : N.take P.length = P
  par : ∀ x ∈ P, sc.names.lookup x = some .local ∨ sc.names.lookup x = some .cell
  nofree : ∀ y ∈ sc.names, y.2 ≠ .free

theorem bindL_out {kindOf : Str → Option NameKind} {x : Str} : ∀ {binds : List (Str × Value)} {m : Str → Option Value}, (∀ v, (x, v) ∉ binds) → bindL kindOf binds m x = m x
  | [], _, _ => rfl
  | (n, v) :: r, m, h => by
    unfold bindL
    rw [bindL_out fun w hw => h w (List.mem_cons_of_mem _ hw)]
    split
    · have : x ≠ n := by rintro rfl; exact h v List.mem_cons_self
      simp [this]
    · rfl
theorem bindC_out {kindOf : Str → Option NameKind} {x : Str} : ∀ {binds : List (Str × Value)} {m : Str → Option Value}, (∀ v, (x, v) ∉ binds) → bindC kindOf binds m x = m x
  | [], _, _ => rfl
  | (n, v) :: r, m, h => by
    unfold bindC
    rw [bindC_out fun w hw => h w (List.mem_cons_of_mem _ hw)]
    split
    · rfl
    · have : x ≠ n := by rintro rfl; exact h v List.mem_cons_self
      simp [this]
theorem bindL_get {kindOf : Str → Option NameKind} {x : Str} {v : Value} : ∀ {P : List Str} {vs : List Value} {i : Nat} {m : Str → Option Value}, P.Nodup → P[i]? = some x → vs[i]? = some v → kindOf x = some .local →
    bindL kindOf (P.zip vs) m x = some v
  | [], _, _, _, _, h, _, _ => by simp at h
  | _ :: _, [], _, _, _, _, h, _ => by simp at h
  | p :: P, w :: vs, 0, m, nd, h1, h2, hk => by
    simp at h1 h2; subst h1; subst h2
    show bindL kindOf ((p, w) :: P.zip vs) m p = _
    unfold bindL
    rw [bindL_out fun v hv => (List.nodup_cons.mp nd).1 (List.of_mem_zip hv).1, if_pos hk]
    simp
  | p :: P, w :: vs, i + 1, m, nd, h1, h2, hk => by
    show bindL kindOf ((p, w) :: P.zip vs) m x = _
    unfold bindL
    exact bindL_get (i := i) (List.nodup_cons.mp nd).2 (by simpa using h1) (by simpa using h2) hk
theorem bindC_get {kindOf : Str → Option NameKind} {x : Str} {v : Value} : ∀ {P : List Str} {vs : List Value} {i : Nat} {m : Str → Option Value}, P.Nodup → P[i]? = some x → vs[i]? = some v → kindOf x ≠ some .local →
    bindC kindOf (P.zip vs) m x = some v
  | [], _, _, _, _, h, _, _ => by simp at h
  | _ :: _, [], _, _, _, _, h, _ => by simp at h
  | p :: P, w :: vs, 0, m, nd, h1, h2, hk => by
    simp at h1 h2; subst h1; subst h2
    show bindC kindOf ((p, w) :: P.zip vs) m p = _
    unfold bindC
    rw [bindC_out fun v hv => (List.nodup_cons.mp nd).1 (List.of_mem_zip hv).1, if_neg hk]
    simp
  | p :: P, w :: vs, i + 1, m, nd, h1, h2, hk => by
    show bindC kindOf ((p, w) :: P.zip vs) m x = _
    unfold bindC
    exact bindC_get (i := i) (List.nodup_cons.mp nd).2 (by simpa using h1) (by simpa using h2) hk

/-- the names' values at the entry -/
def start (N : List Str) (vs : List V) : St := vs.map some ++ List.replicate (N.length - vs.length) none

/-- the context of a def's body, at its entry; an exception leaves the frame, then lies as CX says -/
def cxOf (CX : CXT) (P : Program) (w : World) (K : PySem.W.Frag) (mg : Str → Option Value) (base : Heap) (N : List Str) (qual : Str) (scope : Scope) (f : Addr) (cd : Value) (A : Around) (outer : List Env) (s : Shared) (H : Hp) (E : XK) : Cx where
  prog := P
  w := w
  K := K
  mg := mg
  base := base
  A := A.deeper (envOfC qual scope s.heap.objs.size f cd)
  N := N
  s₀ := s
  H₀ := H
  env := envOfC qual scope s.heap.objs.size f cd
  outer := outer
  stack := envOfC qual scope s.heap.objs.size f cd :: outer
  ex := []
  calm := true
  fn := fun _ => true
  pn := []
  xe := fun e s' => wpAny (model P w) (A.deeper (envOfC qual scope s.heap.objs.size f cd)) (leaving (envOfC qual scope s.heap.objs.size f cd) e) (fun _ s'' => CX outer H s E e s'') (fun e' s'' => CX outer H s E e' s'') s'

theorem cell_has {sc : Scope} {n : Nat} {x : Str} (h : sc.names.lookup x = some .cell) : ∃ c, (cellsFrom n sc.names []).lookup x = some c := by
  have q := PySem.W.cellsFrom_some sc.names n [] (.inl h)
  exact Option.isSome_iff_exists.mp q

theorem inv_start {CX : CXT} {P : Program} {w : World} {K : PySem.W.Frag} {mg : Str → Option Value} {base : Heap} {N ps : List Str} {qual : Str} {scope : Scope} {f : Addr} {cd : Value} {A : Around} {outer : List Env} {s s1 : Shared} {H : Hp} {E : XK} {us : List Value} {vs : List V}
    (S : FnScope N ps scope) (hd : A.handled = none) (e0 : Env0 P w K mg base A outer s H) (hl : vs.length = ps.length) (r : Vals vs us)
    (x : InCallC s s.heap.objs.size (bindL (envOfC qual scope s.heap.objs.size f cd).kindOf (ps.zip us) fun _ => none) (cellsFrom (s.heap.objs.size + 1) scope.names []) (bindC (envOfC qual scope s.heap.objs.size f cd).kindOf (ps.zip us) fun _ => none) s1) :
    Inv (cxOf CX P w K mg base N qual scope f cd A outer s H E) [] (start N vs) H s1 := by
  have hpl : ps.length ≤ N.length := by have := congrArg List.length S.pre; rw [List.length_take] at this; omega
  obtain ⟨h1, tk, rfl, hk⟩ := x.done
  have noA : ∀ b : Addr, b ∉ (cxOf CX P w K mg base N qual scope f cd A outer s H E).ex := fun b z => absurd (show b ∈ ([] : List Addr) from z) (by simp)
  refine ⟨⟨e0.mod, S.kind, rfl, rfl, Nat.le_refl _, fun y z c h1 h2 => ?_, fun y hy => ?_, fun y c _ h => ?_, fun _ => hd, Around.frames_deeper e0.frames, .inr ⟨rfl, rfl⟩, fun b z => absurd z (noA b), e0.bs, e0.bsz, fun b _ _ => noA b, fun b z => absurd z (noA b), e0.funs, e0.frf⟩,
    rfl, e0.bare, Un.kept hk, ⟨_, x.toInCall.ns, fun i y v h1 h2 h3 => ?_⟩, fun y c h => ⟨_, x.cell y c h⟩, e0.hok.fresh (Nat.le_refl _), fun y c h => ?_, fun p hp => absurd (show p ∈ ([] : List (Addr × Obj)) from hp) (by simp), e0.hok.kept hk, ?_⟩
  · exact name_of_addr x.apart (PySem.mem_of_lookup h1) (PySem.mem_of_lookup h2)
  · have hy : scope.names.lookup y = some .cell ∨ scope.names.lookup y = some .free := hy
    rcases hy with hy | hy
    · exact cell_has hy
    · exact absurd rfl (S.nofree _ (PySem.mem_of_lookup hy))
  · exact Nat.le_of_lt (x.above y c (PySem.mem_of_lookup h))
  · have hi : i < vs.length := by
      unfold start at h2
      by_cases hi : i < vs.length
      · exact hi
      · rw [List.getElem?_append_right (by simpa using hi)] at h2
        rw [List.getElem?_replicate] at h2
        split at h2 <;> cases h2
    have ha : vs[i]? = some v := by
      unfold start at h2
      rw [List.getElem?_append_left (by simpa using hi), List.getElem?_map] at h2
      cases e : vs[i]? with
      | none => rw [e] at h2; cases h2
      | some a => rw [e] at h2; cases h2; rfl
    obtain ⟨u, hu, rv⟩ := r.get ha
    have hp : ps[i]? = some y := by
      rw [← S.pre, List.getElem?_take_of_lt (by omega)]; exact h1
    have ndP : ps.Nodup := by rw [← S.pre]; exact S.nd.sublist (List.take_sublist _ _)
    refine ⟨u, rv, ?_⟩
    rcases S.par y (List.mem_of_getElem? hp) with k | k
    · exact .inl ⟨k, bindL_get ndP hp hu k⟩
    · obtain ⟨c, e⟩ := cell_has (n := s.heap.objs.size + 1) k
      refine .inr ⟨.inl k, c, e, ?_⟩
      have q := x.cell y c e
      rw [bindC_get ndP hp hu (by show scope.names.lookup y ≠ _; rw [k]; decide)] at q
      exact q
  · exact e0.hok.fresh (Nat.le_of_lt (x.above y c (PySem.mem_of_lookup h)))
  · unfold start
    show _ = N.length
    rw [List.length_append, List.length_map, List.length_replicate]
    omega

/-- THE RULE: a def (or a method) of the text, by its body. The body's reading t is chosen for each entry; it is run at the parameters' values -/
theorem fn_of {CX : CXT} {P : Program} {w : World} {K : PySem.W.Frag} {mg : Str → Option Value} {base : Heap} {k : Nat} {f : Addr} {name qual : Str} {params : Arguments} {body : List Stmt} {scope : Scope} {dV kV doc pm cdv ct oc : Value} {an od : Option Addr}
    {osl : Array (Option Value)} {N ps : List Str} {sp : Sp} (lk : K.lookup f = some ⟨oc, od, .func (PySem.W.fnOf name qual params body scope dV kV doc pm an cdv ct), osl⟩) (hcd : PySem.W.codeIn K cdv qual = true) (S : FnScope N ps scope)
    (len : ∀ vs H Q E, sp vs H Q E → vs.length = ps.length)
    (hbody : ∀ (A : Around) (outer : List Env) (s : Shared) (H : Hp) (vs : List V) (Q : VK) (E : XK), Room k (A.deeper (envOfC qual scope s.heap.objs.size f cdv)) → sp vs H Q E →
      ∃ t, PSs (cxOf CX P w K mg base N qual scope f cdv A outer s H E) body t ∧ t { nx := fun _ H' => Q .non H', rt := Q } (start N vs) H) :
    FnOk P w K mg base CX (k + 1) f (PySem.W.fnOf name qual params body scope dV kV doc pm an cdv ct) ps sp := by
  refine ⟨len, fun A outer s H args us vs Q E hr e0 hb r hsp => ?_⟩
  have hl := len _ _ _ _ hsp
  have KX : K.In s.heap := e0.mod.kin.keeps fun b o e => (e0.bs b o e).1
  have lim : s.heap.NoLimit := e0.mod.nolimit.keeps fun b o e => (e0.bs b o e).1
  have hkind : ∀ y ∈ ps.zip us, scope.names.lookup y.1 = some .local ∨ (scope.names.lookup y.1 = some .cell ∧ ((cellsFrom (s.heap.objs.size + 1) scope.names []).lookup y.1).isSome = true) := fun ⟨n, v⟩ hy => by
    rcases S.par n (List.of_mem_zip hy).1 with q | q
    · exact .inl q
    · exact .inr ⟨q, PySem.W.cellsFrom_some _ _ _ (.inl q)⟩
  refine codeAny_call_function hr.depth (KX _ _ lk) rfl S.co S.gen rfl (PySem.W.codeRec_of KX hcd) (hb _ _ _ _ ?_)
  refine wpAny_newFunctionEnv_cells S.kind hkind fun env he s1 x => ?_
  subst he
  refine ⟨lim.keeps x.toInCall.keep, codeAny_func ?_⟩
  obtain ⟨t, ht, hq⟩ := hbody A outer s H vs Q E (hr.deeper _) hsp
  have I : Inv (cxOf CX P w K mg base N qual scope f cdv A outer s H E) [] (start N vs) H s1 := inv_start S hr.hd e0 hl r x
  refine wpAny_mono (ht [] s1 (start N vs) H _ I hq) (fun fl s' hs => ?_) fun e s' hs => hs
  have fin : ∀ {σ' : St} {H' : Hp} {v : V} {u : Value}, Inv (cxOf CX P w K mg base N qual scope f cdv A outer s H E) [] σ' H' s' → RelV v u → Q v H' → CE outer P w H s Q u s' :=
    fun {σ' H' v u} J rv q => ⟨v, H', J.os, J.bare, J.base, J.hok, rv, q⟩
  cases fl with
  | ret u =>
    obtain ⟨v, σ', H', J, rv, q⟩ := hs
    exact fin J rv q
  | next =>
    obtain ⟨σ', H', J, q⟩ := hs
    exact fin (v := V.non) (u := Value.none) J rfl q
  | brk =>
    obtain ⟨_, _, _, q⟩ := hs
    exact False.elim q
  | cont =>
    obtain ⟨_, _, _, q⟩ := hs
    exact False.elim q
end L2

namespace L2
open PySem PySem.Spec PyProof.Rows
section
variable {X : Cx} {x : Str} {p pos : Pos} {e : Expr} {es : List Expr} {t : TA} {id T : String} {r : List V → Hp → VK → Prop}

def tCB (r : List V → Hp → VK → Prop) (t : TA) : TE := fun σ H Q => t σ H fun vs H1 => r vs H1 Q
/-- f(e, ..), f a built-in function -/
theorem pe_callB (hc : CallR X (.builtin id) r) (hg : Gl X x) (hm : X.mg x = none) (hv : bootBuiltins x = some (.builtin id)) (ha : PA X (e :: es) t) (hn : x ≠ "__name__" := by decide) (hdb : (x == ("__debug__" : Str)) = false := by decide)
    (he : starEach (e :: es) X.env = (false, eval e X.env) :: starEach es X.env := by rfl) (hpl : (backTo pos (starEach es X.env)).any (·.1) = false := by rfl) : PE X (.Call (.Name x p) (e :: es) [] pos) (tCB r t) := by
  intro pins s σ H Q I h
  refine wpAny_Call_Name_kw (ld_blt I hg hm hv ?_ hn hdb)
  exact PyProof.Rows.callWith_builtin1 (thn (ha pos pins s σ H _ I h) fun us s1 ⟨vs, H1, I1, r1, q1⟩ => hc pins s1 σ H1 vs us Q I1 r1 q1) he hpl
/-- T(e, ..), T a built-in type -/
theorem pe_callTy (hc : CallR X (.type T) r) (hg : Gl X x) (hm : X.mg x = none) (hv : bootBuiltins x = some (.type T)) (ha : PA X (e :: es) t) (hn : x ≠ "__name__" := by decide) (hdb : (x == ("__debug__" : Str)) = false := by decide)
    (he : starEach (e :: es) X.env = (false, eval e X.env) :: starEach es X.env := by rfl) (hpl : (backTo pos (starEach es X.env)).any (·.1) = false := by rfl) : PE X (.Call (.Name x p) (e :: es) [] pos) (tCB r t) := by
  intro pins s σ H Q I h
  refine wpAny_Call_Name_kw (ld_blt I hg hm hv ?_ hn hdb)
  exact PyProof.Rows.callWith_type1 (thn (ha pos pins s σ H _ I h) fun us s1 ⟨vs, H1, I1, r1, q1⟩ => hc pins s1 σ H1 vs us Q I1 r1 q1) he hpl
end
end L2

namespace HT
open PySem PyProof.Rows

section
open PySem.SeqAt
open PySem.AutoSeq1 (wpAny_loadPart')
open PySem.MeetsSeq PySem.MeetsSeq2 PySem.MeetsSeq3

end

section
variable {prog : Program} {w : World} {A : Around} {E : Value → Shared → Prop} {s : Shared}

/-! ### t[a:b], not the whole -/
end
end HT

namespace L2
open PySem PySem.Spec PyProof.Rows

/-! ### the parts of a slice -/
section
variable {X : Cx} {e : Expr} {te : TE} {lo hi : Option Expr} {tl th : TO} {pos p2 : Pos}

/-! ### t < u, t + u -/
end
end L2

namespace L2
open PySem PySem.Spec PyProof.Rows

/-! ### places -/
/-- the place that an index of any sign means -/
def ixN (n : Nat) (i : Int) : Option Nat := if 0 ≤ i then (if i < n then some i.toNat else none) else if -(n : Int) ≤ i then some (i + n).toNat else none
def atI {α : Type} (xs : List α) (i : Int) : Option α := (ixN xs.length i).bind fun j => xs[j]?
theorem ixN_seq {n : Nat} {i : Int} {j : Nat} (h : ixN n i = some j) : seqIndex? i n = some j ∧ j < n ∧ -(n : Int) ≤ i ∧ i < n := by
  unfold ixN at h
  by_cases h0 : 0 ≤ i
  · rw [if_pos h0] at h
    by_cases h1 : i < n
    · rw [if_pos h1] at h
      have e : i.toNat = j := Option.some.inj h
      exact ⟨by rw [seqIndex_of h0 h1, e], by omega, by omega, h1⟩
    · rw [if_neg h1] at h; cases h
  · rw [if_neg h0] at h
    by_cases h1 : -(n : Int) ≤ i
    · rw [if_pos h1] at h
      have e : (i + n).toNat = j := Option.some.inj h
      exact ⟨by rw [seqIndex_neg (by omega) h1, e], by omega, h1, by omega⟩
    · rw [if_neg h1] at h; cases h
theorem atI_get {α : Type} {xs : List α} {i : Int} {v : α} (h : atI xs i = some v) : ∃ j, seqIndex? i xs.length = some j ∧ xs[j]? = some v ∧ j < xs.length ∧ -(xs.length : Int) ≤ i ∧ i < xs.length := by
  unfold atI at h
  cases e : ixN xs.length i with
  | none => rw [e] at h; cases h
  | some j =>
    rw [e] at h
    obtain ⟨h1, h2, h3, h4⟩ := ixN_seq e
    exact ⟨j, h1, h, h2, h3, h4⟩
theorem atI_nat {α : Type} {xs : List α} {j : Nat} {v : α} (h : xs[j]? = some v) : atI xs (j : Int) = some v := by
  have hj : j < xs.length := (List.getElem?_eq_some_iff.mp h).1
  have e : ixN xs.length (j : Int) = some j := by
    unfold ixN
    rw [if_pos (by omega), if_pos (by omega)]; simp
  unfold atI; rw [e]; exact h
/-! ### what may be subscripted -/
/-- what stands as an index of a plain subscript -/
def PlainIx (b : Expr) : Prop := ∀ o i, subscripted b false o i = operate [o, i] (getItem o i)
/-- a subscript by values -/
def IxR (X : Cx) (r : R2) : Prop :=
  ∀ (value slice : Expr) (pins : List (Addr × Obj)) (s : Shared) (σ : St) (H : Hp) (x y : V) (v u : Value) (Q : VK), Inv X pins σ H s → RelV x v → RelV y u → r x y H Q →
    subscripted slice false v u = operate [v, u] (getItem v u) → wpAny (model X.prog X.w) X.A (subscriptTail value slice v u) (EP X pins σ Q) X.xe s
/-- a call of a builtin's method by values: the receiver, the arguments -/
def MtR (X : Cx) (id : String) (r : V → List V → Hp → VK → Prop) : Prop :=
  ∀ (pins : List (Addr × Obj)) (s : Shared) (σ : St) (H : Hp) (x : V) (xs : List V) (v : Value) (us : List Value) (Q : VK), Inv X pins σ H s → RelV x v → Vals xs us → r x xs H Q →
    wpAny (model X.prog X.w) X.A (call (.builtin id) (v :: us)) (EP X pins σ Q) X.xe s
section
variable {X : Cx} {a b : Expr} {ta tb : TE} {pos : Pos}
/-- a[b] -/
theorem pe_ix {r : R2} (hr : IxR X r) (ha : PE X a ta) (hb : PE X b tb) (hs : PlainIx b) : PE X (.Subscript a b pos) (tOp r ta tb) := by
  intro pins s σ H Q I h
  exact Subscript_ (binT ha hb I h fun v u s2 x y H2 I2 rx ry q => hr a b pins s2 σ H2 x y v u Q I2 rx ry q (hs _ _))

def rIxL (K : PySem.W.Frag) : R2 := fun x y H Q => ∃ p xs i v, x = .ref p ∧ y = .int i ∧ SqL K H p xs ∧ atI xs i = some v ∧ Q v H
def rIxT (K : PySem.W.Frag) : R2 := fun x y H Q => ∃ p xs i v, x = .ref p ∧ y = .int i ∧ SqT K H p xs ∧ atI xs i = some v ∧ Q v H
theorem ix_list : IxR X (rIxL X.K) := by
  intro value slice pins s σ H x y v u Q I rx ry h hs
  obtain ⟨p, xs, i, z, rfl, rfl, hq, he, q⟩ := h
  cases rx
  obtain ⟨t, rfl⟩ := ry
  obtain ⟨its, r, pl, hz⟩ := I.list hq
  obtain ⟨j, h1, h2, h3, h4, h5⟩ := atI_get he
  obtain ⟨w, ew, rw'⟩ := r.get h2
  have hl := r.length
  have hn := line63
  have fin : EP X pins σ Q w s := ⟨z, H, I, rw', q⟩
  by_cases h0 : 0 ≤ i
  · have hj : i.toNat = j := by
      rw [seqIndex_of h0 h5] at h1
      exact Option.some.inj h1
    exact item_listR pl.isList h0 (by omega) (by rw [hj]; simpa using ew) fin hs
  · have hj : (i + (its.toArray.size : Int)).toNat = j := by
      rw [seqIndex_neg (by omega) h4] at h1
      rw [List.size_toArray, ← hl]
      exact Option.some.inj h1
    exact subscriptTail_builtinR (x := w) pl.isList.typeIs slot_list_getitem.lookup
      (wpAny_getItem_list_neg (Q := fun r s' => r = w ∧ EP X pins σ Q r s') pl.isList (by omega) (by rw [List.size_toArray] <;> omega) (by omega) (by rw [hj]; simpa using ew) ⟨rfl, fin⟩) hs
theorem ix_tup : IxR X (rIxT X.K) := by
  intro value slice pins s σ H x y v u Q I rx ry h hs
  obtain ⟨p, xs, i, z, rfl, rfl, hq, he, q⟩ := h
  cases rx
  obtain ⟨t, rfl⟩ := ry
  obtain ⟨its, r, pl, hz⟩ := I.tuple hq
  obtain ⟨j, h1, h2, h3, h4, h5⟩ := atI_get he
  obtain ⟨w, ew, rw'⟩ := r.get h2
  have hl := r.length
  have hn := line63
  have fin : EP X pins σ Q w s := ⟨z, H, I, rw', q⟩
  exact subscriptTail_builtinR (x := w) pl.typeIs slot_tuple_getitem.lookup
    (getItem_tuple (j := j) (Q := fun r s' => r = w ∧ EP X pins σ Q r s') pl (by omega) (by omega) (by rw [List.size_toArray, ← hl]; exact h1) (by simpa using ew) ⟨rfl, fin⟩) hs
/-! ### xs[i] = v, any sign -/
/-! ### slices -/
/-! ### in, not in: flat items -/
/-! ### len, list(x), tuple(x) of any list or tuple that is read -/
theorem call_len_seq : CallR X (.builtin "len") (fun xs H Q => ∃ p ys, xs = [.ref p] ∧ (SqL X.K H p ys ∨ SqT X.K H p ys) ∧ Q (.int ys.length) H) := by
  intro pins s σ H xs us Q I r h
  obtain ⟨p, ys, rfl, hq, q⟩ := h
  obtain ⟨u, rfl, rx⟩ := vals1 r
  cases rx
  have hn := line63
  rcases hq with hq | hq
  · obtain ⟨its, r', pl, hz⟩ := I.list hq
    have hlen := r'.length
    exact Calls.call_len_list pl.isList (by simp only [List.size_toArray] <;> omega) ⟨.int ys.length, H, I.tok _, ⟨s.toks + 1, by rw [List.size_toArray, hlen]⟩, q⟩
  · obtain ⟨its, r', pl, hz⟩ := I.tuple hq
    have hlen := r'.length
    exact len_tuple pl (by simp only [List.size_toArray] <;> omega) ⟨.int ys.length, H, I.tok _, ⟨s.toks + 1, by rw [List.size_toArray, hlen]⟩, q⟩
/-! ### the call of a builtin's method: o.m(..) -/
/-- the value is of that builtin type -/
def tyV (K : PySem.W.Frag) (T : String) (x : V) (H : Hp) : Prop := match x with
  | .str _ => T = "str"
  | .int _ => T = "int"
  | .ref p => (T = "list" ∧ ∃ xs, SqL K H p xs) ∨ (T = "tuple" ∧ ∃ o, K.lookup p = some o ∧ o.cls = .type "tuple" ∧ o.dict = none) ∨
      (T = "dict" ∧ ((∃ kvs, H p = some (.dK kvs)) ∨ ∃ kvs, H p = some (.dT kvs))) ∨ (T = "set" ∧ ∃ S n, H p = some (.set S n))
  | _ => False
theorem tyV_is {pins : List (Addr × Obj)} {σ : St} {H : Hp} {s : Shared} {T : String} {x : V} {v : Value} (I : Inv X pins σ H s) (r : RelV x v) (ty : tyV X.K T x H) :
    s.TypeIs v T ∧ ∀ a, v = .ref a → ∃ ob, s.heap.get? a = some ob ∧ ob.dict = none := by
  cases x with
  | str z =>
    obtain ⟨t, rfl⟩ := r
    cases (show T = "str" from ty)
    exact ⟨typeIs_str s z t, fun _ e => nomatch e⟩
  | int i =>
    obtain ⟨t, rfl⟩ := r
    cases (show T = "int" from ty)
    exact ⟨typeIs_int s i t, fun _ e => nomatch e⟩
  | ref p =>
    cases r
    rcases ty with ⟨rfl, xs, hq⟩ | ⟨rfl, o, hk, hc, hd⟩ | ⟨rfl, hk⟩ | ⟨rfl, S, n, hk⟩
    · obtain ⟨its, _, pl, _⟩ := I.list hq
      refine ⟨pl.isList.typeIs, fun a e => ?_⟩
      cases e
      obtain ⟨o, n, e, c, hd, _⟩ := pl
      exact ⟨o, e, hd⟩
    · refine ⟨⟨o, I.kIn p o hk, hc⟩, fun a e => ?_⟩
      cases e
      exact ⟨o, I.kIn _ o hk, hd⟩
    · have z : ∃ o, s.heap.get? p = some o ∧ o.ExactDict := by
        rcases hk with ⟨kvs, hk⟩ | ⟨kvs, hk⟩
        · obtain ⟨_, _, _, _, o, _, _, e, ex, _⟩ := I.hok p _ hk
          exact ⟨o, e, ex⟩
        · obtain ⟨_, _, _, _, o, _, _, e, ex, _⟩ := I.hok p _ hk
          exact ⟨o, e, ex⟩
      obtain ⟨o, e, ex⟩ := z
      refine ⟨⟨o, e, ex.1⟩, fun a e2 => ?_⟩
      cases e2
      exact ⟨o, e, ex.2.1⟩
    · obtain ⟨o, _, _, _, e, ex, _⟩ := I.hok p _ hk
      refine ⟨⟨o, e, ex.1⟩, fun a e2 => ?_⟩
      cases e2
      exact ⟨o, e, ex.2.1⟩
  | _ => exact False.elim ty
def tBM (K : PySem.W.Frag) (T : String) (r : V → List V → Hp → VK → Prop) (to : TE) (t : TA) : TE := fun σ H Q => to σ H fun x H1 => tyV K T x H1 ∧ t σ H1 fun xs H2 => r x xs H2 Q
variable {o e : Expr} {es : List Expr} {to : TE} {t : TA} {name : Str} {apos cpos : Pos} {T id : String} {r : V → List V → Hp → VK → Prop}
theorem pe_bm (pa : PlainAttrs T) (slot : Slot T name id) (hty : typeOf (.builtin id) = pure (.type "method_descriptor")) (hm : MtR X id r) (ho : PE X o to) (ha : PA X (e :: es) t)
    (hbase : attributeBase o name X.env (eval o X.env) = eval o X.env := by rfl)
    (hfew : ((backTo cpos (starEach (e :: es) X.env)).all (fun x => !x.1) && (backToKw cpos (keywordEach [] X.env)).all (fun x => x.1.isSome)
      && decide ((e :: es).length + ([] : List Keyword).length + (if ([] : List Keyword).isEmpty then 0 else 1) < 30)) = true := by rfl)
    (hline : (apos.endLine == cpos.line) = true := by rfl) (hs : starEach (e :: es) X.env = (false, eval e X.env) :: starEach es X.env := by rfl) (hplain : (backTo cpos (starEach es X.env)).any (·.1) = false := by rfl) :
    PE X (.Call (.Attribute o name apos) (e :: es) [] cpos) (tBM X.K T r to t) := by
  intro pins s σ H Q I h
  refine wpAny_Call_method_late hbase hfew hline rfl (thn (ho pins s σ H _ I h) fun v s1 ⟨x, H1, I1, r1, ty, q1⟩ => ?_)
  obtain ⟨h1, h2⟩ := tyV_is I1 r1 ty
  refine ⟨T, id, pa, slot, hty, h1, h2, ?_⟩
  have hA := ha cpos pins s1 σ H1 _ I1 q1
  rw [hs] at hA ⊢
  refine Calls.callWith_builtin (by show (false || (backTo cpos (starEach es X.env)).any (·.1)) = false; rw [hplain] <;> rfl) (Calls.evalArgs_plain ?_)
  exact thn hA fun us s2 ⟨vs, H2, I2, r2, q2⟩ => hm pins s2 σ H2 x vs v us Q I2 r1 r2 q2
/- xs.append(e), list.index on a module's tuple .. are MtR facts of 06m -/
end
end L2

namespace L2
open PySem PySem.Spec PyProof.Rows

def MtM (X : Cx) (id : String) (r : V → List V → Hp → VK → Prop) : Prop :=
  ∀ (pins : List (Addr × Obj)) (s : Shared) (σ : St) (H : Hp) (x : V) (xs : List V) (v : Value) (us : List Value) (Q : VK), Inv X pins σ H s → RelV x v → Vals xs us → r x xs H Q →
    wpAny (model X.prog X.w) X.A (call (.builtin id) (v :: us)) (EP X pins σ Q) X.xe s

/-! ### lists of values -/
theorem Vals.one : ∀ {x : V} {us : List Value}, Vals [x] us → ∃ u, us = [u] ∧ RelV x u
  | _, _, .cons r .nil => ⟨_, rfl, r⟩
theorem Vals.two : ∀ {x y : V} {us : List Value}, Vals [x, y] us → ∃ u v, us = [u, v] ∧ RelV x u ∧ RelV y v
  | _, _, _, .cons r (.cons q .nil) => ⟨_, _, rfl, r, q⟩
section
variable {X : Cx} {pins : List (Addr × Obj)} {σ : St} {H : Hp} {s : Shared} {l b : Addr} {xs ys zs : List V}

/-! ### the two steps: a tracked list is rewritten, a new list is laid -/
theorem Inv.lset {its its' : List Value} {n : Nat} {f : Array Value → Array Value} {t' : Nat} (I : Inv X pins σ H s) (hH : H l = some (.lst xs))
    (e : s.heap.get? l = some { cls := .type "list", data := .seq its.toArray n }) (hf : f its.toArray = its'.toArray) (hv : Vals ys its') (hz : ys.length ≤ sizeLine) :
    Inv X pins σ (upd H l (.lst ys)) { s with heap := s.heap.update l (Obj.mapSeq f), toks := t' } := by
  have q := PySem.IsL.update e f
  rw [hf] at q
  refine I.write (x := l) (e := l) (by rw [hH]; exact trivial) (.inl rfl) (fun b' u hb hu => (Heap.get?_update_other s.heap (Obj.mapSeq f) (Ne.symm hb)).trans hu) ⟨_, q⟩ ?_
  exact ⟨hz, its', _, hv, q⟩
theorem Inv.lnew {its : List Value} {t' : Nat} (I : Inv X pins σ H s) (hv : Vals ys its) (hz : ys.length ≤ sizeLine) :
    Inv X pins σ (upd H s.heap.objs.size (.lst ys)) { s with heap := s.heap.push { cls := .type "list", data := .seq its.toArray }, toks := t' } :=
  I.laid (fun _ _ q => Heap.get?_push_of_some _ q) (Nat.le_refl _) ⟨hz, its, 0, hv, Heap.get?_push_size _ rfl⟩
theorem Inv.fresh (I : Inv X pins σ H s) : H s.heap.objs.size = none := I.hok.fresh (Nat.le_refl _)
theorem Inv.lstM (I : Inv X pins σ H s) (hH : H l = some (.lst xs)) : xs.length ≤ sizeLine ∧ ∃ (its : List Value) (n : Nat), Vals xs its ∧ xs.length = its.length ∧ s.heap.get? l = some { cls := .type "list", data := .seq its.toArray n } := by
  obtain ⟨z, its, n, r, e⟩ := I.hok l _ hH
  exact ⟨z, its, n, r, r.length, e⟩

end

section
variable {X : Cx}

/-! ### methods -/
def rAppend : V → List V → Hp → VK → Prop := fun x vs H Q => ∃ l xs y, x = .ref l ∧ vs = [y] ∧ H l = some (.lst xs) ∧ xs.length < sizeLine ∧ Q .non (upd H l (.lst (xs ++ [y])))
theorem mt_append : MtM X "list.append" rAppend := by
  intro pins s σ H x vs v us Q I rx rv h
  obtain ⟨l, xs, y, rfl, rfl, hH, hz, q⟩ := h
  cases rx
  obtain ⟨u, rfl, ru⟩ := rv.one
  obtain ⟨z, its, n, r, hl, e⟩ := I.lstM hH
  refine call_meets F.slot_list_append ⟨_, e, rfl⟩ F.entry_list_append (F.args_list_append_2 _ _) (PySem.list_append l its.toArray n u (by rw [List.size_toArray]; omega)) ⟨e, ?_⟩
  refine ⟨.non, _, I.lset (its' := its ++ [u]) hH e (by simp) (r.append (.cons ru .nil)) ?_, rfl, q⟩
  rw [List.length_append, List.length_singleton]
  omega

/-! ### list + list, list += list, list * int -/
def rCat : R2 := fun x y H Q => ∃ l b xs zs, x = .ref l ∧ y = .ref b ∧ H l = some (.lst xs) ∧ H b = some (.lst zs) ∧ xs.length + zs.length ≤ sizeLine ∧ ∀ p, H p = none → Q (.ref p) (upd H p (.lst (xs ++ zs)))
theorem op_cat : OpR X (binaryOp .Add) rCat := by
  intro pins s σ H x y v u Q I rx ry h
  obtain ⟨l, b, xs, zs, rfl, rfl, hH, hB, hz, q⟩ := h
  cases rx
  cases ry
  obtain ⟨z, its, n, r, hl, e⟩ := I.lstM hH
  obtain ⟨z2, its2, n2, r2, hl2, e2⟩ := I.lstM hB
  refine PySem.P.add_list e e2 ?_ (by rw [List.size_toArray, List.size_toArray]; omega)
  have ea : its.toArray ++ its2.toArray = (its ++ its2).toArray := by simp
  rw [ea]
  exact ⟨.ref _, _, I.lnew (t' := s.toks) (r.append r2) (by rw [List.length_append]; omega), rfl, q _ I.fresh⟩
/-! ### del xs[i] -/
end

/-! ### xs[a:b] = ys -/
section
variable {prog : Program} {w : World} {A : Around} {E : Value → Shared → Prop} {s : Shared}
set_option maxRecDepth 100000 in
end

section
variable {X : Cx}
end
end L2

namespace Att
open PySem PySem.W PySem.Calls PyProof.Rows

/-! ### the script -/
theorem ints_of_wellAll {P : Params} {h : Heap} : ∀ (ns : List Int) (vs : List Value), WellAll P h vs (ns.map WData.int) → IntsAre vs ns := by
  intro ns
  induction ns with
  | nil =>
    intro vs w
    rw [List.map_nil] at w
    cases w
    exact .nil
  | cons n ns ih =>
    intro vs w
    rw [List.map_cons] at w
    cases w with
    | cons a b =>
      cases a
      exact .cons _ _ (ih _ b)

theorem script_of {l : OpenLaw} {n : Nat} (hn : l.most = some n) {P : Params} {h : Heap} {args : List WData} {vals : List Value}
    (hpre : l.row.toRowW.claim.pre args = true) (hwl : WellAll P h vals args) :
    ∃ a vs ns, vals = [Value.ref a] ∧ args = [WData.list (ns.map WData.int)] ∧ h.get? a = some { cls := .type "list", data := .seq vs.toArray } ∧ IntsAre vs ns ∧ ns.length ≤ n := by
  have hsh : WShape.hasAll [] args [.list .int] = true := (pre_splitW hpre).1
  have hc : l.pre.holds [] { args := args } = true := (pre_splitW hpre).2
  obtain ⟨d, r, rfl, h1, h2⟩ := hasAllW_cons hsh
  obtain rfl := hasAllW_nil h2
  obtain ⟨xs, rfl, h3⟩ := hasW_list h1
  obtain ⟨ns, rfl⟩ := items_int h3
  have hlen : ns.length ≤ n := by
    unfold OpenLaw.pre at hc
    have h4 : (WTm.not (.lt (.lit (.int (n : Int))) (.len (.arg 0)))).holds [] { args := [.list (ns.map .int)] } = true := by
      have h4 := (holds_andW hc).1
      rw [hn] at h4
      exact h4
    have h5 := condW_of h4 (w_not (w_lt w_lit (w_len_list (w_arg rfl))))
    rw [List.length_map] at h5
    refine Nat.le_of_not_lt fun q => ?_
    have q' : (n : Int) < ((ns.length : Nat) : Int) := by omega
    first
      | (rw [decide_eq_true q'] at h5; exact absurd h5 (by decide))
      | (simp at h5; omega)
  cases hwl with
  | cons w1 w2 =>
    cases w2
    cases w1 with
    | list ho hall => exact ⟨_, _, ns, rfl, rfl, ho, ints_of_wellAll ns _ hall, hlen⟩

theorem post_true (l : OpenLaw) (args : List WData) : l.row.toRowW.claim.post args (.bool true) args = true :=
  postW_of (r := l.row.toRowW) (X := (true == true))
    (show WShape.has [] (.bool true) .bool = true by first | rfl | decide | simp [WShape.has, WShape.arms, WShape.armsAll])
    (show (WTm.eq .res (.lit (.bool true))).value [] { args := args, res := some (.bool true), after := args } = some (.bool (true == true)) from w_eq_bool (w_res rfl) w_lit) rfl

/-! ### the attachment: holds_open's last premise (the goal 'hc' behind k_head) from a wpAny of the law's body -/
/-- the same from a codeAny of the CALL (for a layer whose function contracts speak of calls) -/
theorem attach_call {l : OpenLaw} {n : Nat} {q : Program} {loose : List Str} {XP : (Str → Option Value) → Heap → Prop} {YP : World → Heap → Prop} {d : DefRec}
    (hn : l.most = some n) (hdf : d.params.defaults = [])
    (call : ∀ (w : World) (s₀ s₁ : Shared) (mg mb : Str → Option Value) (fa : Addr) (o : Obj) (pm cd doc : Value) (a : Addr) (vs : List Value) (ns : List Int),
      Ground q loose [] XP w s₀ mg mb s₁.heap → YP w s₁.heap →
      s₁.heap.get? fa = some o → o.data = .func (docDef d.name d.params d.body d.scope pm cd doc) → s₁.heap.CodeRec cd d.name → mg d.name = some (.ref fa) →
      s₁.heap.get? a = some { cls := .type "list", data := .seq vs.toArray } → IntsAre vs ns → ns.length ≤ n → s₁.gens = #[] →
      codeAny (model l.prog w) callerA (.call (.ref fa) ⟨[.ref a], []⟩) (fun r s' => r = .ok (.ret (.bool true)) ∧ OldK s₁.heap s'.heap ∧ s'.os = s₁.os ∧ AllBare s'.gens) s₁) :
    WalkO q loose XP YP l.row.toRowW d [] (fun f vs => PySem.call f vs) := by
  intro w s₀ s₁ mg mb G Y fa o pm cd doc dV kV ho hd hcd hD hmg hg args vals as hpre hlay hrd hwl hlo
  obtain rfl : dV = .none := Dflts.none hD hdf
  obtain rfl : kV = .none := Dflts.noKw hD
  obtain ⟨a, vs, ns, rfl, rfl, hobj, hints, hlen⟩ := script_of hn hpre hwl
  refine enter_call (codeAny_mono (call w s₀ s₁ mg mb fa o pm cd doc a vs ns G Y ho (fd_plain hd) hcd hmg hobj hints hlen hg) fun r s' hq => ?_)
  obtain ⟨rfl, h2, h3, h4⟩ := hq
  exact ⟨.inl ⟨.bool true, .bool true, [], rfl, fun _ => rfl, .bool true, post_true l _, fun _ => ⟨List.Pairwise.nil, fun _ hm => (nomatch hm)⟩⟩, h2, h3, h4⟩

/-! ### rules over ANY heap (no ledger) from facts about the written part K: the library's own take a ledger (News) for what they write -/
section
variable {prog : Program} {w : World} {A : Around} {E : Value → Shared → Prop} {s : Shared} {K : Frag}

/-! the whole heap as the ledger: makes every rule that writes through a ledger a rule over any heap -/
end
end Att

namespace L2
open PySem PySem.Spec PyProof.Rows

theorem vals_ints : ∀ {vs : List Value} {ns : List Int}, IntsAre vs ns → Vals (ns.map V.int) vs
  | _, _, .nil => .nil
  | _, _, .cons n t h => .cons ⟨t, rfl⟩ (vals_ints h)

/-- nothing is tracked but the script, known to the object (or it is an object of the module) -/
def Only (H : Hp) : Prop := ∀ b, H b = none ∨ ∃ o xs, H b = some (.frz o (.lst xs))

/-- THE HEAD: the law's promise, at the heap behind the top. F, the promise of the law's def, may use that base is part of the heap (so K.In base, base.Ns mainGlobals mg stand in Mod) -/
theorem law_call {P : Program} {w : World} {K : PySem.W.Frag} {mg mb : Str → Option Value} {CX : CXT} {k : Nat} {fa a : Addr} {fd : FuncData} {x : Str} {sp : Sp} {s₁ : Shared} {vs : List Value} {ns : List Int}
    (KX : K.In s₁.heap) (hns : s₁.heap.Ns mainGlobals mg) (hb : s₁.heap.Ns builtinsNs mb) (hbb : ∀ x : Str, x ≠ "__name__" → mb x = bootBuiltins x) (hlim : s₁.heap.NoLimit) (hg : s₁.gens = #[])
    (ha : s₁.heap.get? a = some { cls := .type "list", data := .seq vs.toArray }) (hi : IntsAre vs ns) (hl : ns.length ≤ sizeLine) (hr : Room k callerA)
    (F : ∀ base : Heap, K.In base → base.Ns mainGlobals mg → FnOk P w K mg base CX k fa fd [x] sp) (hbind : ∀ (s : Shared) (u : Value), BindsTo s fd ⟨[u], []⟩ [(x, u)])
    (hsp : ∀ H : Hp, Only H → SqL K H a (ns.map V.int) → sp [.ref a] H (fun v _ => v = .bl true) fun _ _ _ => False)
    (hCX : ∀ H e s', CX [] H s₁ (fun _ _ _ => False) e s' → False) :
    codeAny (model P w) callerA (.call (.ref fa) ⟨[.ref a], []⟩) (fun r s' => r = .ok (.ret (.bool true)) ∧ OldK s₁.heap s'.heap ∧ s'.os = s₁.os ∧ AllBare s'.gens) s₁ := by
  have rv := vals_ints hi
  have lenV := hi.length
  -- from an abstract heap in which nothing but the script may be tracked
  have core : ∀ H : Hp, Only H → SqL K H a (ns.map V.int) → HOk P w H s₁.heap → (∀ b, H b ≠ none → b = a) → (H a ≠ none → K.lookup a = none) →
      codeAny (model P w) callerA (.call (.ref fa) ⟨[.ref a], []⟩) (fun r s' => r = .ok (.ret (.bool true)) ∧ OldK s₁.heap s'.heap ∧ s'.os = s₁.os ∧ AllBare s'.gens) s₁ := by
    intro H hO hS hok hA hK
    have base_of : ∀ {b : Addr} {o : Obj}, s₁.heap.get? b = some o → H b = none → (hidT s₁.heap H).get? b = some o := fun e n => hidT_get e n
    have noA : ∀ {b : Addr} {o : Obj} {es : Array DictEntry} {ep : Nat}, s₁.heap.get? b = some o → o.data = .dict es ep → H b = none := fun {b o es ep} e d => by
      cases q : H b with
      | none => rfl
      | some u =>
        have e' : b = a := hA b (by rw [q]; simp)
        subst e'
        rw [ha] at e; cases e
        have d' : Data.seq vs.toArray _ = Data.dict es ep := d
        cases d'
    have nsK : ∀ {b : Addr} {m : Str → Option Value}, s₁.heap.Ns b m → (hidT s₁.heap H).Ns b m := fun {b m} ⟨o, es, ep, e, d, r⟩ => ⟨o, es, ep, base_of e (noA e d), d, r⟩
    have hKb : K.In (hidT s₁.heap H) := fun b o e => base_of (KX b o e) (by
      cases q : H b with
      | none => rfl
      | some u =>
        have e' : b = a := hA b (by rw [q]; simp)
        subst e'
        rw [hK (by rw [q]; simp)] at e; cases e)
    have hM : Mod K mg (hidT s₁.heap H) := ⟨hKb, nsK hns, ⟨mb, nsK hb, hbb⟩, let ⟨mc, h1, h2⟩ := hlim; ⟨mc, nsK h1, h2⟩⟩
    have e0 : Env0 P w K mg (hidT s₁.heap H) callerA [] s₁ H := ⟨rfl, hM, fun b o e => of_hidT e, Nat.le_of_eq (hidT_size _ _), trivial, fun b hb => absurd (show b ∈ ([] : List Addr) from hb) (by simp), hok, .of_eq hg⟩
    refine codeAny_mono ((F _ hKb (nsK hns)).run callerA [] s₁ H ⟨[.ref a], []⟩ [.ref a] [.ref a] _ _ hr e0 (hbind s₁ (.ref a)) (.cons rfl .nil) (hsp H hO hS)) fun r s' h => ?_
    cases r with
    | error e => exact (hCX H e s' h).elim
    | ok fl =>
      cases fl with
      | next => exact False.elim h
      | brk => exact False.elim h
      | cont => exact False.elim h
      | ret u =>
        obtain ⟨v, H', os, bare, un, hok', r', q⟩ := h
        have q' : v = .bl true := q
        subst q'
        obtain rfl : u = Value.bool true := r'
        refine ⟨rfl, OldK.of_keep fun b o e => ?_, os, bare⟩
        cases q : H b with
        | none => exact un.keep b o e q (by intro z; exact absurd (show b ∈ ([] : List Addr) from z) (by simp)) (by simp)
        | some u =>
          rcases hO b with z | ⟨ob, xs, z⟩
          · rw [q] at z; cases z
          · have z2 := un.frzs b ob _ z
            obtain ⟨e1, _⟩ := hok b _ z
            obtain ⟨e2, _⟩ := hok' b _ z2
            rw [e] at e1; cases e1
            exact e2
  cases hk : K.lookup a with
  | some o =>
    -- the script is one of the module's own objects
    have e := KX a o hk
    rw [ha] at e
    cases e
    refine core (fun _ => none) (fun _ => .inl rfl) (.inr ⟨_, vs.toArray, _, hk, rfl, rfl, rfl, by rw [List.size_toArray, lenV]; exact hl, by simpa using rv⟩) (fun b u z => by have z' : (none : Option HO) = some u := z; cases z') (fun b z => absurd rfl z) fun z => absurd rfl z
  | none =>
    refine core (fun b => if b = a then some (.frz { cls := .type "list", data := .seq vs.toArray } (.lst (ns.map V.int))) else none) (fun b => ?_) (.inl (.inr ⟨{ cls := .type "list", data := .seq vs.toArray }, if_pos rfl⟩)) (fun b u z => ?_) (fun b z => ?_) fun _ => hk
    · by_cases hb : b = a
      · exact .inr ⟨_, _, if_pos hb⟩
      · exact .inl (if_neg hb)
    · by_cases hb : b = a
      · have z' := (if_pos hb).symm.trans z
        cases z'
        subst hb
        exact ⟨ha, by rw [List.length_map]; exact hl, vs, _, rv, ha⟩
      · have z' := (if_neg hb).symm.trans z
        cases z'
    · by_cases hb : b = a
      · exact hb
      · exact absurd (if_neg hb) z
end L2

namespace L2
open PySem PySem.Spec PyProof.Rows

/-- the goal that k_head leaves (case hc), from the law's promise. F gives the function object fd (K's own) once, then the promise over every base -/
theorem walk_of {l : PySem.W.OpenLaw} {n k : Nat} {q : Program} {loose : List Str} {XP : (Str → Option Value) → Heap → Prop} {YP : World → Heap → Prop} {d : DefRec} {K : Params → PySem.W.Frag} {CX : World → CXT} {sp : World → Sp} {x : Str}
    (hn : l.most = some n) (hn2 : n ≤ sizeLine) (hdf : d.params.defaults = []) (hr : Room k callerA)
    (hY : ∀ (w : World) (h : Heap), YP w h → (K w.params).In h)
    (F : ∀ (w : World) (mg : Str → Option Value) (fa : Addr) (h : Heap), (K w.params).In h → h.Ns mainGlobals mg → mg d.name = some (.ref fa) →
      ∃ fd : FuncData, (∀ (s : Shared) (u : Value), BindsTo s fd ⟨[u], []⟩ [(x, u)]) ∧
        ∀ base : Heap, (K w.params).In base → base.Ns mainGlobals mg → FnOk l.prog w (K w.params) mg base (CX w) k fa fd [x] (sp w))
    (hsp : ∀ (w : World) (H : Hp) (a : Addr) (ns : List Int), ns.length ≤ n → Only H → SqL (K w.params) H a (ns.map V.int) → sp w [.ref a] H (fun v _ => v = .bl true) fun _ _ _ => False)
    (hCX : ∀ (w : World) (H : Hp) (s : Shared) (e : Value) (s' : Shared), CX w [] H s (fun _ _ _ => False) e s' → False) :
    PySem.W.WalkO q loose XP YP l.row.toRowW d [] (fun f vs => PySem.call f vs) := by
  refine Att.attach_call hn hdf fun w s₀ s₁ mg mb fa o pm cd doc a vs ns G Y ho hd hcd hmg hobj hints hlen hg => ?_
  have KX := hY w _ Y
  obtain ⟨fd, hb, hF⟩ := F w mg fa _ KX G.T.g hmg
  exact law_call KX G.T.g G.T.b G.T.builtins G.T.nolimit hg hobj hints (Nat.le_trans hlen hn2) hr hF hb (fun H hO hS => hsp w H a ns hlen hO hS) fun H e s' => hCX w H s₁ e s'
end L2

/- THE LAST THEOREM (shape; LID, My.* are yours):
   My.Adr: a structure of the addresses that your layer names (classes, functions); My.Txt K t: a structure (Prop) of the equations over K;
   My.txt_mk : {K} {implicit addresses ..} (e1 : nsIn K mainGlobals "law" = some (some (.ref f))) (e2 : K.lookup f = some ⟨oc, od, .func (fnOf "law" "law" params body scope dV kV doc pm an cdv ct), sl⟩) (e3 : codeIn K cdv "law" = true) .. : ∃ t, My.Txt K t

set_option maxRecDepth 100000 in
set_option maxHeartbeats 0 in
theorem PySem.Challenge.cw_LID_holds : PySem.Challenge.rw_LID.Holds := by
  w_on; o_law; k_head; (case hw => w_witness2)
  k_fill
  refine L2.walk_of (l := PySem.Challenge.rw_LID) (n := 63) (k := 40) (x := "script") (CX := fun w => ..) (sp := fun _ => My.sp_law) rfl (by decide) rfl ⟨rfl, by decide, by decide⟩ (fun w h Y => PySem.W.kIn_of Y) ?F ?S ?C
  case F =>
    intro w mg fa h KX G hmg
    have T : ∃ t, My.Txt (L2.KOf KX) t := by
      dsimp only [L2.KOf]                          -- K must stand as «<heap const> w.params» for k_is
      refine' My.txt_mk ?e1 ?e2 ?e3 ..
      (case e1 => PySem.W.k_is)                    -- in the order: a name -> its address -> its object -> its parts
      (case e2 => PySem.W.k_is)
      ..
    obtain ⟨t, T⟩ := T
    have e0 := hmg.symm.trans (PySem.W.mg_of KX G T.law)
    cases e0                                       -- fa is the law's own address
    exact ⟨_, fun s u => .of_eq rfl, fun base kb nb => My.law_fn T kb nb⟩     -- if «.of_eq rfl» comes too early: refine' ⟨_, ?b, fun base kb nb => My.law_fn T kb nb⟩; exact fun s u => .of_eq rfl
  case S => exact fun w H a ns hl hO hS => ..
  case C => exact ..
(the tactic k_is has no namespace: write k_is) -/

/-! SHORT WORDS over the layer: a def of the text, its body, what a loop and a test want. -/
namespace L2
open PySem PySem.Spec PyProof.Rows

/-! ### the text by places -/
/-- the j-th statement of a class's body -/
def inClass (s : Stmt) (j : Nat) : Stmt := match s with
  | .ClassDef _ _ _ body _ _ _ _ _ _ _ => body.getD j (.Pass ⟨0, 0, 0, 0⟩)
  | _ => .Pass ⟨0, 0, 0, 0⟩
def defArgs (s : Stmt) : Arguments := match s with
  | .FunctionDef _ a _ _ _ _ _ _ _ _ => a
  | _ => { posonlyargs := [], args := [], vararg := none, kwonlyargs := [], kw_defaults := [], kwarg := none, defaults := [] }
def defBody (s : Stmt) : List Stmt := match s with
  | .FunctionDef _ _ b _ _ _ _ _ _ _ => b
  | _ => []
def defScope (s : Stmt) : Scope := match s with
  | .FunctionDef _ _ _ _ _ _ sc _ _ _ => sc
  | _ => { kind := .function, names := [], isGenerator := false, isCoroutine := false }

/-! ### no exception leaves a def -/
abbrev CX0 : CXT := fun _ _ _ _ _ _ => False
abbrev E0 : XK := fun _ _ _ => False
theorem pass0 {X : Cx} : Passes CX0 X E0 := fun _ _ _ _ _ _ _ h => h.elim

/-! ### a def (or method) of the text as it stands behind the top -/
structure Fun (K : PySem.W.Frag) (x qual : Str) (st : Stmt) (f : Addr) (fd : FuncData) : Prop where
  ex : ∃ (oc : Value) (od : Option Addr) (kV doc pm : Value) (an : Option Addr) (cdv ct : Value) (osl : Array (Option Value)),
    fd = PySem.W.fnOf x qual (defArgs st) (defBody st) (defScope st) .none kV doc pm an cdv ct ∧ K.lookup f = some ⟨oc, od, .func fd, osl⟩ ∧ PySem.W.codeIn K cdv qual = true
  kp : PySem.W.keepIn K (.ref f) = true
section
variable {P : Program} {w : World} {K : PySem.W.Frag} {mg : Str → Option Value} {base : Heap}
/-- THE RULE for a def: its body as a term of rules, and the reading of that term -/
theorem Fun.ok {x qual : Str} {st : Stmt} {f : Addr} {fd : FuncData} {N ps : List Str} {k : Nat} {sp : Sp} (F : Fun K x qual st f fd) (S : FnScope N ps (defScope st)) (len : ∀ vs H Q E, sp vs H Q E → vs.length = ps.length)
    (hbody : ∀ (cdv : Value) (A : Around) (outer : List Env) (s : Shared) (H : Hp) (vs : List V) (Q : VK) (E : XK), Room k (A.deeper (envOfC qual (defScope st) s.heap.objs.size f cdv)) → sp vs H Q E →
      ∃ t, PSs (cxOf CX0 P w K mg base N qual (defScope st) f cdv A outer s H E).nox (defBody st) t ∧ t { nx := fun _ H' => Q .non H', rt := Q } (start N vs) H) : FnOk P w K mg base CX0 (k + 1) f fd ps sp := by
  obtain ⟨oc, od, kV, doc, pm, an, cdv, ct, osl, rfl, lk, hcd⟩ := F.ex
  refine fn_of lk hcd S len fun A outer s H vs Q E hr hsp => ?_
  obtain ⟨t, h, q⟩ := hbody cdv A outer s H vs Q E hr hsp
  exact ⟨t, h.nox, q⟩
/-- how its arguments bind (no defaults): h is «fun _ _ _ _ _ _ us hl => match us, hl with | [_, _], _ => rfl», one _ a parameter -/
theorem Fun.binds {x qual : Str} {st : Stmt} {f : Addr} {fd : FuncData} {ps : List Str} (F : Fun K x qual st f fd)
    (h : ∀ (kV doc pm : Value) (an : Option Addr) (cdv ct : Value) (us : List Value), us.length = ps.length → bindArgs (PySem.W.fnOf x qual (defArgs st) (defBody st) (defScope st) .none kV doc pm an cdv ct) ⟨us, []⟩ = pure (ps.zip us)) : Binds K fd ps [] := by
  obtain ⟨oc, od, kV, doc, pm, an, cdv, ct, osl, rfl, lk, hcd⟩ := F.ex
  exact .all (h kV doc pm an cdv ct)
theorem fun_mk {x qual : Str} {st : Stmt} {f : Addr} {oc : Value} {od an : Option Addr} {osl : Array (Option Value)} {kV doc pm cdv ct : Value} (l : K.lookup f = some ⟨oc, od, .func (PySem.W.fnOf x qual (defArgs st) (defBody st) (defScope st) .none kV doc pm an cdv ct), osl⟩)
    (c : PySem.W.codeIn K cdv qual = true) (k : PySem.W.keepIn K (.ref f) = true) : Fun K x qual st f (PySem.W.fnOf x qual (defArgs st) (defBody st) (defScope st) .none kV doc pm an cdv ct) := ⟨⟨oc, od, kV, doc, pm, an, cdv, ct, osl, rfl, l, c⟩, k⟩
end
theorem hu_of {A : Around} {k : Nat} (hr : Room k A) : A.units + 1 < cLine := Nat.lt_of_le_of_lt (Nat.add_le_add_left (by decide : 1 ≤ 64) _) hr.units
theorem small1000 {n : Nat} (h : n ≤ 1000) : n < sizeLine := Nat.lt_of_le_of_lt h (by decide)

/-! ### expressions in short: the name that stands in the i-th slot -/
section
variable {X : Cx}
theorem pv (i : Nat) {x : Str} {pos : Pos} (hN : X.N[i]? = some x := by rfl) (hv : Vis X.env.scope x := by first | exact Or.inl rfl | exact Or.inr (Or.inl rfl) | exact Or.inr (Or.inr rfl)) (hd : (x == ("__debug__" : Str)) = false := by decide)
    (hcd : (x == ("__classdict__" : Str)) = false := by decide) : PE X (.Name x pos) (tVar i) := pe_var hN hv hd hcd
end

/-! ### tests -/
theorem iteF {A B : Prop} (h : B) : if false = true then A else B := by
  rw [if_neg Bool.false_ne_true]
  exact h
theorem iteT {A B : Prop} (h : A) : if true = true then A else B := by
  rw [if_pos rfl]
  exact h
theorem ite2 {c A B : Prop} [Decidable c] (h1 : c → A) (h2 : ¬ c → B) : if c then A else B := by
  by_cases h : c
  · rw [if_pos h]
    exact h1 h
  · rw [if_neg h]
    exact h2 h
theorem iteNS {c A B : Prop} [Decidable c] (hc : c) (h : B) : if (!decide c) = true then A else B := by
  rw [decide_eq_true hc]
  exact iteF h

/-! ### heaps -/
/-- all that was tracked is as it was -/
def Same (H H' : Hp) : Prop := ∀ b o, H b = some o → H' b = some o
theorem Same.refl (H : Hp) : Same H H := fun _ _ h => h
theorem Same.trans {H H1 H2 : Hp} (a : Same H H1) (b : Same H1 H2) : Same H H2 := fun c o h => b c o (a c o h)
theorem Same.free {H H' : Hp} (e : Same H H') {l : Addr} (h : H' l = Option.none) : H l = Option.none := by
  cases q : H l with
  | none => rfl
  | some o =>
    rw [e l o q] at h
    cases h
theorem Same.seq {K : PySem.W.Frag} {H H' : Hp} {a : Addr} {xs : List V} (e : Same H H') (h : SqL K H a xs) : SqL K H' a xs := by
  rcases h with (h | ⟨o, h⟩) | h
  · exact .inl (.inl (e _ _ h))
  · exact .inl (.inr ⟨o, e _ _ h⟩)
  · exact .inr h

end L2

set_option maxRecDepth 100000
namespace FrM
/-- below 2 ^ n in size -/
def Sz (n : Nat) (a : Int) : Prop := a.natAbs < 2 ^ n
theorem Sz.mono {m n : Nat} {a : Int} (h : Sz m a) (hmn : m ≤ n) : Sz n a := Nat.lt_of_lt_of_le h (Nat.pow_le_pow_right (by decide) hmn)
theorem Sz.mul {m n : Nat} {a b : Int} (ha : Sz m a) (hb : Sz n b) : Sz (m + n) (a * b) := by
  unfold Sz at *
  rw [Int.natAbs_mul, Nat.pow_add]
  exact Nat.mul_lt_mul'' ha hb
theorem Sz.add {m : Nat} {a b : Int} (ha : Sz m a) (hb : Sz m b) : Sz (m + 1) (a + b) := by
  unfold Sz at *
  have := Int.natAbs_add_le a b
  rw [Nat.pow_succ]; omega
theorem Sz.neg {m : Nat} {a : Int} (ha : Sz m a) : Sz m (-a) := by
  unfold Sz at *; rw [Int.natAbs_neg]; exact ha
theorem Sz.pow {m : Nat} {a : Int} (ha : Sz m a) : ∀ n : Nat, Sz (m * n + 1) (a ^ n)
  | 0 => by unfold Sz; simp
  | n + 1 => by
    have h := (Sz.pow ha n).mul ha
    rw [Int.pow_succ]
    exact h.mono (by rw [Nat.mul_succ]; omega)
theorem Sz.div {m : Nat} {a g : Int} (ha : Sz m a) (_hg : 0 < g) : Sz m (a / g) := by
  unfold Sz at *
  refine Nat.lt_of_le_of_lt ?_ ha
  exact Int.natAbs_ediv_le_natAbs a g
theorem gcd_step (a b : Int) (_hb : 0 < b) : Int.gcd b (a % b) = Int.gcd a b := by
  rw [Int.gcd_comm, Int.emod_def, Int.gcd_sub_mul_left_left]
theorem gcd_zero (g : Int) (h : 0 ≤ g) : ((Int.gcd g 0 : Nat) : Int) = g := by
  rw [Int.gcd_zero_right]; omega
theorem gcd_pos (a : Int) {b : Int} (hb : 0 < b) : 0 < ((Int.gcd a b : Nat) : Int) := by
  have := Int.gcd_pos_of_ne_zero_right a (b := b) (by omega)
  omega
/-- what fraction tells -/
def fa (a b : Int) : Int := a / ((Int.gcd a b : Nat) : Int)
def fb (a b : Int) : Int := b / ((Int.gcd a b : Nat) : Int)
theorem fa_mul (a b : Int) : fa a b * ((Int.gcd a b : Nat) : Int) = a := Int.ediv_mul_cancel (Int.gcd_dvd_left a b)
theorem fb_mul (a b : Int) : fb a b * ((Int.gcd a b : Nat) : Int) = b := Int.ediv_mul_cancel (Int.gcd_dvd_right a b)
theorem fb_pos (a : Int) {b : Int} (hb : 0 < b) : 0 < fb a b := by
  have h1 := fb_mul a b
  have h2 := gcd_pos a hb
  rcases Int.lt_trichotomy (fb a b) 0 with h | h | h
  · have := Int.mul_neg_of_neg_of_pos h h2; omega
  · rw [h, Int.zero_mul] at h1; omega
  · exact h
theorem f_across (a b : Int) : fa a b * b = a * fb a b := by
  have h1 := fa_mul a b
  have h2 := fb_mul a b
  calc fa a b * b = fa a b * (fb a b * ((Int.gcd a b : Nat) : Int)) := by rw [h2]
    _ = (fa a b * ((Int.gcd a b : Nat) : Int)) * fb a b := by rw [Int.mul_assoc, Int.mul_comm (fb a b)]
    _ = a * fb a b := by rw [h1]
theorem f_gcd (a : Int) {b : Int} (hb : 0 < b) : Int.gcd (fa a b) (fb a b) = 1 := by
  unfold fa fb
  exact Int.gcd_ediv_gcd_ediv_gcd (by have := gcd_pos a hb; omega)
theorem fa_one (a : Int) : fa a 1 = a := by unfold fa; rw [Int.gcd_one_right]; simp
theorem fb_one (a : Int) : fb a 1 = 1 := by unfold fb; rw [Int.gcd_one_right]; simp
theorem fa_sz {n : Nat} {a b : Int} (h : Sz n a) (hb : 0 < b) : Sz n (fa a b) := h.div (gcd_pos a hb)
theorem fb_sz {n : Nat} {a b : Int} (h : Sz n b) (hb : 0 < b) : Sz n (fb a b) := h.div (gcd_pos a hb)
theorem gcd_abs (a b : Int) : Int.gcd (if a < 0 then -a else a) b = Int.gcd a b := by
  split <;> simp [Int.gcd]
theorem gcd_two (a b : Int) (h : Int.gcd a b = 1) : Int.gcd (2 * a) (2 * b) = 2 := by
  rw [Int.gcd_mul_left, h]; rfl
theorem gcd_neg2 (a b : Int) : Int.gcd (-b) (-a) = Int.gcd a b := by
  rw [Int.gcd_comm]; simp [Int.gcd]
theorem gcd_pow {a b : Int} (h : Int.gcd a b = 1) (n : Nat) : Int.gcd (a ^ n) (b ^ n) = 1 := by
  unfold Int.gcd at *
  rw [Int.natAbs_pow, Int.natAbs_pow]
  exact Nat.Coprime.pow n n h
theorem pow_pos' {b : Int} (h : 0 < b) : ∀ n : Nat, 0 < b ^ n
  | 0 => by simp
  | n + 1 => by rw [Int.pow_succ]; exact Int.mul_pos (pow_pos' h n) h
theorem neg_across (a b : Int) (n : Nat) : (-b) ^ n * a ^ n = b ^ n * (-a) ^ n := by
  rw [← Int.mul_pow, ← Int.mul_pow]
  congr 1
  rw [Int.neg_mul, Int.mul_neg]
/-- the going on of a power by squares: product = base ^ i, square = base ^ j, i + j * left = e -/
structure PowI (base : Int) (e : Nat) (product square left : Int) : Prop where
  nn : 0 ≤ left
  ex : ∃ i j : Nat, product = base ^ i ∧ square = base ^ j ∧ i + j * left.toNat = e
theorem PowI.start (base : Int) {e : Int} (h : 0 ≤ e) : PowI base e.toNat 1 base e := ⟨h, 0, 1, by rw [Int.pow_zero], by rw [Int.pow_succ, Int.pow_zero, Int.one_mul], by omega⟩
theorem PowI.done {base product square : Int} {e : Nat} (h : PowI base e product square 0) : product = base ^ e := by
  obtain ⟨_, i, j, h1, h2, h3⟩ := h
  have : i = e := by simpa using h3
  rw [h1, this]
theorem PowI.sz {base product square left : Int} {e m : Nat} (h : PowI base e product square left) (hl : 0 < left) (hb : Sz m base) : Sz (m * e + 1) product ∧ Sz (m * e + 1) square := by
  obtain ⟨_, i, j, h1, h2, h3⟩ := h
  have hn : 1 ≤ left.toNat := by omega
  have hi : i ≤ e := by omega
  have hj : j ≤ e := by
    have : j * 1 ≤ j * left.toNat := Nat.mul_le_mul_left j hn
    omega
  subst h1 h2
  exact ⟨(hb.pow i).mono (by have := Nat.mul_le_mul_left m hi; omega), (hb.pow j).mono (by have := Nat.mul_le_mul_left m hj; omega)⟩
theorem PowI.odd_last {base product square left : Int} {e : Nat} (h : PowI base e product square left) (ho : left % 2 = 1) (hz : ¬ 0 < left / 2) : PowI base e (product * square) square (left / 2) := by
  obtain ⟨nn, i, j, h1, h2, h3⟩ := h
  have e1 : left = 1 := by omega
  subst e1
  refine ⟨by decide, i + j, j, by rw [h1, h2, ← Int.pow_add], h2, ?_⟩
  simp at h3 ⊢; omega
theorem PowI.odd {base product square left : Int} {e : Nat} (h : PowI base e product square left) (ho : left % 2 = 1) : PowI base e (product * square) (square * square) (left / 2) := by
  obtain ⟨nn, i, j, h1, h2, h3⟩ := h
  obtain ⟨m, hm⟩ : ∃ m : Nat, left = 2 * m + 1 := ⟨(left / 2).toNat, by omega⟩
  have hd : left / 2 = m := by omega
  refine ⟨by omega, i + j, j + j, by rw [h1, h2, ← Int.pow_add], by rw [h2, ← Int.pow_add], ?_⟩
  have ht : left.toNat = 2 * m + 1 := by omega
  rw [ht] at h3
  rw [hd]
  simp only [Int.toNat_natCast]
  rw [← h3, Nat.add_mul, Nat.mul_add, Nat.mul_one, Nat.two_mul, Nat.mul_add]; omega
theorem PowI.even {base product square left : Int} {e : Nat} (h : PowI base e product square left) (ho : ¬ left % 2 = 1) : PowI base e product (square * square) (left / 2) := by
  obtain ⟨nn, i, j, h1, h2, h3⟩ := h
  obtain ⟨m, hm⟩ : ∃ m : Nat, left = 2 * m := ⟨(left / 2).toNat, by omega⟩
  have hd : left / 2 = m := by omega
  refine ⟨by omega, i, j + j, h1, by rw [h2, ← Int.pow_add], ?_⟩
  have ht : left.toNat = 2 * m := by omega
  rw [ht] at h3
  rw [hd]
  simp only [Int.toNat_natCast]
  rw [← h3, Nat.add_mul, Nat.two_mul, Nat.mul_add]
theorem PowI.even_last {base product square left : Int} {e : Nat} (h : PowI base e product square left) (hl : 0 < left) (ho : ¬ left % 2 = 1) : 0 < left / 2 := by
  have := h.nn; omega
end FrM

set_option Elab.async false
set_option linter.all false
set_option maxRecDepth 100000
set_option maxHeartbeats 4000000
/-! Exceptions over the hand layer: raised, passing, caught. -/
namespace L2
open PySem PySem.Spec PyProof.Rows

theorem ObjOk.there {P : Program} {w : World} {H : Hp} {h : Heap} {a : Addr} {o : HO} (x : ObjOk P w H h a o) : ∃ u, h.get? a = some u := by
  cases o with
  | lst xs => obtain ⟨_, _, _, _, e⟩ := x; exact ⟨_, e⟩
  | tup xs => obtain ⟨_, _, _, _, e, _⟩ := x; exact ⟨_, e⟩
  | dK kvs => obtain ⟨_, _, _, _, _, _, _, e, _⟩ := x; exact ⟨_, e⟩
  | dT kvs => obtain ⟨_, _, _, _, _, _, _, e, _⟩ := x; exact ⟨_, e⟩
  | set S n => obtain ⟨_, _, _, _, e, _⟩ := x; exact ⟨_, e⟩
  | ins C dx fs => obtain ⟨_, _, _, e, _⟩ := x; exact ⟨_, e⟩
  | own y => obtain ⟨_, e⟩ := x; exact ⟨_, e⟩
  | xd fs => obtain ⟨_, ⟨_, _, _, e, _⟩, _⟩ := x; exact ⟨_, e⟩
  | rng lo hi => obtain ⟨_, _, _, e⟩ := x; exact ⟨_, e⟩
  | frz ob u => obtain ⟨e, _⟩ := x; exact ⟨_, e⟩
  | tbl ps => exact ⟨_, (show h.get? a = some _ from x)⟩
  | met f y => exact ⟨_, (show h.get? a = some _ from x)⟩
  | ext φ => obtain ⟨_, ⟨_, e⟩, _⟩ := x; exact ⟨_, e⟩
theorem HOk.untracked {P : Program} {w : World} {H : Hp} {h : Heap} {a : Addr} (x : HOk P w H h) (e : h.get? a = none) : H a = none := by
  cases q : H a with
  | none => rfl
  | some o =>
    obtain ⟨u, z⟩ := (x a o q).there
    rw [e] at z
    cases z

/-- what stands through an exception's flight: B is the part of the heap that the flight never touches -/
structure FlyU (fs : List Addr) (H H' : Hp) (h B h' : Heap) : Prop where
  keep : ∀ b o, h.get? b = some o → H b = none → b ∉ fs → B.get? b = some o
  slot : ∀ b o, h.get? b = some o → H b = none → b ∈ fs → ∃ sl, h'.get? b = some { o with slots := sl }
  inB : ∀ b o, h.get? b = some o → b ∉ fs → ∃ o', B.get? b = some o'
  free : ∀ b o, h.get? b = some o → H b = none → H' b = none
  tups : ∀ b xs, H b = some (.tup xs) → H' b = some (.tup xs)
  frzs : ∀ b o u, H b = some (.frz o u) → H' b = some (.frz o u)
  tbls : ∀ b ps, H b = some (.tbl ps) → ∃ more, H' b = some (.tbl (ps ++ more))
theorem FlyU.un {fs : List Addr} {H H' : Hp} {h B h' : Heap} (U : FlyU fs H H' h B h') (st : B.StaysIn h') (hf : ∀ b ∈ fs, H b = none) : Un fs [] H H' h h' where
  keep := fun b o e n hb _ => st b o (U.keep b o e n hb)
  slot := fun b o e n hb _ => U.slot b o e n hb
  free := fun b o e n _ => U.free b o e n
  there := fun b o e _ => by
    by_cases hb : b ∈ fs
    · obtain ⟨sl, q⟩ := U.slot b o e (hf b hb) hb
      exact ⟨_, q⟩
    · obtain ⟨o', q⟩ := U.inB b o e hb
      exact ⟨o', st b o' q⟩
  tups := U.tups
  frzs := U.frzs
  tbls := U.tbls
theorem FlyU.land {l : List Env} {H H' : Hp} {h B h1 h2 : Heap} (U : FlyU (frs l) H H' h B h1) (ff : h1.FunFrames B l) (up : h1.UpToSlots h2) : FlyU (frs l) H H' h B h2 :=
  ⟨U.keep, fun b o e n hb => by
    obtain ⟨sl, q⟩ := U.slot b o e n hb
    obtain ⟨_, o', e', hd⟩ := ff.mem hb
    rw [q] at e'
    cases e'
    obtain ⟨sl3, z3⟩ := up b _ q hd
    exact ⟨sl3, z3⟩, U.inB, U.free, U.tups, U.frzs, U.tbls⟩

/-- an exception behind a call -/
def Fly (P : Program) (w : World) : CXT := fun outer H s E e s' =>
  ∃ (ea : Addr) (cls a0 : Value) (H' : Hp) (B : Heap), e = .ref ea ∧ s'.os = s.os ∧ AllBare s'.gens ∧ Heap.FlyingW B outer ea cls a0 s'.heap ∧ HOk P w H' B ∧ FlyU (frs outer) H H' s.heap B s'.heap ∧ E cls none H'

/-- an exception of a callee, of a raise: what the body wants, by the names' values where it comes -/
def PassesS (CX : CXT) (X : Cx) (E : St → XK) : Prop := ∀ (pins : List (Addr × Obj)) (σ : St) (H : Hp) (s : Shared) (e : Value) (s' : Shared), Inv X pins σ H s → CX X.stack H s (E σ) e s' → X.xe e s'
def RaisesS (X : Cx) (E : St → XK) : Prop := ∀ (pins : List (Addr × Obj)) (σ : St) (H : Hp) (s : Shared) (h1 : Heap) (ea : Addr) (cls : Value) (args : List Value), Inv X pins σ H s → Heap.MadeExcOf s.heap h1 ea cls args → E σ cls none H → X.xe (.ref ea) { s with heap := h1 }

section
variable {P : Program} {w : World} {K : PySem.W.Frag} {mg : Str → Option Value} {base : Heap} {N : List Str} {qual : Str} {scope : Scope} {f : Addr} {cd : Value} {A : Around} {outer : List Env} {s₀ : Shared} {H₀ : Hp} {E : XK}
theorem frs_cons {env : Env} {l : List Env} {b : Addr} (h : b ∈ frs l) : b ∈ frs (env :: l) := by
  obtain ⟨e, he, q⟩ := List.mem_filterMap.mp h
  exact List.mem_filterMap.mpr ⟨e, .tail _ he, q⟩
theorem pass_fly : PassesS (Fly P w) (cxOf (Fly P w) P w K mg base N qual scope f cd A outer s₀ H₀ E) (fun _ => E) := by
  intro pins σ H s e s' I h
  obtain ⟨ea, cls, a0, H', B, he, hos, hb, hfl, hok, U, q⟩ := h
  subst he
  show wpAny (model P w) (A.deeper (envOfC qual scope s₀.heap.objs.size f cd)) (leaving (envOfC qual scope s₀.heap.objs.size f cd) (.ref ea)) (fun _ s'' => Fly P w outer H₀ s₀ E (.ref ea) s'') (fun e' s'' => Fly P w outer H₀ s₀ E e' s'') s'
  have hfr : (A.deeper (envOfC qual scope s₀.heap.objs.size f cd)).frames = some (envOfC qual scope s₀.heap.objs.size f cd :: outer) := I.ok.frames
  have nx : ∀ b : Addr, b ∉ ([] : List Addr) := fun b => by simp
  have nst : ∀ b o, s₀.heap.get? b = some o → b ∉ frs outer → b ∉ frs (envOfC qual scope s₀.heap.objs.size f cd :: outer) := fun b o e hb z => by
    rcases List.mem_cons.mp (I.stkSub b z) with y | y
    · exact Nat.ne_of_lt (Nat.lt_of_lt_of_le (Heap.lt_size e) I.ok.above) y
    · exact hb y
  refine wpAny_leaves_onW hfr rfl hfl fun h' x1 x2 => ?_
  refine ⟨ea, cls, a0, H', B, rfl, hos.trans I.os, hb, x1, hok, ⟨fun b o e n hb => ?_, fun b o e n hb => ?_, fun b o e hb => ?_, fun b o e n => ?_, fun b xs e => U.tups b xs (I.base.tups b xs e), fun b o u e => U.frzs b o u (I.base.frzs b o u e), fun b ps e => ?_⟩, q⟩
  · exact U.keep b o (I.base.keep b o e n hb (nx b)) (I.base.free b o e n (nx b)) (nst b o e hb)
  · obtain ⟨sl, e1⟩ := I.base.slot b o e n hb (nx b)
    obtain ⟨sl2, e2⟩ := U.slot b _ e1 (I.base.free b o e n (nx b)) (frs_cons hb)
    obtain ⟨_, o', e3, hd⟩ := hfl.2.2.1.mem (frs_cons hb)
    rw [e2] at e3
    cases e3
    obtain ⟨sl3, z3⟩ := x2 b _ e2 hd
    exact ⟨sl3, z3⟩
  · obtain ⟨o1, e1⟩ := I.base.there b o e (nx b)
    exact U.inB b o1 e1 (nst b o e hb)
  · obtain ⟨o1, e1⟩ := I.base.there b o e (nx b)
    exact U.free b o1 e1 (I.base.free b o e n (nx b))
  · obtain ⟨m1, e1⟩ := I.base.tbls b ps e
    obtain ⟨m2, e2⟩ := U.tbls b _ e1
    exact ⟨m1 ++ m2, by rw [e2, Array.append_assoc]⟩
theorem raises_fly : RaisesS (cxOf (Fly P w) P w K mg base N qual scope f cd A outer s₀ H₀ E) (fun _ => E) := by
  intro pins σ H s h1 ea cls args I hx q
  show wpAny (model P w) (A.deeper (envOfC qual scope s₀.heap.objs.size f cd)) (leaving (envOfC qual scope s₀.heap.objs.size f cd) (.ref ea)) (fun _ s'' => Fly P w outer H₀ s₀ E (.ref ea) s'') (fun e' s'' => Fly P w outer H₀ s₀ E e' s'') { s with heap := h1 }
  have hfr : (A.deeper (envOfC qual scope s₀.heap.objs.size f cd)).frames = some (envOfC qual scope s₀.heap.objs.size f cd :: outer) := I.ok.frames
  have nx : ∀ b : Addr, b ∉ ([] : List Addr) := fun b => by simp
  have nst : ∀ b o, s₀.heap.get? b = some o → b ∉ frs outer → b ∉ frs (envOfC qual scope s₀.heap.objs.size f cd :: outer) := fun b o e hb z => by
    rcases List.mem_cons.mp (I.stkSub b z) with y | y
    · exact Nat.ne_of_lt (Nat.lt_of_lt_of_le (Heap.lt_size e) I.ok.above) y
    · exact hb y
  have ff : s.heap.FunFrames base (envOfC qual scope s₀.heap.objs.size f cd :: outer) := I.stack
  have hin : ∀ env ∈ (envOfC qual scope s₀.heap.objs.size f cd :: outer), ∀ b, env.frame = some b → b ∈ frs (envOfC qual scope s₀.heap.objs.size f cd :: outer) := fun env he b hb => List.mem_filterMap.mpr ⟨env, he, hb⟩
  have hokB : HOk P w H (PySem.W.hideAll s.heap (frs (envOfC qual scope s₀.heap.objs.size f cd :: outer))) := fun a o e => (I.hok a o e).stay (fun b u hb e1 => PySem.W.hideAll_get _ e1 fun hm => by
      have z := I.stkFree b hm
      rcases hb with y | y
      · rw [y, e] at z; cases z
      · rw [y] at z; cases z) (fun _ q => q) fun _ _ q => q
  refine wpAny_leaves_madeW (base := PySem.W.hideAll s.heap (frs (envOfC qual scope s₀.heap.objs.size f cd :: outer))) (h := s.heap) hfr rfl (fun b o q => PySem.W.of_hideAll _ q) (PySem.W.funFrames_hide ff hin) hx fun h' t x1 x2 x3 x4 => ?_
  refine ⟨ea, cls, .ref t, H, _, rfl, I.os, I.bare, x1, hokB, ⟨fun b o e n hb => ?_, fun b o e n hb => ?_, fun b o e hb => ?_, fun b o e n => I.base.free b o e n (nx b), I.base.tups, I.base.frzs, I.base.tbls⟩, q⟩
  · exact PySem.W.hideAll_get _ (I.base.keep b o e n hb (nx b)) (nst b o e hb)
  · obtain ⟨sl, e1⟩ := I.base.slot b o e n hb (nx b)
    obtain ⟨_, o', e3, hd⟩ := ff.mem (frs_cons hb)
    rw [e1] at e3
    cases e3
    obtain ⟨sl3, z3⟩ := x4 b _ (hx.keeps b _ e1) hd
    exact ⟨sl3, z3⟩
  · obtain ⟨o1, e1⟩ := I.base.there b o e (nx b)
    exact ⟨o1, PySem.W.hideAll_get _ e1 (nst b o e hb)⟩
end

section
variable {X : Cx} {CX : CXT} {k : Nat} {f C : Addr} {fd : FuncData} {ps : List Str} {sp : Sp} {dvs : List V} {ds : List Value} {E : St → XK} {x : Str} {p pos : Pos} {e : Expr} {es : List Expr} {t : TA}
/-- f(..) that may raise -/
def tCallS (sp : Sp) (dvs : List V) (E : St → XK) (t : TA) : TE := fun σ H Q => t σ H fun vs H1 => sp (vs ++ dvs) H1 Q (E σ)
theorem run_fnS {pins : List (Addr × Obj)} {σ : St} {H : Hp} {s : Shared} {Q : VK} {us : List Value} {vs : List V} (F : FnOk X.prog X.w X.K X.mg X.base CX k f fd ps sp) (hr : Room k X.A) (hb : Binds X.K fd ps ds) (hd : Vals dvs ds) (hx : PassesS CX X E)
    (I : Inv X pins σ H s) (r : Vals vs us) (h : sp (vs ++ dvs) H Q (E σ)) : wpAny (model X.prog X.w) X.A (call (.ref f) us) (EP X pins σ Q) X.xe s := by
  have r2 : Vals (vs ++ dvs) (us ++ ds) := r.append hd
  have hl : (us ++ ds).length = ps.length := by rw [← r2.length]; exact F.len _ _ _ _ h
  refine wpAny_call (codeAny_mono (F.run X.A X.stack s H ⟨us, []⟩ (us ++ ds) (vs ++ dvs) Q (E σ) hr I.env0 (hb s us I.kIn hl) r2 h) fun r s' hq => ?_)
  cases r with
  | error e => exact hx pins σ H s e s' I hq
  | ok fl =>
    cases fl with
    | ret u => exact I.after hq
    | next => exact False.elim hq
    | brk => exact False.elim hq
    | cont => exact False.elim hq
theorem pe_callS (F : FnOk X.prog X.w X.K X.mg X.base CX k f fd ps sp) (hr : Room k X.A) (hg : Gl X x) (hm : X.mg x = some (.ref f)) (hk : PySem.W.keepIn X.K (.ref f) = true) (hb : Binds X.K fd ps ds) (hd : Vals dvs ds) (hx : PassesS CX X E)
    (ha : PA X (e :: es) t) (hdb : (x == ("__debug__" : Str)) = false := by decide) (he : starEach (e :: es) X.env = (false, eval e X.env) :: starEach es X.env := by rfl) (hpl : (backTo pos (starEach es X.env)).any (·.1) = false := by rfl) :
    PE X (.Call (.Name x p) (e :: es) [] pos) (tCallS sp dvs E t) := by
  intro pins s σ H Q I h
  refine wpAny_Call_Name_kw (ld_glob I hg hm ?_ hdb)
  refine PySem.W.callWith_K (h₀ := X.base) I.ok.mod.kin hk (thn (ha pos pins s σ H _ I h) fun us s1 ⟨vs, H1, I1, r, q⟩ => ⟨I1.kIn, ?_⟩) he hpl
  exact run_fnS F hr hb hd hx I1 r q
end

/-! ### an own exception class without __init__ -/
theorem exc_in {K : PySem.W.Frag} {h : Heap} {C : Addr} {bmB : List Value} {newId : String} (X : K.In h) (q : PySem.W.excIn K C bmB newId = true) :
    ∃ bm N nm qn bs hdct sn sub ab col dd k0 k1 k2 k3 k5 mN, h.get? C = some (excClassObj nm qn C N bs bm hdct sn sub ab col dd k0 k1 k2 k3 k5 newId) ∧ h.Ns N mN ∧ mN "__init__" = none ∧ OwnTail h bmB bm := by
  unfold PySem.W.excIn at q
  split at q
  · rename_i dd cd sl ho
    split at q
    · rename_i C' bm k0 k1 k2 k3 n k5 hm hs
      simp only [Bool.and_eq_true, beq_iff_eq, Bool.not_eq_true'] at q
      obtain ⟨⟨⟨⟨⟨z1, z2⟩, hdel⟩, ht⟩, hok⟩, hni⟩ := q
      subst z1 z2
      obtain ⟨nm, bs, mro, ns, qn, hd, sn, sub, ab, col, del⟩ := cd
      dsimp only at hm hdel hok hni
      subst hm hdel
      have hsl : sl = #[k0, k1, k2, k3, some (.builtin n), k5] := by
        obtain ⟨l⟩ := sl
        simp only at hs
        rw [hs]
      subst hsl
      exact ⟨bm, ns, nm, qn, bs, hd, sn, sub, ab, col, dd, k0, k1, k2, k3, k5, _, X _ _ ho, .of_isNs (PySem.W.isNs_of_in X hok), PySem.W.nsMap_none_of_in X hok hni, PySem.W.tail_of_in X ht⟩
    · cases q
  · cases q
/-- raise C(..) -/
def tRaise (C : Addr) (E : St → XK) (t : TA) : TS := fun _ σ H => t σ H fun vs H1 => vs.length ≤ sizeLine ∧ E σ (.ref C) none H1
theorem ps_raise {X : Cx} {x : Str} {C : Addr} {e₀ : Expr} {rest : List Expr} {t : TA} {E : St → XK} {B newId initId : String} {bmB : List Value} {np cpos pos : Pos}
    (FB : ExcBaseFacts B newId initId bmB) (q : PySem.W.excIn X.K C bmB newId = true) (hr : RaisesS X E) (hc : X.calm = true) (hg : Gl X x) (hm : X.mg x = some (.ref C)) (ha : PA X (e₀ :: rest) t)
    (hdb : (x == ("__debug__" : Str)) = false := by decide) (he : starEach (e₀ :: rest) X.env = (false, eval e₀ X.env) :: starEach rest X.env := by rfl)
    (hpl : (backTo cpos (starEach rest X.env)).any (·.1) = false := by rfl) : PS X (.Raise (some (.Call (.Name x np) (e₀ :: rest) [] cpos)) none pos) (tRaise C E t) := by
  intro pins s σ H D I h
  obtain ⟨tl, N, nm, qn, bs, hdct, sn, sub, ab, col, dd, k0, k1, k2, k3, k5, mN, hC, hN, hni, T⟩ := exc_in I.ok.mod.kin q
  refine wpAny_Raise_call_subT (C := C) (nm := nm) (q := qn) (N := N) (bs := bs) (bm := tl) (hdct := hdct) (sn := sn) (sub := sub) (ab := ab) (col := col) (dd := dd) (k0 := k0) (k1 := k1) (k2 := k2) (k3 := k3) (k5 := k5)
    FB (mN := mN) (T.hasType FB.hasBase) (I.ok.hd hc) (by rw [he]; show (false || (backTo cpos (starEach rest X.env)).any (·.1)) = false; rw [hpl]; rfl) hni (ld_glob I hg hm ⟨rfl, ?_⟩ hdb)
  have h2 := ha cpos pins s σ H _ I h
  rw [he] at h2 ⊢
  exact Calls.evalArgs_plain (thn h2 fun us s2 ⟨vs, H2, I2, r2, hl, q2⟩ => ⟨rfl, by rw [← r2.length]; exact hl, I2.bk _ _ hC, hN.keeps I2.bk, T.keeps I2.bk, fun h' ea hm => hr pins σ H2 s2 h' ea _ _ I2 hm q2⟩)
end L2

set_option Elab.async false
set_option linter.all false
set_option maxRecDepth 100000
set_option maxHeartbeats 4000000
/-! try .. except C as n: one handler, no else, no finally. -/
namespace L2
open PySem PySem.Spec PyProof.Rows

/-- an object of the class C stands at a -/
def KAt (a : Addr) (C : Value) (h : Heap) : Prop := ∃ o, h.get? a = some o ∧ o.cls = C
/-- a caught exception -/
def ExcO (a : Addr) (C : Value) : HO := .ext (KAt a C)
theorem excO_ok {P : Program} {w : World} {H : Hp} {h : Heap} {a : Addr} {C : Value} (x : KAt a C h) : ObjOk P w H h a (ExcO a C) := by
  obtain ⟨o, e, c⟩ := x
  exact ⟨⟨o, e, c⟩, ⟨o, e⟩, fun h1 h2 ⟨o1, e1, c1⟩ k => ⟨o1, k o1 e1, c1⟩⟩
/-- the context of an except suite -/
abbrev Cx.inExc (X : Cx) (e : Addr) : Cx := { X with A := X.A.mark (some (.ref e)), calm := false, xe := fun _ _ => False }
theorem Cx.Ok.inExc {X : Cx} (ok : X.Ok) (e : Addr) : (X.inExc e).Ok :=
  ⟨ok.mod, ok.kind, ok.glob, ok.blt, ok.above, ok.inj, ok.has, ok.cab, (fun z => Bool.noConfusion z), ok.frames, ok.stk, ok.exf, ok.bs, ok.bsz, ok.noex, ok.exfs, ok.funs, ok.frf⟩
theorem Inv.inExc {X : Cx} {pins : List (Addr × Obj)} {σ : St} {H : Hp} {s : Shared} (I : Inv X pins σ H s) (e : Addr) : Inv (X.inExc e) pins σ H s := ⟨I.ok.inExc e, I.os, I.bare, I.base, I.loc, I.cell, I.free, I.freeC, I.pin, I.hok, I.len⟩
theorem Inv.outExc {X : Cx} {pins : List (Addr × Obj)} {σ : St} {H : Hp} {s : Shared} {e : Addr} (ok : X.Ok) (I : Inv (X.inExc e) pins σ H s) : Inv X pins σ H s := ⟨ok, I.os, I.bare, I.base, I.loc, I.cell, I.free, I.freeC, I.pin, I.hok, I.len⟩

/-- the context of a try's body: the pins of the outer state stay -/
abbrev Cx.tryB (X : Cx) (pins : List (Addr × Obj)) (E : Value → Shared → Prop) : Cx := { X with xe := E, pn := X.pn ++ pins }
theorem Cx.Ok.tryB {X : Cx} (ok : X.Ok) (pins : List (Addr × Obj)) (E : Value → Shared → Prop) : (X.tryB pins E).Ok :=
  ⟨ok.mod, ok.kind, ok.glob, ok.blt, ok.above, ok.inj, ok.has, ok.cab, ok.hd, ok.frames, ok.stk, ok.exf, ok.bs, ok.bsz, ok.noex, ok.exfs, ok.funs, ok.frf⟩
theorem Inv.tryB {X : Cx} {pins : List (Addr × Obj)} {σ : St} {H : Hp} {s : Shared} (I : Inv X pins σ H s) (E : Value → Shared → Prop) : Inv (X.tryB pins E) [] σ H s :=
  ⟨I.ok.tryB pins E, I.os, I.bare, I.base, I.loc, I.cell, I.free, I.freeC, fun p hp => I.pin p (by simpa using hp), I.hok, I.len⟩
theorem Inv.untry {X : Cx} {pins ps : List (Addr × Obj)} {σ : St} {H : Hp} {s : Shared} {E : Value → Shared → Prop} (ok : X.Ok) (I : Inv (X.tryB pins E) ps σ H s) : Inv X pins σ H s :=
  ⟨ok, I.os, I.bare, I.base, I.loc, I.cell, I.free, I.freeC, fun p hp => I.pin p (List.mem_append_left _ hp), I.hok, I.len⟩
theorem SP.untry {X : Cx} {pins ps : List (Addr × Obj)} {E : Value → Shared → Prop} {D : Ends} {f : Flow} {s' : Shared} (ok : X.Ok) (h : SP (X.tryB pins E) ps D f s') : SP X pins D f s' := by
  cases f with
  | next => obtain ⟨σ', H', I, q⟩ := h; exact ⟨σ', H', I.untry ok, q⟩
  | brk => obtain ⟨σ', H', I, q⟩ := h; exact ⟨σ', H', I.untry ok, q⟩
  | cont => obtain ⟨σ', H', I, q⟩ := h; exact ⟨σ', H', I.untry ok, q⟩
  | ret u => obtain ⟨v, σ', H', I, r, q⟩ := h; exact ⟨v, σ', H', I.untry ok, r, q⟩

/-- a name goes -/
theorem name_gone {X : Cx} {pins : List (Addr × Obj)} {σ : St} {H : Hp} {s : Shared} {E : Value → Shared → Prop} {A : Around} {i : Nat} {n : Str} {pos : Pos} {Q : Unit → Shared → Prop} (I : Inv X pins σ H s) (hN : X.N.Nodup) (hi : X.N[i]? = some n) (hx : X.env.scope.names.lookup n = some .local)
    (h : ∀ s', Inv X pins (σ.set i none) H s' → Q () s') : wpAny (model X.prog X.w) A (do bindName X.env n .none; unbindBehindTheSuite X.env n pos) Q E s := by
  obtain ⟨m, hn, hl⟩ := id I.loc
  have hcls : (X.env.scope.kind == .class || (X.env.scope.kind == .module && X.env.locals != X.env.globals)) = false := by rw [I.ok.kind]; rfl
  have hiσ : i < σ.length := by rw [I.len]; exact (List.getElem?_eq_some_iff.mp hi).1
  obtain ⟨oL, _, _, hoL, _⟩ := id hn
  refine wpAny_nameGoes_keeps hx hn hcls fun h' v hn' hs => h _ ?_
  refine ⟨I.ok, I.os, I.bare, ⟨fun b o e n hb hx => ?_, fun b o e n hb hx => ?_, I.base.free, fun b o e hx => ?_, I.base.tups, I.base.frzs, I.base.tbls⟩, ⟨_, hn', fun j y v' e1 e2 e3 => ?_⟩, fun y c e => ?_, I.free, I.freeC, fun p hp => ?_, fun b ob e => ?_, by simpa using I.len⟩
  · exact (hs.2 b (Nat.ne_of_lt (Nat.lt_of_lt_of_le (Heap.lt_size e) I.ok.above))).trans (I.base.keep b o e n hb hx)
  · obtain ⟨sl, e1⟩ := I.base.slot b o e n hb hx
    exact ⟨sl, (hs.2 b (Nat.ne_of_lt (Nat.lt_of_lt_of_le (Heap.lt_size e) I.ok.above))).trans e1⟩
  · obtain ⟨o', e1⟩ := I.base.there b o e hx
    exact ⟨o', (hs.2 b (Nat.ne_of_lt (Nat.lt_of_lt_of_le (Heap.lt_size e) I.ok.above))).trans e1⟩
  · by_cases hj : j = i
    · subst hj
      rw [List.getElem?_set_self hiσ] at e2
      cases e2
    · rw [List.getElem?_set_ne (Ne.symm hj)] at e2
      obtain ⟨u', r', q⟩ := hl j y v' e1 e2 e3
      refine ⟨u', r', ?_⟩
      rcases q with ⟨k, e⟩ | ⟨k, c, e, z⟩
      · refine .inl ⟨k, ?_⟩
        have hne : y ≠ n := fun e => hj (nodup_ix hN e1 (e ▸ hi))
        simp [hne, e]
      · exact .inr ⟨k, c, e, z.sameBut hs (I.cne y c e)⟩
  · obtain ⟨w', z⟩ := I.cell y c e
    exact ⟨w', z.sameBut hs (I.cne y c e)⟩
  · obtain ⟨e, n, ne, nf, d⟩ := I.pin p hp
    exact ⟨(hs.2 p.1 ne).trans e, n, ne, nf, d⟩
  · refine (I.hok b ob e).stay (fun c w' hc q => (hs.2 c ?_).trans q) (fun _ q => q) fun _ _ q => q
    intro z
    subst z
    rcases hc with y | y
    · rw [← y, I.free] at e; cases e
    · rw [I.free] at y; cases y

/-- try: body / except C as n: suite. What the body wants of an exception: its class is caught, and the suite goes on from there -/
def tTryE (K : PySem.W.Frag) (Cv : Value) (i : Nat) (ts : TS) (D : Ends) : St → XK := fun σ cls _ H => PySem.W.exmOne K cls Cv = some true ∧ ∀ ea, H ea = none →
  ts { nx := fun σ' H' => D.nx (σ'.set i none) H', rt := D.rt, bk := fun σ' H' => D.bk (σ'.set i none) H', ct := fun σ' H' => D.ct (σ'.set i none) H' } (σ.set i (some (.ref ea))) (upd H ea (ExcO ea cls))
def tTry (K : PySem.W.Frag) (Cv : Value) (i : Nat) (tb : (St → XK) → TS) (ts : TS) : TS := fun D σ H => tb (tTryE K Cv i ts D) D σ H

theorem ps_try {X : Cx} {body : List Stmt} {xc n : Str} {np hpos pos : Pos} {b₀ : Stmt} {suite : List Stmt} {tb : (St → XK) → TS} {ts : TS} {Cv : Value} {i : Nat} (hst : X.stack = X.env :: X.outer) (hfr : X.env.frame = some X.env.locals) (hN : X.N.Nodup) (hi : X.N[i]? = some n) (hn : X.env.scope.names.lookup n = some .local)
    (hg : Gl X xc) (hm : X.mg xc = some Cv ∨ (X.mg xc = none ∧ bootBuiltins xc = some Cv ∧ xc ≠ "__name__"))
    (hb : ∀ ps xe E, PassesS (Fly X.prog X.w) (X.tryB ps xe) E → PSs (X.tryB ps xe) body (tb E)) (hs : ∀ e, PSs (X.inExc e) (b₀ :: suite) ts) (hdb : (xc == ("__debug__" : Str)) = false := by decide) :
    PS X (.Try body [.ExceptHandler (some (.Name xc np)) (some n) (b₀ :: suite) hpos] [] [] pos) (tTry X.K Cv i tb ts) := by
  intro pins s σ H D I h
  have fall : ∀ (σ1 : St) (H1 H' : Hp) (s1 s' : Shared) (ea : Addr) (cls a0 : Value) (B : Heap), Inv X pins σ1 H1 s1 → s'.os = s1.os → AllBare s'.gens → Heap.FlyingW B X.stack ea cls a0 s'.heap → HOk X.prog X.w H' B → FlyU (frs X.stack) H1 H' s1.heap B s'.heap → tTryE X.K Cv i ts D σ1 cls none H' →
      wpAny (model X.prog X.w) X.A (noteFrame (.ref ea) X.env) (fun _ s₂ => wpAny (model X.prog X.w) X.A (setFlight (.ref ea) none) (fun _ s₃ => wpAny (model X.prog X.w) X.A (handleBy (.ref ea) X.env [.ExceptHandler (some (.Name xc np)) (some n) (b₀ :: suite) hpos]) (SP X pins D) X.xe s₃) X.xe s₂) X.xe s' := by
    intro σ1 H1 H' s1 s' ea cls a0 B I1 hos hbare hfl hok U q
    obtain ⟨he, q⟩ := q
    have ff := hfl.2.2.1
    rw [hst] at hfl
    refine wpAny_looks_onW (by rw [I1.ok.frames, hst]) hfr hfl fun h4 x4 u4 => ?_
    refine wpAny_landsW x4 fun h5 x5 u5 => ?_
    have U5 : FlyU (frs X.stack) H1 H' s1.heap B h5 := U.land ff (u4.trans u5)
    have hf1 : ∀ b ∈ frs X.stack, H1 b = none := I1.stkFree
    have I5 : Inv X pins σ1 H' { s' with heap := h5 } := I1.call' (s' := { s' with heap := h5 }) hos (U5.un x5.1 hf1) (hok.kept x5.1) hbare fun b z => nomatch z
    have ty5 : PySem.W.Looks (model X.prog X.w) h5 (typeOf (.ref ea)) cls := by
      obtain ⟨ob, hob, hc⟩ := x5.there
      subst hc
      exact (PySem.W.Looks.ld hob).andThen .now
    have I5' := I5.inExc ea
    refine wpAny_handleBy_cons (codeAny_handlers_test ?_) (by intro z; cases z)
    have go : wpAny (model X.prog X.w) (X.A.mark (some (.ref ea))) (eval (.Name xc np) X.env) (fun c s₁ => c = Cv ∧ s₁ = { s' with heap := h5 }) (notedBy (model X.prog X.w) (X.A.mark (some (.ref ea))) X.env (cameBackBy (model X.prog X.w) X.A X.env X.xe)) { s' with heap := h5 } := by
      rcases hm with hm | ⟨hm, hv, hnn⟩
      · exact ld_glob (X := X.inExc ea) I5' hg hm ⟨rfl, rfl⟩ hdb
      · exact ld_blt (X := X.inExc ea) I5' hg hm hv ⟨rfl, rfl⟩ hnn hdb
    refine wpAny_mono go (fun c s₁ hc => ?_) fun _ _ z => z
    obtain ⟨hc1, hc2⟩ := hc
    subst hc1 hc2
    refine (PySem.W.exm_one I5.kIn ty5 he).here ?_
    show codeAny _ _ _ _ _
    refine codeAny_handlers_suite_as ?_
    refine lands_againW x5 fun h6 x6 u6 => ?_
    have ff5 := x5.2.2.1
    rw [← hst] at ff5
    have U6 : FlyU (frs X.stack) H1 H' s1.heap B h6 := U5.land ff5 u6
    have hBe : B.get? ea = none := x6.2.1
    have he' : H' ea = none := hok.untracked hBe
    obtain ⟨oe, hoe, hoc⟩ := x6.there
    obtain ⟨oe', vs', hoe', _, hod', _⟩ := x6.first
    have ns1 : s1.heap.get? ea = none := by
      cases z : s1.heap.get? ea with
      | none => rfl
      | some o =>
        by_cases y : ea ∈ frs X.stack
        · have y' := y
          rw [hst] at y'
          obtain ⟨_, o2, e2, d2⟩ := x6.2.2.1.mem y'
          rw [hoe'] at e2
          cases e2
          exact absurd hod' (d2 vs')
        · obtain ⟨o', e'⟩ := U6.inB ea o z y
          rw [hBe] at e'
          cases e'
    have nu : ∀ b o, s1.heap.get? b = some o → b ≠ ea := fun b o e z => by rw [z, ns1] at e; cases e
    have hok6 : HOk X.prog X.w H' h6 := hok.kept x6.1
    have hokE : HOk X.prog X.w (upd H' ea (ExcO ea cls)) h6 := fun b u e => by
      by_cases y : b = ea
      · subst y
        rw [upd_same] at e
        cases e
        exact excO_ok ⟨oe, hoe, hoc⟩
      · rw [upd_ne y] at e
        exact (hok6 b u e).stay (fun _ _ _ z => z) (fun c z => by rw [upd_ne (ne_of_none z he')]; exact z) fun c xs z => by rw [upd_ne (ne_of_none z he')]; exact z
    have un6 := U6.un x6.1 hf1
    have unE : Un (frs X.stack) [] H1 (upd H' ea (ExcO ea cls)) s1.heap h6 :=
      ⟨un6.keep, un6.slot, fun b o e n hx => by rw [upd_ne (nu b o e)]; exact un6.free b o e n hx, un6.there, fun b xs e => by
        have z := un6.tups b xs e
        rw [upd_ne (ne_of_none z he')]; exact z, fun b o u e => by
        have z := un6.frzs b o u e
        rw [upd_ne (ne_of_none z he')]; exact z, fun b ps e => by
        obtain ⟨m, z⟩ := un6.tbls b ps e
        exact ⟨m, by rw [upd_ne (ne_of_none z he')]; exact z⟩⟩
    have I6 : Inv X pins σ1 (upd H' ea (ExcO ea cls)) { s' with heap := h6 } := I1.call' (s' := { s' with heap := h6 }) hos unE hokE hbare fun b z => nomatch z
    refine store_ok (X := X.inExc ea) (I6.inExc ea) hN hi (.inl hn) (v := .ref ea) rfl (fun s7 I7 => ?_) (.inr hn)
    refine wpAny_mono (hs ea pins s7 _ _ _ I7 (q ea he')) (fun f s8 h8 => ?_) fun _ _ z => z.elim
    cases f with
    | next =>
      obtain ⟨σ', H8, I8, q8⟩ := h8
      exact name_gone (I8.outExc I.ok) hN hi hn fun s9 I9 => ⟨_, H8, I9, q8⟩
    | brk =>
      obtain ⟨σ', H8, I8, q8⟩ := h8
      exact name_gone (I8.outExc I.ok) hN hi hn fun s9 I9 => ⟨_, H8, I9, q8⟩
    | cont =>
      obtain ⟨σ', H8, I8, q8⟩ := h8
      exact name_gone (I8.outExc I.ok) hN hi hn fun s9 I9 => ⟨_, H8, I9, q8⟩
    | ret u =>
      obtain ⟨v, σ', H8, I8, r8, q8⟩ := h8
      exact name_gone (I8.outExc I.ok) hN hi hn fun s9 I9 => ⟨v, _, H8, I9, r8, q8⟩
  refine wpAny_Try_except ?_
  refine wpAny_mono (hb pins (fun e s₁ => wpAny (model X.prog X.w) X.A (noteFrame e X.env) (fun _ s₂ => wpAny (model X.prog X.w) X.A (setFlight e none) (fun _ s₃ => wpAny (model X.prog X.w) X.A (handleBy e X.env [.ExceptHandler (some (.Name xc np)) (some n) (b₀ :: suite) hpos]) (SP X pins D) X.xe s₃) X.xe s₂) X.xe s₁)
    (tTryE X.K Cv i ts D) ?_ [] s σ H D (I.tryB _) h) (fun f s1 q => ?_) fun _ _ z => z
  · intro ps σ1 H1 s1 e s' I1 hfly
    obtain ⟨ea, cls, a0, H', B, he, hos, hbare, hfl, hok, U, q⟩ := hfly
    subst he
    exact fall σ1 H1 H' s1 s' ea cls a0 B (I1.untry I.ok) hos hbare hfl hok U q
  · have q' := q.untry I.ok
    cases f with
    | next => exact wpAny_execs_nil q'
    | ret v => exact q'
    | brk => exact q'
    | cont => exact q'
end L2

set_option Elab.async false
set_option linter.all false
set_option maxRecDepth 100000
set_option maxHeartbeats 4000000
/-! More operations: sizes, isinstance, is, tuples and lists compared, f-strings. -/
namespace L2
open PySem PySem.Spec PyProof.Rows FrM

theorem sz_bits {a : Int} {n : Nat} (h : Sz n a) : Builtin.Int.intBits a ≤ n := by
  unfold Builtin.Int.intBits
  split
  · exact Nat.zero_le _
  · rcases Nat.eq_zero_or_pos a.natAbs with h0 | hp
    · have hn : 0 < n := by
        cases n with
        | zero => exact absurd (show a = 0 by omega) (by rename_i q; simpa using q)
        | succ n => exact Nat.succ_pos n
      have : a.natAbs.log2 = 0 := by rw [h0]; rfl
      omega
    · have : a.natAbs.log2 < n := (Nat.log2_lt (Nat.ne_of_gt hp)).mpr h
      omega
theorem sz_log {a : Int} {n : Nat} (h : Sz n a) (hn : 0 < n) : a.natAbs.log2 < n := by
  rcases Nat.eq_zero_or_pos a.natAbs with h0 | hp
  · rw [h0]; exact hn
  · exact (Nat.log2_lt (Nat.ne_of_gt hp)).mpr h
section
variable {X : Cx} {pos : Pos}
theorem op_mulS : OpR X (binaryOp .Mult) (rI (fun i j => Sz 4000 i ∧ Sz 4000 j) fun i j => .int (i * j)) :=
  opI fun _ _ _ _ _ _ _ hc q => mul_int q (IntMulOk.of_bits (Nat.le_trans (sz_bits hc.1) (by decide)) (Nat.le_trans (sz_bits hc.2) (by decide)))
theorem op_fdivS : OpR X (binaryOp .FloorDiv) (rI (fun _ j => 0 < j ∧ Sz 4000 j) fun i j => .int (i / j)) := opI fun i j _ _ _ _ _ hc q => by
  have h1 : (0 : Int) < j := hc.1
  have e : i.fdiv j = i / j := Int.fdiv_eq_ediv_of_nonneg i (Int.le_of_lt h1)
  refine floordiv_int (by omega) ?_ (.inl (PyProof.noPylong_of_log2 (Nat.lt_of_lt_of_le (sz_log hc.2 (by decide)) (by decide))))
  rw [e]
  exact q
theorem op_isnot_bl : OpR X (compareOp .IsNot) (fun x y H Q => ∃ b c, x = .bl b ∧ y = .bl c ∧ Q (.bl (b != c)) H) := by
  intro pins s σ H x y v u Q I rx ry h
  obtain ⟨b, c, rfl, rfl, q⟩ := h
  cases rx
  cases ry
  exact isnot_bool ⟨.bl _, H, I, rfl, q⟩
/-- a class as a value -/
def ClsV : V → Value → Prop
  | .ref a, c => c = .ref a
  | .ty n, c => c = .type n
  | _, _ => False
theorem ClsV.eq {cv : V} {c v : Value} (h : ClsV cv c) (r : RelV cv v) : v = c := by
  cases cv <;> first | exact h.elim | (cases (show v = _ from r); cases (show c = _ from h); rfl)
/-- isinstance of a value whose kind is known -/
def rIsi (K : PySem.W.Frag) : List V → Hp → VK → Prop := fun xs H Q => ∃ x cv t c b, xs = [x, cv] ∧ ClsV cv c ∧ TyOf K H x t ∧ PySem.W.kitOne K t c = some b ∧ Q (.bl b) H
theorem call_isi : CallR X (.builtin "isinstance") (rIsi X.K) := by
  intro pins s σ H xs us Q I r h
  obtain ⟨x, cv, t, c, b, rfl, rc, ty, e, q⟩ := h
  obtain ⟨u, v, rfl, ru, rv⟩ := Vals.two r
  have ec : v = c := rc.eq rv
  subst ec
  exact isinst_ok I ru ty e fun tk => ⟨.bl b, H, I.tok tk, rfl, q⟩

/-- a list compared with an empty one -/
theorem op_eqNil (hu : X.A.units < cLine) : OpR X (compareOp .Eq) (fun x y H Q => ∃ a b xs, x = .ref a ∧ y = .ref b ∧ SqL X.K H a xs ∧ SqL X.K H b [] ∧ Q (.bl xs.isEmpty) H) := by
  intro pins s σ H x y v u Q I rx ry h
  obtain ⟨a, b, xs, rfl, rfl, ha, hb, q⟩ := h
  cases rx
  cases ry
  obtain ⟨its, r, pl, _⟩ := I.list ha
  obtain ⟨its', r', pl', _⟩ := I.list hb
  cases r'
  cases r with
  | nil => exact SeqAt.eq_listAt (e := fun _ => true) pl.isList pl'.isList rfl hu (fun j h1 _ => absurd h1 (by simp)) ⟨.bl true, H, I, rfl, q⟩
  | cons r1 r2 => exact SeqAt.eq_list_lengthsAt pl.isList pl'.isList (by simp) hu ⟨.bl false, H, I, rfl, q⟩
theorem op_neNil (hu : X.A.units < cLine) : OpR X (compareOp .NotEq) (fun x y H Q => ∃ a b xs, x = .ref a ∧ y = .ref b ∧ SqL X.K H a xs ∧ SqL X.K H b [] ∧ Q (.bl (!xs.isEmpty)) H) := by
  intro pins s σ H x y v u Q I rx ry h
  obtain ⟨a, b, xs, rfl, rfl, ha, hb, q⟩ := h
  cases rx
  cases ry
  obtain ⟨its, r, pl, _⟩ := I.list ha
  obtain ⟨its', r', pl', _⟩ := I.list hb
  cases r'
  cases r with
  | nil => exact SeqAt.RcNeAt.lists (e := fun _ => true) pl.isList pl'.isList rfl hu (fun j h1 _ => absurd h1 (by simp)) _ _ _ _ ⟨.bl false, H, I, rfl, q⟩
  | cons r1 r2 => exact SeqAt.RcNeAt.lists_lengths pl.isList pl'.isList (by simp) hu _ _ _ _ ⟨.bl true, H, I, rfl, q⟩

/-! ### data: ints, texts, tuples of these at any depth -/
mutual
inductive Rep (H : Hp) : Nat → V → V → Prop
  | int (n : Nat) (i : Int) : Rep H n (.int i) (.int i)
  | str (n : Nat) (x : Str) : Rep H n (.str x) (.str x)
  | tup {n : Nat} {p q : Addr} {xs ys : List V} (e : H p = some (.tup xs)) (e' : H q = some (.tup ys)) (r : Reps H n xs ys) : Rep H (n + 1) (.ref p) (.ref q)
inductive Reps (H : Hp) : Nat → List V → List V → Prop
  | nil (n : Nat) : Reps H n [] []
  | cons {n : Nat} {x y : V} {xs ys : List V} (r : Rep H n x y) (t : Reps H n xs ys) : Reps H n (x :: xs) (y :: ys)
end
theorem Reps.length {H : Hp} {n : Nat} : ∀ {xs ys : List V}, Reps H n xs ys → xs.length = ys.length
  | _, _, .nil _ => rfl
  | _, _, .cons _ t => by rw [List.length_cons, List.length_cons, Reps.length t]
theorem Reps.get {H : Hp} {n : Nat} : ∀ {xs ys : List V} {j : Nat} {x y : V}, Reps H n xs ys → xs[j]? = some x → ys[j]? = some y → Rep H n x y
  | _, _, _, _, _, .nil _, e, _ => by simp at e
  | _, _, 0, _, _, .cons r _, e, e' => by simp at e e'; subst e; subst e'; exact r
  | _, _, j + 1, x, y, .cons _ t, e, e' => Reps.get (j := j) t (by simpa using e) (by simpa using e')
theorem Inv.tupl {pins : List (Addr × Obj)} {σ : St} {H : Hp} {s : Shared} {p : Addr} {xs : List V} (I : Inv X pins σ H s) (h : H p = some (.tup xs)) : ∃ its : List Value, Vals xs its ∧ s.heap.IsTuple p its.toArray := by
  obtain ⟨its, r, pl, _⟩ := I.tuple (SqT.of (K := X.K) h)
  exact ⟨its, r, pl⟩
theorem all_true (n : Nat) : (List.range n).all (fun _ => true) = true := by
  rw [List.all_eq_true]
  intro _ _
  rfl
theorem rep_eq {pins : List (Addr × Obj)} {σ : St} {H : Hp} {s : Shared} (I : Inv X pins σ H s) : ∀ (n : Nat) {A : Around} {x y : V} {u v : Value}, Rep H n x y → RelV x u → RelV y v → A.units + n < cLine → SeqAt.EqAt A s u v true := by
  intro n
  induction n with
  | zero =>
    intro A x y u v r ru rv hu
    cases r with
    | int _ i =>
      obtain ⟨t, rfl⟩ := ru
      obtain ⟨t', rfl⟩ := rv
      have z := SeqAt.EqAt.int_int (A := A) (s := s) i t i t'
      simpa using z
    | str _ x =>
      obtain ⟨t, rfl⟩ := ru
      obtain ⟨t', rfl⟩ := rv
      have z := SeqAt.EqAt.str_str (A := A) (s := s) x t x t'
      simpa using z
  | succ n ih =>
    intro A x y u v r ru rv hu
    cases r with
    | int _ i =>
      obtain ⟨t, rfl⟩ := ru
      obtain ⟨t', rfl⟩ := rv
      have z := SeqAt.EqAt.int_int (A := A) (s := s) i t i t'
      simpa using z
    | str _ x =>
      obtain ⟨t, rfl⟩ := ru
      obtain ⟨t', rfl⟩ := rv
      have z := SeqAt.EqAt.str_str (A := A) (s := s) x t x t'
      simpa using z
    | @tup _ p q xs ys e e' rs =>
      cases ru
      cases rv
      by_cases hpq : p = q
      · subst hpq
        exact SeqAt.EqAt.same _
      · obtain ⟨its, r1, t1⟩ := I.tupl e
        obtain ⟨its', r2, t2⟩ := I.tupl e'
        have l1 := r1.length
        have l2 := r2.length
        have l3 := rs.length
        refine SeqAt.EqAt.of_refs hpq ?_
        have z := SeqAt.RcAt.tuples (A := A) (e := fun _ => true) t1 t2 (by omega) (fun j h1 h2 => by
          have j1 : j < its.length := by simpa using h1
          have j2 : j < its'.length := by simpa using h2
          have a1 : xs[j]? = some xs[j] := List.getElem?_eq_getElem (by omega)
          have a2 : ys[j]? = some ys[j] := List.getElem?_eq_getElem (by omega)
          obtain ⟨u1, b1, c1⟩ := r1.get a1
          obtain ⟨u2, b2, c2⟩ := r2.get a2
          have d1 : its[j] = u1 := by rw [List.getElem?_eq_getElem j1] at b1; exact Option.some.inj b1
          have d2 : its'[j] = u2 := by rw [List.getElem?_eq_getElem j2] at b2; exact Option.some.inj b2
          have w := ih (A := A.in1) (rs.get a1 a2) c1 c2 (by show A.units + 1 + n < cLine; omega)
          simpa [d1, d2] using w)
        have es : its.toArray.size = its'.toArray.size := by simp; omega
        rw [all_true, es] at z
        simpa using z
/-- t != u of two tuples of the same data -/
theorem op_neTup {n : Nat} (hu : X.A.units + n + 2 < cLine) : OpR X (compareOp .NotEq) (fun x y H Q => Rep H (n + 1) x y ∧ (∃ p q, x = .ref p ∧ y = .ref q) ∧ Q (.bl false) H) := by
  intro pins s σ H x y v u Q I rx ry h
  obtain ⟨r, ⟨p, q, rfl, rfl⟩, hq⟩ := h
  cases rx
  cases ry
  cases r with
  | @tup _ _ _ xs ys e e' rs =>
    obtain ⟨its, r1, t1⟩ := I.tupl e
    obtain ⟨its', r2, t2⟩ := I.tupl e'
    have l1 := r1.length
    have l2 := r2.length
    have l3 := rs.length
    have z := SeqAt.RcNeAt.tuples (A := X.A) (e := fun _ => true) t1 t2 (by omega) (fun j h1 h2 => by
      have j1 : j < its.length := by simpa using h1
      have j2 : j < its'.length := by simpa using h2
      have a1 : xs[j]? = some xs[j] := List.getElem?_eq_getElem (by omega)
      have a2 : ys[j]? = some ys[j] := List.getElem?_eq_getElem (by omega)
      obtain ⟨u1, b1, c1⟩ := r1.get a1
      obtain ⟨u2, b2, c2⟩ := r2.get a2
      have d1 : its[j] = u1 := by rw [List.getElem?_eq_getElem j1] at b1; exact Option.some.inj b1
      have d2 : its'[j] = u2 := by rw [List.getElem?_eq_getElem j2] at b2; exact Option.some.inj b2
      have w := rep_eq I n (A := X.A.in1) (rs.get a1 a2) c1 c2 (by show X.A.units + 1 + n < cLine; omega)
      simpa [d1, d2] using w)
    have es : its.toArray.size = its'.toArray.size := by simp; omega
    rw [all_true, es] at z
    refine z _ _ _ _ ?_
    simp only [beq_self_eq_true, Bool.and_self, Bool.not_true]
    exact ⟨.bl false, H, I, rfl, hq⟩

/-! ### f-strings of ints and texts -/
def tFS (te : TE) : TE := fun σ H Q => te σ H fun x H1 => ∃ i, x = .int i ∧ i.natAbs.log2 < 1920 ∧ Q (.str (toString i)) H1
theorem pe_fval {value : Expr} {te : TE} (he : PE X value te) : PE X (.FormattedValue value (-1) none pos) (tFS te) := by
  intro pins s σ H Q I h
  refine FormattedValue_plain (thn (he pins s σ H _ I h) fun v s1 ⟨x, H1, I1, r1, q1⟩ => ?_)
  obtain ⟨i, rfl, hi, q⟩ := q1
  obtain ⟨t, rfl⟩ := r1
  exact formatField_int_small hi ⟨.str (toString i), H1, I1.tok _, ⟨_, rfl⟩, q⟩
theorem pe_join1 {v : Expr} {te : TE} (he : PE X v te) : PE X (.JoinedStr [v] pos) te := fun pins s σ H Q I h => JoinedStr_one (he pins s σ H Q I h)
abbrev TJ := St → Hp → Str → (Str → Hp → Prop) → Prop
/-- the parts of an f-string, from the left -/
def PJ (X : Cx) (es : List Expr) (t : TJ) : Prop :=
  ∀ (pins : List (Addr × Obj)) (s : Shared) (σ : St) (H : Hp) (out : Str) (Q : Str → Hp → Prop), Inv X pins σ H s → t σ H out Q → wpAny (model X.prog X.w) X.A (joinParts out (evalEach es X.env)) (EP X pins σ fun v H' => ∃ z, v = .str z ∧ Q z H') X.xe s
def tJnil : TJ := fun _ H out Q => out.length ≤ sizeLine ∧ Q out H
def tJcons (te : TE) (t : TJ) : TJ := fun σ H out Q => te σ H fun x H1 => ∃ y, x = .str y ∧ (out ++ y).length ≤ sizeLine ∧ t σ H1 (out ++ y) Q
theorem pj_nil : PJ X [] tJnil := by
  intro pins s σ H out Q I h
  exact joinParts_nil ⟨.str out, H, I.tok _, ⟨_, rfl⟩, out, rfl, h.2⟩ h.1
theorem pj_cons {e : Expr} {es : List Expr} {te : TE} {t : TJ} (he : PE X e te) (hr : PJ X es t) : PJ X (e :: es) (tJcons te t) := by
  intro pins s σ H out Q I h
  show wpAny (model X.prog X.w) X.A (joinParts out (eval e X.env :: evalEach es X.env)) _ _ s
  refine joinParts_cons (thn (he pins s σ H _ I h) fun v s1 ⟨x, H1, I1, r1, y, ex, hz, q⟩ => ?_)
  subst ex
  obtain ⟨t', rfl⟩ := r1
  exact ⟨hz, hr pins s1 σ H1 _ Q I1 q⟩
theorem pe_joined {v1 v2 : Expr} {rest : List Expr} {t : TJ} (h : PJ X (v1 :: v2 :: rest) t) : PE X (.JoinedStr (v1 :: v2 :: rest) pos) (fun σ H Q => t σ H Str.empty fun z H' => Q (.str z) H') := by
  intro pins s σ H Q I hq
  refine JoinedStr_many (thn (h pins s σ H Str.empty _ I hq) fun v s1 ⟨x, H1, I1, r1, z, e, q⟩ => ⟨x, H1, I1, r1, ?_⟩)
  rw [e]
  exact q
end
theorem empty_app (x : Str) : Str.empty ++ x = x := by
  obtain ⟨c⟩ := x
  show (⟨#[] ++ c⟩ : Str) = ⟨c⟩
  simp
theorem text_len {i : Int} {k : Nat} (hk : 0 < k) (h : Sz k i) : (Str.ofString (toString i)).length ≤ k + 1 := by
  rw [PySem.ofString_length]
  exact int_text_length_le hk (sz_log h hk)
end L2

set_option Elab.async false
set_option linter.all false
set_option maxRecDepth 100000
set_option maxHeartbeats 4000000
/-! [e for x in xs if c]: one clause, one test, a plain name; names of the def around it through cells. -/
namespace L2
open PySem PySem.Spec PyProof.Rows

theorem lt_sz {h : Heap} {b : Addr} {o : Obj} (e : h.get? b = some o) : @LT.lt Nat _ b h.objs.size := Heap.lt_size e
/-- the context of a comprehension's block: C its names' dict, cl its cells, fp the iterator's records -/
abbrev Cx.comp (X : Cx) (scope : Scope) (cl : List (Str × Addr)) (C : Addr) (N : List Str) (s₂ : Shared) (H₂ : Hp) (fp : List Addr) : Cx :=
  { X with N := N, s₀ := s₂, H₀ := H₂, env := compEnvC scope cl C X.env, outer := X.stack, ex := fp, fn := fun _ => false, pn := [], xe := fun _ _ => False }
/-- the values of the names around it -/
def around (fr : List Nat) (σ : St) : St := fr.map fun i => (σ[i]?).getD none
def tComp (wi : TI) (tc : TT) (te : TE) (fr : List Nat) : TE := fun σ H Q => wi σ H fun J H1 => ∀ D, H1 D = none → ∃ W : Nat → Nat → List V → Hp → Prop, (∃ m, W 0 m [] (upd H1 D (.lst []))) ∧ ∀ i m ys H, W i m ys H →
  H D = some (.lst ys) ∧ ((J.stop i H ∧ Q (.ref D) H) ∨ (J.go i H ∧ ys.length < sizeLine ∧ ∃ N : List V → Hp → Prop, (∀ ys' H', N ys' H' → ∃ m', m' < m ∧ W (i + 1) m' ys' H') ∧
    ∀ x H', J.yld i H x H' → tc (some x :: around fr σ) H' fun b H2 => if b = true then te (some x :: around fr σ) H2 fun y H3 => H3 D = some (.lst ys) ∧ N (ys ++ [y]) (upd H3 D (.lst (ys ++ [y]))) else N ys H2))

theorem pe_comp {X : Cx} {elt iter c : Expr} {x : Str} {px pos : Pos} {scope : Scope} {cl : List (Str × Addr)} {ys : List Str} {fr : List Nat} {wi : TI} {tc : TT} {te : TE} (hcm : X.calm = true)
    (hi : PI X (.Name x px) iter wi) (hclos : closureFor scope X.env = pure cl) (hcell : ∀ y ∈ scope.names, y.2 ≠ .cell) (hkind : scope.kind = .function) (hnames : ∀ y ∈ scope.names, y.2 = .local → scope.names.lookup y.1 = some .local) (hx : scope.names.lookup x = some .local)
    (hnd : (x :: ys).Nodup) (hcl : ∀ y a, cl.lookup y = some a → X.env.cells.lookup y = some a)
    (hlen : ys.length = fr.length) (hfr : ∀ (j : Nat) y i, ys[j]? = some y → fr[j]? = some i → X.N[i]? = some y ∧ X.env.kindOf y = some .cell ∧ (relabel scope X.env).names.lookup y = some .cell ∧ ∃ a, cl.lookup y = some a ∧ X.env.cells.lookup y = some a)
    (hhas : ∀ y, ((relabel scope X.env).names.lookup y = some .cell ∨ (relabel scope X.env).names.lookup y = some .free) → ∃ a, cl.lookup y = some a)
    (hc : ∀ C s₂ H₂ fp, PT (X.comp scope cl C (x :: ys) s₂ H₂ fp) c tc) (he : ∀ C s₂ H₂ fp, PE (X.comp scope cl C (x :: ys) s₂ H₂ fp) elt te) (hs : ∀ v, foldedSetIterable iter X.env v = pure v := by intro _; rfl) :
    PE X (.ListComp elt [⟨.Name x px, iter, [c], 0⟩] scope pos) (tComp wi tc te fr) := by
  intro pins s σ H Q I h
  rw [eval_ListComp]
  refine wpAny_comprehension_free (use := none) rfl hs hclos hkind hnames (thn (hi pins s σ H _ I h) fun v s1 h1 => thn h1 fun itv s2 h2 => ?_)
  obtain ⟨it, fp, tn, J, H2, e, I2, T, st2, f2, h2⟩ := h2
  subst e
  have hD : H2 s2.heap.objs.size = none := I2.hok.fresh (Nat.le_refl _)
  obtain ⟨W, ⟨m0, w0⟩, turn⟩ := h2 s2.heap.objs.size hD
  refine wpAny_newObj_type (wpAny_newFunctionEnv hcell (by intro y hy; simp at hy) (fun h₁ hns₁ hsb₁ => ?_) hkind)
  dsimp only at hns₁ hsb₁ ⊢
  generalize hH3 : s2.heap.push { cls := .type "list", dict := none, data := .seq ([] : List Value).toArray } = H3 at hns₁ hsb₁ ⊢
  have hCs : H3.objs.size = s2.heap.objs.size + 1 := by rw [← hH3, Heap.size_push]
  have old : ∀ b o, s2.heap.get? b = some o → h₁.get? b = some o := fun b o e =>
    hsb₁.extBut b o (Nat.ne_of_lt (by have := lt_sz e; omega)) (Heap.get?_push_of_some _ (hH3 ▸ Heap.get?_push_of_some _ e))
  have hacc : h₁.get? s2.heap.objs.size = some { cls := .type "list", dict := none, data := .seq ([] : List Value).toArray } :=
    hsb₁.extBut _ _ (Nat.ne_of_lt (by omega)) (Heap.get?_push_of_some _ (hH3 ▸ Heap.get?_push_size _ rfl))
  have fplt : ∀ b ∈ fp, @LT.lt Nat _ b s2.heap.objs.size := fun b hb => by
    obtain ⟨o, e, _⟩ := T.obj _ _ st2 b hb
    exact lt_sz e
  have okC : (X.comp scope cl H3.objs.size (x :: ys) s2 H2 fp).Ok := by
    refine ⟨I2.ok.mod, hkind, I2.ok.glob, I2.ok.blt, ?_, fun y z a h1 h2 => I2.ok.inj y z a (hcl y a h1) (hcl z a h2), fun y hy => hhas y hy, fun y a z _ => (nomatch z), I2.ok.hd, I2.ok.frames, .inl rfl, fun b hb => ⟨?_, fun y a e z => ?_⟩, I2.bs, Nat.le_trans I2.ok.bsz I2.sz, fun b o e hb => ?_, fun b hb z => ?_, I2.stack, I2.stkFree⟩
    · show s2.heap.objs.size ≤ H3.objs.size
      omega
    · show b ≠ H3.objs.size
      have := fplt b hb
      exact Nat.ne_of_lt (by omega)
    · exact (f2 b hb).2.2.2.2.1 y a (hcl y a e) z
    · rcases (f2 b hb).2.2.2.1 with z | z
      · exact I2.ok.noex b o e z
      · have z' : @LE.le Nat _ X.s₀.heap.objs.size b := z
        have : @LT.lt Nat _ b X.base.objs.size := lt_sz e
        have := I2.ok.bsz
        omega
    · rcases List.mem_cons.mp (I2.stkSub b z) with y | y
      · exact (f2 b hb).2.1 y
      · exact (f2 b hb).2.2.1 y
  have fpok : ∀ {H' : Hp}, (∀ b ∈ fp, H' b = none) → ∀ b ∈ fp, FpOk (X.comp scope cl H3.objs.size (x :: ys) s2 H2 fp) [] H' b := fun hn b hb =>
    ⟨hn b hb, (okC.exf b hb).1, okC.exfs b hb, .inl hb, (okC.exf b hb).2, fun p hp => absurd hp (by simp)⟩
  have cellC : ∀ y a, cl.lookup y = some a → ∃ v, s2.heap.IsCell a v := fun y a e => I2.cell y a (hcl y a e)
  have start : Inv (X.comp scope cl H3.objs.size (x :: ys) s2 H2 fp) [] (none :: around fr σ) (upd H2 s2.heap.objs.size (.lst [])) { s2 with heap := h₁, toks := s2.toks + ([] : List (Str × Value)).length } := by
    refine ⟨okC, rfl, I2.bare, Un.laid old (Nat.le_refl _) hD, ⟨_, hns₁, fun j y v e1 e2 e3 => ?_⟩, fun y a e => ?_, ?_, fun y a e => ?_, fun p hp => absurd hp (by simp), I2.hok.laid old (Nat.le_refl _) ⟨Nat.zero_le _, [], _, .nil, hacc⟩, ?_⟩
    · cases j with
      | zero => cases e2
      | succ j =>
        have e1' : ys[j]? = some y := by simpa using e1
        have e2' : (around fr σ)[j]? = some (some v) := by simpa using e2
        unfold around at e2'
        rw [List.getElem?_map] at e2'
        cases q : fr[j]? with
        | none => rw [q] at e2'; cases e2'
        | some i =>
          rw [q] at e2'
          have e4 : (σ[i]?).getD none = some v := Option.some.inj e2'
          have e5 : σ[i]? = some (some v) := by
            cases q2 : σ[i]? with
            | none => rw [q2] at e4; cases e4
            | some z => rw [q2] at e4; exact congrArg some e4
          obtain ⟨hN, hk, hl, a, ha, ha'⟩ := hfr j y i e1' q
          obtain ⟨m, _, hl2⟩ := I2.loc
          obtain ⟨u, r, l⟩ := hl2 i y v hN e5 (.inr (.inl hk))
          refine ⟨u, r, .inr ⟨.inl hl, a, ha, ?_⟩⟩
          rcases l with ⟨k, _⟩ | ⟨_, a2, ea, z⟩
          · rw [hk] at k; cases k
          · rw [ha'] at ea
            cases ea
            obtain ⟨o, ho, hd⟩ := z
            exact ⟨o, old _ _ ho, hd⟩
    · obtain ⟨v, o, ho, hd⟩ := cellC y a e
      exact ⟨v, o, old _ _ ho, hd⟩
    · show upd H2 s2.heap.objs.size (.lst []) H3.objs.size = none
      rw [upd_ne (by first | exact Nat.ne_of_lt (by omega) | exact Nat.ne_of_gt (by omega))]
      exact I2.hok.fresh (by omega)
    · obtain ⟨v, o, ho, hd⟩ := cellC y a e
      have := lt_sz ho
      rw [upd_ne (by first | exact Nat.ne_of_lt (by omega) | exact Nat.ne_of_gt (by omega))]
      exact I2.freeC y a (hcl y a e)
    · show (none :: around fr σ).length = (x :: ys).length
      unfold around
      simp [hlen]
  have loop : ∀ s₃ : Shared, s₃ = { s2 with heap := h₁, toks := s2.toks + ([] : List (Str × Value)).length } →
      codeAny (model X.prog X.w) X.A (.compLoop (.ListComp elt [⟨.Name x px, iter, [c], 0⟩] scope pos) 0 (.ref it) (.ref s2.heap.objs.size) (compEnvC scope cl H3.objs.size X.env)) (compPost (model X.prog X.w) X.A X.xe none (EP X pins σ Q) (.ref s2.heap.objs.size) H3.objs.size) s₃ := by
    rintro s₃ rfl
    refine codeAny_compLoop_tests (fun n s' => ∃ i v ys' H', Inv (X.comp scope cl H3.objs.size (x :: ys) s2 H2 fp) [] (v :: around fr σ) H' s' ∧ tn i s'.heap ∧ (∀ b ∈ fp, H' b = none) ∧ W i n ys' H') ?_ m0
      ⟨0, none, [], _, start, T.keep _ _ _ st2 fun b hb o e => old b o e, fun b hb => by
        have := fplt b hb
        rw [upd_ne (by first | exact Nat.ne_of_lt (by omega) | exact Nat.ne_of_gt (by omega))]
        exact (f2 b hb).1, w0⟩
    rintro n s3 ⟨i, v, ys3, H', I3, st3, fr3, w3⟩
    obtain ⟨hl3, alt⟩ := turn i n ys3 H' w3
    rcases alt with ⟨stop, qn⟩ | ⟨go, hz, N, hN, step⟩
    · refine wpAny_mono (T.done (X.comp scope cl H3.objs.size (x :: ys) s2 H2 fp) rfl rfl rfl hcm i [] s3 _ H' (fun _ _ => False) I3 (fpok fr3) st3 stop) (fun r s4 h4 => ?_) fun _ _ z => z.elim
      obtain ⟨hr, I4⟩ := h4
      subst hr
      obtain ⟨m4, hn4, _⟩ := id I4.loc
      refine ⟨m4, hn4, fun h'' hs'' => ?_⟩
      have hb : ∀ b o, b ≠ H3.objs.size → s4.heap.get? b = some o → h''.get? b = some o := fun b o hb e => (hs''.2 b hb).trans e
      have I5 : Inv X pins σ H' { s4 with heap := h'' } := by
        refine I2.call' (s' := { s4 with heap := h'' }) (ch := fp) I4.os ⟨fun b o e n hb' hx' => ?_, fun b o e n hb' hx' => ?_, fun b o e n hx' => I4.base.free b o e n hx', fun b o e hx' => ?_, I4.base.tups, I4.base.frzs, I4.base.tbls⟩ (fun b u e => ?_) I4.bare fun b hb' => ⟨(f2 b hb').2.2.2.1, (f2 b hb').2.1, (f2 b hb').2.2.2.2.1, (f2 b hb').2.2.2.2.2⟩
        · exact hb b o (Nat.ne_of_lt (by have := lt_sz e; omega)) (I4.base.keep b o e n hb' hx')
        · obtain ⟨sl, q⟩ := I4.base.slot b o e n hb' hx'
          exact ⟨sl, hb b _ (Nat.ne_of_lt (by have := lt_sz e; omega)) q⟩
        · obtain ⟨o', q⟩ := I4.base.there b o e hx'
          exact ⟨o', hb b _ (Nat.ne_of_lt (by have := lt_sz e; omega)) q⟩
        · refine (I4.hok b u e).stay (fun c' w' hc' q => hb c' w' ?_ q) (fun _ q => q) fun _ _ q => q
          intro z
          have fz : H' H3.objs.size = none := I4.free
          rcases hc' with y | y
          · rw [← y, z, fz] at e; cases e
          · rw [z, fz] at y; cases y
      exact ⟨.ref s2.heap.objs.size, H', I5, rfl, qn⟩
    · refine wpAny_mono (T.item (X.comp scope cl H3.objs.size (x :: ys) s2 H2 fp) rfl rfl rfl hcm i [] s3 _ H' (fun _ _ => False) I3 (fpok fr3) st3 go) (fun r s4 h4 => ?_) fun _ _ z => z.elim
      obtain ⟨u, hr, h4⟩ := h4
      subst hr
      dsimp only
      have asg : wpAny (model X.prog X.w) X.A (letOwnedTupleGo (.Name x px) (.ref it) u >>= fun _ => assign (.Name x px) (compEnvC scope cl H3.objs.size X.env) u)
          (fun _ s6 => ∃ x5 H5, (∃ pn5, Inv (X.comp scope cl H3.objs.size (x :: ys) s2 H2 fp) pn5 (some x5 :: around fr σ) H5 s6 ∧ (∀ b ∈ fp, ∃ o, (b, o) ∈ pn5)) ∧ J.yld i H' x5 H5 ∧ tn (i + 1) s6.heap ∧ ∀ b ∈ fp, H5 b = none) (fun _ _ => False) s4 := by
        refine wpAny_bind (thn h4 fun _ s5 ⟨x5, H5, I5, r5, y5, st5, fr5⟩ => ?_)
        have I5' := I5.pinned (fpok fr5) (T.obj _ _ st5)
        refine wpAny_assign_Name (store_ok (i := 0) I5' hnd rfl (.inl (lookup_relabel_local hx)) r5 (fun s6 I6 => ?_) (.inr (lookup_relabel_local hx)))
        exact ⟨x5, H5, ⟨_, I6, fun b hb => by
          obtain ⟨o, e, _⟩ := T.obj _ _ st5 b hb
          exact ⟨o, List.mem_append_right _ (mem_pinsAt hb e)⟩⟩, y5, T.keep _ _ _ st5 fun b hb o e => (I6.pin (b, o) (List.mem_append_right _ (List.mem_append_right _ (mem_pinsAt hb e)))).1, fr5⟩
      have asg' : wpAny (model X.prog X.w) X.A (assign (.Name x px) (compEnvC scope cl H3.objs.size X.env) u) _ (fun _ _ => False) s4 := asg
      refine wpAny_mono asg' (fun _ s6 h6 => ?_) fun _ _ z => z.elim
      obtain ⟨x5, H5, ⟨pn5, I6, hp6⟩, y5, st6, fr5⟩ := h6
      have keepTurn : ∀ {σ7 : St} {H7 : Hp} {s7 : Shared}, Inv (X.comp scope cl H3.objs.size (x :: ys) s2 H2 fp) pn5 σ7 H7 s7 → tn (i + 1) s7.heap ∧ ∀ b ∈ fp, H7 b = none := fun {σ7 H7 s7} I7 => by
        refine ⟨T.keep _ _ _ st6 fun b hb o e => ?_, fun b hb => ?_⟩
        · obtain ⟨o', hm⟩ := hp6 b hb
          have a1 := (I6.pin (b, o') (List.mem_append_right _ hm)).1
          rw [e] at a1
          cases a1
          exact (I7.pin (b, _) (List.mem_append_right _ hm)).1
        · obtain ⟨o', hm⟩ := hp6 b hb
          exact (I7.pin (b, o') (List.mem_append_right _ hm)).2.1
      have drop : ∀ {σ7 : St} {H7 : Hp} {s7 : Shared}, Inv (X.comp scope cl H3.objs.size (x :: ys) s2 H2 fp) pn5 σ7 H7 s7 → Inv (X.comp scope cl H3.objs.size (x :: ys) s2 H2 fp) [] σ7 H7 s7 := fun I7 => I7.pins_of fun p hp => absurd hp (by simp)
      refine wpAny_tests_one (wpAny_mono (hc _ _ _ _ pn5 s6 _ H5 _ I6 (step x5 H5 y5)) (fun b s7 h7 => ?_) fun _ _ z => z.elim)
      obtain ⟨H7, I7, q7⟩ := h7
      cases b with
      | false =>
        obtain ⟨m', hm, w'⟩ := hN _ _ q7
        obtain ⟨k1, k2⟩ := keepTurn I7
        exact ⟨m', hm, i + 1, some x5, ys3, H7, drop I7, k1, k2, w'⟩
      | true =>
        refine wpAny_mono (he _ _ _ _ pn5 s7 _ H7 _ I7 q7) (fun y s8 h8 => ?_) fun _ _ z => z.elim
        obtain ⟨yv, H8, I8, r8, hl8, n8⟩ := h8
        refine wpAny_mono (mt_append (X := X.comp scope cl H3.objs.size (x :: ys) s2 H2 fp) pn5 s8 _ H8 (.ref s2.heap.objs.size) [yv] (.ref s2.heap.objs.size) [y] (fun z H9 => N (ys3 ++ [yv]) H9) I8 rfl (.cons r8 .nil) ⟨s2.heap.objs.size, ys3, yv, rfl, rfl, hl8, hz, n8⟩) (fun _ s9 h9 => ?_) fun _ _ z => z.elim
        obtain ⟨_, H9, I9, _, n9⟩ := h9
        obtain ⟨m', hm, w'⟩ := hN _ _ n9
        obtain ⟨k1, k2⟩ := keepTurn I9
        exact ⟨m', hm, i + 1, some x5, ys3 ++ [yv], H9, drop I9, k1, k2, w'⟩
  exact codeAny_compStart_list (loop _ rfl) (T.self X.A 0 _ _ _ (T.keep _ _ _ st2 fun b hb o e => old b o e) (loop _ rfl))
end L2

set_option Elab.async false
set_option linter.all false
set_option maxRecDepth 100000
set_option maxHeartbeats 4000000
namespace PySem
open PySem.Spec

section
variable {prog : Program} {w : World} {A : Around} {E : Value → Shared → Prop} {h : Heap} {g : Array GenState} {d : Drawn} {t : Nat} {os : OsState}
variable {nm q : Str} {C N : Addr} {bs bm bmB : List Value} {hdct : Bool} {sn : List Str} {sub : List Value} {ab : Bool} {col : Option Bool} {dd : Option Addr} {k0 k1 k2 k3 k5 : Option Value} {B newId initId : String}

theorem xi_type_call (F : ExcBaseFacts B newId initId bmB) (T : OwnTail h bmB bm) {mN : Str → Option Value} {rest : List Value} {fI : Addr} {oI : Obj} {Q : Fin → Shared → Prop}
    (hC : h.get? C = some (excClassObj nm q C N bs bm hdct sn sub ab col dd k0 k1 k2 k3 k5 newId)) (hn : h.Ns N mN) (hi : mN "__init__" = some (.ref fI))
    (hfI : h.get? fI = some oI) (hfc : oI.cls = .type "function")
    (hq : ∀ h' e, h.objs.size ≤ e → Heap.MadeExcOf h h' e (.ref C) rest →
      wpAny (model prog w) A (call (.ref fI) (.ref e :: rest)) (fun r s' => r = .none ∧ Q (.done (.ret (.ref e))) s') E ⟨h', g, d, t, os⟩) (hrest : rest.length ≤ sizeLine) :
    wpAny (model prog w) A (Builtin.«type.__call__» ⟨.ref C :: rest, []⟩) Q E ⟨h, g, d, t, os⟩ := by
  repeat (first | with_reducible refine wpAny_loadPart_at hC ?_ | with_reducible refine wpAny_madeBy_exc hC ?_ | wp_step)
  refine codeAny_call_builtin_code (Code.quiet_builtin _ F.quiet) (wpAny_check_new_subT F T hC ?_)
  refine codeAny_exc_new_subT F T hC ?_ hrest
  show wpAny _ _ _ _ _ _
  have hC₁ := Heap.get?_push_of_some { cls := .ref C, data := .fields #[.ref h.objs.size, .none, .none, .none, .bool false, .none] }
    (Heap.get?_push_of_some { cls := .type "tuple", data := .seq rest.toArray } hC)
  have hfI₁ := Heap.get?_push_of_some { cls := .ref C, data := .fields #[.ref h.objs.size, .none, .none, .none, .bool false, .none] }
    (Heap.get?_push_of_some { cls := .type "tuple", data := .seq rest.toArray } hfI)
  have hn₁ : ((h.push { cls := .type "tuple", data := .seq rest.toArray }).push { cls := .ref C, data := .fields #[.ref h.objs.size, .none, .none, .none, .bool false, .none] }).Ns N mN :=
    let ⟨o, es, ep, e, r⟩ := hn; ⟨o, es, ep, Heap.get?_push_of_some _ (Heap.get?_push_of_some _ e), r⟩
  have hget : ((h.push { cls := .type "tuple", data := .seq rest.toArray }).push
      { cls := .ref C, data := .fields #[.ref h.objs.size, .none, .none, .none, .bool false, .none] }).get? (h.objs.size + 1) = some
      { cls := .ref C, data := .fields #[.ref h.objs.size, .none, .none, .none, .bool false, .none] } := by heap_get
  have hcC : (Value.ref C :: bm).contains (.ref C) = true := by simp
  have T₁ := T.keeps (h' := (h.push { cls := .type "tuple", data := .seq rest.toArray }).push { cls := .ref C, data := .fields #[.ref h.objs.size, .none, .none, .none, .bool false, .none] })
    fun b o e => Heap.get?_push_of_some _ (Heap.get?_push_of_some _ e)
  unfold isInstance
  repeat (first | with_reducible refine wpAny_loadPart_at hget ?_ | (with_reducible refine wpAny_isSubtype_exc hC₁ ?_; rw [hcC]) | wp_step)
  show wpAny _ _ (typeLookup (.ref C) _) _ _ _
  refine wpAny_typeLookup_tail hC₁ hn₁ T₁ F.mroIs F.init.lookup ?_
  rw [hi]
  refine wpAny_holding (wpAny_bind ?_)
  unfold bindSpecial
  refine wpAny_bind (wpAny_typeOf (T := "function") ⟨_, hfI₁, hfc⟩ ?_)
  rw [if_pos (by decide)]
  refine wpAny_pure (wpAny_bind (wpAny_mono (hq _ (h.objs.size + 1) (Nat.le_succ _) ⟨fun b o hb => Heap.get?_push_of_some _ (Heap.get?_push_of_some _ hb), Heap.get?_none_of_le (Nat.le_succ _), h.objs.size, hget, Heap.get?_none_of_le (Nat.le_refl _), ?_⟩) (fun r s' hr => ?_) fun _ _ x => x))
  · exact Heap.get?_push_of_some _ (Heap.get?_push_at rfl rfl)
  · obtain ⟨rfl, hQ⟩ := hr
    wp_walk
    exact hQ

theorem xi_call (F : ExcBaseFacts B newId initId bmB) (T : OwnTail h bmB bm) {mN : Str → Option Value} {rest : List Value} {fI : Addr} {oI : Obj} {Q : Value → Shared → Prop}
    (hC : h.get? C = some (excClassObj nm q C N bs bm hdct sn sub ab col dd k0 k1 k2 k3 k5 newId)) (hn : h.Ns N mN) (hi : mN "__init__" = some (.ref fI))
    (hfI : h.get? fI = some oI) (hfc : oI.cls = .type "function")
    (hq : ∀ h' e, h.objs.size ≤ e → Heap.MadeExcOf h h' e (.ref C) rest →
      wpAny (model prog w) (A.under (.builtin "type.__call__" ⟨.ref C :: rest, []⟩)) (call (.ref fI) (.ref e :: rest)) (fun r s' => r = .none ∧ Q (.ref e) s') E ⟨h', g, d, t, os⟩) (hrest : rest.length ≤ sizeLine) :
    wpAny (model prog w) A (call (.ref C) rest) Q E ⟨h, g, d, t, os⟩ := by
  have f1 := tc_lookup
  have f2 := tc_bind (.ref C)
  have hT : (⟨h, g, d, t, os⟩ : Shared).TypeIs (.ref C) "type" := ⟨_, hC, rfl⟩
  refine wpAny_call (codeAny_of_tree ?_)
  show wpAny _ _ (callAny (.ref C) _) _ _ _
  repeat (any_goals (first | assumption | with_reducible refine wpAny_loadPart_at hC ?_ | wp_step))
  refine ⟨rfl, ?_⟩
  refine codeAny_call_builtin_at (Code.quiet_builtin _ (by decide +kernel)) entry_typeCall (wpAny_check_type_call_sub hC (xi_type_call (hrest := hrest) F T hC hn hi hfI hfc fun h' e hl hm => ?_))
  exact hq h' e hl hm
end
end PySem
namespace PySem.W
open PySem PySem.Calls PyProof.Rows Builtin Builtin.ObjectAttr Builtin.Getset_descriptor
def excMro : List Value → Bool
  | .ref _ :: r => excMro r
  | l => l == [.type "ValueError", .type "Exception", .type "BaseException", .type "object"]
theorem excMro_end {l : List Value} (h : excMro l = true) : (∃ c r, l = .ref c :: r ∧ excMro r = true) ∨ l = [.type "ValueError", .type "Exception", .type "BaseException", .type "object"] := by
  unfold excMro at h
  split at h
  · exact .inl ⟨_, _, rfl, h⟩
  · exact .inr (beq_iff_eq.mp h)
theorem refuse_exc (self : Value) : ∀ {l : List Value}, excMro l = true → refuseLoop self "__setattr__" l = pure ()
  | [], e => by cases e
  | v :: r, e => by
    rcases excMro_end e with ⟨c, r', z, e'⟩ | z
    · cases z
      rw [refuseLoop_ref]
      exact refuse_exc self e'
    · rw [z]
      exact PySem.F.store_ValueError.passes self
section
variable {prog : Program} {w : World} {A : Around} {E : Value → Shared → Prop} {s : Shared} {K : Frag} {x C : Addr} {ox : Obj} {od : Option Obj} {name : Str} {R : Result → Shared → Prop}
theorem xsa_open {tk : Tok} {v : Value} (X : K.In s.heap) (I : InstAt s.heap x ox C od) (hp : (clsIn K C).any (fun cd => excMro cd.mro) = true) (hob : mroIn K C (.type "object") = some true) (ht : takerIn K C name = some none)
    (h : ∀ b, wpAny (model prog w) A.in1 (storeInOwnDict (.ref x) (.ref C) (.str name tk) name v b)
      (fun fin s' => match fin with | .done f => R (.ok f) s' | .again c' => c'.quiet = true ∧ codeAny (model prog w) A c' R s') (fun e s' => R (.error e) s') s) :
    codeAny (model prog w) A (.call (.builtin "object.__setattr__") ⟨[.ref x, .str name tk, v], []⟩) R s := by
  have SF := PySem.F.store_object
  obtain ⟨cd, hc, ho⟩ := any_some hp
  have sub : Looks (model prog w) s.heap (isInstance (.ref x) (.type "object")) true := I.type.andThen (looks_mroIn X hob)
  refine codeAny_call_builtin SF.slot.plain SF.entry (@check_slot (model prog w) _ _ s "object.__setattr__" "object" "__setattr__" (.ref x) [.str name tk, v] [] _ SF.kind SF.split sub (SF.args (.ref x) (.str name tk) v) ?_)
  obtain ⟨attr, ha, hr⟩ := Option.bind_eq_some_iff.mp ht
  have hm : Looks (model prog w) s.heap (mroOf (.ref C)) cd.mro := (looks_clsIn X hc).andThen .now
  have L3 : Looks (model prog w) s.heap (storeTaker? attr) none := by
    cases attr with
    | none => cases hr; exact .now
    | some a =>
      obtain ⟨b, hb, hb2⟩ := Option.map_eq_some_iff.mp hr
      refine (looks_takesIn X hb).andThen ?_
      cases b with
      | true => cases hb2
      | false => exact .now
  rw [osa_eq, refuse_eq]
  refine wpAny_bind (wpAny_bind (I.type.here (wpAny_bind (hm.here ?_))))
  rw [refuse_exc _ ho]
  refine wpAny_pure (wpAny_bind (I.type.here (wpAny_bind ((looks_findIn X ha).here (wpAny_bind (L3.here ?_))))))
  exact h _

theorem xget_by {tk : Tok} {fill expr : Bool} {Q : Value → Shared → Prop} (X : K.In s.heap) (L0 : Looks (model prog w) s.heap (typeOf (.ref x)) (.ref C)) (hga : findIn K (.ref C) "__getattribute__" = some (some (.builtin "BaseException.__getattribute__")))
    (hgn : findIn K (.ref C) "__getattr__" = some none) (hbe : mroIn K C (.type "BaseException") = some true)
    (h : wpAny (model prog w) A.in1 (Builtin.«object.__getattribute__» ⟨[.ref x, .str name tk], []⟩) (fun fin s' => match fin with | .done (.ret v) => wpAny (model prog w) A (handedOut v) Q E s' | _ => False) (fun _ _ => False) s) :
    wpAny (model prog w) A (getAttrBy (.ref x) (.str name tk) fill expr) Q E s := by
  have L1 := looks_findIn (M := model prog w) X hga
  have L2 := looks_findIn (M := model prog w) X hgn
  have sub : Looks (model prog w) s.heap (isInstance (.ref x) (.type "BaseException")) true := L0.andThen (looks_mroIn X hbe)
  have hx2 : (Value.builtin "BaseException.__getattribute__" == Value.builtin "object.__getattribute__") = false := by decide +kernel
  have FB := PySem.F.attr_ValueError
  unfold getAttrBy
  refine wpAny_holding (wpAny_bind (L0.here (wpAny_bind (L1.here ?_))))
  dsimp only
  rw [hx2, Bool.and_false, if_neg (by decide)]
  unfold getAttrByItsOwn hookBefore
  rw [if_pos (show onTheHeap (.ref C) = true from rfl)]
  refine wpAny_bind (L2.here (wpAny_bind (wpAny_attempt (wpAny_holding ?_))))
  unfold callGetattribute
  rw [if_neg (by cases expr <;> decide)]
  unfold boundAndCalled
  rw [FB.ga.bind (.ref x)]
  refine wpAny_bind (wpAny_pure (wpAny_call (codeAny_call_builtin FB.ga.plain PySem.F.entry_bexc_ga (@check_slot (model prog w) _ _ s "BaseException.__getattribute__" "BaseException" "__getattribute__" (.ref x) [.str name tk] [] _ (by decide +kernel) (by decide +kernel) sub (PySem.F.args_bexc_ga (.ref x) (.str name tk)) ?_))))
  refine wpAny_mono h (fun fin s' z => ?_) fun _ _ z => z.elim
  rcases fin with (_ | _ | _ | _) | _ <;> first | exact z | exact z.elim

theorem xset0 {v : Value} {o : Obj} {Q : Unit → Shared → Prop} (X : K.In s.heap) (hs : findIn K (.ref C) "__setattr__" = some (some (.builtin "object.__setattr__"))) (hp : (clsIn K C).any (fun cd => excMro cd.mro) = true)
    (hob : mroIn K C (.type "object") = some true) (ht : takerIn K C name = some none) (hh : hasDictIn K C = true) (hx : s.heap.get? x = some o) (hc : o.cls = .ref C) (hno : notCls o = true) (hdn : o.dict = none)
    (h : ∀ h' tk, h'.get? x = some { o with dict := some s.heap.objs.size } → h'.Ns1 s.heap.objs.size (fun y => if y = name then some v else none) →
      (∀ b ob, b ≠ x → s.heap.get? b = some ob → h'.get? b = some ob) → Q () { s with heap := h', toks := tk }) : wpAny (model prog w) A (setAttr (.ref x) name v) Q E s := by
  obtain ⟨hp0, g, d, t, os⟩ := s
  dsimp only at X hx h
  obtain ⟨oc, odi, oda, osl⟩ := o
  dsimp only at hc hdn
  subst hc hdn
  have I : InstAt hp0 x ⟨.ref C, none, oda, osl⟩ C none := ⟨hx, rfl, hno, trivial⟩
  refine set_plain (s := ⟨hp0, g, d, t, os⟩) X I hs (xsa_open (s := ⟨hp0, g, d, t + 1, os⟩) X I hp hob ht fun b => ?_)
  obtain ⟨cd, hc, hd'⟩ := any_some hh
  refine wpAny_bind (wpAny_pure (wpAny_bind (wpAny_bind (wpAny_loadPart hx (wpAny_bind (Looks.here (s := ⟨hp0, g, d, t + 1, os⟩) (looks_clsIn X hc) ?_))))))
  rw [hd']
  have hxs : x ≠ hp0.objs.size := Nat.ne_of_lt (Heap.lt_size hx)
  have hx₁ : (hp0.push { cls := .type "dict", data := .dict #[] }).get? x = some ⟨.ref C, none, oda, osl⟩ := Heap.get?_push_of_some _ hx
  have hgd : ((hp0.push { cls := .type "dict", data := .dict #[] }).update x fun o => { cls := o.cls, dict := some hp0.objs.size, data := o.data, slots := o.slots }).get? hp0.objs.size
      = some { cls := .type "dict", data := .dict #[] } :=
    (Heap.get?_update_ne _ _ _ _ hxs.symm).trans (Heap.get?_push_at rfl rfl)
  have hnd : ((hp0.push { cls := .type "dict", data := .dict #[] }).update x fun o => { cls := o.cls, dict := some hp0.objs.size, data := o.data, slots := o.slots }).Ns hp0.objs.size (fun _ => none) :=
    ⟨_, #[], _, hgd, rfl, fun e he => absurd he (by simp), fun _ => rfl⟩
  have hnc : ∀ c, oda ≠ .cls c := fun c z => by subst z; cases hno
  rw [if_neg (by decide)]
  dsimp only
  rw [if_neg (by simp [typeHasDict])]
  split
  · exact absurd (by first | assumption | rfl) (hnc _)
  · refine wpAny_bind (wpAny_alloc' ?_)
    refine wpAny_bind (wpAny_update' hx₁ ?_)
    refine wpAny_pure ?_
    show wpAny _ _ (storeInDict hp0.objs.size (.str name _) name v) _ _ _
    unfold storeInDict newKeyGuard
    refine wpAny_bind (wpAny_pure (wpAny_bind (wpAny_nsSet1 (Heap.Ns1.of_empty hnd) fun h' hn' hs => ?_)))
    obtain ⟨oD, esD, epD, hoD, hdD, hcD⟩ := hn'.count (PySem.Within.cons name v PySem.Within.nil)
    refine wpAny_bind (wpAny_lookBehind hoD (by rw [hdD]; exact pastItsLine_dict (Nat.le_trans hcD (by rw [List.length_cons, List.length_nil, sizeLine_eq]; omega))) ?_)
    refine wpAny_pure ?_
    refine h h' _ ?_ hn' fun b ob hbx hb => (hs.2 b (Nat.ne_of_lt (Heap.lt_size hb))).trans ((Heap.get?_update_ne _ _ _ _ hbx).trans (Heap.get?_push_of_some _ hb))
    refine (hs.2 x hxs).trans (Heap.get?_update_self _ hx₁ ?_)
    have hfr := (Heap.get?_some_iff.mp hx).2
    cases oda <;> first | rfl | exact hfr

theorem xset1 {v : Value} {o : Obj} {dx : Addr} {mA : Str → Option Value} {ns : List Str} {Q : Unit → Shared → Prop} (X : K.In s.heap) (hs : findIn K (.ref C) "__setattr__" = some (some (.builtin "object.__setattr__"))) (hp : (clsIn K C).any (fun cd => excMro cd.mro) = true)
    (hob : mroIn K C (.type "object") = some true) (ht : takerIn K C name = some none) (hh : hasDictIn K C = true) (hx : s.heap.get? x = some o) (hc : o.cls = .ref C) (hno : notCls o = true) (hdx : o.dict = some dx) (hns : s.heap.Ns1 dx mA)
    (hw : PySem.Within mA ns) (hsz : ns.length + 1 ≤ sizeLine)
    (h : ∀ h' tk, h'.Ns1 dx (fun y => if y = name then some v else mA y) → (∀ b ob, b ≠ dx → s.heap.get? b = some ob → h'.get? b = some ob) → Q () { s with heap := h', toks := tk }) : wpAny (model prog w) A (setAttr (.ref x) name v) Q E s := by
  obtain ⟨hp0, g, d, t, os⟩ := s
  dsimp only at X hx h hns
  obtain ⟨oc, odi, oda, osl⟩ := o
  dsimp only at hc hdx
  subst hc hdx
  obtain ⟨oD, esD, epD, hoD, _⟩ := id hns
  have I : InstAt hp0 x ⟨.ref C, some dx, oda, osl⟩ C (some oD) := ⟨hx, rfl, hno, hoD⟩
  refine set_plain (s := ⟨hp0, g, d, t, os⟩) X I hs (xsa_open (s := ⟨hp0, g, d, t + 1, os⟩) X I hp hob ht fun b => ?_)
  obtain ⟨cd, hc, hd'⟩ := any_some hh
  refine wpAny_bind (wpAny_pure (wpAny_bind (wpAny_bind (wpAny_loadPart hx (wpAny_bind (Looks.here (s := ⟨hp0, g, d, t + 1, os⟩) (looks_clsIn X hc) ?_))))))
  rw [hd']
  refine wpAny_pure (a := some dx) (wpAny_bind (wpAny_pure (wpAny_bind ?_)))
  refine wpAny_nsSet1 (s := ⟨hp0, g, d, t + 1, os⟩) hns fun h' hn2 hs2 => ?_
  obtain ⟨oD, esD, epD, hoD, hdD, hcD⟩ := hn2.count (PySem.Within.cons name v hw)
  refine wpAny_bind (wpAny_lookBehind hoD (by rw [hdD]; exact pastItsLine_dict (Nat.le_trans hcD (by rw [List.length_cons]; omega))) ?_)
  refine wpAny_pure ?_
  exact h h' _ hn2 fun b ob hb e => (hs2.2 b hb).trans e

theorem xget_value {v : Value} {expr : Bool} {Q : Value → Shared → Prop} (X : K.In s.heap) (I : InstAt s.heap x ox C od) (hga : findIn K (.ref C) "__getattribute__" = some (some (.builtin "BaseException.__getattribute__")))
    (hgn : findIn K (.ref C) "__getattr__" = some none) (hbe : mroIn K C (.type "BaseException") = some true) (hf : findObj K C od name = some (.value v)) (hh : handedIn v = true) (h : Q v { s with toks := s.toks + 1 }) :
    wpAny (model prog w) A (getAttr (.ref x) name expr) Q E s := by
  obtain ⟨hp0, g, d, t, os⟩ := s
  have L0 := I.type (M := model prog w)
  have L1 := looks_find (M := model prog w) X I hf
  unfold getAttr
  refine wpAny_bind (wpAny_mkText (xget_by (s := ⟨hp0, g, d, t + 1, os⟩) X L0 hga hgn hbe ?_))
  refine wpAny_bind (wpAny_pure (wpAny_bind (wpAny_pure (wpAny_bind (L0.at (wpAny_bind (L1.at ?_)))))))
  refine wpAny_pure ?_
  show wpAny _ _ (handedOut v) _ _ _
  rw [handedOut_of hh]; exact wpAny_pure h

theorem xclass_get {tp : Value} (X : K.In s.heap) (L0 : ∀ M, Looks M s.heap (typeOf (.ref x)) (.ref C)) (hm : mroIn K C (.type "object") = some true)
    (h : R (.ok (.ret (.ref C))) s) : codeAny (model prog w) A (.call (.builtin "getset_descriptor.__get__") ⟨[.builtin "object.__class__", .ref x, tp], []⟩) R s := by
  obtain ⟨hh, g, dr, t, os⟩ := s
  have L0 := L0 (model prog w)
  have L1 := looks_mroIn (M := model prog w) X hm
  refine codeAny_call_builtin KF.slot_gs.plain KF.entry_gs (KF.slot_gs.check _ _ _ _ _ _ _ _ KF.type_class (KF.args_gs _ _ _) ?_)
  unfold Builtin.«getset_descriptor.__get__» descrGet
  rw [dga_obj]
  refine wpAny_bind (wpAny_pure ?_)
  unfold descrGetter descrCheckInstance descrNameAndClass isInstance
  simp only [KF.owner_class]
  repeat lk
  refine ⟨Code.quiet_builtin _ (by decide +kernel), codeAny_builtin KF.entry_class ?_⟩
  unfold Builtin.«object.__class__» shownTypeOf
  repeat lk
  exact h
theorem xfind_class (X : K.In s.heap) (ha : findIn K (.ref C) "__class__" = some (some (.builtin "object.__class__")))
    (hn : specialIn K (.builtin "object.__class__") "__get__" = some (some (.builtin "getset_descriptor.__get__"))) (htk : takesIn K (.builtin "object.__class__") = some true) (M : Model) :
    Looks M s.heap (find (.ref x) (.ref C) "__class__") (.bind (.builtin "getset_descriptor.__get__") (.builtin "object.__class__")) := by
  have L1 := looks_findIn (M := M) X ha
  have L2 : Looks M s.heap (getOf (some (.builtin "object.__class__"))) (some (.builtin "getset_descriptor.__get__")) := looks_specialIn X hn
  have L3 := looks_takesIn (M := M) X htk
  refine L1.andThen (L2.andThen ?_)
  refine Looks.andThen (L3.andThen .now) ?_
  exact Looks.tag .now

theorem xclass {Q : Option Value → Shared → Prop} (X : K.In s.heap) (L0 : ∀ M, Looks M s.heap (typeOf (.ref x)) (.ref C)) (hga : findIn K (.ref C) "__getattribute__" = some (some (.builtin "BaseException.__getattribute__")))
    (hgn : findIn K (.ref C) "__getattr__" = some none) (hbe : mroIn K C (.type "BaseException") = some true) (hob : mroIn K C (.type "object") = some true)
    (ha : findIn K (.ref C) "__class__" = some (some (.builtin "object.__class__"))) (hn : specialIn K (.builtin "object.__class__") "__get__" = some (some (.builtin "getset_descriptor.__get__"))) (htk : takesIn K (.builtin "object.__class__") = some true)
    (h : Q (some (.ref C)) { s with toks := s.toks + 1 }) : wpAny (model prog w) A (getAttr? (.ref x) "__class__") Q E s := by
  have L1 := xfind_class (x := x) X ha hn htk (model prog w)
  obtain ⟨hp0, g, d, t, os⟩ := s
  unfold getAttr? getAttrBy?
  refine wpAny_bind (wpAny_mkText (wpAny_bind (wpAny_attempt (xget_by (s := ⟨hp0, g, d, t + 1, os⟩) X (L0 _) hga hgn hbe ?_))))
  refine wpAny_bind (wpAny_pure (wpAny_bind (wpAny_pure (wpAny_bind ((L0 _).at (wpAny_bind (L1.at ?_)))))))
  show wpAny _ _ (bindTo _ _ _ _) _ _ _
  unfold bindTo
  refine wpAny_bind (wpAny_holding (wpAny_call (xclass_get (s := ⟨hp0, g, d, t + 1, os⟩) X L0 hob ?_)))
  refine wpAny_pure ?_
  show wpAny _ _ (handedOut (.ref C)) _ _ _
  rw [handedOut_of rfl]; exact wpAny_pure (wpAny_pure h)
end
end PySem.W

set_option Elab.async false
set_option linter.all false
set_option maxRecDepth 100000
set_option maxHeartbeats 4000000
/-! Own exceptions that are made, with fields: made, stored into, read, asked for their class. -/
namespace L2
open PySem PySem.Spec PyProof.Rows

/-- what is asked of a class of refusals -/
structure XCls (K : PySem.W.Frag) (C : Addr) : Prop where
  ga : PySem.W.findIn K (.ref C) "__getattribute__" = some (some (.builtin "BaseException.__getattribute__"))
  gn : PySem.W.findIn K (.ref C) "__getattr__" = some none
  sa : PySem.W.findIn K (.ref C) "__setattr__" = some (some (.builtin "object.__setattr__"))
  be : PySem.W.mroIn K C (.type "BaseException") = some true
  ob : PySem.W.mroIn K C (.type "object") = some true
  mro : (PySem.W.clsIn K C).any (fun cd => PySem.W.excMro cd.mro) = true
  hd : PySem.W.hasDictIn K C = true
  ca : PySem.W.findIn K (.ref C) "__class__" = some (some (.builtin "object.__class__"))
  cg : PySem.W.specialIn K (.builtin "object.__class__") "__get__" = some (some (.builtin "getset_descriptor.__get__"))
  ct : PySem.W.takesIn K (.builtin "object.__class__") = some true

theorem kat_looks {a C : Addr} {h : Heap} (k : KAt a (.ref C) h) (M : Model) : PySem.W.Looks M h (typeOf (.ref a)) (.ref C) := by
  obtain ⟨o, h1, h2⟩ := k
  exact h2 ▸ (PySem.W.Looks.ld h1).andThen .now
theorem kitx_exc {K : PySem.W.Frag} {a C : Addr} (c : XCls K C) : PySem.W.KitX K (.ref a) (.ref C) (KAt a (.ref C)) where
  ty := fun M h _ p => kat_looks p M
  it := fun _ _ X _ => by
    obtain ⟨cdD, hcD, _⟩ := PySem.W.any_some c.hd
    unfold PySem.W.clsIn at hcD
    split at hcD
    · rename_i c' d' cd' sl' ho
      intro A' Q' E' s' k q
      unfold isType loadHead
      exact wpAny_bind (wpAny_loadPart (k _ _ (X _ _ ho)) (wpAny_pure q))
    · cases hcD
  ne := fun h tp dd its n sl X htp => by
    obtain ⟨cdD, hcD, _⟩ := PySem.W.any_some c.hd
    refine Bool.eq_false_iff.mpr fun q => ?_
    have e : C = tp := Value.ref.inj (beq_iff_eq.mp q)
    subst e
    unfold PySem.W.clsIn at hcD
    split at hcD
    · rename_i c' d' cd' sl' ho
      have z := (X _ _ ho).symm.trans htp
      cases z
    · cases hcD
  ca := fun X p k => PySem.W.xclass X (kat_looks p) c.ga c.gn c.be c.ob c.ca c.cg c.ct k

/-- isinstance of an exception whose class is known -/
def rIsiX (K : PySem.W.Frag) : List V → Hp → VK → Prop := fun xs H Q => ∃ ea C cv c b φ, xs = [.ref ea, cv] ∧ ClsV cv c ∧ H ea = some (.ext φ) ∧ (∀ h, φ h → KAt ea (.ref C) h) ∧ XCls K C ∧ PySem.W.kitOne K (.ref C) c = some b ∧ Q (.bl b) H
theorem call_isiX {X : Cx} : CallR X (.builtin "isinstance") (rIsiX X.K) := by
  intro pins s σ H xs us Q I r h
  obtain ⟨ea, C, cv, c, b, φ, rfl, rc, hH, hφ, xc, e, q⟩ := h
  obtain ⟨u, v, rfl, ru, rv⟩ := Vals.two r
  cases (show u = _ from ru)
  have ec : v = c := rc.eq rv
  subst ec
  obtain ⟨p, _⟩ := (show ObjOk X.prog X.w H s.heap ea (.ext φ) from I.hok ea _ hH)
  exact PySem.W.kia_one (kitx_exc xc) I.kIn (hφ _ p) e (fun z => nomatch z) fun tk => ⟨.bl b, H, I.tok tk, rfl, q⟩

/-- the same where the context's own facts are known by another name -/
theorem call_isiK {X : Cx} {K : PySem.W.Frag} (h : X.K = K) : CallR X (.builtin "isinstance") (rIsi K) := by
  subst h
  exact call_isi
theorem call_isiXK {X : Cx} {K : PySem.W.Frag} (h : X.K = K) : CallR X (.builtin "isinstance") (rIsiX K) := by
  subst h
  exact call_isiX
theorem lookup_kind {y : Str} {k : NameKind} : ∀ {l : List (Str × NameKind)}, l.lookup y = some k → k ∈ l.map (·.2)
  | [], h => by cases h
  | (n, k') :: l, h => by
    rw [List.lookup_cons] at h
    cases e : (y == n) with
    | true =>
      rw [e] at h
      cases h
      exact List.mem_cons_self
    | false =>
      rw [e] at h
      exact List.mem_cons_of_mem _ (lookup_kind h)
/-- a weaker reading -/
theorem PE.imp {X : Cx} {e : Expr} {t t' : TE} (h : PE X e t) (f : ∀ σ H Q, t' σ H Q → t σ H Q) : PE X e t' := fun pins s σ H Q I q => h pins s σ H Q I (f σ H Q q)
theorem PT.imp {X : Cx} {e : Expr} {t t' : TT} (h : PT X e t) (f : ∀ σ H Q, t' σ H Q → t σ H Q) : PT X e t' := fun pins s σ H Q I q => h pins s σ H Q I (f σ H Q q)
/-! ### a made exception: the object, its dict -/
def XOf (a C : Addr) (dx : Option Addr) (h : Heap) : Prop := ∃ o, h.get? a = some o ∧ o.cls = .ref C ∧ PySem.W.notCls o = true ∧ o.dict = dx
def XO (a C : Addr) (dx : Option Addr) : HO := .ext (XOf a C dx)
def XDf (a : Addr) (fs : List (Str × V)) (h : Heap) : Prop := ∃ mA, h.Ns1 a mA ∧ (∀ f, RelO (fs.lookup f) (mA f)) ∧ PySem.Within mA (fs.map (·.1))
def XD (a : Addr) (fs : List (Str × V)) : HO := .ext (XDf a fs)
theorem xo_kat {a C : Addr} {dx : Option Addr} (h : Heap) (x : XOf a C dx h) : KAt a (.ref C) h := let ⟨o, e, c, _⟩ := x; ⟨o, e, c⟩
theorem xo_ok {P : Program} {w : World} {H : Hp} {h : Heap} {a C : Addr} {dx : Option Addr} (x : XOf a C dx h) : ObjOk P w H h a (XO a C dx) := by
  obtain ⟨o, e, r⟩ := x
  exact ⟨⟨o, e, r⟩, ⟨o, e⟩, fun h1 h2 ⟨o1, e1, r1⟩ k => ⟨o1, k o1 e1, r1⟩⟩
theorem xd_ok {P : Program} {w : World} {H : Hp} {h : Heap} {a : Addr} {fs : List (Str × V)} (x : XDf a fs h) : ObjOk P w H h a (XD a fs) := by
  obtain ⟨mA, ⟨o, es, ep, ho, q⟩, r⟩ := x
  exact ⟨⟨mA, ⟨o, es, ep, ho, q⟩, r⟩, ⟨o, ho⟩, fun h1 h2 ⟨m1, ⟨o1, es1, ep1, ho1, q1⟩, r1⟩ k => ⟨m1, ⟨o1, es1, ep1, k o1 ho1, q1⟩, r1⟩⟩
theorem xd_one {f : Str} {y : V} {u : Value} (ry : RelV y u) (g : Str) : RelO ((([(f, y)] : List (Str × V))).lookup g) (if g = f then some u else none) := by
  by_cases q : g = f
  · subst q
    simp only [List.lookup_cons, beq_self_eq_true, if_true]
    exact ry
  · have : (g == f) = false := by simpa using q
    simp only [List.lookup_cons, this, List.lookup_nil, if_neg q]
    exact True.intro
section
variable {X : Cx} {o e value : Expr} {f : Str} {pos pos' : Pos} {ta tv : TE}
/-- e.f of an exception -/
def tXf (K : PySem.W.Frag) (ta : TE) (f : Str) : TE := fun σ H Q => ta σ H fun x H1 => ∃ a C dx fs v, x = .ref a ∧ H1 a = some (XO a C (some dx)) ∧ H1 dx = some (XD dx fs) ∧ XCls K C ∧ NoAttr K C f ∧ fs.lookup f = some v ∧ Q v H1
theorem pe_xfld (he : PE X e ta) (hb : attributeBase e f X.env (eval e X.env) = eval e X.env) : PE X (.Attribute e f pos) (tXf X.K ta f) := by
  intro pins s σ H Q I h
  refine attr_of hb (thn (he pins s σ H _ I h) fun u s1 ⟨x, H1, I1, rx, a, C, dx, fs, v, ex, ea, ed, c, n, l, q⟩ => ?_)
  subst ex
  obtain rfl : u = Value.ref a := rx
  obtain ⟨⟨o, ho, hc, hn, hd⟩, _⟩ := (show ObjOk X.prog X.w H1 s1.heap a (XO a C (some dx)) from I1.hok a _ ea)
  obtain ⟨⟨mA, ns, r, wi⟩, _⟩ := (show ObjOk X.prog X.w H1 s1.heap dx (XD dx fs) from I1.hok dx _ ed)
  obtain ⟨od, hod, hl⟩ := lookIn_ns ns
  obtain ⟨uv, hu, ru⟩ := RelO.some_of (v := v) (o := mA f) (by rw [← l]; exact r f)
  have J : PySem.W.InstAt s1.heap a o C (some od) := ⟨ho, hc, hn, by rw [hd]; exact hod⟩
  exact PySem.W.xget_value I1.kIn J c.ga c.gn c.be (PySem.W.findObj_own c.hd n rfl (by rw [hl, hu])) (handed_of ru) ⟨v, H1, I1.tok _, ru, q⟩
theorem pe_xfldK {K : PySem.W.Frag} (h : X.K = K) (he : PE X e ta) (hb : attributeBase e f X.env (eval e X.env) = eval e X.env) : PE X (.Attribute e f pos) (tXf K ta f) := by
  subst h
  exact pe_xfld he hb
/-- e.f = value, the first field -/
def sX0 (K : PySem.W.Frag) (ta tv : TE) (f : Str) : TS := fun D σ H => tv σ H fun y H1 => ta σ H1 fun x H2 => ∃ a C, x = .ref a ∧ H2 a = some (XO a C none) ∧ XCls K C ∧ NoAttr K C f ∧ ∀ dx, H2 dx = none → dx ≠ a → D.nx σ (upd (upd H2 dx (XD dx [(f, y)])) a (XO a C (some dx)))
theorem ps_xfld0 (ha : PE X o ta) (hv : PE X value tv) (hs : swapsWith value (some (.Attribute o f pos')) pos.line X.env = pure false) : PS X (.Assign [.Attribute o f pos'] value pos) (sX0 X.K ta tv f) := by
  intro pins s σ H D I h
  refine plainObj_wpAny_Assign_Attribute (thn (hv pins s σ H _ I h) fun u s1 ⟨y, H1, I1, ry, q⟩ => thn (ha pins s1 σ H1 _ I1 q) fun ov s2 ⟨x, H2, I2, rx, a, C, ex, ea, c, n, q2⟩ => ?_) hs
  subst ex
  obtain rfl : ov = Value.ref a := rx
  obtain ⟨⟨o, ho, hc, hn, hd⟩, _⟩ := (show ObjOk X.prog X.w H2 s2.heap a (XO a C none) from I2.hok a _ ea)
  have hlt := Heap.lt_size ho
  have hf : H2 s2.heap.objs.size = none := I2.hok.fresh (Nat.le_refl _)
  have hne : s2.heap.objs.size ≠ a := Nat.ne_of_gt hlt
  refine PySem.W.xset0 I2.kIn c.sa c.mro c.ob n.taker c.hd ho hc hn hd fun h' tk hx' hns hk => ⟨σ, _, ?_, q2 s2.heap.objs.size hf hne⟩
  have nb : ∀ b ob, s2.heap.get? b = some ob → b ≠ s2.heap.objs.size := fun b ob e => Nat.ne_of_lt (Heap.lt_size e)
  have un : Un X.fs [] H2 (upd (upd H2 s2.heap.objs.size (XD s2.heap.objs.size [(f, y)])) a (XO a C (some s2.heap.objs.size))) s2.heap h' := by
    refine ⟨fun b ob e n hb _ => hk b ob (fun z => by rw [z, ea] at n; cases n) e, fun b ob e n hb _ => ⟨ob.slots, hk b ob (fun z => by rw [z, ea] at n; cases n) e⟩, fun b ob e n _ => ?_, fun b ob e _ => ?_, fun b xs e => ?_, fun b ob u e => ?_, fun b ps e => ?_⟩
    · rw [upd_ne (fun z => by rw [z, ea] at n; cases n), upd_ne (nb b ob e)]
      exact n
    · by_cases z : b = a
      · subst z
        exact ⟨_, hx'⟩
      · exact ⟨ob, hk b ob z e⟩
    · rw [upd_ne (ne_of e ea (by intro z; cases z)), upd_ne (ne_of_none e hf)]
      exact e
    · rw [upd_ne (ne_of e ea (by intro z; cases z)), upd_ne (ne_of_none e hf)]
      exact e
    · exact ⟨#[], by rw [upd_ne (ne_of e ea (by intro z; cases z)), upd_ne (ne_of_none e hf), Array.append_empty]; exact e⟩
  refine I2.un un fun b u e => ?_
  by_cases z : b = a
  · subst z
    rw [upd_same] at e
    cases e
    exact xo_ok ⟨_, hx', hc, by cases o; exact hn, rfl⟩
  · rw [upd_ne z] at e
    by_cases z2 : b = s2.heap.objs.size
    · subst z2
      rw [upd_same] at e
      cases e
      refine xd_ok ⟨_, hns, fun g => xd_one ry g, ?_⟩
      exact PySem.Within.cons f u PySem.Within.nil
    · rw [upd_ne z2] at e
      refine (I2.hok b u e).stay (fun c' w' hc' e' => hk c' w' ?_ e') (fun c' e' => ?_) fun c' xs e' => ?_
      · rcases hc' with rfl | y'
        · exact z
        · intro zz
          rw [zz, ea] at y'
          cases y'
      · rw [upd_ne (ne_of e' ea (by intro zz; cases zz)), upd_ne (ne_of_none e' hf)]
        exact e'
      · rw [upd_ne (ne_of e' ea (by intro zz; cases zz)), upd_ne (ne_of_none e' hf)]
        exact e'
/-- e.f = value, a further field -/
def sX1 (K : PySem.W.Frag) (ta tv : TE) (f : Str) : TS := fun D σ H => tv σ H fun y H1 => ta σ H1 fun x H2 => ∃ a C dx fs, x = .ref a ∧ H2 a = some (XO a C (some dx)) ∧ H2 dx = some (XD dx fs) ∧ XCls K C ∧ NoAttr K C f ∧ fs.length < 1000 ∧ D.nx σ (upd H2 dx (XD dx (putF f y fs)))
theorem ps_xfld1 (ha : PE X o ta) (hv : PE X value tv) (hs : swapsWith value (some (.Attribute o f pos')) pos.line X.env = pure false) : PS X (.Assign [.Attribute o f pos'] value pos) (sX1 X.K ta tv f) := by
  intro pins s σ H D I h
  refine plainObj_wpAny_Assign_Attribute (thn (hv pins s σ H _ I h) fun u s1 ⟨y, H1, I1, ry, q⟩ => thn (ha pins s1 σ H1 _ I1 q) fun ov s2 ⟨x, H2, I2, rx, a, C, dx, fs, ex, ea, ed, c, n, hl, q2⟩ => ?_) hs
  subst ex
  obtain rfl : ov = Value.ref a := rx
  obtain ⟨⟨o, ho, hc, hn, hd⟩, _⟩ := (show ObjOk X.prog X.w H2 s2.heap a (XO a C (some dx)) from I2.hok a _ ea)
  obtain ⟨⟨mA, ns, r, wi⟩, _⟩ := (show ObjOk X.prog X.w H2 s2.heap dx (XD dx fs) from I2.hok dx _ ed)
  refine PySem.W.xset1 I2.kIn c.sa c.mro c.ob n.taker c.hd ho hc hn hd ns wi (by rw [List.length_map, sizeLine_eq]; omega) fun h' tk hns hk => ⟨σ, _, ?_, q2⟩
  have heo : ∃ u, h'.get? dx = some u := let ⟨o, _, _, e', _⟩ := hns; ⟨o, e'⟩
  refine I2.write (x := dx) (e := dx) (by rw [ed]; exact True.intro) (.inl rfl) (fun b w hb e => hk b w hb e) heo (xd_ok ⟨_, hns, fun g => ?_, fun g hg => ?_⟩)
  · show RelO ((putF f y fs).lookup g) (if g = f then some u else mA g)
    rw [lookup_putF]
    by_cases q : g = f
    · rw [if_pos q, if_pos q]; exact ry
    · rw [if_neg q, if_neg q]; exact r g
  · by_cases q : g = f
    · rw [q]; exact (keys_putF f y fs).1
    · refine (keys_putF f y fs).2 g (wi g fun z => hg ?_)
      show (if g = f then some u else mA g) = none
      rw [if_neg q]; exact z
end

/-! ### made by a call of its class -/
def excInI (K : PySem.W.Frag) (C f : Addr) : Bool := match K.lookup C with
  | some ⟨.type "type", _, .cls cd, sl⟩ => (match cd.mro, sl.toList with
    | .ref C' :: bm, [_, _, _, _, some (.builtin n), _] => C' == C && n == "ValueError.__new__" && !cd.hasDel && PySem.W.tailIn K [.type "ValueError", .type "Exception", .type "BaseException", .type "object"] bm && PySem.W.nsOkIn K cd.ns && PySem.W.nsIn K cd.ns "__init__" == some (some (.ref f))
    | _, _ => false)
  | _ => false
structure MkX (K : PySem.W.Frag) (C f : Addr) : Prop where
  ex : excInI K C f = true
  fn : PySem.W.isFn K (.ref f) = true
  kp : PySem.W.keepIn K (.ref C) = true
theorem ns_val_of {K : PySem.W.Frag} {N : Addr} {h : Heap} {mg : Str → Option Value} {n : Str} {v : Value} (X : K.In h) (G : h.Ns N mg) (e : PySem.W.nsIn K N n = some (some v)) : mg n = some v := by
  obtain ⟨o, es, ep, ho, hd, _, hf⟩ := G
  unfold PySem.W.nsIn at e
  split at e
  · rename_i c d es' n' sl q
    have := X _ _ q
    rw [ho] at this
    cases this
    cases hd
    split at e
    · rename_i en he
      cases e
      rw [← hf]
      unfold nsFind findBy
      rw [← Array.find?_toList, he]
      rfl
    · split at e <;> cases e
  · cases e
theorem exc_inI {K : PySem.W.Frag} {h : Heap} {C f : Addr} (X : K.In h) (q : excInI K C f = true) :
    ∃ bm N nm qn bs hdct sn sub ab col dd k0 k1 k2 k3 k5 mN, h.get? C = some (excClassObj nm qn C N bs bm hdct sn sub ab col dd k0 k1 k2 k3 k5 "ValueError.__new__") ∧ h.Ns N mN ∧ mN "__init__" = some (.ref f) ∧ OwnTail h [.type "ValueError", .type "Exception", .type "BaseException", .type "object"] bm := by
  unfold excInI at q
  split at q
  · rename_i dd cd sl ho
    split at q
    · rename_i C' bm k0 k1 k2 k3 n k5 hm hs
      simp only [Bool.and_eq_true, beq_iff_eq, Bool.not_eq_true'] at q
      obtain ⟨⟨⟨⟨⟨z1, z2⟩, hdel⟩, ht⟩, hok⟩, hni⟩ := q
      subst z1 z2
      obtain ⟨nm, bs, mro, ns, qn, hd, sn, sub, ab, col, del⟩ := cd
      dsimp only at hm hdel hok hni
      subst hm hdel
      have hsl : sl = #[k0, k1, k2, k3, some (.builtin "ValueError.__new__"), k5] := by
        obtain ⟨l⟩ := sl
        simp only at hs
        rw [hs]
      subst hsl
      have hns := PySem.W.isNs_of_in X hok
      exact ⟨bm, ns, nm, qn, bs, hd, sn, sub, ab, col, dd, k0, k1, k2, k3, k5, _, X _ _ ho, .of_isNs hns, ns_val_of X (.of_isNs hns) hni, PySem.W.tail_of_in X ht⟩
    · cases q
  · cases q
section
variable {X : Cx} {CX : CXT} {k : Nat} {f C : Addr} {fd : FuncData} {ps : List Str} {sp : Sp} {E : XK} {x : Str} {p pos : Pos} {e : Expr} {es : List Expr} {t : TA}
def tMakeX (C : Addr) (sp : Sp) (E : XK) (t : TA) : TE := fun σ H Q => t σ H fun vs H1 => vs.length ≤ sizeLine ∧ ∀ ea, H1 ea = none → sp (.ref ea :: vs) (upd H1 ea (XO ea C none)) (fun r H2 => r = .non ∧ Q (.ref ea) H2) E
theorem run_makeX {pins : List (Addr × Obj)} {σ : St} {H : Hp} {s : Shared} {Q : VK} {us : List Value} {vs : List V} (M : MkX X.K C f) (F : FnOk X.prog X.w X.K X.mg X.base CX k f fd ps sp) (hr : Room (k + 1) X.A) (hb : Binds X.K fd ps [])
    (hx : Passes CX X E) (I : Inv X pins σ H s) (r : Vals vs us) (hz : vs.length ≤ sizeLine)
    (h : ∀ ea, H ea = none → sp (.ref ea :: vs) (upd H ea (XO ea C none)) (fun v H2 => v = .non ∧ Q (.ref ea) H2) E) :
    wpAny (model X.prog X.w) X.A (call (.ref C) us) (EP X pins σ Q) X.xe s := by
  obtain ⟨bm, N, nm, qn, bs, hdct, sn, sub, ab, col, dd, k0, k1, k2, k3, k5, mN, hC, hn, hi, T⟩ := exc_inI I.kIn M.ex
  have hfn : PySem.W.typeIn X.K (.ref f) = some (.type "function") := beq_iff_eq.mp M.fn
  obtain ⟨oI, hl, hoc⟩ := Option.map_eq_some_iff.mp (show (X.K.lookup f).map (·.cls) = some (.type "function") from hfn)
  obtain ⟨hp0, g, d, tk, os⟩ := s
  refine xi_call PySem.F.excBase_ValueError T hC hn hi (I.kIn _ _ hl) hoc (fun h' ea hle hm => ?_) (by rw [← r.length]; exact hz)
  obtain ⟨ta, hta, _, _⟩ := hm.there
  have hfr : H ea = none := I.hok.fresh hle
  have hq := h ea hfr
  have I2 : Inv X pins σ (upd H ea (XO ea C none)) ⟨h', g, d, tk, os⟩ := I.laid (t' := tk) hm.keeps hle (xo_ok ⟨_, hta, rfl, rfl, rfl⟩)
  have r2 : Vals (V.ref ea :: vs) (Value.ref ea :: us) := .cons rfl r
  have hl2 : (Value.ref ea :: us ++ []).length = ps.length := by
    have e := r2.length
    rw [F.len _ _ _ _ hq] at e
    rw [List.append_nil]
    exact e.symm
  have hb2 := hb ⟨h', g, d, tk, os⟩ (Value.ref ea :: us) I2.kIn hl2
  rw [List.append_nil] at hb2
  refine wpAny_call (codeAny_mono (F.run _ X.stack _ _ ⟨Value.ref ea :: us, []⟩ (Value.ref ea :: us) _ _ E (hr.make C us []) (I2.env0.make C us []) hb2 r2 hq) fun r s' hq' => ?_)
  cases r with
  | error e => exact hx pins σ _ _ e s' I2 hq'
  | ok fl =>
    cases fl with
    | ret u =>
      obtain ⟨v, H', I3, rv, ev, q3⟩ := I2.after hq'
      subst ev
      exact ⟨rv, ⟨V.ref ea, H', I3, rfl, q3⟩⟩
    | next => exact False.elim hq'
    | brk => exact False.elim hq'
    | cont => exact False.elim hq'
theorem pe_makeX (M : MkX X.K C f) (F : FnOk X.prog X.w X.K X.mg X.base CX k f fd ps sp) (hr : Room (k + 1) X.A) (hg : Gl X x) (hm : X.mg x = some (.ref C)) (hb : Binds X.K fd ps []) (hx : Passes CX X E)
    (ha : PA X (e :: es) t) (hdb : (x == ("__debug__" : Str)) = false := by decide) (he : starEach (e :: es) X.env = (false, eval e X.env) :: starEach es X.env := by rfl) (hpl : (backTo pos (starEach es X.env)).any (·.1) = false := by rfl) :
    PE X (.Call (.Name x p) (e :: es) [] pos) (tMakeX C sp E t) := by
  intro pins s σ H Q I h
  refine wpAny_Call_Name_kw (ld_glob I hg hm ?_ hdb)
  refine PySem.W.callWith_K (h₀ := X.base) I.ok.mod.kin M.kp (thn (ha pos pins s σ H _ I h) fun us s1 ⟨vs, H1, I1, r, q⟩ => ⟨I1.kIn, ?_⟩) he hpl
  exact run_makeX M F hr hb hx I1 r q.1 q.2
end
end L2

set_option Elab.async false
set_option linter.all false
set_option maxRecDepth 100000
set_option maxHeartbeats 4000000
/-! The judgements closed up (so that no elaborator looks into them): displays, an item at a time. -/
namespace L2
open PySem PySem.Spec PyProof.Rows
def noStar : Expr → Bool
  | .Starred .. => false
  | _ => true
theorem star_cons {e : Expr} {es : List Expr} {env : Env} (h : noStar e = true) : starEach (e :: es) env = (false, eval e env) :: starEach es env := by
  cases e <;> first | rfl | cases h
structure QE (X : Cx) (e : Expr) (t : TE) : Prop where
  out : PE X e t
structure QA (X : Cx) (es : List Expr) (t : TA) : Prop where
  out : PA X es t
section
variable {X : Cx} {a : Expr} {es : List Expr} {ta : TE} {t : TA} {j : Nat} {pos : Pos}
theorem qc (ha : QE X a ta) (hr : QA X es t) (h : noStar a = true) : QA X (a :: es) (tCons ta t) := ⟨pa_cons ha.out hr.out (star_cons h)⟩
theorem q_nil : QA X [] tNil := ⟨pa_nil⟩
theorem q_int {i : Int} : QE X (.Constant (.int i) j pos) (tC (.int i)) := ⟨pe_int⟩
theorem q_bl {b : Bool} : QE X (.Constant (.bool b) j pos) (tC (.bl b)) := ⟨pe_bl⟩
theorem q_str {x : Str} : QE X (.Constant (.str x) j pos) (tC (.str x)) := ⟨pe_str⟩
theorem q_non : QE X (.Constant .none j pos) (tC .non) := ⟨pe_non⟩
theorem q_tup (h : QA X es t) : QE X (.Tuple es j pos) (tTup t) := ⟨pe_tup h.out⟩
theorem q_lst (h : QA X es t) : QE X (.List es pos) (tLst t) := ⟨pe_lst h.out⟩
theorem q_neg (h : QE X a ta) : QE X (.UnaryOp .USub a pos) (tUn (rU fun i => .int (-i)) ta) := ⟨pe_un un_neg h.out⟩
end
end L2

set_option Elab.async false
set_option linter.all false
set_option maxRecDepth 100000
set_option maxHeartbeats 4000000
/-! The layer's rules over closed judgements: no elaborator looks into them, every side condition is handed in. -/
namespace L2
open PySem PySem.Spec PyProof.Rows FrM
structure QT (X : Cx) (e : Expr) (t : TT) : Prop where
  out : PT X e t
structure QW (X : Cx) (e : Expr) (t : TT) : Prop where
  out : PW X e t
structure QS (X : Cx) (st : Stmt) (t : TS) : Prop where
  out : PS X st t
structure QB (X : Cx) (b : List Stmt) (t : TS) : Prop where
  out : PSs X b t
structure QI (X : Cx) (tg iter : Expr) (t : TI) : Prop where
  out : PI X tg iter t
structure QG (X : Cx) (tg : Expr) (t : TG) : Prop where
  out : PG X tg t
structure QGs (X : Cx) (tg : List Expr) (t : TGs) : Prop where
  out : PGs X tg t
def noStars : List Expr → Bool
  | [] => true
  | e :: es => noStar e && noStars es
theorem stars_any {pos : Pos} {env : Env} : ∀ {es : List Expr}, noStars es = true → (backTo pos (starEach es env)).any (·.1) = false
  | [], _ => rfl
  | e :: es, h => by
    have h2 : noStar e = true ∧ noStars es = true := by simpa [noStars] using h
    rw [star_cons h2.1]
    show (false || (backTo pos (starEach es env)).any (·.1)) = false
    rw [stars_any h2.2]
    rfl
section
variable {X : Cx} {K : PySem.W.Frag} {a b c e o : Expr} {es rest : List Expr} {ta tb tc te to : TE} {tA tB' : TT} {t : TA} {x : Str} {p pos pos' apos cpos : Pos} {j i : Nat}
/-! names -/
theorem qv (i : Nat) (hN : X.N[i]? = some x) (hv : Vis X.env.scope x) (hd : (x == ("__debug__" : Str)) = false) (hc : (x == ("__classdict__" : Str)) = false) : QE X (.Name x pos) (tVar i) := ⟨pe_var hN hv hd hc⟩
theorem q_glob {v : V} {u : Value} (hg : Gl X x) (hm : X.mg x = some u) (r : RelV v u) (hd : (x == ("__debug__" : Str)) = false) : QE X (.Name x pos) (tC v) := ⟨pe_glob hg hm r hd⟩
theorem q_bltn {v : V} {u : Value} (hg : Gl X x) (hm : X.mg x = none) (hv : bootBuiltins x = some u) (r : RelV v u) (hn : x ≠ "__name__") (hd : (x == ("__debug__" : Str)) = false) : QE X (.Name x pos) (tC v) := ⟨pe_bltn hg hm hv r hn hd⟩
/-! operators -/
theorem q_op {op : Operator} {r : R2} (ho : OpR X (binaryOp op) r) (ha : QE X a ta) (hb : QE X b tb) : QE X (.BinOp a op b pos) (tOp r ta tb) := ⟨pe_op ho ha.out hb.out⟩
theorem q_add (ha : QE X a ta) (hb : QE X b tb) : QE X (.BinOp a .Add b pos) (tOp (rI0 fun i j => .int (i + j)) ta tb) := q_op op_add ha hb
theorem q_sub (ha : QE X a ta) (hb : QE X b tb) : QE X (.BinOp a .Sub b pos) (tOp (rI0 fun i j => .int (i - j)) ta tb) := q_op op_sub ha hb
theorem q_mulS (ha : QE X a ta) (hb : QE X b tb) : QE X (.BinOp a .Mult b pos) (tOp (rI (fun i j => Sz 4000 i ∧ Sz 4000 j) fun i j => .int (i * j)) ta tb) := q_op op_mulS ha hb
theorem q_fdiv (ha : QE X a ta) (hb : QE X b tb) : QE X (.BinOp a .FloorDiv b pos) (tOp (rI CDiv fun i j => .int (i / j)) ta tb) := q_op op_fdiv ha hb
theorem q_mod (ha : QE X a ta) (hb : QE X b tb) : QE X (.BinOp a .Mod b pos) (tOp (rI (fun _ j => 0 < j) fun i j => .int (i % j)) ta tb) := q_op op_mod ha hb
theorem q_pow (ha : QE X a ta) (hb : QE X b tb) : QE X (.BinOp a .Pow b pos) (tOp (rI CPow fun i j => .int (i ^ j.toNat)) ta tb) := q_op op_pow ha hb
theorem q_cat (ha : QE X a ta) (hb : QE X b tb) : QE X (.BinOp a .Add b pos) (tOp rCat ta tb) := q_op op_cat ha hb
theorem q_not (ha : QE X a ta) : QE X (.UnaryOp .Not a pos) (tNotV ta) := ⟨pe_not ha.out⟩
theorem q_one {op : BoolOp} (h : QE X a ta) : QE X (.BoolOp op [a] pos) ta := ⟨pe_one h.out⟩
theorem q_and (ha : QE X a ta) (hb : QE X (.BoolOp .And (b :: rest) pos) tb) : QE X (.BoolOp .And (a :: b :: rest) pos) (tAndV ta tb) := ⟨pe_and ha.out hb.out⟩
theorem q_or (ha : QE X a ta) (hb : QE X (.BoolOp .Or (b :: rest) pos) tb) : QE X (.BoolOp .Or (a :: b :: rest) pos) (tOrV ta tb) := ⟨pe_or ha.out hb.out⟩
theorem q_ifx (hc : QT X c tA) (ha : QE X a ta) (hb : QE X b tb) : QE X (.IfExp c a b pos) (tIf tA ta tb) := ⟨pe_ifExp hc.out ha.out hb.out⟩
/-! comparisons, as values and as tests -/
theorem q_cmp {op : CmpOp} {r : R2} (ho : OpR X (compareOp op) r) (ha : QE X a ta) (hb : QE X b tb) (hm : behindInMarks op b = false) : QE X (.Compare a [op] [b] pos) (tOp r ta tb) := ⟨pe_cmpR ho ha.out hb.out hm⟩
theorem t_cmp {op : CmpOp} {r : R2} (ho : OpR X (compareOp op) r) (ha : QE X a ta) (hb : QE X b tb) (hm : behindInMarks op b = false) : QT X (.Compare a [op] [b] pos) (tTest (tOp r ta tb)) := ⟨pt_cmpR ho ha.out hb.out hm⟩
theorem q_isN (ha : QE X a ta) (h : behindInMarks .Is (.Constant .none j pos') = false) : QE X (.Compare a [.Is] [.Constant .none j pos'] pos) (tIsN ta) := ⟨pe_cmp (pc_isN ha.out) h⟩
theorem t_isN (ha : QE X a ta) (h : behindInMarks .Is (.Constant .none j pos') = false) : QT X (.Compare a [.Is] [.Constant .none j pos'] pos) (tB (tIsN ta)) := ⟨pt_cmp (pc_isN ha.out) h⟩
/-! tests -/
theorem t_val (h : QE X e te) (he : ∀ whole, isTrue e X.env whole = (do let v ← whole; standAt e.pos; holding [v] (truthy v))) : QT X e (tB te) := ⟨pt_val h.out he⟩
theorem t_not (h : QT X a tA) : QT X (.UnaryOp .Not a pos) (tNot tA) := ⟨pt_not h.out⟩
theorem w_or1 (h : QT X a tA) : QW X (.BoolOp .Or [a] pos) tA := ⟨pw_or1 h.out⟩
theorem w_or (ha : QT X a tA) (hb : QW X (.BoolOp .Or (b :: rest) pos) tB') : QW X (.BoolOp .Or (a :: b :: rest) pos) (tOr tA tB') := ⟨pw_or ha.out hb.out⟩
theorem t_w (h : QW X e tA) : QT X e tA := ⟨h.out.pt⟩
/-! items -/
theorem q_ixl (hK : X.K = K) (ha : QE X a ta) (hb : QE X b tb) (hs : PlainIx b) : QE X (.Subscript a b pos) (tOp (rIxL K) ta tb) := by
  subst hK
  exact ⟨pe_ix ix_list ha.out hb.out hs⟩
theorem q_ixt (hK : X.K = K) (ha : QE X a ta) (hb : QE X b tb) (hs : PlainIx b) : QE X (.Subscript a b pos) (tOp (rIxT K) ta tb) := by
  subst hK
  exact ⟨pe_ix ix_tup ha.out hb.out hs⟩
/-! calls -/
section
variable {CX : CXT} {k : Nat} {f C : Addr} {fd : FuncData} {ps : List Str} {sp : Sp} {dvs : List V} {ds : List Value} {E : XK} {ES : St → XK} {id T : String} {r : List V → Hp → VK → Prop}
theorem q_call (F : FnOk X.prog X.w X.K X.mg X.base CX k f fd ps sp) (hr : Room k X.A) (hg : Gl X x) (hm : X.mg x = some (.ref f)) (hk : PySem.W.keepIn X.K (.ref f) = true) (hb : Binds X.K fd ps ds) (hd : Vals dvs ds) (hx : Passes CX X E)
    (ha : QA X (e :: es) t) (h1 : (x == ("__debug__" : Str)) = false) (h2 : noStar e = true) (h3 : noStars es = true) : QE X (.Call (.Name x p) (e :: es) [] pos) (tCall sp dvs E t) := ⟨pe_call F hr hg hm hk hb hd hx ha.out h1 (star_cons h2) (stars_any h3)⟩
theorem q_callS (F : FnOk X.prog X.w X.K X.mg X.base CX k f fd ps sp) (hr : Room k X.A) (hg : Gl X x) (hm : X.mg x = some (.ref f)) (hk : PySem.W.keepIn X.K (.ref f) = true) (hb : Binds X.K fd ps ds) (hd : Vals dvs ds) (hx : PassesS CX X ES)
    (ha : QA X (e :: es) t) (h1 : (x == ("__debug__" : Str)) = false) (h2 : noStar e = true) (h3 : noStars es = true) : QE X (.Call (.Name x p) (e :: es) [] pos) (tCallS sp dvs ES t) := ⟨pe_callS F hr hg hm hk hb hd hx ha.out h1 (star_cons h2) (stars_any h3)⟩
theorem q_callB (hc : CallR X (.builtin id) r) (hg : Gl X x) (hm : X.mg x = none) (hv : bootBuiltins x = some (.builtin id)) (ha : QA X (e :: es) t) (h0 : x ≠ "__name__") (h1 : (x == ("__debug__" : Str)) = false) (h2 : noStar e = true) (h3 : noStars es = true) :
    QE X (.Call (.Name x p) (e :: es) [] pos) (tCB r t) := ⟨pe_callB hc hg hm hv ha.out h0 h1 (star_cons h2) (stars_any h3)⟩
end
theorem call_lenK (hK : X.K = K) : CallR X (.builtin "len") (fun xs H Q => ∃ p ys, xs = [.ref p] ∧ (SqL K H p ys ∨ SqT K H p ys) ∧ Q (.int ys.length) H) := by
  subst hK
  exact call_len_seq
theorem q_imp {t' : TE} (h : QE X e te) (f : ∀ σ H Q, t' σ H Q → te σ H Q) : QE X e t' := ⟨PE.imp h.out f⟩
/-! statements -/
section
variable {st : Stmt} {sts b1 b2 : List Stmt} {u v : TS} {g : TG} {gs : TGs} {wi : TI} {tg iter : Expr}
theorem b_nil : QB X [] tNext := ⟨pss_nil⟩
theorem b_one (h : QS X st u) : QB X [st] u := ⟨pss_one h.out⟩
theorem b_cons (h : QS X st u) (h2 : QB X sts v) : QB X (st :: sts) (tSeq u v) := ⟨pss_cons h.out h2.out⟩
theorem s_ret (h : QE X e te) : QS X (.Return (some e) pos) (tRet te) := ⟨ps_ret h.out⟩
theorem s_expr (h : QE X e te) (hs : swapsWith e none pos.line X.env = pure false) : QS X (.Expr e pos) (tDrop te) := ⟨ps_expr h.out hs⟩
theorem s_if (hc : QT X c tA) (ha : QB X b1 u) (hb : QB X b2 v) : QS X (.If c b1 b2 pos) (tIfS tA u v) := ⟨ps_if hc.out ha.out hb.out⟩
theorem s_set (i : Nat) (hN : X.N.Nodup) (hi : X.N[i]? = some x) (hx : Loc X.env.scope x) (he : QE X e te) (hs : swapsWith e (some (.Name x pos')) pos.line X.env = pure false) (hf : X.fn x = true ∨ X.env.scope.names.lookup x = some .local) :
    QS X (.Assign [.Name x pos'] e pos) (tAsg te (gName i)) := ⟨ps_set hN hi hx he.out hs hf⟩
theorem s_asg (he : QE X e te) (hg : QG X tg g) (hs : swapsWithSole [tg] e pos.line X.env = pure false) (hw : swappedStores [tg] e X.env = pure none) (h1 : (assignEach [tg] X.env).map (·.2) = [assign tg X.env]) : QS X (.Assign [tg] e pos) (tAsg te g) := ⟨ps_asg he.out hg.out hs hw h1⟩
theorem g_name (i : Nat) (hN : X.N.Nodup) (hi : X.N[i]? = some x) (hx : Loc X.env.scope x) (hf : X.fn x = true ∨ X.env.scope.names.lookup x = some .local) : QG X (.Name x pos) (gName i) := ⟨pg_name hN hi hx hf⟩
theorem g_nil : QGs X [] gNil := ⟨pgs_nil⟩
theorem g_cons (h1 : QG X e g) (h2 : QGs X es gs) (hs : (assignEach (e :: es) X.env).map (·.2) = assign e X.env :: (assignEach es X.env).map (·.2)) : QGs X (e :: es) (gCons g gs) := ⟨pgs_cons h1.out h2.out hs⟩
theorem g_tup {n : Nat} (hK : X.K = K) (hc : X.calm = true) (h : QGs X es gs) (hn : (assignEach es X.env).length = n) (hst : (assignEach es X.env).findIdx? (·.1) = none) : QG X (.Tuple es j pos) (gTup K n gs) := by
  subst hK
  exact ⟨pg_tup hc h.out hn hst⟩
theorem i_rng2 (hg : Gl X "range") (hm : X.mg "range" = none) (h : QA X [a, b] t) (h2 : noStar a = true) (h3 : noStar b = true) : QI X tg (.Call (.Name "range" p) [a, b] [] pos) (iRng2 t) :=
  ⟨pi_range2 hg hm h.out (by rw [star_cons h2, star_cons h3]; rfl) (by rw [star_cons h3]; rfl)⟩
theorem s_for (hp : PassesOwn (model X.prog X.w) X.A X.env X.xe) (hc : X.calm = true) (hi : QI X tg iter wi) (hg : QG X tg g) (hb : QB X b1 u) (hs : ∀ x, foldedSetIterable iter X.env x = pure x) : QS X (.For tg iter b1 [] pos) (tFor wi g u) := ⟨ps_for hp hc hi.out hg.out hb.out hs⟩
end
end
end L2

set_option Elab.async false
set_option linter.all false
set_option maxRecDepth 100000
set_option maxHeartbeats 4000000
/-! [e for target in xs], [e for target in xs if c]: any target of n names, at most one test; names of the def around it through cells. -/
namespace L2
open PySem PySem.Spec PyProof.Rows
/-! ### the closed judgement, and the readings that one uses -/
section
variable {K : PySem.W.Frag} {g : TG} {tt : TT} {te : TE} {n : Nat} {fr : List Nat} {σ : St} {H : Hp} {Q : VK}
end
end L2

set_option Elab.async false
set_option linter.all false
set_option maxRecDepth 100000
set_option maxHeartbeats 4000000
/-! try and raise over the closed judgements -/
namespace L2
open PySem PySem.Spec PyProof.Rows
theorem s_try {X : Cx} {K : PySem.W.Frag} {body : List Stmt} {xc n : Str} {np hpos pos : Pos} {b₀ : Stmt} {suite : List Stmt} {tb : (St → XK) → TS} {ts : TS} {Cv : Value} (i : Nat) (hK : X.K = K) (hst : X.stack = X.env :: X.outer) (hfr : X.env.frame = some X.env.locals) (hN : X.N.Nodup) (hi : X.N[i]? = some n) (hn : X.env.scope.names.lookup n = some .local)
    (hg : Gl X xc) (hm : X.mg xc = some Cv ∨ (X.mg xc = none ∧ bootBuiltins xc = some Cv ∧ xc ≠ "__name__"))
    (hb : ∀ ps xe E, PassesS (Fly X.prog X.w) (X.tryB ps xe) E → QB (X.tryB ps xe) body (tb E)) (hs : ∀ e, QB (X.inExc e) (b₀ :: suite) ts) (hdb : (xc == ("__debug__" : Str)) = false) :
    QS X (.Try body [.ExceptHandler (some (.Name xc np)) (some n) (b₀ :: suite) hpos] [] [] pos) (tTry K Cv i tb ts) := by
  subst hK
  exact ⟨ps_try hst hfr hN hi hn hg hm (fun ps xe E hp => (hb ps xe E hp).out) (fun e => (hs e).out) hdb⟩
end L2

set_option Elab.async false
set_option linter.all false
set_option maxRecDepth 100000
set_option maxHeartbeats 4000000
namespace Fr
open PySem PySem.Spec PyProof.Rows L2 FrM
def top (i : Nat) : Stmt := PySem.Challenge.pw_measurewise_k01_fractions.main.body.getD i (.Pass ⟨0, 0, 0, 0⟩)
abbrev sWhole : Stmt := top 13
abbrev sNeed : Stmt := top 14
abbrev sDiv : Stmt := top 16
abbrev sFrac : Stmt := top 17
abbrev sIsF : Stmt := top 18
abbrev sSum : Stmt := top 19
abbrev sProd : Stmt := top 20
abbrev sWPow : Stmt := top 21
abbrev sTurn : Stmt := top 22
abbrev sPow : Stmt := top 23
abbrev sLess : Stmt := top 24
abbrev sShow : Stmt := top 25
abbrev lMix : Stmt := top 27
abbrev lNum : Stmt := top 28
abbrev lCom : Stmt := top 29
abbrev lSho : Stmt := top 30
abbrev lAbo : Stmt := top 31
abbrev lBel : Stmt := top 32
abbrev lShw : Stmt := top 33
abbrev lMade : Stmt := top 34
abbrev lNeed : Stmt := top 35
abbrev lErr : Stmt := top 36
abbrev lRef : Stmt := top 37
abbrev lPow : Stmt := top 38
abbrev lGone : Stmt := top 39
abbrev lLaw : Stmt := top 40
theorem bt_isinstance : bootBuiltins "isinstance" = some (.builtin "isinstance") := by decide +kernel
theorem bt_len : bootBuiltins "len" = some (.builtin "len") := by decide +kernel
theorem bt_abs : bootBuiltins "abs" = some (.builtin "abs") := by decide +kernel
theorem bt_int : bootBuiltins "int" = some (.type "int") := by decide +kernel
theorem bt_bool : bootBuiltins "bool" = some (.type "bool") := by decide +kernel
theorem bt_tuple : bootBuiltins "tuple" = some (.type "tuple") := by decide +kernel
theorem bt_str : bootBuiltins "str" = some (.type "str") := by decide +kernel
theorem bt_ValueError : bootBuiltins "ValueError" = some (.type "ValueError") := by decide +kernel
/-! kinds -/
inductive Kd (H : Hp) : V → Prop
  | non : Kd H .non
  | bl (b : Bool) : Kd H (.bl b)
  | int (i : Int) : Kd H (.int i)
  | str (x : Str) : Kd H (.str x)
  | lst {a : Addr} {xs : List V} (e : H a = some (.lst xs)) : Kd H (.ref a)
  | tup {a : Addr} {xs : List V} (e : H a = some (.tup xs)) : Kd H (.ref a)
def isW : V → Bool
  | .int _ => true
  | _ => false
def isIB : V → Bool
  | .int _ => true
  | .bl _ => true
  | _ => false
theorem k_none_int (K : PySem.W.Frag) : PySem.W.kitOne K (.type "NoneType") (.type "int") = some false := by kernel_rfl
theorem k_bool_int (K : PySem.W.Frag) : PySem.W.kitOne K (.type "bool") (.type "int") = some true := by kernel_rfl
theorem k_int_int (K : PySem.W.Frag) : PySem.W.kitOne K (.type "int") (.type "int") = some true := by kernel_rfl
theorem k_str_int (K : PySem.W.Frag) : PySem.W.kitOne K (.type "str") (.type "int") = some false := by kernel_rfl
theorem k_list_int (K : PySem.W.Frag) : PySem.W.kitOne K (.type "list") (.type "int") = some false := by kernel_rfl
theorem k_tuple_int (K : PySem.W.Frag) : PySem.W.kitOne K (.type "tuple") (.type "int") = some false := by kernel_rfl
theorem k_bool_bool (K : PySem.W.Frag) : PySem.W.kitOne K (.type "bool") (.type "bool") = some true := by kernel_rfl
theorem k_int_bool (K : PySem.W.Frag) : PySem.W.kitOne K (.type "int") (.type "bool") = some false := by kernel_rfl
theorem k_none_tuple (K : PySem.W.Frag) : PySem.W.kitOne K (.type "NoneType") (.type "tuple") = some false := by kernel_rfl
theorem k_str_tuple (K : PySem.W.Frag) : PySem.W.kitOne K (.type "str") (.type "tuple") = some false := by kernel_rfl
theorem k_list_tuple (K : PySem.W.Frag) : PySem.W.kitOne K (.type "list") (.type "tuple") = some false := by kernel_rfl
theorem k_tuple_tuple (K : PySem.W.Frag) : PySem.W.kitOne K (.type "tuple") (.type "tuple") = some true := by kernel_rfl
theorem k_int_tuple (K : PySem.W.Frag) : PySem.W.kitOne K (.type "int") (.type "tuple") = some false := by kernel_rfl
theorem k_bool_tuple (K : PySem.W.Frag) : PySem.W.kitOne K (.type "bool") (.type "tuple") = some false := by kernel_rfl
theorem kd_int (K : PySem.W.Frag) {H : Hp} {x : V} (k : Kd H x) : ∃ t, TyOf K H x t ∧ PySem.W.kitOne K t (.type "int") = some (isIB x) := by
  cases k with
  | non => exact ⟨_, .non, k_none_int K⟩
  | bl b => exact ⟨_, .bl b, k_bool_int K⟩
  | int i => exact ⟨_, .int i, k_int_int K⟩
  | str x => exact ⟨_, .str x, k_str_int K⟩
  | lst e => exact ⟨_, .lst e, k_list_int K⟩
  | tup e => exact ⟨_, .tup e, k_tuple_int K⟩
theorem kd_bool (K : PySem.W.Frag) {H : Hp} {x : V} (k : Kd H x) (h : isIB x = true) : ∃ t, TyOf K H x t ∧ PySem.W.kitOne K t (.type "bool") = some (!isW x) := by
  cases k with
  | bl b => exact ⟨_, .bl b, k_bool_bool K⟩
  | int i => exact ⟨_, .int i, k_int_bool K⟩
  | non => cases h
  | str x => cases h
  | lst e => cases h
  | tup e => cases h
/-- the names of Python's own that the text uses -/
structure Bn (mg : Str → Option Value) : Prop where
  isi : mg "isinstance" = none
  int : mg "int" = none
  bool : mg "bool" = none
  tuple : mg "tuple" = none
  len : mg "len" = none
  range : mg "range" = none
  str : mg "str" = none
  abs : mg "abs" = none
  verr : mg "ValueError" = none
section
variable {P : Program} {w : World} {K : PySem.W.Frag} {mg : Str → Option Value} {base : Heap}
def spWhole : Sp := fun vs H Q _ => ∃ x, vs = [x] ∧ Kd H x ∧ Q (.bl (isW x)) H
theorem scWhole : FnScope ["thing"] ["thing"] (defScope sWhole) := ⟨rfl, rfl, rfl, by decide +kernel, rfl, by decide +kernel, by decide +kernel⟩
theorem ok_whole {f : Addr} {fd : FuncData} (F : Fun K "is_whole" "is_whole" sWhole f fd) (B : Bn mg) : FnOk P w K mg base CX0 1 f fd ["thing"] spWhole := by
  refine F.ok scWhole (fun vs H Q E h => ?_) (fun cdv A outer s H vs Q E hr h => ?_)
  · obtain ⟨x, rfl, _⟩ := h
    rfl
  · obtain ⟨x, rfl, kd, q⟩ := h
    refine ⟨_, pss_one (ps_ret (pe_and (pe_callB call_isi (by rfl) B.isi bt_isinstance (pa_cons (pv 0) (pa_cons (pe_bltn (v := .ty "int") (by rfl) B.int bt_int rfl) pa_nil)))
      (pe_one (pe_not (pe_callB call_isi (by rfl) B.isi bt_isinstance (pa_cons (pv 0) (pa_cons (pe_bltn (v := .ty "bool") (by rfl) B.bool bt_bool rfl) pa_nil))))))), ?_⟩
    obtain ⟨t, ty, e⟩ := kd_int K kd
    refine ⟨x, rfl, x, .ty "int", t, .type "int", _, rfl, rfl, ty, e, _, rfl, ?_⟩
    cases hx : isIB x with
    | false =>
      refine iteF ?_
      have : isW x = false := by cases x <;> first | rfl | cases hx
      rw [this] at q
      exact q
    | true =>
      refine iteT ?_
      obtain ⟨t', ty', e'⟩ := kd_bool K kd hx
      refine ⟨x, rfl, x, .ty "bool", t', .type "bool", _, rfl, rfl, ty', e', _, rfl, ?_⟩
      rw [Bool.not_not]
      exact q
/-! common_divisor -/
def spDiv : Sp := fun vs H Q _ => ∃ a b : Int, vs = [.int a, .int b] ∧ 0 < b ∧ Q (.int ((Int.gcd a b : Nat) : Int)) H
theorem scDiv : FnScope ["above", "below", "greater", "lesser", "rest"] ["above", "below"] (defScope sDiv) := ⟨rfl, rfl, rfl, by decide +kernel, rfl, by decide +kernel, by decide +kernel⟩
theorem ok_div {f : Addr} {fd : FuncData} (F : Fun K "common_divisor" "common_divisor" sDiv f fd) : FnOk P w K mg base CX0 1 f fd ["above", "below"] spDiv := by
  refine F.ok scDiv (fun vs H Q E h => ?_) (fun cdv A outer s H vs Q E hr h => ?_)
  · obtain ⟨a, b, rfl, _⟩ := h
    rfl
  · obtain ⟨a, b, rfl, hb, q⟩ := h
    refine ⟨_, pss_cons (ps_set (i := 2) scDiv.nd rfl (Or.inl rfl) (pv 1)) (pss_cons (ps_set (i := 3) scDiv.nd rfl (Or.inl rfl) (pe_op op_mod (pv 0) (pv 1)))
      (pss_cons (ps_while PassesOwn.never (pt_cmpR op_gt (pv 3) pe_int (nomark _))
        (pss_cons (ps_set (i := 4) scDiv.nd rfl (Or.inl rfl) (pe_op op_mod (pv 2) (pv 3))) (pss_cons (ps_set (i := 2) scDiv.nd rfl (Or.inl rfl) (pv 3)) (pss_one (ps_set (i := 3) scDiv.nd rfl (Or.inl rfl) (pv 4))))))
      (pss_one (ps_ret (pv 2))))), ?_⟩
    refine ⟨_, rfl, _, rfl, _, rfl, _, _, rfl, rfl, hb, ?_⟩
    refine while_by (fun σ H' => H' = H ∧ ∃ (g l : Int) (r : Option V), σ = [some (.int a), some (.int b), some (.int g), some (.int l), r] ∧ 0 < g ∧ 0 ≤ l ∧ Int.gcd g l = Int.gcd a b)
      (fun (σ : L2.St) _ => match σ[3]? with | some (some (V.int l)) => l.toNat | _ => 0) ⟨rfl, b, a % b, none, rfl, hb, Int.emod_nonneg _ (by omega), gcd_step a b hb⟩ ?_ ?_
    · rintro σ H' ⟨rfl, g, l, r, rfl, hg, hl, e⟩
      refine ⟨_, rfl, _, _, rfl, rfl, _, rfl, ?_⟩
      refine ite2 (fun z => ?_) (fun z => ?_)
      · have hp : 0 < l := by simpa using z
        refine ⟨_, rfl, _, rfl, _, _, rfl, rfl, hp, _, rfl, _, rfl, ⟨rfl, l, g % l, _, rfl, hp, Int.emod_nonneg _ (by omega), ?_⟩, ?_⟩
        · rw [gcd_step g l hp, e]
        · show (g % l).toNat < l.toNat
          have := Int.emod_lt_of_pos g hp
          have := Int.emod_nonneg g (by omega : l ≠ 0)
          omega
      · have hz : l = 0 := by
          have : ¬ 0 < l := by simpa using z
          omega
        subst hz
        refine ⟨_, rfl, ?_⟩
        rw [← e, gcd_zero g (by omega)] at q
        exact q
    · rintro σ H' R R' hR ⟨v, e1, i, j, e2, e3, k, e4, q'⟩
      exact ⟨v, e1, i, j, e2, e3, k, e4, hR _ _ q'⟩
end
end Fr

set_option Elab.async false
set_option linter.all false
set_option maxRecDepth 100000
set_option maxHeartbeats 4000000
namespace Fr
open PySem PySem.Spec PyProof.Rows L2 FrM
/-- the classes of refusals that the walk meets -/
structure Ex (K : PySem.W.Frag) (mg : Str → Option Value) (BN : Addr) : Prop where
  mgB : mg "BadNumber" = some (.ref BN)
  inB : PySem.W.excIn K BN [.type "ValueError", .type "Exception", .type "BaseException", .type "object"] "ValueError.__new__" = true
section
variable {P : Program} {w : World} {K : PySem.W.Frag} {mg : Str → Option Value} {base : Heap}
/-- a def with defaults, or without (dV none) -/
structure FunD (K : PySem.W.Frag) (x qual : Str) (st : Stmt) (dV : Value) (f : Addr) (fd : FuncData) : Prop where
  ex : ∃ (oc : Value) (od : Option Addr) (kV doc pm : Value) (an : Option Addr) (cdv ct : Value) (osl : Array (Option Value)),
    fd = PySem.W.fnOf x qual (defArgs st) (defBody st) (defScope st) dV kV doc pm an cdv ct ∧ K.lookup f = some ⟨oc, od, .func fd, osl⟩ ∧ PySem.W.codeIn K cdv qual = true
  kp : PySem.W.keepIn K (.ref f) = true
theorem funD_mk {x qual : Str} {st : Stmt} {f : Addr} {oc : Value} {od an : Option Addr} {osl : Array (Option Value)} {dV kV doc pm cdv ct : Value} (l : K.lookup f = some ⟨oc, od, .func (PySem.W.fnOf x qual (defArgs st) (defBody st) (defScope st) dV kV doc pm an cdv ct), osl⟩)
    (c : PySem.W.codeIn K cdv qual = true) (k : PySem.W.keepIn K (.ref f) = true) : FunD K x qual st dV f (PySem.W.fnOf x qual (defArgs st) (defBody st) (defScope st) dV kV doc pm an cdv ct) := ⟨⟨oc, od, kV, doc, pm, an, cdv, ct, osl, rfl, l, c⟩, k⟩
theorem FunD.okX {x qual : Str} {st : Stmt} {dV : Value} {f : Addr} {fd : FuncData} {N ps : List Str} {k : Nat} {sp : Sp} (F : FunD K x qual st dV f fd) (S : FnScope N ps (defScope st)) (len : ∀ vs H Q E, sp vs H Q E → vs.length = ps.length)
    (hbody : ∀ (cdv : Value) (A : Around) (outer : List Env) (s : Shared) (H : Hp) (vs : List V) (Q : VK) (E : XK), Room k (A.deeper (envOfC qual (defScope st) s.heap.objs.size f cdv)) → sp vs H Q E →
      ∃ t, PSs (cxOf (Fly P w) P w K mg base N qual (defScope st) f cdv A outer s H E) (defBody st) t ∧ t { nx := fun _ H' => Q .non H', rt := Q } (start N vs) H) : FnOk P w K mg base (Fly P w) (k + 1) f fd ps sp := by
  obtain ⟨oc, od, kV, doc, pm, an, cdv, ct, osl, rfl, lk, hcd⟩ := F.ex
  refine fn_of lk hcd S len fun A outer s H vs Q E hr hsp => ?_
  exact hbody cdv A outer s H vs Q E hr hsp
theorem Fun.toD {x qual : Str} {st : Stmt} {f : Addr} {fd : FuncData} (F : Fun K x qual st f fd) : FunD K x qual st .none f fd := ⟨F.ex, F.kp⟩
/-- thing is a whole number from l on, and no more than m -/
def okN (x : V) (l : Int) (m : V) : Bool := match x, m with
  | .int i, .non => decide (l ≤ i)
  | .int i, .int k => decide (l ≤ i) && decide (i ≤ k)
  | _, _ => false
def spNeed (BN : Addr) : Sp := fun vs H Q E => ∃ (x : V) (l : Int) (m : V), vs = [x, .int l, m] ∧ Kd H x ∧ (m = .non ∨ ∃ k, m = .int k) ∧ (okN x l m = true → Q x H) ∧ (okN x l m = false → E (.ref BN) none H)
theorem scNeed : FnScope ["thing", "least", "most"] ["thing", "least", "most"] (defScope sNeed) := ⟨rfl, rfl, rfl, by decide +kernel, rfl, by decide +kernel, by decide +kernel⟩
theorem ok_need {f fW BN : Addr} {fd fdW : FuncData} {dN : Value} (F : FunD K "need_whole" "need_whole" sNeed dN f fd) (B : Bn mg) (X : Ex K mg BN) (FW : Fun K "is_whole" "is_whole" sWhole fW fdW) (bW : Binds K fdW ["thing"] []) (mW : mg "is_whole" = some (.ref fW)) :
    FnOk P w K mg base (Fly P w) 2 f fd ["thing", "least", "most"] (spNeed BN) := by
  have GW : FnOk P w K mg base CX0 1 fW fdW ["thing"] spWhole := ok_whole FW B
  refine F.okX scNeed (fun vs H Q E h => ?_) (fun cdv A outer s H vs Q E hr h => ?_)
  · obtain ⟨x, l, m, rfl, _⟩ := h
    rfl
  · obtain ⟨x, l, m, rfl, kd, hm, q, qe⟩ := h
    refine ⟨_, pss_cons (ps_if (pt_not (pt_val (pe_call GW hr (by rfl) mW FW.kp bW .nil pass0 (pa_cons (pv 0) pa_nil))))
        (pss_one (ps_raise PySem.F.excBase_ValueError X.inB raises_fly rfl (by rfl) X.mgB (pa_cons pe_str pa_nil))) pss_nil)
      (pss_cons (ps_if (pt_cmpR op_lt (pv 0) (pv 1) (nomark _)) (pss_one (ps_raise PySem.F.excBase_ValueError X.inB raises_fly rfl (by rfl) X.mgB (pa_cons pe_str pa_nil))) pss_nil)
      (pss_cons (ps_if (pw_and (pt_cmp (pc_notN (pv 2))) (pw_and1 (pt_cmpR op_gt (pv 0) (pv 2) (nomark _)))).pt (pss_one (ps_raise PySem.F.excBase_ValueError X.inB raises_fly rfl (by rfl) X.mgB (pa_cons pe_str pa_nil))) pss_nil)
      (pss_one (ps_ret (pv 0))))), ?_⟩
    have hz : ([V.str "a"] : List V).length ≤ sizeLine := by show 1 ≤ sizeLine; decide
    refine ⟨x, rfl, x, rfl, kd, _, rfl, ?_⟩
    cases hx : isW x with
    | false =>
      refine iteT ?_
      refine ⟨hz, qe ?_⟩
      cases x <;> first | rfl | cases hx
    | true =>
      refine iteF ?_
      obtain ⟨i, rfl⟩ : ∃ i, x = .int i := by cases x <;> first | exact ⟨_, rfl⟩ | cases hx
      refine ⟨_, rfl, _, rfl, i, l, rfl, rfl, _, rfl, ?_⟩
      refine ite2 (fun z => ?_) (fun z => ?_)
      · have hi : i < l := by simpa using z
        refine ⟨hz, qe ?_⟩
        rcases hm with rfl | ⟨k, rfl⟩
        · show decide (l ≤ i) = false
          rw [decide_eq_false (by omega)]
        · show (decide (l ≤ i) && decide (i ≤ k)) = false
          rw [decide_eq_false (by omega)]
          rfl
      · have hi : l ≤ i := by
          have : ¬ i < l := by simpa using z
          omega
        rcases hm with rfl | ⟨k, rfl⟩
        · refine ⟨_, rfl, _, rfl, ?_⟩
          refine iteF ?_
          refine iteF ?_
          exact ⟨_, rfl, q (decide_eq_true hi)⟩
        · refine ⟨_, rfl, _, rfl, ?_⟩
          refine iteT ?_
          refine ⟨_, rfl, _, rfl, i, k, rfl, rfl, _, rfl, ?_⟩
          refine ite2 (fun z2 => ?_) (fun z2 => ?_)
          · have hk : k < i := by simpa using z2
            refine ⟨hz, qe ?_⟩
            show (decide (l ≤ i) && decide (i ≤ k)) = false
            rw [decide_eq_false (show ¬ i ≤ k by omega), Bool.and_false]
          · have hk : i ≤ k := by
              have : ¬ k < i := by simpa using z2
              omega
            refine ⟨_, rfl, q ?_⟩
            show (decide (l ≤ i) && decide (i ≤ k)) = true
            rw [decide_eq_true hi, decide_eq_true hk]
            rfl
/-! fraction -/
/-- a new tuple comes back, all else is as it was -/
def RetT (H : Hp) (Q : VK) (xs : List V) : Prop := ∀ r H', Same H H' → H r = none → H' r = some (.tup xs) → Q (.ref r) H'
theorem RetT.new {H : Hp} {Q : VK} {xs : List V} (h : RetT H Q xs) {p : Addr} (hp : H p = none) : Q (.ref p) (upd H p (.tup xs)) :=
  h p _ (fun b o e => by rw [upd_ne (ne_of_none e hp)]; exact e) hp upd_same
def spFrac (BN : Addr) : Sp := fun vs H Q E => ∃ x y : V, vs = [x, y] ∧ Kd H x ∧ Kd H y ∧
  (∀ a b : Int, x = .int a → y = .int b → 0 < b → Sz 4000 a ∧ Sz 4000 b ∧ RetT H Q [.int (fa a b), .int (fb a b)]) ∧ ((isW x = false ∨ okN y 1 .non = false) → E (.ref BN) none H)
theorem scFrac : FnScope ["above", "below", "divisor"] ["above", "below"] (defScope sFrac) := ⟨rfl, rfl, rfl, by decide +kernel, rfl, by decide +kernel, by decide +kernel⟩
theorem ok_frac {f fW fN fD BN : Addr} {fd fdW fdN fdD : FuncData} {dN dF : Value} (F : FunD K "fraction" "fraction" sFrac dF f fd) (B : Bn mg) (X : Ex K mg BN)
    (FW : Fun K "is_whole" "is_whole" sWhole fW fdW) (bW : Binds K fdW ["thing"] []) (mW : mg "is_whole" = some (.ref fW))
    (FN : FunD K "need_whole" "need_whole" sNeed dN fN fdN) (bN : Binds K fdN ["thing", "least", "most"] [.none]) (mN : mg "need_whole" = some (.ref fN))
    (FD : Fun K "common_divisor" "common_divisor" sDiv fD fdD) (bD : Binds K fdD ["above", "below"] []) (mD : mg "common_divisor" = some (.ref fD)) :
    FnOk P w K mg base (Fly P w) 3 f fd ["above", "below"] (spFrac BN) := by
  have GW : FnOk P w K mg base CX0 1 fW fdW ["thing"] spWhole := ok_whole FW B
  have GN : FnOk P w K mg base (Fly P w) 2 fN fdN ["thing", "least", "most"] (spNeed BN) := ok_need FN B X FW bW mW
  have GD : FnOk P w K mg base CX0 1 fD fdD ["above", "below"] spDiv := ok_div FD
  refine F.okX scFrac (fun vs H Q E h => ?_) (fun cdv A outer s H vs Q E hr h => ?_)
  · obtain ⟨x, y, rfl, _⟩ := h
    rfl
  · obtain ⟨x, y, rfl, kx, ky, q, qe⟩ := h
    have hr1 : Room 1 _ := hr.mono (by decide)
    refine ⟨_, pss_cons (ps_if (pt_not (pt_val (pe_call GW hr1 (by rfl) mW FW.kp bW .nil pass0 (pa_cons (pv 0) pa_nil))))
        (pss_one (ps_raise PySem.F.excBase_ValueError X.inB raises_fly rfl (by rfl) X.mgB (pa_cons pe_str pa_nil))) pss_nil)
      (pss_cons (ps_expr (pe_callS GN hr (by rfl) mN FN.kp bN (.cons (show L2.RelV .non Value.none from rfl) .nil) pass_fly (pa_cons (pv 1) (pa_cons pe_int pa_nil))))
      (pss_cons (ps_set (i := 2) scFrac.nd rfl (Or.inl rfl) (pe_call GD hr1 (by rfl) mD FD.kp bD .nil pass0 (pa_cons (pv 0) (pa_cons (pv 1) pa_nil))))
      (pss_one (ps_ret (pe_tup (pa_cons (pe_op op_fdivS (pv 0) (pv 2)) (pa_cons (pe_op op_fdivS (pv 1) (pv 2)) pa_nil))))))), ?_⟩
    refine ⟨x, rfl, x, rfl, kx, _, rfl, ?_⟩
    cases hx : isW x with
    | false =>
      refine iteT ?_
      exact ⟨by show 1 ≤ sizeLine; decide, qe (.inl hx)⟩
    | true =>
      refine iteF ?_
      obtain ⟨a, rfl⟩ : ∃ i, x = .int i := by cases x <;> first | exact ⟨_, rfl⟩ | cases hx
      refine ⟨y, rfl, y, 1, .non, rfl, ky, .inl rfl, fun ho => ?_, fun ho => qe (.inr ho)⟩
      obtain ⟨b, rfl, hb⟩ : ∃ b, y = .int b ∧ 0 < b := by
        cases y <;> first | (rename_i b; exact ⟨b, rfl, by have : (1 : Int) ≤ b := of_decide_eq_true ho; omega⟩) | cases ho
      obtain ⟨za, zb, q⟩ := q a b rfl rfl hb
      have hg := gcd_pos a hb
      have zg : Sz 4000 ((Int.gcd a b : Nat) : Int) := by
        have h1 := Int.gcd_le_right a hb
        unfold Sz at *
        omega
      refine ⟨_, rfl, _, rfl, a, b, rfl, hb, ?_⟩
      refine ⟨_, rfl, _, rfl, _, _, rfl, rfl, ⟨hg, zg⟩, _, rfl, _, rfl, _, _, rfl, rfl, ⟨hg, zg⟩, by show 2 ≤ sizeLine; decide, fun p hp => ?_⟩
      exact q.new hp
end
end Fr

set_option Elab.async false
set_option linter.all false
set_option maxRecDepth 100000
set_option maxHeartbeats 4000000
namespace Fr
open PySem PySem.Spec PyProof.Rows L2 FrM
section
variable {P : Program} {w : World} {K : PySem.W.Frag} {mg : Str → Option Value} {base : Heap}
theorem sz_gcd {n : Nat} (a : Int) {b : Int} (hb : 0 < b) (zb : Sz n b) : Sz n ((Int.gcd a b : Nat) : Int) := by
  have h1 := Int.gcd_le_right a hb
  unfold Sz at *
  omega
/-- is_fraction of a tuple -/
def isFr : List V → Bool
  | [.int a, .int b] => decide (0 < b) && decide (Int.gcd a b = 1)
  | _ => false
/-- what is no tuple -/
inductive NoT (H : Hp) : V → Prop
  | non : NoT H .non
  | str (x : Str) : NoT H (.str x)
  | lst {a : Addr} {xs : List V} (e : H a = some (.lst xs)) : NoT H (.ref a)
theorem not_tuple (K : PySem.W.Frag) {H : Hp} {x : V} (k : NoT H x) : ∃ t, TyOf K H x t ∧ PySem.W.kitOne K t (.type "tuple") = some false := by
  cases k with
  | non => exact ⟨_, .non, k_none_tuple K⟩
  | str x => exact ⟨_, .str x, k_str_tuple K⟩
  | lst e => exact ⟨_, .lst e, k_list_tuple K⟩
def spIsF : Sp := fun vs H Q _ => ∃ x : V, vs = [x] ∧ ((NoT H x ∧ Q (.bl false) H) ∨ ∃ p xs, x = .ref p ∧ H p = some (.tup xs) ∧ (∀ y ∈ xs, Kd H y) ∧ Q (.bl (isFr xs)) H)
theorem scIsF : FnScope ["thing"] ["thing"] (defScope sIsF) := ⟨rfl, rfl, rfl, by decide +kernel, rfl, by decide +kernel, by decide +kernel⟩
theorem ok_isf {f fW fD : Addr} {fd fdW fdD : FuncData} (F : Fun K "is_fraction" "is_fraction" sIsF f fd) (B : Bn mg)
    (FW : Fun K "is_whole" "is_whole" sWhole fW fdW) (bW : Binds K fdW ["thing"] []) (mW : mg "is_whole" = some (.ref fW))
    (FD : Fun K "common_divisor" "common_divisor" sDiv fD fdD) (bD : Binds K fdD ["above", "below"] []) (mD : mg "common_divisor" = some (.ref fD)) :
    FnOk P w K mg base CX0 2 f fd ["thing"] spIsF := by
  have GW : FnOk P w K mg base CX0 1 fW fdW ["thing"] spWhole := ok_whole FW B
  have GD : FnOk P w K mg base CX0 1 fD fdD ["above", "below"] spDiv := ok_div FD
  refine F.ok scIsF (fun vs H Q E h => ?_) (fun cdv A outer s H vs Q E hr h => ?_)
  · obtain ⟨x, rfl, _⟩ := h
    rfl
  · obtain ⟨x, rfl, h⟩ := h
    refine ⟨_, pss_cons (ps_if (pw_or (pt_not (pt_val (pe_callB call_isi (by rfl) B.isi bt_isinstance (pa_cons (pv 0) (pa_cons (pe_bltn (v := .ty "tuple") (by rfl) B.tuple bt_tuple rfl) pa_nil)))))
        (pw_or1 (pt_cmpR op_ne (pe_callB call_len_seq (by rfl) B.len bt_len (pa_cons (pv 0) pa_nil)) pe_int (nomark _)))).pt (pss_one (ps_ret pe_bl)) pss_nil)
      (pss_cons (ps_if (pw_or (pt_not (pt_val (pe_call GW hr (by rfl) mW FW.kp bW .nil pass0 (pa_cons (pe_ix ix_tup (pv 0) pe_int (fun _ _ => rfl)) pa_nil))))
          (pw_or (pt_not (pt_val (pe_call GW hr (by rfl) mW FW.kp bW .nil pass0 (pa_cons (pe_ix ix_tup (pv 0) pe_int (fun _ _ => rfl)) pa_nil))))
            (pw_or1 (pt_cmpR op_lt (pe_ix ix_tup (pv 0) pe_int (fun _ _ => rfl)) pe_int (nomark _))))).pt (pss_one (ps_ret pe_bl)) pss_nil)
      (pss_one (ps_ret (pe_cmpR op_eq (pe_call GD hr (by rfl) mD FD.kp bD .nil pass0 (pa_cons (pe_ix ix_tup (pv 0) pe_int (fun _ _ => rfl)) (pa_cons (pe_ix ix_tup (pv 0) pe_int (fun _ _ => rfl)) pa_nil))) pe_int (nomark _))))), ?_⟩
    rcases h with ⟨nt, q⟩ | ⟨p, xs, rfl, hp, hk, q⟩
    · obtain ⟨t, ty, e⟩ := not_tuple K nt
      refine ⟨_, rfl, _, .ty "tuple", t, .type "tuple", _, rfl, rfl, ty, e, _, rfl, ?_⟩
      refine iteT ?_
      refine iteT ?_
      exact q
    · refine ⟨_, rfl, _, .ty "tuple", _, .type "tuple", _, rfl, rfl, .tup hp, k_tuple_tuple K, _, rfl, ?_⟩
      refine iteF ?_
      refine ⟨_, rfl, p, xs, rfl, .inr (SqT.of hp), rfl, _, rfl, ?_⟩
      by_cases hl : xs.length = 2
      · obtain ⟨y, z, rfl⟩ : ∃ y z, xs = [y, z] := by
          match xs, hl with
          | [y, z], _ => exact ⟨y, z, rfl⟩
        have ky : Kd H y := hk y (by simp)
        have kz : Kd H z := hk z (by simp)
        refine iteNS rfl ?_
        refine ⟨_, rfl, p, _, _, y, rfl, rfl, SqT.of hp, rfl, y, rfl, ky, _, rfl, ?_⟩
        cases hy : isW y with
        | false =>
          refine iteT ?_
          refine iteT ?_
          have : isFr [y, z] = false := by cases y <;> first | rfl | cases hy
          rw [this] at q
          exact q
        | true =>
          obtain ⟨a, rfl⟩ : ∃ i, y = .int i := by cases y <;> first | exact ⟨_, rfl⟩ | cases hy
          refine iteF ?_
          refine ⟨_, rfl, p, _, _, z, rfl, rfl, SqT.of hp, rfl, z, rfl, kz, _, rfl, ?_⟩
          cases hz : isW z with
          | false =>
            refine iteT ?_
            refine iteT ?_
            have : isFr [.int a, z] = false := by cases z <;> first | rfl | cases hz
            rw [this] at q
            exact q
          | true =>
            obtain ⟨b, rfl⟩ : ∃ i, z = .int i := by cases z <;> first | exact ⟨_, rfl⟩ | cases hz
            refine iteF ?_
            refine ⟨_, rfl, p, _, _, _, rfl, rfl, SqT.of hp, rfl, b, 1, rfl, rfl, _, rfl, ?_⟩
            refine ite2 (fun c => ?_) (fun c => ?_)
            · have hb : ¬ 0 < b := by
                have : b < 1 := by simpa using c
                omega
              have : isFr [.int a, .int b] = false := by
                show (decide (0 < b) && _) = false
                rw [decide_eq_false hb]
                rfl
              rw [this] at q
              exact q
            · have hb : 0 < b := by
                have : ¬ b < 1 := by simpa using c
                omega
              refine ⟨_, rfl, p, _, _, _, rfl, rfl, SqT.of hp, rfl, _, rfl, p, _, _, _, rfl, rfl, SqT.of hp, rfl, a, b, rfl, hb, rfl, ?_⟩
              have : isFr [.int a, .int b] = decide (V.int ((Int.gcd a b : Nat) : Int) = V.int 1) := by
                show (decide (0 < b) && decide (Int.gcd a b = 1)) = _
                rw [decide_eq_true hb, Bool.true_and]
                rw [Bool.eq_iff_iff]
                simp
                omega
              rw [this] at q
              exact q
      · have e1 : isFr xs = false := by
          match xs, hl with
          | [], _ => rfl
          | [x], _ => cases x <;> rfl
          | [x, y], h => exact absurd rfl h
          | x :: y :: z :: r, _ => cases x <;> cases y <;> rfl
        rw [e1] at q
        have e2 : decide (V.int (xs.length : Int) = V.int 2) = false := by
          rw [decide_eq_false]
          intro z
          injection z with z
          omega
        rw [e2]
        refine iteT ?_
        exact q
/-! sums, products -/
/-- two ints at p -/
abbrev Tp (H : Hp) (p : Addr) (a b : Int) : Prop := H p = some (.tup [.int a, .int b])
def spSum : Sp := fun vs H Q _ => ∃ (p q : Addr) (a b c d : Int), vs = [.ref p, .ref q] ∧ Tp H p a b ∧ Tp H q c d ∧ 0 < b ∧ 0 < d ∧ Sz 1900 a ∧ Sz 1900 b ∧ Sz 1900 c ∧ Sz 1900 d ∧ RetT H Q [.int (fa (a * d + c * b) (b * d)), .int (fb (a * d + c * b) (b * d))]
def spProd : Sp := fun vs H Q _ => ∃ (p q : Addr) (a b c d : Int), vs = [.ref p, .ref q] ∧ Tp H p a b ∧ Tp H q c d ∧ 0 < b ∧ 0 < d ∧ Sz 1900 a ∧ Sz 1900 b ∧ Sz 1900 c ∧ Sz 1900 d ∧ RetT H Q [.int (fa (a * c) (b * d)), .int (fb (a * c) (b * d))]
theorem scSum : FnScope ["one", "other"] ["one", "other"] (defScope sSum) := ⟨rfl, rfl, rfl, by decide +kernel, rfl, by decide +kernel, by decide +kernel⟩
theorem scProd : FnScope ["one", "other"] ["one", "other"] (defScope sProd) := ⟨rfl, rfl, rfl, by decide +kernel, rfl, by decide +kernel, by decide +kernel⟩
/-- fraction, where it does not refuse, in a def that never raises -/
theorem frac_nox {f BN : Addr} {fd : FuncData} {k : Nat} (G : FnOk P w K mg base (Fly P w) k f fd ["above", "below"] (spFrac BN)) :
    FnOk P w K mg base CX0 k f fd ["above", "below"] (fun vs H Q _ => ∃ a b : Int, vs = [.int a, .int b] ∧ 0 < b ∧ Sz 4000 a ∧ Sz 4000 b ∧ RetT H Q [.int (fa a b), .int (fb a b)]) :=
  ⟨fun vs H Q E ⟨a, b, e, _⟩ => by rw [e]; rfl, fun A outer s H args us vs Q E hr he hb hv hs => by
    obtain ⟨a, b, rfl, hp, za, zb, q⟩ := hs
    refine codeAny_mono (G.run A outer s H args us _ Q (fun _ _ _ => False) hr he hb hv ⟨.int a, .int b, rfl, .int a, .int b, fun a' b' e1 e2 _ => ?_, fun z => ?_⟩) fun r s' h => ?_
    · cases e1
      cases e2
      exact ⟨za, zb, q⟩
    · rcases z with z | z
      · cases z
      · have : ¬ (1 : Int) ≤ b := of_decide_eq_false z
        omega
    · cases r with
      | ok fl => cases fl <;> exact h
      | error e =>
        obtain ⟨_, _, _, _, _, _, _, _, _, _, _, z⟩ := h
        exact z⟩
theorem ok_sum {f fF BN : Addr} {fd fdF : FuncData} (F : Fun K "sum_of" "sum_of" sSum f fd) {dF : Value} (FF : FunD K "fraction" "fraction" sFrac dF fF fdF) (bF : Binds K fdF ["above", "below"] []) (mF : mg "fraction" = some (.ref fF))
    (GF : FnOk P w K mg base (Fly P w) 3 fF fdF ["above", "below"] (spFrac BN)) : FnOk P w K mg base CX0 4 f fd ["one", "other"] spSum := by
  have GF' := frac_nox GF
  refine F.ok scSum (fun vs H Q E h => ?_) (fun cdv A outer s H vs Q E hr h => ?_)
  · obtain ⟨p, q, a, b, c, d, rfl, _⟩ := h
    rfl
  · obtain ⟨p, q, a, b, c, d, rfl, hp, hq, hb, hd, za, zb, zc, zd, k⟩ := h
    refine ⟨_, pss_one (ps_ret (pe_call GF' hr (by rfl) mF FF.kp bF .nil pass0 (pa_cons (pe_op op_add (pe_op op_mulS (pe_ix ix_tup (pv 0) pe_int (fun _ _ => rfl)) (pe_ix ix_tup (pv 1) pe_int (fun _ _ => rfl)))
        (pe_op op_mulS (pe_ix ix_tup (pv 1) pe_int (fun _ _ => rfl)) (pe_ix ix_tup (pv 0) pe_int (fun _ _ => rfl))))
      (pa_cons (pe_op op_mulS (pe_ix ix_tup (pv 0) pe_int (fun _ _ => rfl)) (pe_ix ix_tup (pv 1) pe_int (fun _ _ => rfl))) pa_nil)))), ?_⟩
    have m4 : ∀ {x : Int}, Sz 1900 x → Sz 4000 x := fun h => h.mono (by decide)
    refine ⟨_, rfl, p, _, _, _, rfl, rfl, SqT.of hp, rfl, _, rfl, q, _, _, _, rfl, rfl, SqT.of hq, rfl, a, d, rfl, rfl, ⟨m4 za, m4 zd⟩,
      _, rfl, q, _, _, _, rfl, rfl, SqT.of hq, rfl, _, rfl, p, _, _, _, rfl, rfl, SqT.of hp, rfl, c, b, rfl, rfl, ⟨m4 zc, m4 zb⟩, _, _, rfl, rfl,
      _, rfl, p, _, _, _, rfl, rfl, SqT.of hp, rfl, _, rfl, q, _, _, _, rfl, rfl, SqT.of hq, rfl, b, d, rfl, rfl, ⟨m4 zb, m4 zd⟩, _, _, rfl, Int.mul_pos hb hd, ?_, ?_, k⟩
    · exact ((za.mul zd).add (zc.mul zb)).mono (by decide)
    · exact (zb.mul zd).mono (by decide)
theorem ok_prod {f fF BN : Addr} {fd fdF : FuncData} (F : Fun K "product_of" "product_of" sProd f fd) {dF : Value} (FF : FunD K "fraction" "fraction" sFrac dF fF fdF) (bF : Binds K fdF ["above", "below"] []) (mF : mg "fraction" = some (.ref fF))
    (GF : FnOk P w K mg base (Fly P w) 3 fF fdF ["above", "below"] (spFrac BN)) : FnOk P w K mg base CX0 4 f fd ["one", "other"] spProd := by
  have GF' := frac_nox GF
  refine F.ok scProd (fun vs H Q E h => ?_) (fun cdv A outer s H vs Q E hr h => ?_)
  · obtain ⟨p, q, a, b, c, d, rfl, _⟩ := h
    rfl
  · obtain ⟨p, q, a, b, c, d, rfl, hp, hq, hb, hd, za, zb, zc, zd, k⟩ := h
    refine ⟨_, pss_one (ps_ret (pe_call GF' hr (by rfl) mF FF.kp bF .nil pass0 (pa_cons (pe_op op_mulS (pe_ix ix_tup (pv 0) pe_int (fun _ _ => rfl)) (pe_ix ix_tup (pv 1) pe_int (fun _ _ => rfl)))
      (pa_cons (pe_op op_mulS (pe_ix ix_tup (pv 0) pe_int (fun _ _ => rfl)) (pe_ix ix_tup (pv 1) pe_int (fun _ _ => rfl))) pa_nil)))), ?_⟩
    have m4 : ∀ {x : Int}, Sz 1900 x → Sz 4000 x := fun h => h.mono (by decide)
    refine ⟨_, rfl, p, _, _, _, rfl, rfl, SqT.of hp, rfl, _, rfl, q, _, _, _, rfl, rfl, SqT.of hq, rfl, a, c, rfl, rfl, ⟨m4 za, m4 zc⟩,
      _, rfl, p, _, _, _, rfl, rfl, SqT.of hp, rfl, _, rfl, q, _, _, _, rfl, rfl, SqT.of hq, rfl, b, d, rfl, rfl, ⟨m4 zb, m4 zd⟩, _, _, rfl, Int.mul_pos hb hd, ?_, ?_, k⟩
    · exact (za.mul zc).mono (by decide)
    · exact (zb.mul zd).mono (by decide)
/-! powers -/
def spWPow : Sp := fun vs H Q _ => ∃ b e : Int, vs = [.int b, .int e] ∧ 0 ≤ e ∧ e ≤ 5 ∧ Sz 300 b ∧ Q (.int (b ^ e.toNat)) H
theorem scWPow : FnScope ["base", "exponent", "product", "square", "left"] ["base", "exponent"] (defScope sWPow) := ⟨rfl, rfl, rfl, by decide +kernel, rfl, by decide +kernel, by decide +kernel⟩
theorem ok_wpow {f : Addr} {fd : FuncData} (F : Fun K "whole_power" "whole_power" sWPow f fd) : FnOk P w K mg base CX0 1 f fd ["base", "exponent"] spWPow := by
  refine F.ok scWPow (fun vs H Q E h => ?_) (fun cdv A outer s H vs Q E hr h => ?_)
  · obtain ⟨a, b, rfl, _⟩ := h
    rfl
  · obtain ⟨b, e, rfl, h0, h5, zb, q⟩ := h
    refine ⟨_, pss_cons (ps_set (i := 2) scWPow.nd rfl (Or.inl rfl) pe_int) (pss_cons (ps_set (i := 3) scWPow.nd rfl (Or.inl rfl) (pv 0)) (pss_cons (ps_set (i := 4) scWPow.nd rfl (Or.inl rfl) (pv 1))
      (pss_cons (ps_while PassesOwn.never (pt_cmpR op_gt (pv 4) pe_int (nomark _))
        (pss_cons (ps_if (pt_cmpR op_eq (pe_op op_mod (pv 4) pe_int) pe_int (nomark _)) (pss_one (ps_set (i := 2) scWPow.nd rfl (Or.inl rfl) (pe_op op_mulS (pv 2) (pv 3)))) pss_nil)
        (pss_cons (ps_set (i := 4) scWPow.nd rfl (Or.inl rfl) (pe_op op_fdiv (pv 4) pe_int))
        (pss_one (ps_if (pt_cmpR op_gt (pv 4) pe_int (nomark _)) (pss_one (ps_set (i := 3) scWPow.nd rfl (Or.inl rfl) (pe_op op_mulS (pv 3) (pv 3)))) pss_nil)))))
      (pss_one (ps_ret (pv 2)))))), ?_⟩
    refine ⟨_, rfl, _, rfl, ?_⟩
    refine while_by (fun σ H' => H' = H ∧ ∃ (pr sq l : Int), σ = [some (.int b), some (.int e), some (.int pr), some (.int sq), some (.int l)] ∧ PowI b e.toNat pr sq l)
      (fun (σ : L2.St) _ => match σ[4]? with | some (some (V.int l)) => l.toNat | _ => 0) ⟨rfl, 1, b, e, rfl, PowI.start b h0⟩ ?_ ?_
    · rintro σ H' ⟨rfl, pr, sq, l, rfl, J⟩
      refine ⟨_, rfl, _, _, rfl, rfl, _, rfl, ?_⟩
      refine ite2 (fun z => ?_) (fun z => ?_)
      · have hp : 0 < l := by simpa using z
        obtain ⟨z1, z2⟩ := J.sz hp zb
        have hE : 300 * e.toNat + 1 ≤ 1501 := by omega
        have y1 : Sz 1501 pr := z1.mono hE
        have y2 : Sz 1501 sq := z2.mono hE
        refine ⟨_, rfl, _, _, rfl, rfl, (by show (0 : Int) < 2; decide), rfl, _, rfl, ?_⟩
        have c2 : CDiv l 2 := ⟨by decide, by decide⟩
        refine ite2 (fun o => ?_) (fun o => ?_)
        · have ho : l % 2 = 1 := by
            have o' := of_decide_eq_true o
            injection o'
          refine ⟨_, rfl, _, rfl, _, _, rfl, rfl, ⟨y1.mono (by decide), y2.mono (by decide)⟩, _, rfl, _, _, rfl, rfl, c2, _, rfl, _, _, rfl, rfl, _, rfl, ?_⟩
          refine ite2 (fun g => ?_) (fun g => ?_)
          · refine ⟨_, rfl, _, rfl, _, _, rfl, rfl, ⟨y2.mono (by decide), y2.mono (by decide)⟩, ⟨rfl, _, _, _, rfl, J.odd ho⟩, ?_⟩
            show (l / 2).toNat < l.toNat
            omega
          · have hg : ¬ 0 < l / 2 := by simpa using g
            refine ⟨⟨rfl, _, _, _, rfl, J.odd_last ho hg⟩, ?_⟩
            show (l / 2).toNat < l.toNat
            omega
        · have ho : ¬ l % 2 = 1 := fun y => o (decide_eq_true (congrArg V.int y))
          have hg := J.even_last hp ho
          refine ⟨_, rfl, _, _, rfl, rfl, c2, _, rfl, _, _, rfl, rfl, _, rfl, ?_⟩
          refine ite2 (fun g => ?_) (fun g => ?_)
          · refine ⟨_, rfl, _, rfl, _, _, rfl, rfl, ⟨y2.mono (by decide), y2.mono (by decide)⟩, ⟨rfl, _, _, _, rfl, J.even ho⟩, ?_⟩
            show (l / 2).toNat < l.toNat
            omega
          · exact absurd hg (by simpa using g)
      · have hz : l = 0 := by
          have : ¬ 0 < l := by simpa using z
          have := J.nn
          omega
        subst hz
        refine ⟨_, rfl, ?_⟩
        rw [← J.done] at q
        exact q
    · rintro σ H' R R' hR ⟨v, e1, i, j, e2, e3, k, e4, q'⟩
      exact ⟨v, e1, i, j, e2, e3, k, e4, hR _ _ q'⟩
def spTurn : Sp := fun vs H Q _ => ∃ (p : Addr) (a b : Int), vs = [.ref p] ∧ Tp H p a b ∧ RetT H Q [.int (if a < 0 then -b else b), .int (if a < 0 then -a else a)]
theorem scTurn : FnScope ["one"] ["one"] (defScope sTurn) := ⟨rfl, rfl, rfl, by decide +kernel, rfl, by decide +kernel, by decide +kernel⟩
theorem ok_turn {f : Addr} {fd : FuncData} (F : Fun K "turned_over" "turned_over" sTurn f fd) : FnOk P w K mg base CX0 1 f fd ["one"] spTurn := by
  refine F.ok scTurn (fun vs H Q E h => ?_) (fun cdv A outer s H vs Q E hr h => ?_)
  · obtain ⟨a, b, _, rfl, _⟩ := h
    rfl
  · obtain ⟨p, a, b, rfl, hp, k⟩ := h
    refine ⟨_, pss_cons (ps_if (pt_cmpR op_lt (pe_ix ix_tup (pv 0) pe_int (fun _ _ => rfl)) pe_int (nomark _))
        (pss_one (ps_ret (pe_tup (pa_cons (pe_un un_neg (pe_ix ix_tup (pv 0) pe_int (fun _ _ => rfl))) (pa_cons (pe_un un_neg (pe_ix ix_tup (pv 0) pe_int (fun _ _ => rfl))) pa_nil))))) pss_nil)
      (pss_one (ps_ret (pe_tup (pa_cons (pe_ix ix_tup (pv 0) pe_int (fun _ _ => rfl)) (pa_cons (pe_ix ix_tup (pv 0) pe_int (fun _ _ => rfl)) pa_nil))))), ?_⟩
    refine ⟨_, rfl, p, _, _, _, rfl, rfl, SqT.of hp, rfl, a, 0, rfl, rfl, _, rfl, ?_⟩
    refine ite2 (fun z => ?_) (fun z => ?_)
    · have ha : a < 0 := by simpa using z
      refine ⟨_, rfl, p, _, _, _, rfl, rfl, SqT.of hp, rfl, b, rfl, _, rfl, p, _, _, _, rfl, rfl, SqT.of hp, rfl, a, rfl, by show 2 ≤ sizeLine; decide, fun r hr => ?_⟩
      rw [if_pos ha, if_pos ha] at k
      exact k.new hr
    · have ha : ¬ a < 0 := by simpa using z
      refine ⟨_, rfl, p, _, _, _, rfl, rfl, SqT.of hp, rfl, _, rfl, p, _, _, _, rfl, rfl, SqT.of hp, rfl, by show 2 ≤ sizeLine; decide, fun r hr => ?_⟩
      rw [if_neg ha, if_neg ha] at k
      exact k.new hr
end
end Fr

set_option Elab.async false
set_option linter.all false
set_option maxRecDepth 100000
set_option maxHeartbeats 4000000
namespace Fr
open PySem PySem.Spec PyProof.Rows L2 FrM
section
variable {P : Program} {w : World} {K : PySem.W.Frag} {mg : Str → Option Value} {base : Heap}
/-! power_of -/
def spPow0 : Sp := fun vs H Q _ => ∃ (p : Addr) (a b e : Int), vs = [.ref p, .int e] ∧ Tp H p a b ∧ 0 ≤ e ∧ e ≤ 5 ∧ Sz 300 a ∧ Sz 300 b ∧ RetT H Q [.int (a ^ e.toNat), .int (b ^ e.toNat)]
theorem scPow : FnScope ["one", "exponent"] ["one", "exponent"] (defScope sPow) := ⟨rfl, rfl, rfl, by decide +kernel, rfl, by decide +kernel, by decide +kernel⟩
theorem ok_pow0 {f fW fP BN : Addr} {fd fdW fdP : FuncData} (F : Fun K "power_of" "power_of" sPow f fd) (B : Bn mg) (X : Ex K mg BN)
    (FW : Fun K "is_whole" "is_whole" sWhole fW fdW) (bW : Binds K fdW ["thing"] []) (mW : mg "is_whole" = some (.ref fW))
    (FP : Fun K "whole_power" "whole_power" sWPow fP fdP) (bP : Binds K fdP ["base", "exponent"] []) (mP : mg "whole_power" = some (.ref fP)) :
    FnOk P w K mg base (Fly P w) 2 f fd ["one", "exponent"] spPow0 := by
  have GW : FnOk P w K mg base CX0 1 fW fdW ["thing"] spWhole := ok_whole FW B
  have GP : FnOk P w K mg base CX0 1 fP fdP ["base", "exponent"] spWPow := ok_wpow FP
  refine (Fr.Fun.toD F).okX scPow (fun vs H Q E h => ?_) (fun cdv A outer s H vs Q E hr h => ?_)
  · obtain ⟨p, a, b, e, rfl, _⟩ := h
    rfl
  · obtain ⟨p, a, b, e, rfl, hp, h0, h5, za, zb, k⟩ := h
    refine ⟨_, pss_cons (ps_if (pt_not (pt_val (pe_call GW hr (by rfl) mW FW.kp bW .nil pass0 (pa_cons (pv 1) pa_nil)))) pss_never pss_nil)
      (pss_cons (ps_if (pt_cmpR op_ge (pv 1) pe_int (nomark _))
        (pss_one (ps_ret (pe_tup (pa_cons (pe_call GP hr (by rfl) mP FP.kp bP .nil pass0 (pa_cons (pe_ix ix_tup (pv 0) pe_int (fun _ _ => rfl)) (pa_cons (pv 1) pa_nil)))
          (pa_cons (pe_call GP hr (by rfl) mP FP.kp bP .nil pass0 (pa_cons (pe_ix ix_tup (pv 0) pe_int (fun _ _ => rfl)) (pa_cons (pv 1) pa_nil))) pa_nil))))) pss_nil) pss_never), ?_⟩
    refine ⟨_, rfl, _, rfl, .int e, _, rfl, ?_⟩
    refine iteF ?_
    refine ⟨_, rfl, e, 0, rfl, rfl, _, rfl, ?_⟩
    rw [decide_eq_true h0]
    refine iteT ?_
    refine ⟨_, rfl, p, _, _, _, rfl, rfl, SqT.of hp, rfl, _, rfl, a, e, rfl, h0, h5, za, _, rfl, p, _, _, _, rfl, rfl, SqT.of hp, rfl, _, rfl, b, e, rfl, h0, h5, zb, by show 2 ≤ sizeLine; decide, fun r hr => ?_⟩
    exact k.new hr
def spPow (BN : Addr) : Sp := fun vs H Q E => ∃ (p : Addr) (a b : Int) (x : V), vs = [.ref p, x] ∧ Tp H p a b ∧ Kd H x ∧ (∀ e, x = .int e → 0 ≤ e → e ≤ 5 ∧ Sz 300 a ∧ Sz 300 b ∧ RetT H Q [.int (a ^ e.toNat), .int (b ^ e.toNat)]) ∧
  (∀ e, x = .int e → e < 0 → a ≠ 0 → -5 ≤ e ∧ Sz 300 a ∧ Sz 300 b ∧ RetT H Q [.int ((if a < 0 then -b else b) ^ (-e).toNat), .int ((if a < 0 then -a else a) ^ (-e).toNat)]) ∧
  (∀ e, x = .int e → e < 0 → a = 0 → E (.ref BN) none H) ∧ (isW x = false → E (.ref BN) none H)
theorem ok_pow {f fW fP fT BN : Addr} {fd fdW fdP fdT : FuncData} (F : Fun K "power_of" "power_of" sPow f fd) (bF : Binds K fd ["one", "exponent"] []) (mF : mg "power_of" = some (.ref f)) (B : Bn mg) (X : Ex K mg BN)
    (FW : Fun K "is_whole" "is_whole" sWhole fW fdW) (bW : Binds K fdW ["thing"] []) (mW : mg "is_whole" = some (.ref fW))
    (FP : Fun K "whole_power" "whole_power" sWPow fP fdP) (bP : Binds K fdP ["base", "exponent"] []) (mP : mg "whole_power" = some (.ref fP))
    (FT : Fun K "turned_over" "turned_over" sTurn fT fdT) (bT : Binds K fdT ["one"] []) (mT : mg "turned_over" = some (.ref fT)) :
    FnOk P w K mg base (Fly P w) 3 f fd ["one", "exponent"] (spPow BN) := by
  have GW : FnOk P w K mg base CX0 1 fW fdW ["thing"] spWhole := ok_whole FW B
  have GP : FnOk P w K mg base CX0 1 fP fdP ["base", "exponent"] spWPow := ok_wpow FP
  have GT : FnOk P w K mg base CX0 1 fT fdT ["one"] spTurn := ok_turn FT
  have G0 : FnOk P w K mg base (Fly P w) 2 f fd ["one", "exponent"] spPow0 := ok_pow0 F B X FW bW mW FP bP mP
  refine (Fr.Fun.toD F).okX scPow (fun vs H Q E h => ?_) (fun cdv A outer s H vs Q E hr h => ?_)
  · obtain ⟨p, a, b, x, rfl, _⟩ := h
    rfl
  · obtain ⟨p, a, b, x, rfl, hp, kx, q1, q2, q3, q4⟩ := h
    have hr1 : Room 1 _ := hr.mono (by decide)
    refine ⟨_, (pss_cons 
      (ps_if (pt_not (pt_val (pe_call GW hr1 (by rfl) mW FW.kp bW .nil pass0 (pa_cons (pv 1) pa_nil)))) (pss_one 
        (ps_raise PySem.F.excBase_ValueError X.inB raises_fly rfl (by rfl) X.mgB (pa_cons pe_str pa_nil))) pss_nil) (pss_cons 
      (ps_if (pt_cmpR op_ge (pv 1) pe_int (nomark _)) (pss_one 
        (ps_ret (pe_tup (pa_cons (pe_call GP hr1 (by rfl) mP FP.kp bP .nil pass0 (pa_cons (pe_ix ix_tup (pv 0) pe_int (fun _ _ => rfl)) (pa_cons (pv 1) pa_nil))) (pa_cons (pe_call GP hr1 (by rfl) mP FP.kp bP .nil pass0 (pa_cons (pe_ix ix_tup (pv 0) pe_int (fun _ _ => rfl)) (pa_cons (pv 1) pa_nil))) pa_nil))))) pss_nil) (pss_cons 
      (ps_if (pt_cmpR op_eq (pe_ix ix_tup (pv 0) pe_int (fun _ _ => rfl)) pe_int (nomark _)) (pss_one 
        (ps_raise PySem.F.excBase_ValueError X.inB raises_fly rfl (by rfl) X.mgB (pa_cons pe_str pa_nil))) pss_nil) (pss_one 
      (ps_ret (pe_callS G0 hr (by rfl) mF F.kp bF .nil pass_fly (pa_cons (pe_call GT hr1 (by rfl) mT FT.kp bT .nil pass0 (pa_cons (pv 0) pa_nil)) (pa_cons (pe_un un_neg (pv 1)) pa_nil)))))))), ?_⟩
    refine ⟨_, rfl, x, rfl, kx, _, rfl, ?_⟩
    cases hx : isW x with
    | false =>
      refine iteT ?_
      exact ⟨by show 1 ≤ sizeLine; decide, q4 hx⟩
    | true =>
      obtain ⟨e, rfl⟩ : ∃ i, x = .int i := by cases x <;> first | exact ⟨_, rfl⟩ | cases hx
      refine iteF ?_
      refine ⟨_, rfl, e, 0, rfl, rfl, _, rfl, ?_⟩
      refine ite2 (fun z => ?_) (fun z => ?_)
      · have h0 : 0 ≤ e := by simpa using z
        obtain ⟨h5, za, zb, k⟩ := q1 e rfl h0
        refine ⟨_, rfl, p, _, _, _, rfl, rfl, SqT.of hp, rfl, _, rfl, a, e, rfl, h0, h5, za, _, rfl, p, _, _, _, rfl, rfl, SqT.of hp, rfl, _, rfl, b, e, rfl, h0, h5, zb, by show 2 ≤ sizeLine; decide, fun r hr => ?_⟩
        exact k.new hr
      · have h0 : e < 0 := by
          have : ¬ 0 ≤ e := by simpa using z
          omega
        refine ⟨_, rfl, p, _, _, _, rfl, rfl, SqT.of hp, rfl, rfl, _, rfl, ?_⟩
        refine ite2 (fun c => ?_) (fun c => ?_)
        · have ha : a = 0 := by
            have o' := of_decide_eq_true c
            injection o'
          exact ⟨by show 1 ≤ sizeLine; decide, q3 e rfl h0 ha⟩
        · have ha : a ≠ 0 := fun y => c (decide_eq_true (congrArg V.int y))
          obtain ⟨h5, za, zb, k⟩ := q2 e rfl h0 ha
          refine ⟨_, rfl, p, a, b, rfl, hp, fun r H1 s1 n1 t1 => ?_⟩
          refine ⟨_, rfl, e, rfl, r, _, _, -e, rfl, t1, by omega, by omega, ?_, ?_, fun r2 H2 s2 n2 t2 => ?_⟩
          · split
            · exact zb.neg
            · exact zb
          · split
            · exact za.neg
            · exact za
          · exact k r2 H2 (s1.trans s2) (s1.free n2) t2
/-! is_less, shown_fraction -/
def spLess : Sp := fun vs H Q _ => ∃ (p q : Addr) (a b c d : Int), vs = [.ref p, .ref q] ∧ Tp H p a b ∧ Tp H q c d ∧ Sz 1900 a ∧ Sz 1900 b ∧ Sz 1900 c ∧ Sz 1900 d ∧ Q (.bl (decide (a * d < c * b))) H
theorem scLess : FnScope ["one", "other"] ["one", "other"] (defScope sLess) := ⟨rfl, rfl, rfl, by decide +kernel, rfl, by decide +kernel, by decide +kernel⟩
theorem ok_less {f : Addr} {fd : FuncData} (F : Fun K "is_less" "is_less" sLess f fd) : FnOk P w K mg base CX0 1 f fd ["one", "other"] spLess := by
  refine F.ok scLess (fun vs H Q E h => ?_) (fun cdv A outer s H vs Q E hr h => ?_)
  · obtain ⟨p, q, a, b, c, d, rfl, _⟩ := h
    rfl
  · obtain ⟨p, q, a, b, c, d, rfl, hp, hq, za, zb, zc, zd, k⟩ := h
    refine ⟨_, pss_one (ps_ret (pe_cmpR op_lt (pe_op op_mulS (pe_ix ix_tup (pv 0) pe_int (fun _ _ => rfl)) (pe_ix ix_tup (pv 1) pe_int (fun _ _ => rfl)))
        (pe_op op_mulS (pe_ix ix_tup (pv 1) pe_int (fun _ _ => rfl)) (pe_ix ix_tup (pv 0) pe_int (fun _ _ => rfl))) (nomark _))), ?_⟩
    have m4 : ∀ {x : Int}, Sz 1900 x → Sz 4000 x := fun h => h.mono (by decide)
    exact ⟨_, rfl, p, _, _, _, rfl, rfl, SqT.of hp, rfl, _, rfl, q, _, _, _, rfl, rfl, SqT.of hq, rfl, a, d, rfl, rfl, ⟨m4 za, m4 zd⟩,
      _, rfl, q, _, _, _, rfl, rfl, SqT.of hq, rfl, _, rfl, p, _, _, _, rfl, rfl, SqT.of hp, rfl, c, b, rfl, rfl, ⟨m4 zc, m4 zb⟩, _, _, rfl, rfl, k⟩
def shownT (a b : Int) : Str := if b = 1 then Str.ofString (toString a) else Str.ofString (toString a) ++ (":" : Str) ++ Str.ofString (toString b)
def spShow : Sp := fun vs H Q _ => ∃ (p : Addr) (a b : Int), vs = [.ref p] ∧ Tp H p a b ∧ Sz 1900 a ∧ Sz 1900 b ∧ Q (.str (shownT a b)) H
theorem scShow : FnScope ["one", "above", "below"] ["one"] (defScope sShow) := ⟨rfl, rfl, rfl, by decide +kernel, rfl, by decide +kernel, by decide +kernel⟩
theorem colon_len : ((":" : Str)).length = 1 := by decide +kernel
theorem shown_len {a b : Int} (za : Sz 1900 a) (zb : Sz 1900 b) : (Str.ofString (toString a)).length ≤ sizeLine ∧ (Str.ofString (toString a) ++ (":" : Str)).length ≤ sizeLine ∧ (Str.ofString (toString a) ++ (":" : Str) ++ Str.ofString (toString b)).length ≤ sizeLine := by
  have h1 := text_len (by decide) za
  have h2 := text_len (by decide) zb
  rw [strLen_append, strLen_append, strLen_append, colon_len, sizeLine_eq]
  omega
theorem ok_show {f : Addr} {fd : FuncData} (F : Fun K "shown_fraction" "shown_fraction" sShow f fd) : FnOk P w K mg base CX0 1 f fd ["one"] spShow := by
  refine F.ok scShow (fun vs H Q E h => ?_) (fun cdv A outer s H vs Q E hr h => ?_)
  · obtain ⟨p, a, b, rfl, _⟩ := h
    rfl
  · obtain ⟨p, a, b, rfl, hp, za, zb, k⟩ := h
    refine ⟨_, pss_cons (ps_set (i := 1) scShow.nd rfl (Or.inl rfl) (pe_ix ix_tup (pv 0) pe_int (fun _ _ => rfl))) (pss_cons (ps_set (i := 2) scShow.nd rfl (Or.inl rfl) (pe_ix ix_tup (pv 0) pe_int (fun _ _ => rfl)))
      (pss_cons (ps_if (pt_cmpR op_eq (pv 2) pe_int (nomark _)) (pss_one (ps_ret (pe_join1 (pe_fval (pv 1))))) pss_nil)
      (pss_one (ps_ret (pe_joined (pj_cons (pe_fval (pv 1)) (pj_cons pe_str (pj_cons (pe_fval (pv 2)) pj_nil)))))))), ?_⟩
    obtain ⟨l1, l2, l3⟩ := shown_len za zb
    have ga : a.natAbs.log2 < 1920 := Nat.lt_of_lt_of_le (sz_log za (by decide)) (by decide)
    have gb : b.natAbs.log2 < 1920 := Nat.lt_of_lt_of_le (sz_log zb (by decide)) (by decide)
    refine ⟨_, rfl, p, _, _, _, rfl, rfl, SqT.of hp, rfl, _, rfl, p, _, _, _, rfl, rfl, SqT.of hp, rfl, _, rfl, rfl, _, rfl, ?_⟩
    refine ite2 (fun c => ?_) (fun c => ?_)
    · have hb : b = 1 := by
        have o' := of_decide_eq_true c
        injection o'
      refine ⟨_, rfl, a, rfl, ga, ?_⟩
      unfold shownT at k
      rw [if_pos hb] at k
      exact k
    · have hb : b ≠ 1 := fun y => c (decide_eq_true (congrArg V.int y))
      unfold shownT at k
      rw [if_neg hb] at k
      refine ⟨_, rfl, a, rfl, ga, _, rfl, by rw [empty_app]; exact l1, _, rfl, by rw [empty_app]; exact l2, _, rfl, b, rfl, gb, _, rfl, by rw [empty_app]; exact l3, by rw [empty_app]; exact l3, ?_⟩
      rw [empty_app]
      exact k
end
end Fr

set_option Elab.async false
set_option linter.all false
set_option maxRecDepth 100000
set_option maxHeartbeats 4000000
namespace Fr
open PySem PySem.Spec PyProof.Rows L2 FrM
section
variable {P : Program} {w : World} {K : PySem.W.Frag} {mg : Str → Option Value} {base : Heap}
/-! the law's draws -/
def spMix : Sp := fun vs H Q _ => ∃ n k : Int, vs = [.int n, .int k] ∧ 0 ≤ k ∧ k ≤ 100 ∧ ∀ r : Int, 0 ≤ r → r < 2147483629 → Q (.int r) H
theorem scMix : FnScope ["_law_number_here", "_law_k"] ["_law_number_here", "_law_k"] (defScope lMix) := ⟨rfl, rfl, rfl, by decide +kernel, rfl, by decide +kernel, by decide +kernel⟩
theorem ok_mix {f : Addr} {fd : FuncData} (F : Fun K "_law_mixed" "_law_mixed" lMix f fd) : FnOk P w K mg base CX0 1 f fd ["_law_number_here", "_law_k"] spMix := by
  refine F.ok scMix (fun vs H Q E h => ?_) (fun cdv A outer s H vs Q E hr h => ?_)
  · obtain ⟨n, k, rfl, _⟩ := h
    rfl
  · obtain ⟨n, k, rfl, h0, h1, q⟩ := h
    refine ⟨_, pss_cons (ps_set (i := 0) scMix.nd rfl (Or.inl rfl) (pe_op op_mod (pe_op op_mul (pe_op op_add (pe_op op_add (pe_op op_mod (pv 0) pe_int) (pe_op op_mul (pe_op op_mul pe_int (pv 1)) (pv 1))) (pe_op op_mul pe_int (pv 1))) pe_int) pe_int))
      (pss_one (ps_ret (pe_op op_mod (pe_op op_mul (pv 0) (pe_op op_add pe_int (pe_op op_mul pe_int (pv 1)))) pe_int))), ?_⟩
    refine ⟨_, rfl, _, _, rfl, rfl, (by show (0 : Int) < 2147483647; decide), _, rfl, _, _, rfl, rfl, .inl ⟨by decide, by decide⟩, _, rfl, _, _, rfl, rfl, .inr ⟨by omega, by omega⟩, _, _, rfl, rfl, _, rfl, _, _, rfl, rfl, .inl ⟨by decide, by decide⟩, _, _, rfl, rfl,
      _, _, rfl, rfl, .inr ⟨by decide, by decide⟩, _, _, rfl, rfl, (by show (0 : Int) < 2147483647; decide), ?_⟩
    refine ⟨_, rfl, _, rfl, _, _, rfl, rfl, .inl ⟨by decide, by decide⟩, _, _, rfl, rfl, _, _, rfl, rfl, .inr ⟨by omega, by omega⟩, _, _, rfl, rfl, (by show (0 : Int) < 2147483629; decide), ?_⟩
    exact q _ (Int.emod_nonneg _ (by decide)) (Int.emod_lt_of_pos _ (by decide))
def spNum (K : PySem.W.Frag) : Sp := fun vs H Q _ => ∃ (a : Addr) (ns : List Int) (k : Int), vs = [.ref a, .int k] ∧ SqL K H a (ns.map V.int) ∧ ns.length ≤ 63 ∧ 0 ≤ k ∧ k ≤ 100 ∧ ∀ (r : Int) H', Same H H' → 0 ≤ r → r < 2147483629 → Q (.int r) H'
theorem scNum : FnScope ["_law_script", "_law_k"] ["_law_script", "_law_k"] (defScope lNum) := ⟨rfl, rfl, rfl, by decide +kernel, rfl, by decide +kernel, by decide +kernel⟩
theorem Same.upd {H : Hp} {p : Addr} {o : HO} (hp : H p = none) : Same H (L2.upd H p o) := fun b u e => by rw [upd_ne (ne_of_none e hp)]; exact e
theorem ok_num {f fM : Addr} {fd fdM : FuncData} (F : Fun K "_law_number" "_law_number" lNum f fd) (B : Bn mg) (FM : Fun K "_law_mixed" "_law_mixed" lMix fM fdM) (bM : Binds K fdM ["_law_number_here", "_law_k"] []) (mM : mg "_law_mixed" = some (.ref fM)) :
    FnOk P w K mg base CX0 2 f fd ["_law_script", "_law_k"] (spNum K) := by
  have GM : FnOk P w K mg base CX0 1 fM fdM ["_law_number_here", "_law_k"] spMix := ok_mix FM
  refine F.ok scNum (fun vs H Q E h => ?_) (fun cdv A outer s H vs Q E hr h => ?_)
  · obtain ⟨a, ns, k, rfl, _⟩ := h
    rfl
  · obtain ⟨a, ns, k, rfl, hs, hl, h0, h1, q⟩ := h
    have hu := hu_of hr
    refine ⟨_, pss_cons (ps_if (pt_cmpR (op_eqNil (Nat.lt_of_succ_lt hu)) (pv 0) (pe_lst pa_nil) (nomark _)) (pss_one (ps_ret (pe_call GM hr (by rfl) mM FM.kp bM .nil pass0 (pa_cons pe_int (pa_cons (pv 1) pa_nil))))) pss_nil)
      (pss_one (ps_ret (pe_call GM hr (by rfl) mM FM.kp bM .nil pass0 (pa_cons (pe_ix ix_list (pv 0) (pe_op op_mod (pv 1) (pe_callB call_len_seq (by rfl) B.len bt_len (pa_cons (pv 0) pa_nil))) (fun _ _ => rfl)) (pa_cons (pv 1) pa_nil))))), ?_⟩
    refine ⟨_, rfl, Nat.zero_le _, fun p hp => ?_⟩
    have s1 : Same H (L2.upd H p (.lst [])) := Same.upd hp
    refine ⟨a, p, _, rfl, rfl, s1.seq hs, SqL.of upd_same, _, rfl, ?_⟩
    cases ns with
    | nil =>
      refine iteT ?_
      exact ⟨_, rfl, 17, k, rfl, h0, h1, fun r r0 r1 => q r _ s1 r0 r1⟩
    | cons n ns =>
      refine iteF ?_
      have hlen : (0 : Int) < (((n :: ns).map V.int).length : Int) := by simp
      have m0 := Int.emod_nonneg k (by omega : (((n :: ns).map V.int).length : Int) ≠ 0)
      have m1 := Int.emod_lt_of_pos k hlen
      obtain ⟨j, hj⟩ : ∃ j : Nat, k % (((n :: ns).map V.int).length : Int) = j := ⟨(k % (((n :: ns).map V.int).length : Int)).toNat, by omega⟩
      have hj2 : j < (n :: ns).length := by
        rw [hj, List.length_map] at m1
        omega
      refine ⟨_, rfl, _, rfl, _, rfl, a, _, rfl, .inl (s1.seq hs), _, _, rfl, rfl, hlen, a, _, _, .int ((n :: ns)[j]), rfl, rfl, s1.seq hs, ?_, _, rfl, _, k, rfl, h0, h1, fun r r0 r1 => q r _ s1 r0 r1⟩
      rw [hj]
      refine atI_nat ?_
      rw [List.getElem?_map, List.getElem?_eq_getElem hj2]
      rfl
/-! _law_common -/
def spCom : Sp := fun vs H Q _ => ∃ a b : Int, vs = [.int a, .int b] ∧ 0 ≤ a ∧ 0 ≤ b ∧ Sz 1900 a ∧ Sz 1900 b ∧ Q (.int ((Int.gcd a b : Nat) : Int)) H
theorem scCom : FnScope ["_law_one", "_law_other", "_law_rest"] ["_law_one", "_law_other"] (defScope lCom) := ⟨rfl, rfl, rfl, by decide +kernel, rfl, by decide +kernel, by decide +kernel⟩
theorem ok_com {f : Addr} {fd : FuncData} (F : Fun K "_law_common" "_law_common" lCom f fd) : FnOk P w K mg base CX0 1 f fd ["_law_one", "_law_other"] spCom := by
  refine F.ok scCom (fun vs H Q E h => ?_) (fun cdv A outer s H vs Q E hr h => ?_)
  · obtain ⟨a, b, rfl, _⟩ := h
    rfl
  · obtain ⟨a, b, rfl, ha, hb, za, zb, q⟩ := h
    refine ⟨_, pss_cons (ps_while PassesOwn.never (pt_cmpR op_gt (pv 1) pe_int (nomark _))
        (pss_cons (ps_set (i := 2) scCom.nd rfl (Or.inl rfl) (pe_op op_sub (pv 0) (pe_op op_mulS (pe_op op_fdivS (pv 0) (pv 1)) (pv 1)))) (pss_cons (ps_set (i := 0) scCom.nd rfl (Or.inl rfl) (pv 1)) (pss_one (ps_set (i := 1) scCom.nd rfl (Or.inl rfl) (pv 2))))))
      (pss_one (ps_ret (pv 0))), ?_⟩
    refine while_by (fun σ H' => H' = H ∧ ∃ (g l : Int) (r : Option V), σ = [some (.int g), some (.int l), r] ∧ 0 ≤ g ∧ 0 ≤ l ∧ Sz 1900 g ∧ Sz 1900 l ∧ Int.gcd g l = Int.gcd a b)
      (fun (σ : L2.St) _ => match σ[1]? with | some (some (V.int l)) => l.toNat | _ => 0) ⟨rfl, a, b, none, rfl, ha, hb, za, zb, rfl⟩ ?_ ?_
    · rintro σ H' ⟨rfl, g, l, r, rfl, hg, hl, zg, zl, e⟩
      refine ⟨_, rfl, _, _, rfl, rfl, _, rfl, ?_⟩
      refine ite2 (fun z => ?_) (fun z => ?_)
      · have hp : 0 < l := by simpa using z
        have er : g - g / l * l = g % l := by rw [Int.emod_def, Int.mul_comm]
        have r0 := Int.emod_nonneg g (by omega : l ≠ 0)
        have r1 := Int.emod_lt_of_pos g hp
        refine ⟨_, rfl, _, rfl, _, rfl, _, _, rfl, rfl, ⟨hp, zl.mono (by decide)⟩, _, rfl, _, _, rfl, rfl, ⟨(zg.div hp).mono (by decide), zl.mono (by decide)⟩, _, _, rfl, rfl, _, rfl, _, rfl, ⟨rfl, l, g - g / l * l, _, rfl, hl, by omega, zl, ?_, ?_⟩, ?_⟩
        · rw [er]
          unfold Sz at *
          omega
        · rw [er, gcd_step g l hp, e]
        · show (g - g / l * l).toNat < l.toNat
          omega
      · have hz : l = 0 := by
          have : ¬ 0 < l := by simpa using z
          omega
        subst hz
        refine ⟨_, rfl, ?_⟩
        rw [← e, gcd_zero g hg] at q
        exact q
    · rintro σ H' R R' hR ⟨v, e1, i, j, e2, e3, k, e4, q'⟩
      exact ⟨v, e1, i, j, e2, e3, k, e4, hR _ _ q'⟩
/-! _law_shown -/
def spShw : Sp := spShow
theorem scShw : FnScope ["_law_found"] ["_law_found"] (defScope lShw) := ⟨rfl, rfl, rfl, by decide +kernel, rfl, by decide +kernel, by decide +kernel⟩
theorem ok_shw {f : Addr} {fd : FuncData} (F : Fun K "_law_shown" "_law_shown" lShw f fd) (B : Bn mg) : FnOk P w K mg base CX0 1 f fd ["_law_found"] spShow := by
  refine F.ok scShw (fun vs H Q E h => ?_) (fun cdv A outer s H vs Q E hr h => ?_)
  · obtain ⟨p, a, b, rfl, _⟩ := h
    rfl
  · obtain ⟨p, a, b, rfl, hp, za, zb, k⟩ := h
    refine ⟨_, pss_cons (ps_if (pt_cmpR op_eq (pe_ix ix_tup (pv 0) pe_int (fun _ _ => rfl)) pe_int (nomark _)) (pss_one (ps_ret (pe_callTy call_str_int (by rfl) B.str bt_str (pa_cons (pe_ix ix_tup (pv 0) pe_int (fun _ _ => rfl)) pa_nil)))) pss_nil)
      (pss_one (ps_ret (pe_op op_add_str (pe_op op_add_str (pe_callTy call_str_int (by rfl) B.str bt_str (pa_cons (pe_ix ix_tup (pv 0) pe_int (fun _ _ => rfl)) pa_nil)) pe_str) (pe_callTy call_str_int (by rfl) B.str bt_str (pa_cons (pe_ix ix_tup (pv 0) pe_int (fun _ _ => rfl)) pa_nil))))), ?_⟩
    have ga : a.natAbs.log2 < 1920 := Nat.lt_of_lt_of_le (sz_log za (by decide)) (by decide)
    have gb : b.natAbs.log2 < 1920 := Nat.lt_of_lt_of_le (sz_log zb (by decide)) (by decide)
    have h1 := text_len (by decide) za
    have h2 := text_len (by decide) zb
    have hc := colon_len
    refine ⟨_, rfl, p, _, _, _, rfl, rfl, SqT.of hp, rfl, rfl, _, rfl, ?_⟩
    refine ite2 (fun c => ?_) (fun c => ?_)
    · have hb : b = 1 := by
        have o' := of_decide_eq_true c
        injection o'
      refine ⟨_, rfl, p, _, _, _, rfl, rfl, SqT.of hp, rfl, a, rfl, ga, ?_⟩
      unfold shownT at k
      rw [if_pos hb] at k
      exact k
    · have hb : b ≠ 1 := fun y => c (decide_eq_true (congrArg V.int y))
      unfold shownT at k
      rw [if_neg hb] at k
      refine ⟨_, rfl, p, _, _, _, rfl, rfl, SqT.of hp, rfl, a, rfl, ga, _, _, rfl, rfl, ?_, _, rfl, p, _, _, _, rfl, rfl, SqT.of hp, rfl, b, rfl, gb, _, _, rfl, rfl, ?_, k⟩
      · rw [hc, sizeLine_eq]; omega
      · rw [strLen_append, hc, sizeLine_eq]; omega
end
end Fr

set_option Elab.async false
set_option linter.all false
set_option maxRecDepth 100000
set_option maxHeartbeats 4000000
namespace Fr
open PySem PySem.Spec PyProof.Rows L2 FrM
/-- a comprehension over a tuple that takes nothing -/
theorem comp_none_tup {K : PySem.W.Frag} {a : Addr} {xs : List V} {tc : TT} {te : TE} {fr : List Nat} {σ : L2.St} {H : Hp} {Q : VK} (hl : SqT K H a xs)
    (ht : ∀ D (i : Nat) x (R : Bool → Hp → Prop), H D = none → xs[i]? = some x → R false (L2.upd H D (.lst [])) → tc (some x :: around fr σ) (L2.upd H D (.lst [])) R) (q : ∀ D, H D = none → Q (.ref D) (L2.upd H D (.lst []))) :
    ∀ D, H D = none → ∃ W : Nat → Nat → List V → Hp → Prop, (∃ m, W 0 m [] (L2.upd H D (.lst []))) ∧ ∀ i m ys H', W i m ys H' → H' D = some (.lst ys) ∧ (((Itt K a).stop i H' ∧ Q (.ref D) H') ∨ ((Itt K a).go i H' ∧ ys.length < sizeLine ∧ ∃ N : List V → Hp → Prop, (∀ ys' H'', N ys' H'' → ∃ m', m' < m ∧ W (i + 1) m' ys' H'') ∧
      ∀ x H'', (Itt K a).yld i H' x H'' → tc (some x :: around fr σ) H'' fun b H2 => if b = true then te (some x :: around fr σ) H2 fun y H3 => H3 D = some (.lst ys) ∧ N (ys ++ [y]) (L2.upd H3 D (.lst (ys ++ [y]))) else N ys H2)) := by
  intro D hD
  have hs : SqT K (L2.upd H D (.lst [])) a xs := by
    rcases hl with (h | ⟨o, h⟩) | h
    · exact .inl (.inl (by rw [upd_ne (ne_of_none h hD)]; exact h))
    · exact .inl (.inr ⟨o, by rw [upd_ne (ne_of_none h hD)]; exact h⟩)
    · exact .inr h
  refine ⟨fun i m ys H' => i ≤ xs.length ∧ m = xs.length - i ∧ ys = [] ∧ H' = L2.upd H D (.lst []), ⟨_, Nat.zero_le _, rfl, rfl, rfl⟩, ?_⟩
  rintro i m ys H' ⟨hi, rfl, rfl, rfl⟩
  refine ⟨upd_same, ?_⟩
  by_cases hlt : i < xs.length
  · refine .inr ⟨⟨xs, xs[i], hs, List.getElem?_eq_getElem hlt⟩, by show 0 < sizeLine; decide, fun ys' H'' => ys' = [] ∧ H'' = L2.upd H D (.lst []), ?_, ?_⟩
    · rintro ys' H'' ⟨rfl, rfl⟩
      exact ⟨xs.length - (i + 1), by omega, hlt, rfl, rfl, rfl⟩
    · rintro x H'' ⟨rfl, hx⟩
      exact ht D i x _ hD (hx xs hs) ⟨rfl, rfl⟩
  · exact .inl ⟨⟨xs, hs, by omega⟩, q D hD⟩
theorem tcomp_none_tup {K : PySem.W.Frag} {i : Nat} {a : Addr} {xs : List V} {tc : TT} {te : TE} {fr : List Nat} {σ : L2.St} {H : Hp} {Q : VK} (hi : σ[i]? = some (some (.ref a))) (hl : SqT K H a xs)
    (ht : ∀ D (i : Nat) x (R : Bool → Hp → Prop), H D = none → xs[i]? = some x → R false (L2.upd H D (.lst [])) → tc (some x :: around fr σ) (L2.upd H D (.lst [])) R) (q : ∀ D, H D = none → Q (.ref D) (L2.upd H D (.lst []))) :
    tComp (iTup K (tVar i)) tc te fr σ H Q := ⟨_, hi, a, rfl, ⟨xs, hl⟩, comp_none_tup hl ht q⟩
section
variable {P : Program} {w : World} {K : PySem.W.Frag} {mg : Str → Option Value} {base : Heap}
/-- the comprehension over a tuple of ints, in the i-th slot, that takes nothing -/
def tNoneT (K : PySem.W.Frag) (i : Nat) : TE := fun σ H Q => ∃ a xs, σ[i]? = some (some (.ref a)) ∧ SqT K H a xs ∧ (∀ x ∈ xs, ∃ j, x = .int j) ∧ ∀ D, H D = none → Q (.ref D) (L2.upd H D (.lst []))
/-! _law_shortest -/
def spSho : Sp := fun vs H Q _ => ∃ (p : Addr) (a b : Int), vs = [.ref p] ∧ Tp H p a b ∧ 0 < b ∧ Int.gcd a b = 1 ∧ Sz 1900 a ∧ Sz 1900 b ∧ ∀ H', Same H H' → Q (.bl true) H'
theorem scSho : FnScope ["_law_found"] ["_law_found"] (defScope lSho) := ⟨rfl, rfl, rfl, by decide +kernel, rfl, by decide +kernel, by decide +kernel⟩
theorem ok_sho {f fC : Addr} {fd fdC : FuncData} (F : Fun K "_law_shortest" "_law_shortest" lSho f fd) (B : Bn mg) (FC : Fun K "_law_common" "_law_common" lCom fC fdC) (bC : Binds K fdC ["_law_one", "_law_other"] []) (mC : mg "_law_common" = some (.ref fC)) :
    FnOk P w K mg base CX0 2 f fd ["_law_found"] spSho := by
  have GC : FnOk P w K mg base CX0 1 fC fdC ["_law_one", "_law_other"] spCom := ok_com FC
  refine F.ok scSho (fun vs H Q E h => ?_) (fun cdv A outer s H vs Q E hr h => ?_)
  · obtain ⟨p, a, b, rfl, _⟩ := h
    rfl
  · obtain ⟨p, a, b, rfl, hp, hb, hg, za, zb, q⟩ := h
    have hu := hu_of hr
    refine ⟨_, pss_cons (ps_if (pw_or (pt_not (pt_val (pe_callB call_isi (by rfl) B.isi bt_isinstance (pa_cons (pv 0) (pa_cons (pe_bltn (v := .ty "tuple") (by rfl) B.tuple bt_tuple rfl) pa_nil)))))
        (pw_or1 (pt_cmpR op_ne (pe_callB call_len_seq (by rfl) B.len bt_len (pa_cons (pv 0) pa_nil)) pe_int (nomark _)))).pt (pss_one (ps_ret pe_bl)) pss_nil)
      (pss_cons (ps_if (pt_cmpR (op_neNil (Nat.lt_of_succ_lt hu))
          (PE.imp (t' := tNoneT K 0) (pe_comp (ys := []) (fr := []) (cl := []) rfl (pi_tup (pv 0)) (by rfl) (by decide +kernel) rfl (by decide +kernel) (by rfl) (by decide +kernel) (fun _ _ h => nomatch h) rfl (fun j y i h => nomatch h) (fun y h => ?hhas)
            (fun C s₂ H₂ fp => PW.pt (pw_or (pt_val (pe_callB (call_isiK (K := K) rfl) (by rfl) B.isi bt_isinstance (pa_cons (pv 0) (pa_cons (pe_bltn (v := .ty "bool") (by rfl) B.bool bt_bool rfl) pa_nil))))
              (pw_or1 (pt_not (pt_val (pe_callB (call_isiK (K := K) rfl) (by rfl) B.isi bt_isinstance (pa_cons (pv 0) (pa_cons (pe_bltn (v := .ty "int") (by rfl) B.int bt_int rfl) pa_nil))))))))
            (fun C s₂ H₂ fp => pv 0)) (fun σ H Q h => ?short))
          (pe_lst pa_nil) (nomark _)) (pss_one (ps_ret pe_bl)) pss_nil)
      (pss_one (ps_ret (pe_and (pe_cmpR op_gt (pe_ix ix_tup (pv 0) pe_int (fun _ _ => rfl)) pe_int (nomark _))
        (pe_one (pe_cmpR op_eq (pe_call GC hr (by rfl) mC FC.kp bC .nil pass0 (pa_cons (pe_callB call_abs (by rfl) B.abs bt_abs (pa_cons (pe_ix ix_tup (pv 0) pe_int (fun _ _ => rfl)) pa_nil)) (pa_cons (pe_ix ix_tup (pv 0) pe_int (fun _ _ => rfl)) pa_nil))) pe_int (nomark _))))))), ?_⟩
    case short =>
      obtain ⟨a, xs, hi, hl, hx, q⟩ := h
      refine tcomp_none_tup hi hl (fun D i x R hD hx2 hR => ?_) q
      obtain ⟨j, rfl⟩ := hx x (List.mem_of_getElem? hx2)
      refine ⟨_, rfl, _, .ty "bool", _, .type "bool", _, rfl, rfl, .int j, k_int_bool K, _, rfl, ?_⟩
      refine iteF ?_
      exact ⟨_, rfl, _, .ty "int", _, .type "int", _, rfl, rfl, .int j, k_int_int K, _, rfl, hR⟩
    case hhas =>
      rcases h with h | h
      · have z : NameKind.cell ∈ [NameKind.local, .local, .globalImplicit, .globalImplicit, .globalImplicit] := lookup_kind h
        simp at z
      · have z : NameKind.free ∈ [NameKind.local, .local, .globalImplicit, .globalImplicit, .globalImplicit] := lookup_kind h
        simp at z
    refine ⟨_, rfl, _, .ty "tuple", _, .type "tuple", _, rfl, rfl, .tup hp, k_tuple_tuple K, _, rfl, ?_⟩
    refine iteF ?_
    refine ⟨_, rfl, p, _, rfl, .inr (SqT.of hp), rfl, _, rfl, ?_⟩
    refine iteNS rfl ?_
    refine ⟨p, _, rfl, SqT.of hp, fun x hx => ?_, fun D hD => ?_⟩
    · simp only [List.mem_cons, List.not_mem_nil, or_false] at hx
      rcases hx with rfl | rfl <;> exact ⟨_, rfl⟩
    · refine ⟨Nat.zero_le _, fun D2 hD2 => ?_⟩
      have s1 : Same H (L2.upd H D (.lst [])) := Same.upd hD
      have s2 : Same H (L2.upd (L2.upd H D (.lst [])) D2 (.lst [])) := s1.trans (Same.upd hD2)
      have hp2 := s2 p _ hp
      have n1 : D ≠ D2 := fun z => by rw [← z, upd_same] at hD2; cases hD2
      refine ⟨D, D2, [], rfl, rfl, SqL.of (by rw [upd_ne n1]; exact upd_same), SqL.of upd_same, _, rfl, ?_⟩
      refine iteF ?_
      refine ⟨_, rfl, p, _, _, _, rfl, rfl, SqT.of hp2, rfl, b, 0, rfl, rfl, _, rfl, ?_⟩
      rw [decide_eq_true hb]
      refine iteT ?_
      refine ⟨_, rfl, p, _, _, _, rfl, rfl, SqT.of hp2, rfl, a, rfl, _, rfl, p, _, _, _, rfl, rfl, SqT.of hp2, rfl, _, b, rfl, ?_, by omega, ?_, zb, rfl, ?_⟩
      · split <;> omega
      · split
        · exact za.neg
        · exact za
      · rw [gcd_abs, hg]
        exact q _ s2
/-! _law_above, _law_below -/
def spAbo : Sp := fun vs H Q _ => ∃ n : Int, vs = [.int n] ∧ 0 ≤ n ∧ n < 2147483629 ∧ ∀ (r : Int) H', Same H H' → Sz 40 r → Q (.int r) H'
def spBel : Sp := fun vs H Q _ => ∃ n : Int, vs = [.int n] ∧ 0 ≤ n ∧ n < 2147483629 ∧ ∀ (r : Int) H', Same H H' → 0 < r → Sz 40 r → Q (.int r) H'
theorem scAbo : FnScope ["_law_number_here"] ["_law_number_here"] (defScope lAbo) := ⟨rfl, rfl, rfl, by decide +kernel, rfl, by decide +kernel, by decide +kernel⟩
theorem scBel : FnScope ["_law_number_here"] ["_law_number_here"] (defScope lBel) := ⟨rfl, rfl, rfl, by decide +kernel, rfl, by decide +kernel, by decide +kernel⟩
theorem p12 : (10 : Int) ^ (12 : Int).toNat = 1000000000000 := by decide
theorem sz40 {r : Int} (h1 : -1000000000000 ≤ r) (h2 : r ≤ 1000000000000) : Sz 40 r := by
  unfold Sz
  have : (2 : Nat) ^ 40 = 1099511627776 := by decide
  omega
theorem ok_abo {f : Addr} {fd : FuncData} (F : Fun K "_law_above" "_law_above" lAbo f fd) : FnOk P w K mg base CX0 1 f fd ["_law_number_here"] spAbo := by
  refine F.ok scAbo (fun vs H Q E h => ?_) (fun cdv A outer s H vs Q E hr h => ?_)
  · obtain ⟨n, rfl, _⟩ := h
    rfl
  · obtain ⟨n, rfl, h0, h1, q⟩ := h
    refine ⟨_, pss_one (ps_ret (pe_ix ix_list (pe_lst (pa_cons pe_int (pa_cons (pe_op op_mod (pe_op op_fdiv (pv 0) pe_int) pe_int) (pa_cons (pe_op op_mod (pe_op op_fdiv (pv 0) pe_int) pe_int) (pa_cons (pe_op op_sub pe_int (pe_op op_mod (pe_op op_fdiv (pv 0) pe_int) pe_int))
      (pa_cons (pe_op op_mod (pe_op op_mul (pv 0) pe_int) (pe_op op_pow pe_int pe_int)) (pa_cons pe_int (pa_cons pe_int (pa_cons pe_int pa_nil))))))))) (pe_op op_mod (pv 0) pe_int) (fun _ _ => rfl))), ?_⟩
    have d8 : CDiv n 8 := ⟨by decide, by decide⟩
    have c50 : (0 : Int) < 50 := by decide
    refine ⟨_, rfl, _, _, rfl, rfl, d8, _, _, rfl, rfl, c50, _, rfl, _, _, rfl, rfl, d8, _, _, rfl, rfl, c50, _, rfl, _, _, rfl, rfl, d8, _, _, rfl, rfl, c50, _, _, rfl, rfl, _, rfl, _, _, rfl, rfl, .inr ⟨by decide, by decide⟩, _, _, rfl, rfl, ⟨by decide, by decide, by decide⟩, _, _, rfl, rfl, by rw [p12]; exact (by decide : (0 : Int) < 1000000000000), by show 8 ≤ sizeLine; decide, fun p hp => ?_⟩
    have m1 := Int.emod_nonneg (n / 8) (by decide : (50 : Int) ≠ 0)
    have m2 := Int.emod_lt_of_pos (n / 8) c50
    have w1 := Int.emod_nonneg (n * 997) (by decide : (1000000000000 : Int) ≠ 0)
    have w2 := Int.emod_lt_of_pos (n * 997) (by decide : (0 : Int) < 1000000000000)
    have v1 := Int.emod_nonneg n (by decide : (8 : Int) ≠ 0)
    have v2 := Int.emod_lt_of_pos n (by decide : (0 : Int) < 8)
    have fin : ∀ (j : Nat) (r : Int), n % 8 = (j : Int) → ([V.int 0, .int (n / 8 % 50), .int (n / 8 % 50), .int (0 - n / 8 % 50), .int (n * 997 % 10 ^ (12 : Int).toNat), .int 12, .int 1, .int 60] : List V)[j]? = some (.int r) → Sz 40 r →
        ∃ v, atI ([V.int 0, .int (n / 8 % 50), .int (n / 8 % 50), .int (0 - n / 8 % 50), .int (n * 997 % 10 ^ (12 : Int).toNat), .int 12, .int 1, .int 60] : List V) (n % 8) = some v ∧ Q v (L2.upd H p (.lst [.int 0, .int (n / 8 % 50), .int (n / 8 % 50), .int (0 - n / 8 % 50), .int (n * 997 % 10 ^ (12 : Int).toNat), .int 12, .int 1, .int 60])) := fun j r e1 e2 z => by
      refine ⟨.int r, ?_, q r _ (Same.upd hp) z⟩
      rw [e1]
      exact atI_nat e2
    have all : ∃ v, atI ([V.int 0, .int (n / 8 % 50), .int (n / 8 % 50), .int (0 - n / 8 % 50), .int (n * 997 % 10 ^ (12 : Int).toNat), .int 12, .int 1, .int 60] : List V) (n % 8) = some v ∧ Q v (L2.upd H p (.lst [.int 0, .int (n / 8 % 50), .int (n / 8 % 50), .int (0 - n / 8 % 50), .int (n * 997 % 10 ^ (12 : Int).toNat), .int 12, .int 1, .int 60])) := by
      rcases (show n % 8 = 0 ∨ n % 8 = 1 ∨ n % 8 = 2 ∨ n % 8 = 3 ∨ n % 8 = 4 ∨ n % 8 = 5 ∨ n % 8 = 6 ∨ n % 8 = 7 by omega) with e | e | e | e | e | e | e | e
      · exact fin 0 _ e rfl (sz40 (by decide) (by decide))
      · exact fin 1 _ e rfl (sz40 (by omega) (by omega))
      · exact fin 2 _ e rfl (sz40 (by omega) (by omega))
      · exact fin 3 _ e rfl (sz40 (by omega) (by omega))
      · exact fin 4 _ e rfl (by rw [p12]; exact sz40 (by omega) (by omega))
      · exact fin 5 _ e rfl (sz40 (by decide) (by decide))
      · exact fin 6 _ e rfl (sz40 (by decide) (by decide))
      · exact fin 7 _ e rfl (sz40 (by decide) (by decide))
    obtain ⟨v, hv, qv⟩ := all
    exact ⟨_, rfl, _, _, rfl, rfl, (by show (0 : Int) < 8; decide), p, _, _, v, rfl, rfl, SqL.of upd_same, hv, qv⟩
theorem ok_bel {f : Addr} {fd : FuncData} (F : Fun K "_law_below" "_law_below" lBel f fd) : FnOk P w K mg base CX0 1 f fd ["_law_number_here"] spBel := by
  refine F.ok scBel (fun vs H Q E h => ?_) (fun cdv A outer s H vs Q E hr h => ?_)
  · obtain ⟨n, rfl, _⟩ := h
    rfl
  · obtain ⟨n, rfl, h0, h1, q⟩ := h
    refine ⟨_, pss_one (ps_ret (pe_ix ix_list (pe_lst (pa_cons pe_int (pa_cons (pe_op op_add pe_int (pe_op op_mod (pe_op op_fdiv (pv 0) pe_int) pe_int)) (pa_cons (pe_op op_add pe_int (pe_op op_mod (pe_op op_fdiv (pv 0) pe_int) pe_int)) (pa_cons pe_int
      (pa_cons (pe_op op_add pe_int (pe_op op_mod (pe_op op_mul (pv 0) pe_int) (pe_op op_pow pe_int pe_int))) (pa_cons pe_int pa_nil))))))) (pe_op op_mod (pv 0) pe_int) (fun _ _ => rfl))), ?_⟩
    have d6 : CDiv n 6 := ⟨by decide, by decide⟩
    have c60 : (0 : Int) < 60 := by decide
    refine ⟨_, rfl, _, _, rfl, rfl, d6, _, _, rfl, rfl, c60, _, _, rfl, rfl, _, rfl, _, _, rfl, rfl, d6, _, _, rfl, rfl, c60, _, _, rfl, rfl, _, rfl, _, _, rfl, rfl, .inr ⟨by decide, by decide⟩, _, _, rfl, rfl, ⟨by decide, by decide, by decide⟩, _, _, rfl, rfl, by rw [p12]; exact (by decide : (0 : Int) < 1000000000000), _, _, rfl, rfl, by show 6 ≤ sizeLine; decide, fun p hp => ?_⟩
    have m1 := Int.emod_nonneg (n / 6) (by decide : (60 : Int) ≠ 0)
    have m2 := Int.emod_lt_of_pos (n / 6) c60
    have w1 := Int.emod_nonneg (n * 991) (by decide : (1000000000000 : Int) ≠ 0)
    have w2 := Int.emod_lt_of_pos (n * 991) (by decide : (0 : Int) < 1000000000000)
    have v1 := Int.emod_nonneg n (by decide : (6 : Int) ≠ 0)
    have v2 := Int.emod_lt_of_pos n (by decide : (0 : Int) < 6)
    have fin : ∀ (j : Nat) (r : Int), n % 6 = (j : Int) → ([V.int 1, .int (1 + n / 6 % 60), .int (1 + n / 6 % 60), .int 12, .int (1 + n * 991 % 10 ^ (12 : Int).toNat), .int 60] : List V)[j]? = some (.int r) → 0 < r → Sz 40 r →
        ∃ v, atI ([V.int 1, .int (1 + n / 6 % 60), .int (1 + n / 6 % 60), .int 12, .int (1 + n * 991 % 10 ^ (12 : Int).toNat), .int 60] : List V) (n % 6) = some v ∧ Q v (L2.upd H p (.lst [.int 1, .int (1 + n / 6 % 60), .int (1 + n / 6 % 60), .int 12, .int (1 + n * 991 % 10 ^ (12 : Int).toNat), .int 60])) := fun j r e1 e2 z0 z => by
      refine ⟨.int r, ?_, q r _ (Same.upd hp) z0 z⟩
      rw [e1]
      exact atI_nat e2
    have all : ∃ v, atI ([V.int 1, .int (1 + n / 6 % 60), .int (1 + n / 6 % 60), .int 12, .int (1 + n * 991 % 10 ^ (12 : Int).toNat), .int 60] : List V) (n % 6) = some v ∧ Q v (L2.upd H p (.lst [.int 1, .int (1 + n / 6 % 60), .int (1 + n / 6 % 60), .int 12, .int (1 + n * 991 % 10 ^ (12 : Int).toNat), .int 60])) := by
      rcases (show n % 6 = 0 ∨ n % 6 = 1 ∨ n % 6 = 2 ∨ n % 6 = 3 ∨ n % 6 = 4 ∨ n % 6 = 5 by omega) with e | e | e | e | e | e
      · exact fin 0 _ e rfl (by decide) (sz40 (by decide) (by decide))
      · exact fin 1 _ e rfl (by omega) (sz40 (by omega) (by omega))
      · exact fin 2 _ e rfl (by omega) (sz40 (by omega) (by omega))
      · exact fin 3 _ e rfl (by decide) (sz40 (by decide) (by decide))
      · exact fin 4 _ e rfl (by rw [p12]; omega) (by rw [p12]; exact sz40 (by omega) (by omega))
      · exact fin 5 _ e rfl (by decide) (sz40 (by decide) (by decide))
    obtain ⟨v, hv, qv⟩ := all
    exact ⟨_, rfl, _, _, rfl, rfl, (by show (0 : Int) < 6; decide), p, _, _, v, rfl, rfl, SqL.of upd_same, hv, qv⟩
end
end Fr

set_option Elab.async false
set_option linter.all false
set_option maxRecDepth 100000
set_option maxHeartbeats 4000000
namespace Fr
open PySem PySem.Spec PyProof.Rows L2 FrM
section
variable {P : Program} {w : World} {K : PySem.W.Frag} {mg : Str → Option Value} {base : Heap}
/-- a def that may refuse, where it doesn't -/
theorem nox {f : Addr} {fd : FuncData} {k : Nat} {ps : List Str} {sp sp' : Sp} (G : FnOk P w K mg base (Fly P w) k f fd ps sp) (h : ∀ vs H Q E, sp' vs H Q E → sp vs H Q (fun _ _ _ => False)) : FnOk P w K mg base CX0 k f fd ps sp' :=
  ⟨fun vs H Q E q => G.len vs H Q _ (h _ _ _ _ q), fun A outer s H args us vs Q E hr he hb hv hs => by
    refine codeAny_mono (G.run A outer s H args us vs Q (fun _ _ _ => False) hr he hb hv (h _ _ _ _ hs)) fun r s' q => ?_
    cases r with
    | ok fl => cases fl <;> exact q
    | error e =>
      obtain ⟨_, _, _, _, _, _, _, _, _, _, _, z⟩ := q
      exact z⟩
theorem two_le : 2 ≤ sizeLine := by decide
/-! _law_power -/
theorem at_pick (a b : Int) (c : Bool) : atI [V.int a, V.int b] (if c then 1 else 0) = some (V.int (if c then b else a)) := by cases c <;> rfl
def spLPow : Sp := fun vs H Q _ => ∃ (p : Addr) (a b e : Int), vs = [.ref p, .int e] ∧ Tp H p a b ∧ -5 ≤ e ∧ e ≤ 5 ∧ Sz 300 a ∧ Sz 300 b ∧
  RetT H Q [.int ((if decide (e < 0) then b else a) ^ (if e < 0 then -e else e).toNat), .int ((if decide (0 < e) then b else a) ^ (if e < 0 then -e else e).toNat)]
theorem scLPow : FnScope ["_law_one", "_law_exponent", "_law_above_here", "_law_below_here", "_law_turn"] ["_law_one", "_law_exponent"] (defScope lPow) := ⟨rfl, rfl, rfl, by decide +kernel, rfl, by decide +kernel, by decide +kernel⟩
theorem ok_lpow {f : Addr} {fd : FuncData} (F : Fun K "_law_power" "_law_power" lPow f fd) (B : Bn mg) : FnOk P w K mg base CX0 1 f fd ["_law_one", "_law_exponent"] spLPow := by
  refine F.ok scLPow (fun vs H Q E h => ?_) (fun cdv A outer s H vs Q E hr h => ?_)
  · obtain ⟨p, a, b, e, rfl, _⟩ := h
    rfl
  · obtain ⟨p, a, b, e, rfl, hp, h0, h1, za, zb, k⟩ := h
    refine ⟨_, (pss_cons 
      (ps_set (i := 2) scLPow.nd rfl (Or.inl rfl) pe_int) (pss_cons 
      (ps_set (i := 3) scLPow.nd rfl (Or.inl rfl) pe_int) (pss_cons 
      (ps_for PassesOwn.never rfl (pi_range1 (by rfl) B.range (pa_cons (pe_callB call_abs (by rfl) B.abs bt_abs (pa_cons (pv 1) pa_nil)) pa_nil)) (pg_name (i := 4) scLPow.nd rfl (Or.inl rfl)) (pss_cons 
        (ps_set (i := 2) scLPow.nd rfl (Or.inl rfl) (pe_op op_mulS (pv 2) (pe_ix ix_tup (pv 0) (pe_callTy call_int1 (by rfl) B.int bt_int (pa_cons (pe_cmpR op_lt (pv 1) pe_int (nomark _)) pa_nil)) (fun _ _ => rfl)))) (pss_one 
        (ps_set (i := 3) scLPow.nd rfl (Or.inl rfl) (pe_op op_mulS (pv 3) (pe_ix ix_tup (pv 0) (pe_callTy call_int1 (by rfl) B.int bt_int (pa_cons (pe_cmpR op_gt (pv 1) pe_int (nomark _)) pa_nil)) (fun _ _ => rfl))))))) (pss_one 
      (ps_ret (pe_tup (pa_cons (pv 2) (pa_cons (pv 3) pa_nil)))))))), ?_⟩
    generalize hn : (if e < 0 then -e else e) = n at k
    have hn0 : 0 ≤ n := by rw [← hn]; split <;> omega
    have hn5 : n ≤ 5 := by rw [← hn]; split <;> omega
    have zA : Sz 300 (if decide (e < 0) then b else a) := by split <;> assumption
    have zB : Sz 300 (if decide (0 < e) then b else a) := by split <;> assumption
    generalize hA : (if decide (e < 0) then b else a) = A' at k zA
    generalize hB : (if decide (0 < e) then b else a) = B' at k zB
    refine ⟨_, rfl, e, rfl, n, by rw [hn], by omega, by omega, for_range (lo := 0) (n := n.toNat) (fun i σ H' => H' = H ∧ ∃ t, σ = [some (.ref p), some (.int e), some (.int (A' ^ i)), some (.int (B' ^ i)), t]) ⟨rfl, none, by rw [Int.pow_zero, Int.pow_zero]; rfl⟩ ?_ ?_⟩
    · rintro i σ H' hi ⟨rfl, t, rfl⟩
      have hi5 : i ≤ 5 := by omega
      have y1 : Sz 4000 (A' ^ i) := (zA.pow i).mono (by omega)
      have y2 : Sz 4000 (B' ^ i) := (zB.pow i).mono (by omega)
      refine ⟨_, rfl, _, rfl, _, rfl, _, _, rfl, rfl, .inr ⟨_, rfl, p, _, _, _, rfl, rfl, SqT.of hp, at_pick a b _, _, _, rfl, rfl, ⟨y1, ?_⟩, ?_⟩⟩
      · rw [hA]; exact zA.mono (by decide)
      · refine ⟨_, rfl, _, rfl, _, rfl, _, _, rfl, rfl, .inr ⟨_, rfl, p, _, _, _, rfl, rfl, SqT.of hp, at_pick a b _, _, _, rfl, rfl, ⟨y2, ?_⟩, ?_⟩⟩
        · rw [hB]; exact zB.mono (by decide)
        · refine ⟨rfl, some (.int (0 + (i : Int))), ?_⟩
          rw [hA, hB, Int.pow_succ, Int.pow_succ]
          rfl
    · rintro σ H' ⟨rfl, t, rfl⟩
      exact ⟨_, rfl, _, rfl, two_le, fun r hr => k.new hr⟩
/-! _law_gone_on -/
def GoneR (H : Hp) (Q : VK) (m : Nat) : Prop := ∀ (r rf rd : Addr) (x y u v : Int) (H' : Hp), Same H H' → H' r = some (.tup [.ref rf, .ref rd]) → Tp H' rf x y → Tp H' rd u v → 0 < y → Int.gcd x y = 1 → x * v = u * y → Sz m x → Sz m y → Sz 1900 u → Sz 1900 v → Q (.ref r) H'
theorem GoneR.fin {H H2 : Hp} {Q : VK} {m : Nat} (k : GoneR H Q m) {rf rd r : Addr} {x y u v : Int} (s : Same H H2) (hf : Tp H2 rf x y) (hd : Tp H2 rd u v) (hr : H2 r = none) (h1 : 0 < y) (h2 : Int.gcd x y = 1) (h3 : x * v = u * y) (z1 : Sz m x) (z2 : Sz m y) (z3 : Sz 1900 u) (z4 : Sz 1900 v) :
    Q (.ref r) (L2.upd H2 r (.tup [.ref rf, .ref rd])) :=
  k r rf rd x y u v _ (s.trans (Same.upd hr)) upd_same (Same.upd hr rf _ hf) (Same.upd hr rd _ hd) h1 h2 h3 z1 z2 z3 z4
def spGone : Sp := fun vs H Q _ => ∃ (p q : Addr) (a b c d n : Int) (m : Nat), vs = [.ref p, .ref q, .int n] ∧ Tp H p a b ∧ Tp H q c d ∧ 0 < b ∧ 0 < d ∧ Int.gcd c d = 1 ∧ Sz m a ∧ Sz m b ∧ 201 ≤ m ∧ m ≤ 1000 ∧ Sz 40 c ∧ Sz 40 d ∧ GoneR H Q (m + 41)
theorem scGone : FnScope ["_law_here", "_law_other", "_law_number_here", "_law_exponent"] ["_law_here", "_law_other", "_law_number_here"] (defScope lGone) := ⟨rfl, rfl, rfl, by decide +kernel, rfl, by decide +kernel, by decide +kernel⟩
/-- power_of where it does not refuse -/
def spPowN : Sp := fun vs H Q _ => ∃ (q : Addr) (c d e : Int), vs = [.ref q, .int e] ∧ Tp H q c d ∧ -5 ≤ e ∧ e ≤ 5 ∧ (e < 0 → c ≠ 0) ∧ Sz 300 c ∧ Sz 300 d ∧ ∀ x y : Int,
  (0 ≤ e → x = c ^ e.toNat ∧ y = d ^ e.toNat) → (e < 0 → x = (if c < 0 then -d else d) ^ (-e).toNat ∧ y = (if c < 0 then -c else c) ^ (-e).toNat) → RetT H Q [.int x, .int y]
theorem pow_n {f BN : Addr} {fd : FuncData} {k : Nat} (G : FnOk P w K mg base (Fly P w) k f fd ["one", "exponent"] (spPow BN)) : FnOk P w K mg base CX0 k f fd ["one", "exponent"] spPowN := by
  refine nox G fun vs H Q E h => ?_
  obtain ⟨q, c, d, e, rfl, hq, h0, h1, hz, zc, zd, k⟩ := h
  refine ⟨q, c, d, .int e, rfl, hq, .int e, fun e' he hp => ?_, fun e' he hn hc => ?_, fun e' he hn hc => ?_, fun z => ?_⟩
  · cases he
    exact ⟨h1, zc, zd, k _ _ (fun _ => ⟨rfl, rfl⟩) (fun z => absurd z (by omega))⟩
  · cases he
    exact ⟨h0, zc, zd, k _ _ (fun z => absurd z (by omega)) (fun _ => ⟨rfl, rfl⟩)⟩
  · cases he
    exact hz hn hc
  · cases z
theorem pow_facts {c d e x y u v : Int} (hd : 0 < d) (hg : Int.gcd c d = 1) (hc : e < 0 → c ≠ 0) (hp : 0 ≤ e → x = c ^ e.toNat ∧ y = d ^ e.toNat) (hn : e < 0 → x = (if c < 0 then -d else d) ^ (-e).toNat ∧ y = (if c < 0 then -c else c) ^ (-e).toNat)
    (hu : u = (if decide (e < 0) then d else c) ^ (if e < 0 then -e else e).toNat) (hv : v = (if decide (0 < e) then d else c) ^ (if e < 0 then -e else e).toNat) : 0 < y ∧ Int.gcd x y = 1 ∧ x * v = u * y := by
  rcases Int.lt_or_le e 0 with h | h
  · obtain ⟨rfl, rfl⟩ := hn h
    have c0 := hc h
    have e1 : decide (e < 0) = true := decide_eq_true h
    have e2 : decide (0 < e) = false := decide_eq_false (by omega)
    rw [e1, if_pos rfl, if_pos h] at hu
    rw [e2, if_neg (by decide), if_pos h] at hv
    subst hu hv
    by_cases hlt : c < 0
    · rw [if_pos hlt, if_pos hlt]
      refine ⟨pow_pos' (by omega) _, gcd_pow (by rw [gcd_neg2]; exact hg) _, neg_across c d _⟩
    · rw [if_neg hlt, if_neg hlt]
      exact ⟨pow_pos' (by omega) _, gcd_pow (by rw [Int.gcd_comm]; exact hg) _, rfl⟩
  · obtain ⟨rfl, rfl⟩ := hp h
    have e1 : decide (e < 0) = false := decide_eq_false (by omega)
    have hh : ¬ e < 0 := by omega
    rw [e1, if_neg (by decide), if_neg hh] at hu
    rw [if_neg hh] at hv
    subst hu
    refine ⟨pow_pos' hd _, gcd_pow hg _, ?_⟩
    by_cases h2 : 0 < e
    · rw [decide_eq_true h2, if_pos rfl] at hv
      rw [hv]
    · have e0 : e = 0 := by omega
      subst e0
      rw [hv]
      simp
theorem ok_gone {f fS fM fP fL : Addr} {fd fdS fdM fdP fdL : FuncData} (F : Fun K "_law_gone_on" "_law_gone_on" lGone f fd) (B : Bn mg)
    (FS : Fun K "sum_of" "sum_of" sSum fS fdS) (bS : Binds K fdS ["one", "other"] []) (mS : mg "sum_of" = some (.ref fS)) (GS : FnOk P w K mg base CX0 4 fS fdS ["one", "other"] spSum)
    (FM : Fun K "product_of" "product_of" sProd fM fdM) (bM : Binds K fdM ["one", "other"] []) (mM : mg "product_of" = some (.ref fM)) (GM : FnOk P w K mg base CX0 4 fM fdM ["one", "other"] spProd)
    (FP : Fun K "power_of" "power_of" sPow fP fdP) (bP : Binds K fdP ["one", "exponent"] []) (mP : mg "power_of" = some (.ref fP)) (GP : FnOk P w K mg base CX0 4 fP fdP ["one", "exponent"] spPowN)
    (FL : Fun K "_law_power" "_law_power" lPow fL fdL) (bL : Binds K fdL ["_law_one", "_law_exponent"] []) (mL : mg "_law_power" = some (.ref fL)) (GL : FnOk P w K mg base CX0 4 fL fdL ["_law_one", "_law_exponent"] spLPow) :
    FnOk P w K mg base CX0 5 f fd ["_law_here", "_law_other", "_law_number_here"] spGone := by
  refine F.ok scGone (fun vs H Q E h => ?_) (fun cdv A outer s H vs Q E hr h => ?_)
  · obtain ⟨p, q, a, b, c, d, n, m, rfl, _⟩ := h
    rfl
  · obtain ⟨p, q, a, b, c, d, n, m, rfl, hp, hq, hb, hd, hg, za, zb, hm1, hm2, zc, zd, k⟩ := h
    refine ⟨_, (pss_cons 
      (ps_if (pt_cmpR op_eq (pe_op op_mod (pe_op op_fdiv (pv 2) pe_int) pe_int) pe_int (nomark _)) (pss_one 
        (ps_ret (pe_tup (pa_cons (pe_call GS hr (by rfl) mS FS.kp bS .nil pass0 (pa_cons (pv 0) (pa_cons (pv 1) pa_nil))) (pa_cons (pe_tup (pa_cons (pe_op op_add (pe_op op_mulS (pe_ix ix_tup (pv 0) pe_int (fun _ _ => rfl)) (pe_ix ix_tup (pv 1) pe_int (fun _ _ => rfl))) (pe_op op_mulS (pe_ix ix_tup (pv 1) pe_int (fun _ _ => rfl)) (pe_ix ix_tup (pv 0) pe_int (fun _ _ => rfl)))) (pa_cons (pe_op op_mulS (pe_ix ix_tup (pv 0) pe_int (fun _ _ => rfl)) (pe_ix ix_tup (pv 1) pe_int (fun _ _ => rfl))) pa_nil))) pa_nil))))) pss_nil) (pss_cons 
      (ps_if (pt_cmpR op_eq (pe_op op_mod (pe_op op_fdiv (pv 2) pe_int) pe_int) pe_int (nomark _)) (pss_one 
        (ps_ret (pe_tup (pa_cons (pe_call GM hr (by rfl) mM FM.kp bM .nil pass0 (pa_cons (pv 0) (pa_cons (pv 1) pa_nil))) (pa_cons (pe_tup (pa_cons (pe_op op_mulS (pe_ix ix_tup (pv 0) pe_int (fun _ _ => rfl)) (pe_ix ix_tup (pv 1) pe_int (fun _ _ => rfl))) (pa_cons (pe_op op_mulS (pe_ix ix_tup (pv 0) pe_int (fun _ _ => rfl)) (pe_ix ix_tup (pv 1) pe_int (fun _ _ => rfl))) pa_nil))) pa_nil))))) pss_nil) (pss_cons 
      (ps_set (i := 3) scGone.nd rfl (Or.inl rfl) (pe_op op_sub (pe_op op_mod (pe_op op_fdiv (pv 2) pe_int) pe_int) pe_int)) (pss_cons 
      (ps_if (pt_cmpR op_eq (pe_ix ix_tup (pv 1) pe_int (fun _ _ => rfl)) pe_int (nomark _)) (pss_one 
        (ps_set (i := 3) scGone.nd rfl (Or.inl rfl) (pe_callB call_abs (by rfl) B.abs bt_abs (pa_cons (pv 3) pa_nil)))) pss_nil) (pss_one 
      (ps_ret (pe_tup (pa_cons (pe_call GP hr (by rfl) mP FP.kp bP .nil pass0 (pa_cons (pv 1) (pa_cons (pv 3) pa_nil))) (pa_cons (pe_call GL hr (by rfl) mL FL.kp bL .nil pass0 (pa_cons (pv 1) (pa_cons (pv 3) pa_nil))) pa_nil))))))))), ?_⟩
    have c7 : CDiv n 7 := ⟨by decide, by decide⟩
    have c21 : CDiv n 21 := ⟨by decide, by decide⟩
    have p3 : (0 : Int) < 3 := by decide
    have m19 : ∀ {x : Int}, Sz m x → Sz 1900 x := fun h => h.mono (by omega)
    have n19 : ∀ {x : Int}, Sz 40 x → Sz 1900 x := fun h => h.mono (by decide)
    have m40 : ∀ {x : Int}, Sz m x → Sz 4000 x := fun h => h.mono (by omega)
    have n40 : ∀ {x : Int}, Sz 40 x → Sz 4000 x := fun h => h.mono (by decide)
    have hbd := Int.mul_pos hb hd
    have zbd : Sz (m + 41) (b * d) := (zb.mul zd).mono (by omega)
    refine ⟨_, rfl, _, _, rfl, rfl, c7, _, _, rfl, rfl, p3, rfl, _, rfl, ?_⟩
    refine ite2 (fun _ => ?_) (fun _ => ?_)
    · have zn : Sz (m + 41) (a * d + c * b) := ((za.mul zd).add ((zc.mul zb).mono (by omega))).mono (by omega)
      refine ⟨_, rfl, _, rfl, p, q, a, b, c, d, rfl, hp, hq, hb, hd, m19 za, m19 zb, n19 zc, n19 zd, fun r1 H1 s1 n1 t1 => ?_⟩
      have hp1 := s1 p _ hp
      have hq1 := s1 q _ hq
      refine ⟨_, rfl, p, _, _, _, rfl, rfl, SqT.of hp1, rfl, _, rfl, q, _, _, _, rfl, rfl, SqT.of hq1, rfl, a, d, rfl, rfl, ⟨m40 za, n40 zd⟩,
        _, rfl, q, _, _, _, rfl, rfl, SqT.of hq1, rfl, _, rfl, p, _, _, _, rfl, rfl, SqT.of hp1, rfl, c, b, rfl, rfl, ⟨n40 zc, m40 zb⟩, _, _, rfl, rfl,
        _, rfl, p, _, _, _, rfl, rfl, SqT.of hp1, rfl, _, rfl, q, _, _, _, rfl, rfl, SqT.of hq1, rfl, b, d, rfl, rfl, ⟨m40 zb, n40 zd⟩, two_le, fun r2 n2 => ⟨two_le, fun r3 n3 => ?_⟩⟩
      exact k.fin (s1.trans (Same.upd n2)) (Same.upd n2 r1 _ t1) upd_same n3 (fb_pos _ hbd) (f_gcd _ hbd) (f_across _ _) (fa_sz zn hbd) (fb_sz zbd hbd) (zn.mono (by omega)) (zbd.mono (by omega))
    · refine ⟨_, rfl, _, _, rfl, rfl, c7, _, _, rfl, rfl, p3, rfl, _, rfl, ?_⟩
      refine ite2 (fun _ => ?_) (fun _ => ?_)
      · have zn : Sz (m + 41) (a * c) := (za.mul zc).mono (by omega)
        refine ⟨_, rfl, _, rfl, p, q, a, b, c, d, rfl, hp, hq, hb, hd, m19 za, m19 zb, n19 zc, n19 zd, fun r1 H1 s1 n1 t1 => ?_⟩
        have hp1 := s1 p _ hp
        have hq1 := s1 q _ hq
        refine ⟨_, rfl, p, _, _, _, rfl, rfl, SqT.of hp1, rfl, _, rfl, q, _, _, _, rfl, rfl, SqT.of hq1, rfl, a, c, rfl, rfl, ⟨m40 za, n40 zc⟩,
          _, rfl, p, _, _, _, rfl, rfl, SqT.of hp1, rfl, _, rfl, q, _, _, _, rfl, rfl, SqT.of hq1, rfl, b, d, rfl, rfl, ⟨m40 zb, n40 zd⟩, two_le, fun r2 n2 => ⟨two_le, fun r3 n3 => ?_⟩⟩
        exact k.fin (s1.trans (Same.upd n2)) (Same.upd n2 r1 _ t1) upd_same n3 (fb_pos _ hbd) (f_gcd _ hbd) (f_across _ _) (fa_sz zn hbd) (fb_sz zbd hbd) (zn.mono (by omega)) (zbd.mono (by omega))
      · have go : ∀ e : Int, -5 ≤ e → e ≤ 5 → (e < 0 → c ≠ 0) → ∀ (r1 : Addr) (H1 : Hp) (x y : Int), Same H H1 → Tp H1 r1 x y → (0 ≤ e → x = c ^ e.toNat ∧ y = d ^ e.toNat) → (e < 0 → x = (if c < 0 then -d else d) ^ (-e).toNat ∧ y = (if c < 0 then -c else c) ^ (-e).toNat) →
            ∀ (r2 : Addr) (H2 : Hp), Same H1 H2 → H2 r2 = some (.tup [.int ((if decide (e < 0) then d else c) ^ (if e < 0 then -e else e).toNat), .int ((if decide (0 < e) then d else c) ^ (if e < 0 then -e else e).toNat)]) → ∀ r3, H2 r3 = none → Q (.ref r3) (L2.upd H2 r3 (.tup [.ref r1, .ref r2])) := by
          intro e h0 h1 hc r1 H1 x y s1 t1 hx hy r2 H2 s2 t2 r3 n3
          obtain ⟨f1, f2, f3⟩ := pow_facts hd hg hc hx hy rfl rfl
          have hN : (if e < 0 then -e else e).toNat ≤ 5 := by split <;> omega
          have z5 : ∀ {w : Int} (N : Nat), Sz 40 w → N ≤ 5 → Sz 201 (w ^ N) := fun N z hN => (z.pow N).mono (by omega)
          have zx : Sz 201 x ∧ Sz 201 y := by
            rcases Int.lt_or_le e 0 with h | h
            · obtain ⟨rfl, rfl⟩ := hy h
              refine ⟨z5 _ ?_ (by omega), z5 _ ?_ (by omega)⟩
              · split
                · exact zd.neg
                · exact zd
              · split
                · exact zc.neg
                · exact zc
            · obtain ⟨rfl, rfl⟩ := hx h
              exact ⟨z5 _ zc (by omega), z5 _ zd (by omega)⟩
          refine k.fin (s1.trans s2) (s2 r1 _ t1) t2 n3 f1 f2 f3 (zx.1.mono (by omega)) (zx.2.mono (by omega)) ?_ ?_
          · refine (z5 _ ?_ hN).mono (by decide)
            split <;> assumption
          · refine (z5 _ ?_ hN).mono (by decide)
            split <;> assumption
        have z3 : ∀ {x : Int}, Sz 40 x → Sz 300 x := fun h => h.mono (by decide)
        have c11 : (0 : Int) < 11 := by decide
        refine ⟨_, rfl, _, _, rfl, rfl, c21, _, _, rfl, rfl, c11, _, _, rfl, rfl, ?_⟩
        have e0 := Int.emod_nonneg (n / 21) (by decide : (11 : Int) ≠ 0)
        have e1 := Int.emod_lt_of_pos (n / 21) c11
        refine ⟨_, rfl, q, _, _, _, rfl, rfl, SqT.of hq, rfl, rfl, _, rfl, ?_⟩
        refine ite2 (fun z => ?_) (fun z => ?_)
        · have hc : c = 0 := by
            have o' := of_decide_eq_true z
            injection o'
          refine ⟨_, rfl, _, rfl, ?_⟩
          generalize he : (if n / 21 % 11 - 5 < 0 then -(n / 21 % 11 - 5) else n / 21 % 11 - 5) = e
          have b0 : 0 ≤ e := by rw [← he]; split <;> omega
          have b1 : e ≤ 5 := by rw [← he]; split <;> omega
          refine ⟨_, rfl, _, rfl, q, c, d, e, rfl, hq, by omega, b1, fun z => absurd z (by omega), z3 zc, z3 zd, fun x y hx hy r1 H1 s1 n1 t1 => ?_⟩
          refine ⟨_, rfl, _, rfl, q, c, d, e, rfl, s1 q _ hq, by omega, b1, z3 zc, z3 zd, fun r2 H2 s2 n2 t2 => ⟨two_le, fun r3 n3 => ?_⟩⟩
          exact go e (by omega) b1 (fun z => absurd z (by omega)) r1 H1 x y s1 t1 hx hy r2 H2 s2 t2 r3 n3
        · have hc : c ≠ 0 := fun y => z (decide_eq_true (congrArg V.int y))
          generalize he : n / 21 % 11 - 5 = e
          have b0 : -5 ≤ e := by omega
          have b1 : e ≤ 5 := by omega
          refine ⟨_, rfl, _, rfl, q, c, d, e, (by subst he; rfl), hq, b0, b1, fun _ => hc, z3 zc, z3 zd, fun x y hx hy r1 H1 s1 n1 t1 => ?_⟩
          refine ⟨_, rfl, _, rfl, q, c, d, e, (by subst he; rfl), s1 q _ hq, b0, b1, z3 zc, z3 zd, fun r2 H2 s2 n2 t2 => ⟨two_le, fun r3 n3 => ?_⟩⟩
          exact go e b0 b1 (fun _ => hc) r1 H1 x y s1 t1 hx hy r2 H2 s2 t2 r3 n3
end
end Fr

set_option Elab.async false
set_option linter.all false
set_option maxRecDepth 100000
set_option maxHeartbeats 4000000
namespace Fr
open PySem PySem.Spec PyProof.Rows L2 FrM
section
variable {P : Program} {w : World} {K : PySem.W.Frag} {mg : Str → Option Value} {base : Heap}
/-- the list of fractions that the law has made -/
structure MadeAt (H : Hp) (l : Addr) (ps : List Addr) : Prop where
  lst : H l = some (.lst (ps.map V.ref))
  all : ∀ p ∈ ps, ∃ a b : Int, Tp H p a b ∧ 0 < b ∧ Int.gcd a b = 1 ∧ Sz 40 a ∧ Sz 40 b
theorem MadeAt.same {H H' : Hp} {l : Addr} {ps : List Addr} (m : MadeAt H l ps) (s : Same H H') : MadeAt H' l ps :=
  ⟨s _ _ m.lst, fun p hp => by
    obtain ⟨a, b, t, r⟩ := m.all p hp
    exact ⟨a, b, s _ _ t, r⟩⟩
theorem MadeAt.push {H : Hp} {l fr : Addr} {ps : List Addr} {a b : Int} (m : MadeAt H l ps) (t : Tp H fr a b) (h1 : 0 < b) (h2 : Int.gcd a b = 1) (z1 : Sz 40 a) (z2 : Sz 40 b) : MadeAt (L2.upd H l (.lst (ps.map V.ref ++ [.ref fr]))) l (ps ++ [fr]) :=
  ⟨by rw [upd_same, List.map_append]; rfl, fun p hp => by
    rcases List.mem_append.mp hp with q | q
    · obtain ⟨a, b, t, r⟩ := m.all p q
      exact ⟨a, b, by rw [Tp, upd_ne (ne_of t m.lst (by intro z; cases z))]; exact t, r⟩
    · rw [List.mem_singleton] at q
      subst q
      exact ⟨a, b, by rw [Tp, upd_ne (ne_of t m.lst (by intro z; cases z))]; exact t, h1, h2, z1, z2⟩⟩
def spMade (K : PySem.W.Frag) : Sp := fun vs H Q _ => ∃ (a : Addr) (ns : List Int), vs = [.ref a] ∧ SqL K H a (ns.map V.int) ∧ ns.length ≤ 63 ∧ ∀ l ps H', Same H H' → MadeAt H' l ps → 1 ≤ ps.length → ps.length ≤ 6 → Q (.ref l) H'
theorem scMade : FnScope ["_law_script", "_law_made_here", "_law_k", "_law_above_here", "_law_below_here", "_law_found"] ["_law_script"] (defScope lMade) := ⟨rfl, rfl, rfl, by decide +kernel, rfl, by decide +kernel, by decide +kernel⟩
theorem isFr_true {a b : Int} (h1 : 0 < b) (h2 : Int.gcd a b = 1) : isFr [.int a, .int b] = true := by
  show (decide (0 < b) && decide (Int.gcd a b = 1)) = true
  rw [decide_eq_true h1, decide_eq_true h2]
  rfl
theorem isFr_two {a b : Int} (h2 : Int.gcd a b = 1) : isFr [.int (2 * a), .int (2 * b)] = false := by
  show (decide (0 < 2 * b) && decide (Int.gcd (2 * a) (2 * b) = 1)) = false
  rw [gcd_two a b h2]
  simp
theorem sz_two : Sz 4000 2 := by
  unfold Sz
  exact Nat.lt_of_lt_of_le (show (2 : Int).natAbs < 2 ^ 2 by decide) (Nat.pow_le_pow_right (by decide) (by decide))
theorem sz_one : Sz 4000 1 := by
  unfold Sz
  exact Nat.lt_of_lt_of_le (show (1 : Int).natAbs < 2 ^ 1 by decide) (Nat.pow_le_pow_right (by decide) (by decide))
theorem ok_made {f fN fA fB fF fS fW fX fI BN : Addr} {fd fdN fdA fdB fdF fdS fdW fdX fdI : FuncData} {dF : Value} {tk : Tok} (F : Fun K "_law_made" "_law_made" lMade f fd) (B : Bn mg)
    (FN : Fun K "_law_number" "_law_number" lNum fN fdN) (bN : Binds K fdN ["_law_script", "_law_k"] []) (mN : mg "_law_number" = some (.ref fN)) (GN : FnOk P w K mg base CX0 2 fN fdN ["_law_script", "_law_k"] (spNum K))
    (FA : Fun K "_law_above" "_law_above" lAbo fA fdA) (bA : Binds K fdA ["_law_number_here"] []) (mA : mg "_law_above" = some (.ref fA))
    (FB : Fun K "_law_below" "_law_below" lBel fB fdB) (bB : Binds K fdB ["_law_number_here"] []) (mB : mg "_law_below" = some (.ref fB))
    (FF : FunD K "fraction" "fraction" sFrac dF fF fdF) (bF : Binds K fdF ["above", "below"] []) (bF1 : Binds K fdF ["above", "below"] [.int 1 tk]) (mF : mg "fraction" = some (.ref fF)) (GF0 : FnOk P w K mg base (Fly P w) 3 fF fdF ["above", "below"] (spFrac BN))
    (FS : Fun K "_law_shortest" "_law_shortest" lSho fS fdS) (bS : Binds K fdS ["_law_found"] []) (mS : mg "_law_shortest" = some (.ref fS)) (GS : FnOk P w K mg base CX0 2 fS fdS ["_law_found"] spSho)
    (FW : Fun K "shown_fraction" "shown_fraction" sShow fW fdW) (bW : Binds K fdW ["one"] []) (mW : mg "shown_fraction" = some (.ref fW))
    (FX : Fun K "_law_shown" "_law_shown" lShw fX fdX) (bX : Binds K fdX ["_law_found"] []) (mX : mg "_law_shown" = some (.ref fX))
    (FI : Fun K "is_fraction" "is_fraction" sIsF fI fdI) (bI : Binds K fdI ["thing"] []) (mI : mg "is_fraction" = some (.ref fI)) (GI : FnOk P w K mg base CX0 2 fI fdI ["thing"] spIsF) :
    FnOk P w K mg base CX0 4 f fd ["_law_script"] (spMade K) := by
  have GF := frac_nox GF0
  have GA : FnOk P w K mg base CX0 1 fA fdA ["_law_number_here"] spAbo := ok_abo FA
  have GB : FnOk P w K mg base CX0 1 fB fdB ["_law_number_here"] spBel := ok_bel FB
  have GW : FnOk P w K mg base CX0 1 fW fdW ["one"] spShow := ok_show FW
  have GX : FnOk P w K mg base CX0 1 fX fdX ["_law_found"] spShow := ok_shw FX B
  have vF1 : Vals [V.int 1] [Value.int 1 tk] := .cons ⟨tk, rfl⟩ .nil
  refine F.ok scMade (fun vs H Q E h => ?_) (fun cdv A outer s H vs Q E hr h => ?_)
  · obtain ⟨a, ns, rfl, _⟩ := h
    rfl
  · obtain ⟨a, ns, rfl, hS, hlen, k⟩ := h
    have hr1 : Room 2 _ := hr.mono (by decide)
    have hr2 : Room 1 _ := hr.mono (by decide)
    have huT : (A.deeper (envOfC "_law_made" (defScope lMade) s.heap.objs.size f cdv)).units + 0 + 2 < cLine := by have := hr.un; omega
    refine ⟨_, (pss_cons 
      (ps_set (i := 1) scMade.nd rfl (Or.inl rfl) (pe_lst pa_nil)) (pss_cons 
      (ps_for PassesOwn.never rfl (pi_range1 (by rfl) B.range (pa_cons (pe_op op_add pe_int (pe_op op_mod (pe_call GN hr1 (by rfl) mN FN.kp bN .nil pass0 (pa_cons (pv 0) (pa_cons pe_int pa_nil))) pe_int)) pa_nil)) (pg_name (i := 2) scMade.nd rfl (Or.inl rfl)) (pss_cons 
        (ps_set (i := 3) scMade.nd rfl (Or.inl rfl) (pe_call GA hr2 (by rfl) mA FA.kp bA .nil pass0 (pa_cons (pe_call GN hr1 (by rfl) mN FN.kp bN .nil pass0 (pa_cons (pv 0) (pa_cons (pe_op op_add pe_int (pe_op op_mul pe_int (pv 2))) pa_nil))) pa_nil))) (pss_cons 
        (ps_set (i := 4) scMade.nd rfl (Or.inl rfl) (pe_call GB hr2 (by rfl) mB FB.kp bB .nil pass0 (pa_cons (pe_call GN hr1 (by rfl) mN FN.kp bN .nil pass0 (pa_cons (pv 0) (pa_cons (pe_op op_add pe_int (pe_op op_mul pe_int (pv 2))) pa_nil))) pa_nil))) (pss_cons 
        (ps_set (i := 5) scMade.nd rfl (Or.inl rfl) (pe_call GF hr (by rfl) mF FF.kp bF .nil pass0 (pa_cons (pv 3) (pa_cons (pv 4) pa_nil)))) (pss_cons 
        (ps_if (pw_or (pt_not (pt_val (pe_call GS hr1 (by rfl) mS FS.kp bS .nil pass0 (pa_cons (pv 5) pa_nil)))) (pw_or1 (pt_cmpR op_ne (pe_op op_mulS (pe_ix ix_tup (pv 5) pe_int (fun _ _ => rfl)) (pv 4)) (pe_op op_mulS (pv 3) (pe_ix ix_tup (pv 5) pe_int (fun _ _ => rfl))) (nomark _)))).pt (pss_one 
          (ps_ret pe_non)) pss_nil) (pss_cons 
        (ps_expr (pe_bm PySem.F.plainAttrs_list PySem.F.slot_list_append PySem.F.type_list_append mt_append (pv 1) (pa_cons (pv 5) pa_nil))) (pss_cons 
        (ps_if (pw_or (pt_cmpR (op_neTup (n := 0) huT) (pe_call GF hr (by rfl) mF FF.kp bF1 vF1 pass0 (pa_cons (pv 3) pa_nil)) (pe_tup (pa_cons (pv 3) (pa_cons pe_int pa_nil))) (nomark _)) (pw_or1 (pt_cmpR op_ne (pe_call GW hr2 (by rfl) mW FW.kp bW .nil pass0 (pa_cons (pv 5) pa_nil)) (pe_call GX hr2 (by rfl) mX FX.kp bX .nil pass0 (pa_cons (pv 5) pa_nil)) (nomark _)))).pt (pss_one 
          (ps_ret pe_non)) pss_nil) (pss_one 
        (ps_if (pw_or (pt_cmpR op_isnot_bl (pe_call GI hr1 (by rfl) mI FI.kp bI .nil pass0 (pa_cons (pv 5) pa_nil)) pe_bl (nomark _)) (pw_or1 (pt_cmpR op_isnot_bl (pe_call GI hr1 (by rfl) mI FI.kp bI .nil pass0 (pa_cons (pe_tup (pa_cons (pe_op op_mulS pe_int (pe_ix ix_tup (pv 5) pe_int (fun _ _ => rfl))) (pa_cons (pe_op op_mulS pe_int (pe_ix ix_tup (pv 5) pe_int (fun _ _ => rfl))) pa_nil))) pa_nil)) pe_bl (nomark _)))).pt (pss_one 
          (ps_ret pe_non)) pss_nil))))))))) (pss_one 
      (ps_ret (pv 1))))), ?_⟩
    refine ⟨Nat.zero_le _, fun l hl => ?_⟩
    have s0 : Same H (L2.upd H l (.lst [])) := Same.upd hl
    refine ⟨_, rfl, a, ns, 0, rfl, s0.seq hS, hlen, by decide, by decide, fun r H1 s1 r0 r1 => ?_⟩
    have m0 := Int.emod_nonneg r (by decide : (6 : Int) ≠ 0)
    have m1 := Int.emod_lt_of_pos r (by decide : (0 : Int) < 6)
    refine ⟨_, _, rfl, rfl, (by decide : (0 : Int) < 6), _, _, rfl, rfl, _, rfl, by omega, by omega, for_range (lo := 0) (n := (1 + r % 6).toNat)
      (fun i σ H2 => ∃ (ps : List Addr) (t2 t3 t4 t5 : Option V), σ = [some (.ref a), some (.ref l), t2, t3, t4, t5] ∧ Same H H2 ∧ MadeAt H2 l ps ∧ ps.length = i)
      ⟨[], none, none, none, none, rfl, s0.trans s1, ⟨s1 _ _ upd_same, fun p hp => absurd hp (by simp)⟩, rfl⟩ ?_ ?_⟩
    · rintro i σ H2 hi ⟨ps, t2, t3, t4, t5, rfl, sH, hM, hps⟩
      have hi6 : i < 6 := by omega
      refine ⟨_, rfl, _, rfl, _, _, rfl, rfl, .inl ⟨by decide, by decide⟩, _, _, rfl, rfl, a, ns, _, rfl, sH.seq hS, hlen, by omega, by omega, fun q1 H3 s3 q10 q11 => ?_⟩
      refine ⟨q1, rfl, q10, q11, fun av H4 s4 zav => ?_⟩
      have sH4 := sH.trans (s3.trans s4)
      refine ⟨_, rfl, _, rfl, _, _, rfl, rfl, .inl ⟨by decide, by decide⟩, _, _, rfl, rfl, a, ns, _, rfl, sH4.seq hS, hlen, by omega, by omega, fun q2 H5 s5 q20 q21 => ?_⟩
      refine ⟨q2, rfl, q20, q21, fun bv H6 s6 hb zbv => ?_⟩
      have w40 : ∀ {x : Int}, Sz 40 x → Sz 4000 x := fun h => h.mono (by decide)
      have w19 : ∀ {x : Int}, Sz 40 x → Sz 1900 x := fun h => h.mono (by decide)
      refine ⟨_, rfl, _, rfl, av, bv, rfl, hb, w40 zav, w40 zbv, fun fr H7 s7 n7 t7 => ?_⟩
      have zx := fa_sz zav hb
      have zy := fb_sz (a := av) zbv hb
      have hy := fb_pos av hb
      have hg := f_gcd av hb
      have hx := f_across av bv
      generalize fa av bv = x at t7 zx hg hx
      generalize fb av bv = y at t7 zy hy hg hx
      refine ⟨_, rfl, fr, x, y, rfl, t7, hy, hg, w19 zx, w19 zy, fun H8 s8 => ?_⟩
      have t8 := s8 _ _ t7
      refine ⟨_, rfl, ?_⟩
      refine iteF ?_
      refine ⟨_, rfl, fr, _, _, _, rfl, rfl, SqT.of t8, rfl, _, rfl, _, _, rfl, rfl, ⟨w40 zx, w40 zbv⟩, _, rfl, _, rfl, fr, _, _, _, rfl, rfl, SqT.of t8, rfl, _, _, rfl, rfl, ⟨w40 zav, w40 zy⟩, rfl, _, rfl, ?_⟩
      refine iteNS (congrArg V.int hx) ?_
      have s28 : Same H2 H8 := s3.trans (s4.trans (s5.trans (s6.trans (s7.trans s8))))
      have hM8 := hM.same s28
      have sH8 := sH.trans s28
      refine ⟨_, rfl, .inl ⟨rfl, _, SqL.of hM8.lst⟩, _, rfl, l, _, _, rfl, rfl, hM8.lst, small1000 (by rw [List.length_map]; omega), ?_⟩
      have hM9 := hM8.push t8 hy hg zx zy
      have sH9 : Same H (L2.upd H8 l (.lst (ps.map V.ref ++ [.ref fr]))) := fun b o e => by rw [upd_ne (ne_of_none e hl)]; exact sH8 b o e
      have t9 : Tp (L2.upd H8 l (.lst (ps.map V.ref ++ [.ref fr]))) fr x y := by rw [Tp, upd_ne (ne_of t8 hM8.lst (by intro z; cases z))]; exact t8
      generalize L2.upd H8 l (.lst (ps.map V.ref ++ [.ref fr])) = H9 at hM9 sH9 t9 ⊢
      refine ⟨_, rfl, av, 1, rfl, by decide, w40 zav, sz_one, fun f2 H10 s10 n10 t10 => ?_⟩
      rw [fa_one, fb_one] at t10
      refine ⟨_, rfl, two_le, fun tp ntp => ?_⟩
      have s11 : Same H9 (L2.upd H10 tp (.tup [.int av, .int 1])) := s10.trans (Same.upd ntp)
      refine ⟨Rep.tup (n := 0) (Same.upd ntp _ _ t10) upd_same (.cons (.int _ _) (.cons (.int _ _) (.nil _))), ⟨_, _, rfl, rfl⟩, _, rfl, ?_⟩
      refine iteF ?_
      generalize L2.upd H10 tp (.tup [.int av, .int 1]) = H11 at s11 ⊢
      have t11 := s11 _ _ t9
      refine ⟨_, rfl, fr, x, y, rfl, t11, w19 zx, w19 zy, _, rfl, fr, x, y, rfl, t11, w19 zx, w19 zy, rfl, _, rfl, ?_⟩
      refine iteNS rfl ?_
      have kd : ∀ {H : Hp}, ∀ z ∈ [V.int x, .int y], Kd H z := fun z hz => by
        simp only [List.mem_cons, List.not_mem_nil, or_false] at hz
        rcases hz with rfl | rfl <;> exact .int _
      have kd2 : ∀ {H : Hp}, ∀ z ∈ [V.int (2 * x), .int (2 * y)], Kd H z := fun z hz => by
        simp only [List.mem_cons, List.not_mem_nil, or_false] at hz
        rcases hz with rfl | rfl <;> exact .int _
      refine ⟨_, rfl, _, rfl, .inr ⟨fr, _, rfl, t11, kd, ?_⟩⟩
      rw [isFr_true hy hg]
      refine ⟨_, _, rfl, rfl, _, rfl, ?_⟩
      refine iteF ?_
      refine ⟨_, rfl, fr, _, _, _, rfl, rfl, SqT.of t11, rfl, _, _, rfl, rfl, ⟨sz_two, w40 zx⟩, _, rfl, fr, _, _, _, rfl, rfl, SqT.of t11, rfl, _, _, rfl, rfl, ⟨sz_two, w40 zy⟩, two_le, fun u2 nu2 => ?_⟩
      refine ⟨_, rfl, .inr ⟨u2, _, rfl, upd_same, kd2, ?_⟩⟩
      rw [isFr_two hg]
      refine ⟨_, _, rfl, rfl, _, rfl, ?_⟩
      refine iteF ?_
      have s12 := s11.trans (Same.upd (o := .tup [.int (2 * x), .int (2 * y)]) nu2)
      exact ⟨ps ++ [fr], _, _, _, _, rfl, sH9.trans s12, hM9.same s12, by rw [List.length_append, hps]; rfl⟩
    · rintro σ H2 ⟨ps, t2, t3, t4, t5, rfl, sH, hM, hps⟩
      exact ⟨_, rfl, k l ps H2 sH hM (by omega) (by omega)⟩
end
end Fr

set_option Elab.async false
set_option linter.all false
set_option maxRecDepth 100000
set_option maxHeartbeats 4000000
namespace Fr
open PySem PySem.Spec PyProof.Rows L2 FrM
theorem Kd.same {H H' : Hp} {v : V} (k : Kd H v) (s : Same H H') : Kd H' v := by
  cases k with
  | non => exact .non
  | bl b => exact .bl b
  | int i => exact .int i
  | str x => exact .str x
  | lst e => exact .lst (s _ _ e)
  | tup e => exact .tup (s _ _ e)
theorem at_all {xs : List V} {m n : Int} {p : V → Prop} (hx : ∀ v ∈ xs, p v) (hl : (xs.length : Int) = m) (hm : 0 < m) : ∃ v, atI xs (n % m) = some v ∧ p v := by
  have h0 := Int.emod_nonneg n (by omega : m ≠ 0)
  have h1 := Int.emod_lt_of_pos n hm
  obtain ⟨j, hj⟩ : ∃ j : Nat, n % m = j := ⟨(n % m).toNat, by omega⟩
  have hj2 : j < xs.length := by omega
  refine ⟨xs[j], ?_, hx _ (List.getElem_mem hj2)⟩
  rw [hj]
  exact atI_nat (List.getElem?_eq_getElem hj2)
section
variable {P : Program} {w : World} {K : PySem.W.Frag} {mg : Str → Option Value} {base : Heap}
/-- more of the classes of refusals -/
structure Ex2 (K : PySem.W.Frag) (mg : Str → Option Value) (BN ME BU : Addr) : Prop where
  mgM : mg "MeasureError" = some (.ref ME)
  mgU : mg "BadUnit" = some (.ref BU)
  ex : PySem.W.exmOne K (.ref BN) (.ref ME) = some true
  kv : PySem.W.kitOne K (.ref BN) (.type "ValueError") = some true
  ku : PySem.W.kitOne K (.ref BN) (.ref BU) = some false
  xc : XCls K BN
theorem kit_self (K : PySem.W.Frag) (C : Addr) : PySem.W.kitOne K (.ref C) (.ref C) = some true := by
  unfold PySem.W.kitOne
  rw [if_pos (by simp)]
/-- is it a whole number: of the name in the i-th slot -/
def tWhole (i : Nat) : TE := fun σ H Q => ∃ x, σ[i]? = some (some x) ∧ Kd H x ∧ Q (.bl (isW x)) H
theorem whole_read {i : Nat} (σ : L2.St) (H : Hp) (Q : VK) (h : tWhole i σ H Q) :
    tAndV (tCB (rIsi K) (tCons (tVar i) (tCons (tC (.ty "int")) tNil))) (tNotV (tCB (rIsi K) (tCons (tVar i) (tCons (tC (.ty "bool")) tNil)))) σ H Q := by
  obtain ⟨x, hx, kd, q⟩ := h
  obtain ⟨t, ty, e⟩ := kd_int K kd
  refine ⟨x, hx, x, .ty "int", t, .type "int", _, rfl, rfl, ty, e, _, rfl, ?_⟩
  cases hx2 : isIB x with
  | false =>
    refine iteF ?_
    have : isW x = false := by cases x <;> first | rfl | cases hx2
    rw [this] at q
    exact q
  | true =>
    refine iteT ?_
    obtain ⟨t', ty', e'⟩ := kd_bool K kd hx2
    refine ⟨x, hx, x, .ty "bool", t', .type "bool", _, rfl, rfl, ty', e', _, rfl, ?_⟩
    rw [Bool.not_not]
    exact q
def tOkN : TE := fun σ H Q => ∃ x l m, σ[5]? = some (some (.bl (isW x))) ∧ σ[2]? = some (some x) ∧ σ[3]? = some (some (.int l)) ∧ σ[4]? = some (some m) ∧ (m = .non ∨ ∃ k, m = .int k) ∧ Q (.bl (okN x l m)) H
theorem okN_no {x : V} {l : Int} {m : V} (h : isW x = false) : okN x l m = false := by
  cases x <;> first | rfl | cases h
theorem okn_read (σ : L2.St) (H : Hp) (Q : VK) (h : tOkN σ H Q) : tAndV (tVar 5) (tAndV (tOp (rI0 fun i j => .bl (decide (j ≤ i))) (tVar 2) (tVar 3)) (tOrV (tIsN (tVar 4)) (tOp (rI0 fun i j => .bl (decide (i ≤ j))) (tVar 2) (tVar 4)))) σ H Q := by
  obtain ⟨x, l, m, h5, h2, h3, h4, hm, q⟩ := h
  refine ⟨_, h5, _, rfl, ?_⟩
  cases hx : isW x with
  | false =>
    refine iteF ?_
    rw [okN_no hx] at q
    exact q
  | true =>
    refine iteT ?_
    obtain ⟨i, rfl⟩ : ∃ i, x = .int i := by cases x <;> first | exact ⟨_, rfl⟩ | cases hx
    refine ⟨_, h2, _, h3, i, l, rfl, rfl, _, rfl, ?_⟩
    refine ite2 (fun z => ?_) (fun z => ?_)
    · have hi : l ≤ i := by simpa using z
      rcases hm with rfl | ⟨k, rfl⟩
      · refine ⟨_, h4, _, rfl, ?_⟩
        refine iteT ?_
        have : okN (.int i) l .non = true := decide_eq_true hi
        rw [this] at q
        exact q
      · refine ⟨_, h4, _, rfl, ?_⟩
        refine iteF ?_
        refine ⟨_, h2, _, h4, i, k, rfl, rfl, ?_⟩
        have : okN (.int i) l (.int k) = decide (i ≤ k) := by
          show (decide (l ≤ i) && decide (i ≤ k)) = _
          rw [decide_eq_true hi, Bool.true_and]
        rw [this] at q
        exact q
    · have hi : ¬ l ≤ i := by simpa using z
      have : okN (.int i) l m = false := by
        rcases hm with rfl | ⟨k, rfl⟩
        · exact decide_eq_false hi
        · show (decide (l ≤ i) && decide (i ≤ k)) = false
          rw [decide_eq_false hi]
          rfl
      rw [this] at q
      exact q
/-! _law_needed -/
def spLN : Sp := fun vs H Q _ => ∃ n : Int, vs = [.int n] ∧ ∀ H', Same H H' → Q (.bl true) H'
theorem scLN : FnScope ["_law_number_here", "_law_some", "_law_thing", "_law_least", "_law_most", "_law_good", "_law_told", "_law_e", "_law_found"] ["_law_number_here"] (defScope lNeed) := ⟨rfl, rfl, rfl, by decide +kernel, rfl, by decide +kernel, by decide +kernel⟩
theorem ok_lneed {f fW fN BN ME BU : Addr} {fd fdW fdN : FuncData} {dN : Value} (F : Fun K "_law_needed" "_law_needed" lNeed f fd) (B : Bn mg) (X : Ex K mg BN) (Y : Ex2 K mg BN ME BU)
    (FW : Fun K "is_whole" "is_whole" sWhole fW fdW) (bW : Binds K fdW ["thing"] []) (mW : mg "is_whole" = some (.ref fW))
    (FN : FunD K "need_whole" "need_whole" sNeed dN fN fdN) (bN : Binds K fdN ["thing", "least", "most"] []) (bN2 : Binds K fdN ["thing", "least", "most"] [.none]) (mN : mg "need_whole" = some (.ref fN)) :
    FnOk P w K mg base CX0 3 f fd ["_law_number_here"] spLN := by
  have GW : FnOk P w K mg base CX0 1 fW fdW ["thing"] spWhole := ok_whole FW B
  have GN : FnOk P w K mg base (Fly P w) 2 fN fdN ["thing", "least", "most"] (spNeed BN) := ok_need FN B X FW bW mW
  refine F.ok scLN (fun vs H Q E h => ?_) (fun cdv A outer s H vs Q E hr h => ?_)
  · obtain ⟨n, rfl, _⟩ := h
    rfl
  · obtain ⟨n, rfl, q⟩ := h
    have hr1 : Room 1 _ := hr.mono (by decide)
    refine ⟨_, QB.out (b_cons 
      (s_set 1 scLN.nd rfl (Or.inl rfl) (q_lst (qc q_int (qc q_int (qc (q_neg q_int) (qc q_bl (qc q_non (qc q_str (qc (q_lst (qc q_int q_nil rfl)) (qc (q_sub (q_mod (q_fdiv (qv 0 rfl (.inl rfl) rfl rfl) q_int) q_int) q_int) (qc (q_pow q_int q_int) (qc q_bl q_nil rfl) rfl) rfl) rfl) rfl) rfl) rfl) rfl) rfl) rfl)) rfl (.inr rfl)) (b_cons 
      (s_set 2 scLN.nd rfl (Or.inl rfl) (q_ixl (K := K) rfl (qv 1 rfl (.inl rfl) rfl rfl) (q_mod (qv 0 rfl (.inl rfl) rfl rfl) q_int) (fun _ _ => rfl)) rfl (.inr rfl)) (b_cons 
      (s_set 3 scLN.nd rfl (Or.inl rfl) (q_sub (q_mod (q_fdiv (qv 0 rfl (.inl rfl) rfl rfl) q_int) q_int) q_int) rfl (.inr rfl)) (b_cons 
      (s_set 4 scLN.nd rfl (Or.inl rfl) (q_ixl (K := K) rfl (q_lst (qc q_non (qc (qv 3 rfl (.inl rfl) rfl rfl) (qc (q_add (qv 3 rfl (.inl rfl) rfl rfl) q_int) (qc q_int q_nil rfl) rfl) rfl) rfl)) (q_mod (q_fdiv (qv 0 rfl (.inl rfl) rfl rfl) q_int) q_int) (fun _ _ => rfl)) rfl (.inr rfl)) (b_cons 
      (s_set 5 scLN.nd rfl (Or.inl rfl) (q_imp (t' := tWhole 2) (q_and (q_callB (call_isiK (K := K) rfl) rfl B.isi bt_isinstance (qc (qv 2 rfl (.inl rfl) rfl rfl) (qc (q_bltn (v := .ty "int") rfl B.int bt_int rfl (by decide) rfl) q_nil rfl) rfl) (by decide) rfl rfl rfl) (q_one (q_not (q_callB (call_isiK (K := K) rfl) rfl B.isi bt_isinstance (qc (qv 2 rfl (.inl rfl) rfl rfl) (qc (q_bltn (v := .ty "bool") rfl B.bool bt_bool rfl (by decide) rfl) q_nil rfl) rfl) (by decide) rfl rfl rfl)))) (whole_read (i := 2))) rfl (.inr rfl)) (b_cons 
      (s_set 6 scLN.nd rfl (Or.inl rfl) (q_call GW hr1 rfl mW FW.kp bW .nil pass0 (qc (qv 2 rfl (.inl rfl) rfl rfl) q_nil rfl) rfl rfl rfl) rfl (.inr rfl)) (b_cons 
      (s_if (t_w (w_or (t_not (t_val (q_callB (call_isiK (K := K) rfl) rfl B.isi bt_isinstance (qc (qv 6 rfl (.inl rfl) rfl rfl) (qc (q_bltn (v := .ty "bool") rfl B.bool bt_bool rfl (by decide) rfl) q_nil rfl) rfl) (by decide) rfl rfl rfl) (fun _ => rfl))) (w_or1 (t_cmp op_ne (qv 6 rfl (.inl rfl) rfl rfl) (qv 5 rfl (.inl rfl) rfl rfl) rfl)))) (b_one 
        (s_ret q_bl)) b_nil) (b_cons 
      (s_set 5 scLN.nd rfl (Or.inl rfl) (q_imp (t' := tOkN) (q_and (qv 5 rfl (.inl rfl) rfl rfl) (q_and (q_cmp op_ge (qv 2 rfl (.inl rfl) rfl rfl) (qv 3 rfl (.inl rfl) rfl rfl) rfl) (q_one (q_or (q_isN (qv 4 rfl (.inl rfl) rfl rfl) rfl) (q_one (q_cmp op_le (qv 2 rfl (.inl rfl) rfl rfl) (qv 4 rfl (.inl rfl) rfl rfl) rfl)))))) okn_read) rfl (.inr rfl)) (b_cons 
      (s_try (K := K) 7 rfl rfl rfl scLN.nd rfl rfl rfl (.inl Y.mgM) (fun ps xe E hp => (b_one 
        (s_set 8 scLN.nd rfl (Or.inl rfl) (q_ifx (t_isN (qv 4 rfl (.inl rfl) rfl rfl) rfl) (q_callS GN hr rfl mN FN.kp bN2 (.cons (show L2.RelV .non Value.none from rfl) .nil) hp (qc (qv 2 rfl (.inl rfl) rfl rfl) (qc (qv 3 rfl (.inl rfl) rfl rfl) q_nil rfl) rfl) rfl rfl rfl) (q_callS GN hr rfl mN FN.kp bN .nil hp (qc (qv 2 rfl (.inl rfl) rfl rfl) (qc (qv 3 rfl (.inl rfl) rfl rfl) (qc (qv 4 rfl (.inl rfl) rfl rfl) q_nil rfl) rfl) rfl) rfl rfl rfl)) rfl (.inr rfl)))) (fun e => (b_one 
        (s_ret (q_and (q_not (qv 5 rfl (.inl rfl) rfl rfl)) (q_one (q_callB (call_isiXK (K := K) rfl) rfl B.isi bt_isinstance (qc (qv 7 rfl (.inl rfl) rfl rfl) (qc (q_glob (v := .ref BN) rfl X.mgB rfl rfl) q_nil rfl) rfl) (by decide) rfl rfl rfl)))))) rfl) (b_one 
      (s_ret (q_and (qv 5 rfl (.inl rfl) rfl rfl) (q_one (q_cmp op_eq (qv 8 rfl (.inl rfl) rfl rfl) (qv 2 rfl (.inl rfl) rfl rfl) rfl)))))))))))))), ?_⟩
    refine ⟨_, rfl, (by show 1 ≤ sizeLine; decide), fun p1 hp1 => ?_⟩
    refine ⟨_, rfl, _, _, rfl, rfl, (⟨by decide, by decide⟩ : CDiv n 500), _, _, rfl, rfl, (by decide : (0 : Int) < 40), _, _, rfl, rfl, _, _, rfl, rfl, ⟨by decide, by decide, by decide⟩, (by show 10 ≤ sizeLine; decide), fun p2 hp2 => ?_⟩
    have s1 : Same H (L2.upd H p1 (.lst [.int 2])) := Same.upd hp1
    have e1 : L2.upd H p1 (.lst [.int 2]) p1 = some (.lst [.int 2]) := upd_same
    generalize L2.upd H p1 (.lst [.int 2]) = H1 at s1 e1 hp2 ⊢
    have kds : ∀ v ∈ [V.int 0, .int 5, .int (-3), .bl true, .non, .str "3", .ref p1, .int (n / 500 % 40 - 20), .int (10 ^ (20 : Int).toNat), .bl false], Kd H1 v := fun v hv => by
      simp only [List.mem_cons, List.not_mem_nil, or_false] at hv
      rcases hv with rfl | rfl | rfl | rfl | rfl | rfl | rfl | rfl | rfl | rfl
      · exact .int _
      · exact .int _
      · exact .int _
      · exact .bl _
      · exact .non
      · exact .str _
      · exact .lst e1
      · exact .int _
      · exact .int _
      · exact .bl _
    obtain ⟨x, hx, kd1⟩ := at_all (n := n) (m := 10) kds rfl (by decide)
    refine ⟨_, rfl, _, rfl, _, _, rfl, rfl, (by decide : (0 : Int) < 10), p2, _, _, x, rfl, rfl, SqL.of upd_same, hx, ?_⟩
    have s2 : Same H (L2.upd H1 p2 (.lst [.int 0, .int 5, .int (-3), .bl true, .non, .str "3", .ref p1, .int (n / 500 % 40 - 20), .int (10 ^ (20 : Int).toNat), .bl false])) := s1.trans (Same.upd hp2)
    have kd2 : Kd (L2.upd H1 p2 (.lst [.int 0, .int 5, .int (-3), .bl true, .non, .str "3", .ref p1, .int (n / 500 % 40 - 20), .int (10 ^ (20 : Int).toNat), .bl false])) x := kd1.same (Same.upd hp2)
    generalize L2.upd H1 p2 (.lst [.int 0, .int 5, .int (-3), .bl true, .non, .str "3", .ref p1, .int (n / 500 % 40 - 20), .int (10 ^ (20 : Int).toNat), .bl false]) = H2 at s2 kd2 ⊢
    refine ⟨_, rfl, _, _, rfl, rfl, (⟨by decide, by decide⟩ : CDiv n 10), _, _, rfl, rfl, (by decide : (0 : Int) < 9), _, _, rfl, rfl, ?_⟩
    refine ⟨_, rfl, _, rfl, _, _, rfl, rfl, (by show 4 ≤ sizeLine; decide), fun p3 hp3 => ?_⟩
    have ms : ∀ v ∈ [V.non, .int (n / 10 % 9 - 4), .int ((n / 10 % 9 - 4) + 5), .int 3], (v = .non ∨ ∃ k, v = .int k) := fun v hv => by
      simp only [List.mem_cons, List.not_mem_nil, or_false] at hv
      rcases hv with rfl | rfl | rfl | rfl
      · exact .inl rfl
      · exact .inr ⟨_, rfl⟩
      · exact .inr ⟨_, rfl⟩
      · exact .inr ⟨_, rfl⟩
    obtain ⟨m, hm, hm2⟩ := at_all (n := n / 90) (m := 4) ms rfl (by decide)
    refine ⟨_, rfl, _, _, rfl, rfl, (⟨by decide, by decide⟩ : CDiv n 90), _, _, rfl, rfl, (by decide : (0 : Int) < 4), p3, _, _, m, rfl, rfl, SqL.of upd_same, hm, ?_⟩
    have s3 : Same H (L2.upd H2 p3 (.lst [.non, .int (n / 10 % 9 - 4), .int ((n / 10 % 9 - 4) + 5), .int 3])) := s2.trans (Same.upd hp3)
    have kd3 : Kd (L2.upd H2 p3 (.lst [.non, .int (n / 10 % 9 - 4), .int ((n / 10 % 9 - 4) + 5), .int 3])) x := kd2.same (Same.upd hp3)
    generalize L2.upd H2 p3 (.lst [.non, .int (n / 10 % 9 - 4), .int ((n / 10 % 9 - 4) + 5), .int 3]) = H3 at s3 kd3 ⊢
    refine ⟨x, rfl, kd3, ?_⟩
    refine ⟨_, rfl, x, rfl, kd3, ?_⟩
    refine ⟨_, rfl, _, .ty "bool", _, .type "bool", _, rfl, rfl, .bl _, k_bool_bool K, _, rfl, ?_⟩
    refine iteF ?_
    refine ⟨_, rfl, _, rfl, rfl, _, rfl, ?_⟩
    refine iteNS rfl ?_
    refine ⟨x, (n / 10 % 9 - 4), m, rfl, rfl, rfl, rfl, hm2, ?_⟩
    have fin : ∀ {b : Bool}, okN x (n / 10 % 9 - 4) m = true → ∃ i, x = .int i := fun ho => by
      cases x <;> first | exact ⟨_, rfl⟩ | (rcases hm2 with rfl | ⟨k, rfl⟩ <;> cases ho)
    rcases hm2 with rfl | ⟨k, rfl⟩
    · refine ⟨_, rfl, _, rfl, ?_⟩
      refine iteT ?_
      refine ⟨_, rfl, _, rfl, x, (n / 10 % 9 - 4), .non, rfl, kd3, .inl rfl, fun ho => ?_, fun ho => ?_⟩
      · obtain ⟨i, rfl⟩ := fin (b := true) ho
        refine ⟨_, rfl, _, rfl, ?_⟩
        rw [ho]
        refine iteT ?_
        refine ⟨_, rfl, _, rfl, rfl, ?_⟩
        rw [decide_eq_true rfl]
        exact q _ s3
      · refine ⟨Y.ex, fun ea hea => ?_⟩
        refine ⟨_, rfl, _, rfl, _, rfl, ?_⟩
        rw [ho]
        refine iteT ?_
        exact ⟨_, rfl, ea, BN, .ref BN, .ref BN, true, _, rfl, rfl, upd_same, fun _ z => z, Y.xc, kit_self K BN, q _ (s3.trans (Same.upd hea))⟩
    · refine ⟨_, rfl, _, rfl, ?_⟩
      refine iteF ?_
      refine ⟨_, rfl, _, rfl, _, rfl, x, (n / 10 % 9 - 4), .int k, rfl, kd3, .inr ⟨k, rfl⟩, fun ho => ?_, fun ho => ?_⟩
      · obtain ⟨i, rfl⟩ := fin (b := true) ho
        refine ⟨_, rfl, _, rfl, ?_⟩
        rw [ho]
        refine iteT ?_
        refine ⟨_, rfl, _, rfl, rfl, ?_⟩
        rw [decide_eq_true rfl]
        exact q _ s3
      · refine ⟨Y.ex, fun ea hea => ?_⟩
        refine ⟨_, rfl, _, rfl, _, rfl, ?_⟩
        rw [ho]
        refine iteT ?_
        exact ⟨_, rfl, ea, BN, .ref BN, .ref BN, true, _, rfl, rfl, upd_same, fun _ z => z, Y.xc, kit_self K BN, q _ (s3.trans (Same.upd hea))⟩
/-! _law_refused -/
theorem scRef : FnScope ["_law_number_here", "_law_bad", "_law_way", "_law_e"] ["_law_number_here"] (defScope lRef) := ⟨rfl, rfl, rfl, by decide +kernel, rfl, by decide +kernel, by decide +kernel⟩
theorem ok_lref {f fF fP BN ME BU : Addr} {fd fdF fdP : FuncData} {dF : Value} (F : Fun K "_law_refused" "_law_refused" lRef f fd) (B : Bn mg) (X : Ex K mg BN) (Y : Ex2 K mg BN ME BU)
    (FF : FunD K "fraction" "fraction" sFrac dF fF fdF) (bF : Binds K fdF ["above", "below"] []) (mF : mg "fraction" = some (.ref fF)) (GF : FnOk P w K mg base (Fly P w) 3 fF fdF ["above", "below"] (spFrac BN))
    (FP : Fun K "power_of" "power_of" sPow fP fdP) (bP : Binds K fdP ["one", "exponent"] []) (mP : mg "power_of" = some (.ref fP)) (GP : FnOk P w K mg base (Fly P w) 3 fP fdP ["one", "exponent"] (spPow BN)) :
    FnOk P w K mg base CX0 4 f fd ["_law_number_here"] spLN := by
  refine F.ok scRef (fun vs H Q E h => ?_) (fun cdv A outer s H vs Q E hr h => ?_)
  · obtain ⟨n, rfl, _⟩ := h
    rfl
  · obtain ⟨n, rfl, q⟩ := h
    refine ⟨_, QB.out (b_cons 
      (s_set 1 scRef.nd rfl (Or.inl rfl) (q_lst (qc q_non (qc q_bl (qc q_str (qc (q_lst (qc q_int q_nil rfl)) (qc (q_tup (qc q_int (qc q_int q_nil rfl) rfl)) (qc q_bl q_nil rfl) rfl) rfl) rfl) rfl) rfl)) rfl (.inr rfl)) (b_cons 
      (s_set 2 scRef.nd rfl (Or.inl rfl) (q_mod (qv 0 rfl (.inl rfl) rfl rfl) q_int) rfl (.inr rfl)) (b_cons 
      (s_try (K := K) 3 rfl rfl rfl scRef.nd rfl rfl rfl (.inl Y.mgM) (fun ps xe E hp => (b_one 
        (s_if (t_cmp op_eq (qv 2 rfl (.inl rfl) rfl rfl) q_int rfl) (b_one 
          (s_expr (q_callS GF hr rfl mF FF.kp bF .nil hp (qc (q_ixl (K := K) rfl (qv 1 rfl (.inl rfl) rfl rfl) (q_mod (q_fdiv (qv 0 rfl (.inl rfl) rfl rfl) q_int) q_int) (fun _ _ => rfl)) (qc (q_add q_int (q_mod (qv 0 rfl (.inl rfl) rfl rfl) q_int)) q_nil rfl) rfl) rfl rfl rfl) rfl)) (b_one 
          (s_if (t_cmp op_eq (qv 2 rfl (.inl rfl) rfl rfl) q_int rfl) (b_one 
            (s_expr (q_callS GF hr rfl mF FF.kp bF .nil hp (qc (q_mod (qv 0 rfl (.inl rfl) rfl rfl) q_int) (qc (q_ixl (K := K) rfl (q_cat (qv 1 rfl (.inl rfl) rfl rfl) (q_lst (qc q_int (qc (q_sub (q_neg q_int) (q_mod (q_fdiv (qv 0 rfl (.inl rfl) rfl rfl) q_int) q_int)) q_nil rfl) rfl))) (q_mod (q_fdiv (qv 0 rfl (.inl rfl) rfl rfl) q_int) q_int) (fun _ _ => rfl)) q_nil rfl) rfl) rfl rfl rfl) rfl)) (b_one 
            (s_if (t_cmp op_eq (qv 2 rfl (.inl rfl) rfl rfl) q_int rfl) (b_one 
              (s_expr (q_callS GP hr rfl mP FP.kp bP .nil hp (qc (q_tup (qc q_int (qc q_int q_nil rfl) rfl)) (qc (q_sub (q_neg q_int) (q_mod (q_fdiv (qv 0 rfl (.inl rfl) rfl rfl) q_int) q_int)) q_nil rfl) rfl) rfl rfl rfl) rfl)) (b_one 
              (s_expr (q_callS GP hr rfl mP FP.kp bP .nil hp (qc (q_tup (qc q_int (qc q_int q_nil rfl) rfl)) (qc (q_ixl (K := K) rfl (qv 1 rfl (.inl rfl) rfl rfl) (q_mod (q_fdiv (qv 0 rfl (.inl rfl) rfl rfl) q_int) q_int) (fun _ _ => rfl)) q_nil rfl) rfl) rfl rfl rfl) rfl))))))))) (fun e => (b_one 
        (s_ret (q_and (q_callB (call_isiXK (K := K) rfl) rfl B.isi bt_isinstance (qc (qv 3 rfl (.inl rfl) rfl rfl) (qc (q_glob (v := .ref BN) rfl X.mgB rfl rfl) q_nil rfl) rfl) (by decide) rfl rfl rfl) (q_and (q_callB (call_isiXK (K := K) rfl) rfl B.isi bt_isinstance (qc (qv 3 rfl (.inl rfl) rfl rfl) (qc (q_bltn (v := .ty "ValueError") rfl B.verr bt_ValueError rfl (by decide) rfl) q_nil rfl) rfl) (by decide) rfl rfl rfl) (q_one (q_not (q_callB (call_isiXK (K := K) rfl) rfl B.isi bt_isinstance (qc (qv 3 rfl (.inl rfl) rfl rfl) (qc (q_glob (v := .ref BU) rfl Y.mgU rfl rfl) q_nil rfl) rfl) (by decide) rfl rfl rfl)))))))) rfl) (b_one 
      (s_ret q_bl))))), ?_⟩
    have c4 : CDiv n 4 := ⟨by decide, by decide⟩
    refine ⟨(by show 1 ≤ sizeLine; decide), fun p1 hp1 => ⟨two_le, fun p2 hp2 => ⟨(by show 6 ≤ sizeLine; decide), fun p3 hp3 => ?_⟩⟩⟩
    have s1 : Same H (L2.upd H p1 (.lst [.int 1])) := Same.upd hp1
    have s2 : Same H (L2.upd (L2.upd H p1 (.lst [.int 1])) p2 (.tup [.int 1, .int 2])) := s1.trans (Same.upd hp2)
    have e1 : L2.upd (L2.upd H p1 (.lst [.int 1])) p2 (.tup [.int 1, .int 2]) p1 = some (.lst [.int 1]) := Same.upd hp2 _ _ upd_same
    have e2 : L2.upd (L2.upd H p1 (.lst [.int 1])) p2 (.tup [.int 1, .int 2]) p2 = some (.tup [.int 1, .int 2]) := upd_same
    generalize L2.upd (L2.upd H p1 (.lst [.int 1])) p2 (.tup [.int 1, .int 2]) = H2 at s2 e1 e2 hp3 ⊢
    have s3 : Same H (L2.upd H2 p3 (.lst [.non, .bl true, .str "3", .ref p1, .ref p2, .bl false])) := s2.trans (Same.upd hp3)
    have e3 : L2.upd H2 p3 (.lst [.non, .bl true, .str "3", .ref p1, .ref p2, .bl false]) p3 = some (.lst [.non, .bl true, .str "3", .ref p1, .ref p2, .bl false]) := upd_same
    have k1 := Same.upd (o := .lst [.non, .bl true, .str "3", .ref p1, .ref p2, .bl false]) hp3 _ _ e1
    have k2 := Same.upd (o := .lst [.non, .bl true, .str "3", .ref p1, .ref p2, .bl false]) hp3 _ _ e2
    generalize L2.upd H2 p3 (.lst [.non, .bl true, .str "3", .ref p1, .ref p2, .bl false]) = H3 at s3 e3 k1 k2 ⊢
    have kds : ∀ v ∈ [V.non, .bl true, .str "3", .ref p1, .ref p2, .bl false], Kd H3 v ∧ isW v = false := fun v hv => by
      simp only [List.mem_cons, List.not_mem_nil, or_false] at hv
      rcases hv with rfl | rfl | rfl | rfl | rfl | rfl
      · exact ⟨.non, rfl⟩
      · exact ⟨.bl _, rfl⟩
      · exact ⟨.str _, rfl⟩
      · exact ⟨.lst k1, rfl⟩
      · exact ⟨.tup k2, rfl⟩
      · exact ⟨.bl _, rfl⟩
    obtain ⟨x, hx, kx, nx⟩ := at_all (n := n / 4) (m := 6) kds rfl (by decide)
    have nox : ∀ a, x ≠ .int a := fun a z => by rw [z] at nx; cases nx
    refine ⟨_, rfl, _, _, rfl, rfl, (by decide : (0 : Int) < 4), ?_⟩
    refine ⟨_, rfl, rfl, _, rfl, ?_⟩
    refine ite2 (fun _ => ?_) (fun _ => ?_)
    · refine ⟨_, rfl, _, rfl, _, _, rfl, rfl, c4, _, _, rfl, rfl, (by decide : (0 : Int) < 6), p3, _, _, x, rfl, rfl, SqL.of e3, hx, _, rfl, _, _, rfl, rfl, (by decide : (0 : Int) < 7), _, _, rfl, rfl, x, _, rfl, kx, .int _, fun a b e _ _ => absurd e (nox a), fun _ => ?_⟩
      refine ⟨Y.ex, fun ea hea => ?_⟩
      refine ⟨_, rfl, ea, BN, .ref BN, .ref BN, true, _, rfl, rfl, upd_same, fun _ z => z, Y.xc, kit_self K BN, _, rfl, ?_⟩
      refine iteT ?_
      refine ⟨_, rfl, ea, BN, .ty "ValueError", .type "ValueError", true, _, rfl, rfl, upd_same, fun _ z => z, Y.xc, Y.kv, _, rfl, ?_⟩
      refine iteT ?_
      refine ⟨_, rfl, ea, BN, .ref BU, .ref BU, false, _, rfl, rfl, upd_same, fun _ z => z, Y.xc, Y.ku, _, rfl, ?_⟩
      exact q _ (s3.trans (Same.upd hea))
    · refine ⟨_, rfl, rfl, _, rfl, ?_⟩
      refine ite2 (fun _ => ?_) (fun _ => ?_)
      · refine ⟨_, rfl, _, _, rfl, rfl, (by decide : (0 : Int) < 9), _, rfl, _, rfl, _, rfl, _, _, rfl, rfl, (⟨by decide, by decide⟩ : CDiv n 40), _, _, rfl, rfl, (by decide : (0 : Int) < 9), _, _, rfl, rfl, two_le, fun p4 hp4 => ?_⟩
        have s4 : Same H3 (L2.upd H3 p4 (.lst [.int 0, .int (-1 - n / 40 % 9)])) := Same.upd hp4
        refine ⟨p3, p4, _, _, rfl, rfl, s4 _ _ e3, upd_same, (by show 8 ≤ sizeLine; decide), fun p5 hp5 => ?_⟩
        have s5 : Same H3 (L2.upd (L2.upd H3 p4 (.lst [.int 0, .int (-1 - n / 40 % 9)])) p5 (.lst ([.non, .bl true, .str "3", .ref p1, .ref p2, .bl false] ++ [.int 0, .int (-1 - n / 40 % 9)]))) := s4.trans (Same.upd hp5)
        have m0 := Int.emod_nonneg (n / 40) (by decide : (9 : Int) ≠ 0)
        have kd8 : ∀ v ∈ [V.non, .bl true, .str "3", .ref p1, .ref p2, .bl false] ++ [V.int 0, .int (-1 - n / 40 % 9)], Kd H3 v ∧ okN v 1 .non = false := fun v hv => by
          rcases List.mem_append.mp hv with hv | hv
          · exact ⟨(kds v hv).1, okN_no (kds v hv).2⟩
          · simp only [List.mem_cons, List.not_mem_nil, or_false] at hv
            rcases hv with rfl | rfl
            · exact ⟨.int _, rfl⟩
            · exact ⟨.int _, decide_eq_false (by omega)⟩
        obtain ⟨y, hy, ky, ny⟩ := at_all (n := n / 4) (m := 8) kd8 rfl (by decide)
        refine ⟨_, rfl, _, _, rfl, rfl, c4, _, _, rfl, rfl, (by decide : (0 : Int) < 8), p5, _, _, y, rfl, rfl, SqL.of upd_same, hy, _, y, rfl, .int _, ky.same s5, fun a b _ e hb => ?_, fun _ => ?_⟩
        · subst e
          have : ¬ (1 : Int) ≤ b := of_decide_eq_false ny
          omega
        · refine ⟨Y.ex, fun ea hea => ?_⟩
          refine ⟨_, rfl, ea, BN, .ref BN, .ref BN, true, _, rfl, rfl, upd_same, fun _ z => z, Y.xc, kit_self K BN, _, rfl, ?_⟩
          refine iteT ?_
          refine ⟨_, rfl, ea, BN, .ty "ValueError", .type "ValueError", true, _, rfl, rfl, upd_same, fun _ z => z, Y.xc, Y.kv, _, rfl, ?_⟩
          refine iteT ?_
          refine ⟨_, rfl, ea, BN, .ref BU, .ref BU, false, _, rfl, rfl, upd_same, fun _ z => z, Y.xc, Y.ku, _, rfl, ?_⟩
          exact q _ ((s3.trans s5).trans (Same.upd hea))
      · refine ⟨_, rfl, rfl, _, rfl, ?_⟩
        refine ite2 (fun _ => ?_) (fun _ => ?_)
        · have m0 := Int.emod_nonneg (n / 4) (by decide : (5 : Int) ≠ 0)
          refine ⟨two_le, fun p4 hp4 => ⟨_, rfl, _, rfl, _, _, rfl, rfl, c4, _, _, rfl, rfl, (by decide : (0 : Int) < 5), _, _, rfl, rfl, p4, 0, 1, _, rfl, upd_same, .int _, fun e he h0 => ?_, fun e he h0 hne => absurd rfl hne, fun e he h0 _ => ?_, fun z => nomatch z⟩⟩
          · injection he with he
            omega
          · refine ⟨Y.ex, fun ea hea => ?_⟩
            refine ⟨_, rfl, ea, BN, .ref BN, .ref BN, true, _, rfl, rfl, upd_same, fun _ z => z, Y.xc, kit_self K BN, _, rfl, ?_⟩
            refine iteT ?_
            refine ⟨_, rfl, ea, BN, .ty "ValueError", .type "ValueError", true, _, rfl, rfl, upd_same, fun _ z => z, Y.xc, Y.kv, _, rfl, ?_⟩
            refine iteT ?_
            refine ⟨_, rfl, ea, BN, .ref BU, .ref BU, false, _, rfl, rfl, upd_same, fun _ z => z, Y.xc, Y.ku, _, rfl, ?_⟩
            exact q _ ((s3.trans (Same.upd hp4)).trans (Same.upd hea))
        · refine ⟨two_le, fun p4 hp4 => ⟨_, rfl, _, rfl, _, _, rfl, rfl, c4, _, _, rfl, rfl, (by decide : (0 : Int) < 6), p3, _, _, x, rfl, rfl, SqL.of (Same.upd hp4 _ _ e3), hx, p4, 3, 4, x, rfl, upd_same, kx.same (Same.upd hp4), fun e he => absurd he (nox e), fun e he => absurd he (nox e), fun e he => absurd he (nox e), fun _ => ?_⟩⟩
          refine ⟨Y.ex, fun ea hea => ?_⟩
          refine ⟨_, rfl, ea, BN, .ref BN, .ref BN, true, _, rfl, rfl, upd_same, fun _ z => z, Y.xc, kit_self K BN, _, rfl, ?_⟩
          refine iteT ?_
          refine ⟨_, rfl, ea, BN, .ty "ValueError", .type "ValueError", true, _, rfl, rfl, upd_same, fun _ z => z, Y.xc, Y.kv, _, rfl, ?_⟩
          refine iteT ?_
          refine ⟨_, rfl, ea, BN, .ref BU, .ref BU, false, _, rfl, rfl, upd_same, fun _ z => z, Y.xc, Y.ku, _, rfl, ?_⟩
          exact q _ ((s3.trans (Same.upd hp4)).trans (Same.upd hea))
end
end Fr

set_option Elab.async false
set_option linter.all false
set_option maxRecDepth 100000
set_option maxHeartbeats 4000000
namespace Fr
open PySem PySem.Spec PyProof.Rows L2 FrM
/-- an exception with its fields -/
def XAt (H : Hp) (e C : Addr) (fs : List (Str × V)) : Prop := ∃ dx, H e = some (XO e C (some dx)) ∧ H dx = some (XD dx fs)
theorem XAt.same {H H' : Hp} {e C : Addr} {fs : List (Str × V)} (x : XAt H e C fs) (s : Same H H') : XAt H' e C fs := let ⟨dx, a, b⟩ := x; ⟨dx, s _ _ a, s _ _ b⟩
def spI1 (C : Addr) (n1 : Str) : Sp := fun vs H Q _ => ∃ p x, vs = [.ref p, x] ∧ H p = some (XO p C none) ∧ ∀ H', XAt H' p C [(n1, x)] → (∀ b o, H b = some o → b ≠ p → H' b = some o) → Q .non H'
def spI2 (C : Addr) (n1 n2 : Str) : Sp := fun vs H Q _ => ∃ p x y, vs = [.ref p, x, y] ∧ H p = some (XO p C none) ∧ ∀ H', XAt H' p C (putF n2 y [(n1, x)]) → (∀ b o, H b = some o → b ≠ p → H' b = some o) → Q .non H'
def spI3 (C : Addr) (n1 n2 n3 : Str) : Sp := fun vs H Q _ => ∃ p x y z, vs = [.ref p, x, y, z] ∧ H p = some (XO p C none) ∧ ∀ H', XAt H' p C (putF n3 z (putF n2 y [(n1, x)])) → (∀ b o, H b = some o → b ≠ p → H' b = some o) → Q .non H'
theorem same_made {G H1 : Hp} {e : Addr} {o : HO} (he : G e = none) (kp : ∀ b u, (L2.upd G e o) b = some u → b ≠ e → H1 b = some u) : Same G H1 := fun b u h => kp b u (by rw [upd_ne (ne_of_none h he)]; exact h) (ne_of_none h he)
theorem lookup_mem {y : Str} {k : NameKind} : ∀ {l : List (Str × NameKind)}, l.lookup y = some k → (y, k) ∈ l
  | [], h => by cases h
  | (n, k') :: l, h => by
    rw [List.lookup_cons] at h
    cases e : (y == n) with
    | true =>
      rw [e] at h
      cases h
      rw [beq_iff_eq.mp e]
      exact List.mem_cons_self
    | false =>
      rw [e] at h
      exact List.mem_cons_of_mem _ (lookup_mem h)
theorem lk1 (n : Str) (x : V) : ([(n, x)] : List (Str × V)).lookup n = some x := by simp [List.lookup]
theorem lk_here (n : Str) (x : V) (fs : List (Str × V)) : (putF n x fs).lookup n = some x := by rw [lookup_putF, if_pos rfl]
theorem lk_next {n m : Str} {x y : V} {fs : List (Str × V)} (h : ¬ n = m) (e : fs.lookup n = some y) : (putF m x fs).lookup n = some y := by rw [lookup_putF, if_neg h]; exact e
section
variable {P : Program} {w : World} {K : PySem.W.Frag} {mg : Str → Option Value} {base : Heap}
/-- a class of refusals with an __init__ -/
def clsOk (K : PySem.W.Frag) (C f : Addr) (fs : List Str) : Bool := excInI K C f && PySem.W.isFn K (.ref f) && PySem.W.keepIn K (.ref C) && (PySem.W.clsIn K C).any (fun cd => PySem.W.excMro cd.mro) && PySem.W.hasDictIn K C &&
  PySem.W.findIn K (.ref C) "__getattribute__" == some (some (.builtin "BaseException.__getattribute__")) && PySem.W.findIn K (.ref C) "__getattr__" == some none && PySem.W.findIn K (.ref C) "__setattr__" == some (some (.builtin "object.__setattr__")) &&
  PySem.W.mroIn K C (.type "BaseException") == some true && PySem.W.mroIn K C (.type "object") == some true && PySem.W.findIn K (.ref C) "__class__" == some (some (.builtin "object.__class__")) && fs.all fun n => PySem.W.findIn K (.ref C) n == some none
/-- of Python's own __class__ -/
structure CA (K : PySem.W.Frag) : Prop where
  cg : PySem.W.specialIn K (.builtin "object.__class__") "__get__" = some (some (.builtin "getset_descriptor.__get__"))
  ct : PySem.W.takesIn K (.builtin "object.__class__") = some true
theorem cls_mk {C f : Addr} {fs : List Str} (a : CA K) (h : clsOk K C f fs = true) : MkX K C f ∧ XCls K C ∧ ∀ n ∈ fs, NoAttr K C n := by
  unfold clsOk at h
  simp only [Bool.and_eq_true, beq_iff_eq] at h
  obtain ⟨⟨⟨⟨⟨⟨⟨⟨⟨⟨⟨h1, h2⟩, h3⟩, h4⟩, h5⟩, h6⟩, h7⟩, h8⟩, h9⟩, h10⟩, h11⟩, h12⟩ := h
  exact ⟨⟨h1, h2, h3⟩, ⟨h6, h7, h8, h9, h10, h4, h5, h11, a.cg, a.ct⟩, fun n hn => beq_iff_eq.mp (List.all_eq_true.mp h12 n hn)⟩
theorem scBadText : FnScope ["self", "at"] ["self", "at"] (defScope (inClass (top 4) 0)) := ⟨rfl, rfl, rfl, by decide +kernel, rfl, by decide +kernel, by decide +kernel⟩
theorem ok_BadText {f C : Addr} {fd : FuncData} (F : Fun K "__init__" "BadText.__init__" (inClass (top 4) 0) f fd) (xc : XCls K C) (n1 : NoAttr K C "at") : FnOk P w K mg base CX0 1 f fd ["self", "at"] (spI1 C "at") := by
  refine F.ok scBadText (fun vs H Q E h => ?_) (fun cdv A outer s H vs Q E hr h => ?_)
  · obtain ⟨p, x, rfl, _⟩ := h
    rfl
  · obtain ⟨p, x, rfl, hp, k⟩ := h
    refine ⟨_, pss_one (ps_xfld0 (pv 0) (pv 1) rfl), ?_⟩
    refine ⟨_, rfl, _, rfl, p, C, rfl, hp, xc, n1, fun dx hdx hne => ?_⟩
    refine k _ ⟨dx, upd_same, by rw [upd_ne hne, upd_same]⟩ fun b o e hb => ?_
    rw [upd_ne hb, upd_ne (ne_of_none e hdx)]
    exact e
theorem scNoName : FnScope ["self", "row", "name"] ["self", "row", "name"] (defScope (inClass (top 5) 0)) := ⟨rfl, rfl, rfl, by decide +kernel, rfl, by decide +kernel, by decide +kernel⟩
theorem ok_NoName {f C : Addr} {fd : FuncData} (F : Fun K "__init__" "NoName.__init__" (inClass (top 5) 0) f fd) (xc : XCls K C) (n1 : NoAttr K C "row") (n2 : NoAttr K C "name") : FnOk P w K mg base CX0 1 f fd ["self", "row", "name"] (spI2 C "row" "name") := by
  refine F.ok scNoName (fun vs H Q E h => ?_) (fun cdv A outer s H vs Q E hr h => ?_)
  · obtain ⟨p, x, y, rfl, _⟩ := h
    rfl
  · obtain ⟨p, x, y, rfl, hp, k⟩ := h
    refine ⟨_, pss_cons (ps_xfld0 (pv 0) (pv 1) rfl) (pss_one (ps_xfld1 (pv 0) (pv 2) rfl)), ?_⟩
    refine ⟨_, rfl, _, rfl, p, C, rfl, hp, xc, n1, fun dx hdx hne => ?_⟩
    refine ⟨_, rfl, _, rfl, p, C, dx, _, rfl, upd_same, by rw [upd_ne hne, upd_same], xc, n2, (by show 1 < 1000; decide), ?_⟩
    refine k _ ⟨dx, by rw [upd_ne hne.symm, upd_same], upd_same⟩ fun b o e hb => ?_
    have h1 : b ≠ dx := ne_of_none e hdx
    rw [upd_ne h1, upd_ne hb, upd_ne h1]
    exact e
theorem scTwice : FnScope ["self", "row", "name"] ["self", "row", "name"] (defScope (inClass (top 6) 0)) := ⟨rfl, rfl, rfl, by decide +kernel, rfl, by decide +kernel, by decide +kernel⟩
theorem ok_Twice {f C : Addr} {fd : FuncData} (F : Fun K "__init__" "Twice.__init__" (inClass (top 6) 0) f fd) (xc : XCls K C) (n1 : NoAttr K C "row") (n2 : NoAttr K C "name") : FnOk P w K mg base CX0 1 f fd ["self", "row", "name"] (spI2 C "row" "name") := by
  refine F.ok scTwice (fun vs H Q E h => ?_) (fun cdv A outer s H vs Q E hr h => ?_)
  · obtain ⟨p, x, y, rfl, _⟩ := h
    rfl
  · obtain ⟨p, x, y, rfl, hp, k⟩ := h
    refine ⟨_, pss_cons (ps_xfld0 (pv 0) (pv 1) rfl) (pss_one (ps_xfld1 (pv 0) (pv 2) rfl)), ?_⟩
    refine ⟨_, rfl, _, rfl, p, C, rfl, hp, xc, n1, fun dx hdx hne => ?_⟩
    refine ⟨_, rfl, _, rfl, p, C, dx, _, rfl, upd_same, by rw [upd_ne hne, upd_same], xc, n2, (by show 1 < 1000; decide), ?_⟩
    refine k _ ⟨dx, by rw [upd_ne hne.symm, upd_same], upd_same⟩ fun b o e hb => ?_
    have h1 : b ≠ dx := ne_of_none e hdx
    rw [upd_ne h1, upd_ne hb, upd_ne h1]
    exact e
theorem scBadCount : FnScope ["self", "row", "name"] ["self", "row", "name"] (defScope (inClass (top 7) 0)) := ⟨rfl, rfl, rfl, by decide +kernel, rfl, by decide +kernel, by decide +kernel⟩
theorem ok_BadCount {f C : Addr} {fd : FuncData} (F : Fun K "__init__" "BadCount.__init__" (inClass (top 7) 0) f fd) (xc : XCls K C) (n1 : NoAttr K C "row") (n2 : NoAttr K C "name") : FnOk P w K mg base CX0 1 f fd ["self", "row", "name"] (spI2 C "row" "name") := by
  refine F.ok scBadCount (fun vs H Q E h => ?_) (fun cdv A outer s H vs Q E hr h => ?_)
  · obtain ⟨p, x, y, rfl, _⟩ := h
    rfl
  · obtain ⟨p, x, y, rfl, hp, k⟩ := h
    refine ⟨_, pss_cons (ps_xfld0 (pv 0) (pv 1) rfl) (pss_one (ps_xfld1 (pv 0) (pv 2) rfl)), ?_⟩
    refine ⟨_, rfl, _, rfl, p, C, rfl, hp, xc, n1, fun dx hdx hne => ?_⟩
    refine ⟨_, rfl, _, rfl, p, C, dx, _, rfl, upd_same, by rw [upd_ne hne, upd_same], xc, n2, (by show 1 < 1000; decide), ?_⟩
    refine k _ ⟨dx, by rw [upd_ne hne.symm, upd_same], upd_same⟩ fun b o e hb => ?_
    have h1 : b ≠ dx := ne_of_none e hdx
    rw [upd_ne h1, upd_ne hb, upd_ne h1]
    exact e
theorem scSteep : FnScope ["self", "row"] ["self", "row"] (defScope (inClass (top 8) 0)) := ⟨rfl, rfl, rfl, by decide +kernel, rfl, by decide +kernel, by decide +kernel⟩
theorem ok_Steep {f C : Addr} {fd : FuncData} (F : Fun K "__init__" "Steep.__init__" (inClass (top 8) 0) f fd) (xc : XCls K C) (n1 : NoAttr K C "row") : FnOk P w K mg base CX0 1 f fd ["self", "row"] (spI1 C "row") := by
  refine F.ok scSteep (fun vs H Q E h => ?_) (fun cdv A outer s H vs Q E hr h => ?_)
  · obtain ⟨p, x, rfl, _⟩ := h
    rfl
  · obtain ⟨p, x, rfl, hp, k⟩ := h
    refine ⟨_, pss_one (ps_xfld0 (pv 0) (pv 1) rfl), ?_⟩
    refine ⟨_, rfl, _, rfl, p, C, rfl, hp, xc, n1, fun dx hdx hne => ?_⟩
    refine k _ ⟨dx, upd_same, by rw [upd_ne hne, upd_same]⟩ fun b o e hb => ?_
    rw [upd_ne hb, upd_ne (ne_of_none e hdx)]
    exact e
theorem scClash : FnScope ["self", "row", "parts", "modulus"] ["self", "row", "parts", "modulus"] (defScope (inClass (top 9) 0)) := ⟨rfl, rfl, rfl, by decide +kernel, rfl, by decide +kernel, by decide +kernel⟩
theorem ok_Clash {f C : Addr} {fd : FuncData} (F : Fun K "__init__" "Clash.__init__" (inClass (top 9) 0) f fd) (xc : XCls K C) (n1 : NoAttr K C "row") (n2 : NoAttr K C "parts") (n3 : NoAttr K C "modulus") : FnOk P w K mg base CX0 1 f fd ["self", "row", "parts", "modulus"] (spI3 C "row" "parts" "modulus") := by
  refine F.ok scClash (fun vs H Q E h => ?_) (fun cdv A outer s H vs Q E hr h => ?_)
  · obtain ⟨p, x, y, z, rfl, _⟩ := h
    rfl
  · obtain ⟨p, x, y, z, rfl, hp, k⟩ := h
    refine ⟨_, pss_cons (ps_xfld0 (pv 0) (pv 1) rfl) (pss_cons (ps_xfld1 (pv 0) (pv 2) rfl) (pss_one (ps_xfld1 (pv 0) (pv 3) rfl))), ?_⟩
    refine ⟨_, rfl, _, rfl, p, C, rfl, hp, xc, n1, fun dx hdx hne => ?_⟩
    refine ⟨_, rfl, _, rfl, p, C, dx, _, rfl, upd_same, by rw [upd_ne hne, upd_same], xc, n2, (by show 1 < 1000; decide), ?_⟩
    refine ⟨_, rfl, _, rfl, p, C, dx, _, rfl, by rw [upd_ne hne.symm, upd_same], upd_same, xc, n3, Nat.lt_of_le_of_lt (length_putF _ _ _) (by show 2 < 1000; decide), ?_⟩
    refine k _ ⟨dx, by rw [upd_ne hne.symm, upd_ne hne.symm, upd_same], upd_same⟩ fun b o e hb => ?_
    have h1 : b ≠ dx := ne_of_none e hdx
    rw [upd_ne h1, upd_ne h1, upd_ne hb, upd_ne h1]
    exact e
theorem scUnlike : FnScope ["self", "one", "other"] ["self", "one", "other"] (defScope (inClass (top 10) 0)) := ⟨rfl, rfl, rfl, by decide +kernel, rfl, by decide +kernel, by decide +kernel⟩
theorem ok_Unlike {f C : Addr} {fd : FuncData} (F : Fun K "__init__" "Unlike.__init__" (inClass (top 10) 0) f fd) (xc : XCls K C) (n1 : NoAttr K C "one") (n2 : NoAttr K C "other") : FnOk P w K mg base CX0 1 f fd ["self", "one", "other"] (spI2 C "one" "other") := by
  refine F.ok scUnlike (fun vs H Q E h => ?_) (fun cdv A outer s H vs Q E hr h => ?_)
  · obtain ⟨p, x, y, rfl, _⟩ := h
    rfl
  · obtain ⟨p, x, y, rfl, hp, k⟩ := h
    refine ⟨_, pss_cons (ps_xfld0 (pv 0) (pv 1) rfl) (pss_one (ps_xfld1 (pv 0) (pv 2) rfl)), ?_⟩
    refine ⟨_, rfl, _, rfl, p, C, rfl, hp, xc, n1, fun dx hdx hne => ?_⟩
    refine ⟨_, rfl, _, rfl, p, C, dx, _, rfl, upd_same, by rw [upd_ne hne, upd_same], xc, n2, (by show 1 < 1000; decide), ?_⟩
    refine k _ ⟨dx, by rw [upd_ne hne.symm, upd_same], upd_same⟩ fun b o e hb => ?_
    have h1 : b ≠ dx := ne_of_none e hdx
    rw [upd_ne h1, upd_ne hb, upd_ne h1]
    exact e
theorem scHalted : FnScope ["self", "word"] ["self", "word"] (defScope (inClass (top 11) 0)) := ⟨rfl, rfl, rfl, by decide +kernel, rfl, by decide +kernel, by decide +kernel⟩
theorem ok_Halted {f C : Addr} {fd : FuncData} (F : Fun K "__init__" "Halted.__init__" (inClass (top 11) 0) f fd) (xc : XCls K C) (n1 : NoAttr K C "word") : FnOk P w K mg base CX0 1 f fd ["self", "word"] (spI1 C "word") := by
  refine F.ok scHalted (fun vs H Q E h => ?_) (fun cdv A outer s H vs Q E hr h => ?_)
  · obtain ⟨p, x, rfl, _⟩ := h
    rfl
  · obtain ⟨p, x, rfl, hp, k⟩ := h
    refine ⟨_, pss_one (ps_xfld0 (pv 0) (pv 1) rfl), ?_⟩
    refine ⟨_, rfl, _, rfl, p, C, rfl, hp, xc, n1, fun dx hdx hne => ?_⟩
    refine k _ ⟨dx, upd_same, by rw [upd_ne hne, upd_same]⟩ fun b o e hb => ?_
    rw [upd_ne hb, upd_ne (ne_of_none e hdx)]
    exact e
/-- a comprehension over a list that takes nothing -/
theorem comp_none_lst {K : PySem.W.Frag} {a : Addr} {xs : List V} {tc : TT} {te : TE} {fr : List Nat} {σ : L2.St} {H : Hp} {Q : VK} (hl : SqL K H a xs)
    (ht : ∀ D (i : Nat) x (R : Bool → Hp → Prop), H D = none → xs[i]? = some x → R false (L2.upd H D (.lst [])) → tc (some x :: around fr σ) (L2.upd H D (.lst [])) R) (q : ∀ D, H D = none → Q (.ref D) (L2.upd H D (.lst []))) :
    ∀ D, H D = none → ∃ W : Nat → Nat → List V → Hp → Prop, (∃ m, W 0 m [] (L2.upd H D (.lst []))) ∧ ∀ i m ys H', W i m ys H' → H' D = some (.lst ys) ∧ (((Itl K a).stop i H' ∧ Q (.ref D) H') ∨ ((Itl K a).go i H' ∧ ys.length < sizeLine ∧ ∃ N : List V → Hp → Prop, (∀ ys' H'', N ys' H'' → ∃ m', m' < m ∧ W (i + 1) m' ys' H'') ∧
      ∀ x H'', (Itl K a).yld i H' x H'' → tc (some x :: around fr σ) H'' fun b H2 => if b = true then te (some x :: around fr σ) H2 fun y H3 => H3 D = some (.lst ys) ∧ N (ys ++ [y]) (L2.upd H3 D (.lst (ys ++ [y]))) else N ys H2)) := by
  intro D hD
  have hs : SqL K (L2.upd H D (.lst [])) a xs := (Same.upd hD).seq hl
  refine ⟨fun i m ys H' => i ≤ xs.length ∧ m = xs.length - i ∧ ys = [] ∧ H' = L2.upd H D (.lst []), ⟨_, Nat.zero_le _, rfl, rfl, rfl⟩, ?_⟩
  rintro i m ys H' ⟨hi, rfl, rfl, rfl⟩
  refine ⟨upd_same, ?_⟩
  by_cases hlt : i < xs.length
  · refine .inr ⟨⟨xs, xs[i], hs, List.getElem?_eq_getElem hlt⟩, by show 0 < sizeLine; decide, fun ys' H'' => ys' = [] ∧ H'' = L2.upd H D (.lst []), ?_, ?_⟩
    · rintro ys' H'' ⟨rfl, rfl⟩
      exact ⟨xs.length - (i + 1), by omega, hlt, rfl, rfl, rfl⟩
    · rintro x H'' ⟨rfl, hx⟩
      exact ht D i x _ hD (hx xs hs) ⟨rfl, rfl⟩
  · exact .inl ⟨⟨xs, hs, by omega⟩, q D hD⟩
theorem tcomp_none_lst {K : PySem.W.Frag} {i : Nat} {a : Addr} {xs : List V} {tc : TT} {te : TE} {fr : List Nat} {σ : L2.St} {H : Hp} {Q : VK} (hi : σ[i]? = some (some (.ref a))) (hl : SqL K H a xs)
    (ht : ∀ D (i : Nat) x (R : Bool → Hp → Prop), H D = none → xs[i]? = some x → R false (L2.upd H D (.lst [])) → tc (some x :: around fr σ) (L2.upd H D (.lst [])) R) (q : ∀ D, H D = none → Q (.ref D) (L2.upd H D (.lst []))) :
    tComp (iList K (tVar i)) tc te fr σ H Q := ⟨_, hi, a, rfl, ⟨xs, hl⟩, comp_none_lst hl ht q⟩
/-- the comprehension over refusals, in the slot 3, that takes nothing -/
def tNoneX (K : PySem.W.Frag) (ME : Addr) : TE := fun σ H Q => ∃ l xs n, σ[3]? = some (some (.ref l)) ∧ SqL K H l xs ∧ σ[0]? = some (some (.int n)) ∧ (∀ x ∈ xs, ∃ e C, x = .ref e ∧ XAt H e C (putF "name" (.str "m") [("row", .int n)]) ∧
  XCls K C ∧ NoAttr K C "row" ∧ NoAttr K C "name" ∧ PySem.W.kitOne K (.ref C) (.ref ME) = some true) ∧ ∀ D, H D = none → Q (.ref D) (L2.upd H D (.lst []))
/-- ((((0,), 1), 2),) -/
structure Nest (H : Hp) (q1 q2 q3 q4 : Addr) : Prop where
  a : H q1 = some (.tup [.int 0])
  b : H q2 = some (.tup [.ref q1, .int 1])
  c : H q3 = some (.tup [.ref q2, .int 2])
  d : H q4 = some (.tup [.ref q3])
theorem Nest.same {H H' : Hp} {q1 q2 q3 q4 : Addr} (n : Nest H q1 q2 q3 q4) (s : Same H H') : Nest H' q1 q2 q3 q4 := ⟨s _ _ n.a, s _ _ n.b, s _ _ n.c, s _ _ n.d⟩
/-- (("m", 1),), () -/
structure Nest2 (H : Hp) (q5 q6 q7 : Addr) : Prop where
  a : H q5 = some (.tup [.str "m", .int 1])
  b : H q6 = some (.tup [.ref q5])
  c : H q7 = some (.tup [])
theorem Nest2.same {H H' : Hp} {q5 q6 q7 : Addr} (n : Nest2 H q5 q6 q7) (s : Same H H') : Nest2 H' q5 q6 q7 := ⟨s _ _ n.a, s _ _ n.b, s _ _ n.c⟩
abbrev flCl (n : Int) (q4 : Addr) : List (Str × V) := putF "modulus" (.int 3) (putF "parts" (.ref q4) [("row", .int n)])
abbrev flUn (q6 q7 : Addr) : List (Str × V) := putF "other" (.ref q7) [("one", .ref q6)]
abbrev flNm (n : Int) : List (Str × V) := putF "name" (.str "m") [("row", .int n)]
def tCl (cCl : Addr) : TE := fun σ H Q => ∃ n, σ[0]? = some (some (.int n)) ∧ ∀ e1 q1 q2 q3 q4 H', Same H H' → Nest H' q1 q2 q3 q4 → XAt H' e1 cCl (flCl n q4) → Q (.ref e1) H'
def tUn2 (cUn : Addr) : TE := fun _ H Q => ∀ e2 q5 q6 q7 H', Same H H' → Nest2 H' q5 q6 q7 → XAt H' e2 cUn (flUn q6 q7) → Q (.ref e2) H'
def tTh (cNN cTw cBC : Addr) : TE := fun σ H Q => ∃ n, σ[0]? = some (some (.int n)) ∧ ∀ l e3 e4 e5 H', Same H H' → H' l = some (.lst [.ref e3, .ref e4, .ref e5]) → XAt H' e3 cNN (flNm n) → XAt H' e4 cTw (flNm n) → XAt H' e5 cBC (flNm n) → Q (.ref l) H'
def tIf1 (cCl : Addr) : TT := fun σ H Q => ∃ n e1 q1 q2 q3 q4, σ[0]? = some (some (.int n)) ∧ σ[1]? = some (some (.ref e1)) ∧ Nest H q1 q2 q3 q4 ∧ XAt H e1 cCl (flCl n q4) ∧ ∀ H', Same H H' → Q false H'
def tIf2 (cUn : Addr) : TT := fun σ H Q => ∃ e2 q5 q6 q7, σ[2]? = some (some (.ref e2)) ∧ Nest2 H q5 q6 q7 ∧ XAt H e2 cUn (flUn q6 q7) ∧ ∀ H', Same H H' → Q false H'
def tIf3 (K : PySem.W.Frag) (ME : Addr) : TT := fun σ H Q => ∃ l xs n, σ[3]? = some (some (.ref l)) ∧ SqL K H l xs ∧ σ[0]? = some (some (.int n)) ∧ (∀ x ∈ xs, ∃ e C, x = .ref e ∧ XAt H e C (flNm n) ∧
  XCls K C ∧ NoAttr K C "row" ∧ NoAttr K C "name" ∧ PySem.W.kitOne K (.ref C) (.ref ME) = some true) ∧ ∀ H', Same H H' → Q false H'
def tLast : TE := fun σ H Q => ∃ n, σ[0]? = some (some (.int n)) ∧ ∀ H', Same H H' → Q (.bl true) H'
/-- the classes of refusals by name -/
structure Txt (mg : Str → Option Value) (cBT cNN cTw cBC cSt cCl cUn cHa : Addr) : Prop where
  mBadText : mg "BadText" = some (.ref cBT)
  mNoName : mg "NoName" = some (.ref cNN)
  mTwice : mg "Twice" = some (.ref cTw)
  mBadCount : mg "BadCount" = some (.ref cBC)
  mSteep : mg "Steep" = some (.ref cSt)
  mClash : mg "Clash" = some (.ref cCl)
  mUnlike : mg "Unlike" = some (.ref cUn)
  mHalted : mg "Halted" = some (.ref cHa)
theorem scErr : FnScope ["_law_number_here", "_law_one", "_law_other", "_law_some"] ["_law_number_here"] (defScope lErr) := ⟨rfl, rfl, rfl, by decide +kernel, rfl, by decide +kernel, by decide +kernel⟩
theorem ok_err {f ME cBT cNN cTw cBC cSt cCl cUn cHa fBadText fNoName fTwice fBadCount fSteep fClash fUnlike fHalted : Addr} {fd fdBadText fdNoName fdTwice fdBadCount fdSteep fdClash fdUnlike fdHalted : FuncData} (F : Fun K "_law_made_errors" "_law_made_errors" lErr f fd) (B : Bn mg) (mM : mg "MeasureError" = some (.ref ME)) (T : Txt mg cBT cNN cTw cBC cSt cCl cUn cHa)
    (MBadText : MkX K cBT fBadText) (FBadText : Fun K "__init__" "BadText.__init__" (inClass (top 4) 0) fBadText fdBadText) (bBadText : Binds K fdBadText ["self", "at"] []) (xBadText : XCls K cBT) (aBadText : ∀ n ∈ [("at" : Str)], NoAttr K cBT n)
    (MNoName : MkX K cNN fNoName) (FNoName : Fun K "__init__" "NoName.__init__" (inClass (top 5) 0) fNoName fdNoName) (bNoName : Binds K fdNoName ["self", "row", "name"] []) (xNoName : XCls K cNN) (aNoName : ∀ n ∈ [("row" : Str), ("name" : Str)], NoAttr K cNN n)
    (MTwice : MkX K cTw fTwice) (FTwice : Fun K "__init__" "Twice.__init__" (inClass (top 6) 0) fTwice fdTwice) (bTwice : Binds K fdTwice ["self", "row", "name"] []) (xTwice : XCls K cTw) (aTwice : ∀ n ∈ [("row" : Str), ("name" : Str)], NoAttr K cTw n)
    (MBadCount : MkX K cBC fBadCount) (FBadCount : Fun K "__init__" "BadCount.__init__" (inClass (top 7) 0) fBadCount fdBadCount) (bBadCount : Binds K fdBadCount ["self", "row", "name"] []) (xBadCount : XCls K cBC) (aBadCount : ∀ n ∈ [("row" : Str), ("name" : Str)], NoAttr K cBC n)
    (MSteep : MkX K cSt fSteep) (FSteep : Fun K "__init__" "Steep.__init__" (inClass (top 8) 0) fSteep fdSteep) (bSteep : Binds K fdSteep ["self", "row"] []) (xSteep : XCls K cSt) (aSteep : ∀ n ∈ [("row" : Str)], NoAttr K cSt n)
    (MClash : MkX K cCl fClash) (FClash : Fun K "__init__" "Clash.__init__" (inClass (top 9) 0) fClash fdClash) (bClash : Binds K fdClash ["self", "row", "parts", "modulus"] []) (xClash : XCls K cCl) (aClash : ∀ n ∈ [("row" : Str), ("parts" : Str), ("modulus" : Str)], NoAttr K cCl n)
    (MUnlike : MkX K cUn fUnlike) (FUnlike : Fun K "__init__" "Unlike.__init__" (inClass (top 10) 0) fUnlike fdUnlike) (bUnlike : Binds K fdUnlike ["self", "one", "other"] []) (xUnlike : XCls K cUn) (aUnlike : ∀ n ∈ [("one" : Str), ("other" : Str)], NoAttr K cUn n)
    (MHalted : MkX K cHa fHalted) (FHalted : Fun K "__init__" "Halted.__init__" (inClass (top 11) 0) fHalted fdHalted) (bHalted : Binds K fdHalted ["self", "word"] []) (xHalted : XCls K cHa) (aHalted : ∀ n ∈ [("word" : Str)], NoAttr K cHa n)
    (kNN : PySem.W.kitOne K (.ref cNN) (.ref ME) = some true) (kTw : PySem.W.kitOne K (.ref cTw) (.ref ME) = some true) (kBC : PySem.W.kitOne K (.ref cBC) (.ref ME) = some true) :
    FnOk P w K mg base CX0 3 f fd ["_law_number_here"] spLN := by
  have GBadText : FnOk P w K mg base CX0 1 fBadText fdBadText ["self", "at"] (spI1 cBT "at") := ok_BadText FBadText xBadText (aBadText _ (by simp))
  have GNoName : FnOk P w K mg base CX0 1 fNoName fdNoName ["self", "row", "name"] (spI2 cNN "row" "name") := ok_NoName FNoName xNoName (aNoName _ (by simp)) (aNoName _ (by simp))
  have GTwice : FnOk P w K mg base CX0 1 fTwice fdTwice ["self", "row", "name"] (spI2 cTw "row" "name") := ok_Twice FTwice xTwice (aTwice _ (by simp)) (aTwice _ (by simp))
  have GBadCount : FnOk P w K mg base CX0 1 fBadCount fdBadCount ["self", "row", "name"] (spI2 cBC "row" "name") := ok_BadCount FBadCount xBadCount (aBadCount _ (by simp)) (aBadCount _ (by simp))
  have GSteep : FnOk P w K mg base CX0 1 fSteep fdSteep ["self", "row"] (spI1 cSt "row") := ok_Steep FSteep xSteep (aSteep _ (by simp))
  have GClash : FnOk P w K mg base CX0 1 fClash fdClash ["self", "row", "parts", "modulus"] (spI3 cCl "row" "parts" "modulus") := ok_Clash FClash xClash (aClash _ (by simp)) (aClash _ (by simp)) (aClash _ (by simp))
  have GUnlike : FnOk P w K mg base CX0 1 fUnlike fdUnlike ["self", "one", "other"] (spI2 cUn "one" "other") := ok_Unlike FUnlike xUnlike (aUnlike _ (by simp)) (aUnlike _ (by simp))
  have GHalted : FnOk P w K mg base CX0 1 fHalted fdHalted ["self", "word"] (spI1 cHa "word") := ok_Halted FHalted xHalted (aHalted _ (by simp))
  refine F.ok scErr (fun vs H Q E h => ?_) (fun cdv A outer s H vs Q E hr h => ?_)
  · obtain ⟨n, rfl, _⟩ := h
    rfl
  · obtain ⟨n, rfl, q⟩ := h
    have hu4 : (A.deeper (envOfC "_law_made_errors" (defScope lErr) s.heap.objs.size f cdv)).units + 4 + 2 < cLine := by have := hr.un; omega
    have hu2 : (A.deeper (envOfC "_law_made_errors" (defScope lErr) s.heap.objs.size f cdv)).units + 2 + 2 < cLine := by have := hr.un; omega
    have huN : (A.deeper (envOfC "_law_made_errors" (defScope lErr) s.heap.objs.size f cdv)).units < cLine := by have := hr.un; omega
    have le1 : 1 ≤ sizeLine := by decide
    have le3 : 3 ≤ sizeLine := by decide
    refine ⟨_, (pss_cons 
      (ps_set (i := 1) scErr.nd rfl (Or.inl rfl) (PE.imp (t' := tCl cCl) (pe_makeX MClash GClash hr (by rfl) T.mClash bClash pass0 (pa_cons (pv 0) (pa_cons (pe_tup (pa_cons (pe_tup (pa_cons (pe_tup (pa_cons (pe_tup (pa_cons pe_int pa_nil)) (pa_cons pe_int pa_nil))) (pa_cons pe_int pa_nil))) pa_nil)) (pa_cons pe_int pa_nil)))) (fun σ H Q h => ?cl))) (pss_cons 
      (ps_set (i := 2) scErr.nd rfl (Or.inl rfl) (PE.imp (t' := tUn2 cUn) (pe_makeX MUnlike GUnlike hr (by rfl) T.mUnlike bUnlike pass0 (pa_cons (pe_tup (pa_cons (pe_tup (pa_cons pe_str (pa_cons pe_int pa_nil))) pa_nil)) (pa_cons (pe_tup pa_nil) pa_nil))) (fun σ H Q h => ?un))) (pss_cons 
      (ps_set (i := 3) scErr.nd rfl (Or.inl rfl) (PE.imp (t' := tTh cNN cTw cBC) (pe_lst (pa_cons (pe_makeX MNoName GNoName hr (by rfl) T.mNoName bNoName pass0 (pa_cons (pv 0) (pa_cons pe_str pa_nil))) (pa_cons (pe_makeX MTwice GTwice hr (by rfl) T.mTwice bTwice pass0 (pa_cons (pv 0) (pa_cons pe_str pa_nil))) (pa_cons (pe_makeX MBadCount GBadCount hr (by rfl) T.mBadCount bBadCount pass0 (pa_cons (pv 0) (pa_cons pe_str pa_nil))) pa_nil)))) (fun σ H Q h => ?th))) (pss_cons 
      (ps_if (PT.imp (t' := tIf1 cCl) (pt_cmpR (op_neTup (n := 4) hu4) (pe_tup (pa_cons (pe_xfld (pv 1) rfl) (pa_cons (pe_xfld (pv 1) rfl) (pa_cons (pe_xfld (pv 1) rfl) pa_nil)))) (pe_tup (pa_cons (pv 0) (pa_cons (pe_tup (pa_cons (pe_tup (pa_cons (pe_tup (pa_cons (pe_tup (pa_cons pe_int pa_nil)) (pa_cons pe_int pa_nil))) (pa_cons pe_int pa_nil))) pa_nil)) (pa_cons pe_int pa_nil)))) (nomark _)) (fun σ H Q h => ?i1)) (pss_one 
        (ps_ret pe_bl)) pss_nil) (pss_cons 
      (ps_if (PT.imp (t' := tIf2 cUn) (pt_cmpR (op_neTup (n := 2) hu2) (pe_tup (pa_cons (pe_xfld (pv 2) rfl) (pa_cons (pe_xfld (pv 2) rfl) pa_nil))) (pe_tup (pa_cons (pe_tup (pa_cons (pe_tup (pa_cons pe_str (pa_cons pe_int pa_nil))) pa_nil)) (pa_cons (pe_tup pa_nil) pa_nil))) (nomark _)) (fun σ H Q h => ?i2)) (pss_one 
        (ps_ret pe_bl)) pss_nil) (pss_cons 
      (ps_if (PT.imp (t' := tIf3 K ME) (pt_cmpR (op_neNil huN) (PE.imp (t' := tNoneX K ME) (pe_comp (ys := ["_law_number_here"]) (fr := [0]) rfl (pi_list (pv 3)) (by rfl) (by decide +kernel) rfl (by decide +kernel) (by rfl) (by decide +kernel) ?hcl rfl ?hfr ?hhas (fun C s₂ H₂ fp => PW.pt (pw_or (pt_cmpR op_ne (pe_xfldK (K := K) rfl (pv 0) rfl) (pv 1) (nomark _)) (pw_or (pt_cmpR op_ne (pe_xfldK (K := K) rfl (pv 0) rfl) pe_str (nomark _)) (pw_or1 (pt_not (pt_val (pe_callB (call_isiXK (K := K) rfl) (by rfl) B.isi bt_isinstance (pa_cons (pv 0) (pa_cons (pe_glob (v := .ref ME) (by rfl) mM rfl) pa_nil))))))))) (fun C s₂ H₂ fp => (pv 0))) (fun σ H Q h => ?short)) (pe_lst pa_nil) (nomark _)) (fun σ H Q h => ?i3)) (pss_one 
        (ps_ret pe_bl)) pss_nil) (pss_one 
      (ps_ret (PE.imp (t' := tLast) (pe_and (pe_cmpR op_eq (pe_xfld (pe_makeX MBadText GBadText hr (by rfl) T.mBadText bBadText pass0 (pa_cons (pv 0) pa_nil)) rfl) (pv 0) (nomark _)) (pe_and (pe_cmpR op_eq (pe_xfld (pe_makeX MSteep GSteep hr (by rfl) T.mSteep bSteep pass0 (pa_cons (pv 0) pa_nil)) rfl) (pv 0) (nomark _)) (pe_one (pe_cmpR op_eq (pe_xfld (pe_makeX MHalted GHalted hr (by rfl) T.mHalted bHalted pass0 (pa_cons pe_str pa_nil)) rfl) pe_str (nomark _))))) (fun σ H Q h => ?la)))))))))), ?_⟩
    case cl =>
      obtain ⟨n, h0, q⟩ := h
      refine ⟨_, h0, le1, fun q1 h1 => ⟨two_le, fun q2 h2 => ⟨two_le, fun q3 h3 => ⟨le1, fun q4 h4 => ?_⟩⟩⟩⟩
      have w2 := Same.upd (o := .tup [.ref q1, .int 1]) h2
      have w3 := Same.upd (o := .tup [.ref q2, .int 2]) h3
      have w4 := Same.upd (o := .tup [.ref q3]) h4
      refine ⟨le3, fun e1 he1 => ⟨e1, _, _, _, rfl, upd_same, fun H1 X1 kp1 => ⟨rfl, ?_⟩⟩⟩
      have z1 := same_made he1 kp1
      exact q e1 q1 q2 q3 q4 H1 ((Same.upd h1).trans (w2.trans (w3.trans (w4.trans z1)))) ⟨z1 _ _ (w4 _ _ (w3 _ _ (w2 _ _ upd_same))), z1 _ _ (w4 _ _ (w3 _ _ upd_same)), z1 _ _ (w4 _ _ upd_same), z1 _ _ upd_same⟩ X1
    case un =>
      refine ⟨two_le, fun q5 h5 => ⟨le1, fun q6 h6 => ⟨Nat.zero_le _, fun q7 h7 => ?_⟩⟩⟩
      have w6 := Same.upd (o := .tup [.ref q5]) h6
      have w7 := Same.upd (o := .tup []) h7
      refine ⟨two_le, fun e2 he2 => ⟨e2, _, _, rfl, upd_same, fun H2 X2 kp2 => ⟨rfl, ?_⟩⟩⟩
      have z2 := same_made he2 kp2
      exact h e2 q5 q6 q7 H2 ((Same.upd h5).trans (w6.trans (w7.trans z2))) ⟨z2 _ _ (w7 _ _ (w6 _ _ upd_same)), z2 _ _ (w7 _ _ upd_same), z2 _ _ upd_same⟩ X2
    case th =>
      obtain ⟨n, h0, q⟩ := h
      refine ⟨_, h0, two_le, fun e3 he3 => ⟨e3, _, _, rfl, upd_same, fun H3 X3 kp3 => ⟨rfl, ?_⟩⟩⟩
      refine ⟨_, h0, two_le, fun e4 he4 => ⟨e4, _, _, rfl, upd_same, fun H4 X4 kp4 => ⟨rfl, ?_⟩⟩⟩
      refine ⟨_, h0, two_le, fun e5 he5 => ⟨e5, _, _, rfl, upd_same, fun H5 X5 kp5 => ⟨rfl, ?_⟩⟩⟩
      refine ⟨le3, fun l hl => ?_⟩
      have z4 := same_made he4 kp4
      have z5 := same_made he5 kp5
      have z6 := Same.upd (o := .lst [.ref e3, .ref e4, .ref e5]) hl
      exact q l e3 e4 e5 _ ((same_made he3 kp3).trans (z4.trans (z5.trans z6))) upd_same (X3.same (z4.trans (z5.trans z6))) (X4.same (z5.trans z6)) (X5.same z6)
    case i1 =>
      obtain ⟨n, e1, q1, q2, q3, q4, h0, h1, N, ⟨d1, o1, f1⟩, q⟩ := h
      refine ⟨_, h1, e1, cCl, d1, _, _, rfl, o1, f1, xClash, aClash _ (by simp), lk_next (by decide +kernel) (lk_next (by decide +kernel) (lk1 _ _)),
        _, h1, e1, cCl, d1, _, _, rfl, o1, f1, xClash, aClash _ (by simp), lk_next (by decide +kernel) (lk_here _ _ _),
        _, h1, e1, cCl, d1, _, _, rfl, o1, f1, xClash, aClash _ (by simp), lk_here _ _ _, le3, fun r1 hr1 => ?_⟩
      refine ⟨_, h0, le1, fun p1 i1 => ⟨two_le, fun p2 i2 => ⟨two_le, fun p3 i3 => ⟨le1, fun p4 i4 => ⟨le3, fun r2 hr2 => ?_⟩⟩⟩⟩⟩
      have v1 := Same.upd (o := .tup [.int n, .ref q4, .int 3]) hr1
      have w1 := Same.upd (o := .tup [.int 0]) i1
      have w2 := Same.upd (o := .tup [.ref p1, .int 1]) i2
      have w3 := Same.upd (o := .tup [.ref p2, .int 2]) i3
      have w4 := Same.upd (o := .tup [.ref p3]) i4
      have w5 := Same.upd (o := .tup [.int n, .ref p4, .int 3]) hr2
      have sJ := w1.trans (w2.trans (w3.trans (w4.trans w5)))
      have M := N.same (v1.trans sJ)
      refine ⟨.tup (sJ _ _ upd_same) upd_same (.cons (.int _ _) (.cons (.tup M.d (w5 _ _ upd_same) (.cons (.tup M.c (w5 _ _ (w4 _ _ upd_same)) (.cons (.tup M.b (w5 _ _ (w4 _ _ (w3 _ _ upd_same))) (.cons (.tup M.a (w5 _ _ (w4 _ _ (w3 _ _ (w2 _ _ upd_same)))) (.cons (.int _ _) (.nil _))) (.cons (.int _ _) (.nil _)))) (.cons (.int _ _) (.nil _)))) (.nil _))) (.cons (.int _ _) (.nil _)))), ⟨_, _, rfl, rfl⟩, _, rfl, ?_⟩
      exact q _ (v1.trans sJ)
    case i2 =>
      obtain ⟨e2, q5, q6, q7, h2, N, ⟨d2, o2, f2⟩, q⟩ := h
      refine ⟨_, h2, e2, cUn, d2, _, _, rfl, o2, f2, xUnlike, aUnlike _ (by simp), lk_next (by decide +kernel) (lk1 _ _),
        _, h2, e2, cUn, d2, _, _, rfl, o2, f2, xUnlike, aUnlike _ (by simp), lk_here _ _ _, two_le, fun r3 hr3 => ?_⟩
      refine ⟨two_le, fun p5 i5 => ⟨le1, fun p6 i6 => ⟨Nat.zero_le _, fun p7 i7 => ⟨two_le, fun r4 hr4 => ?_⟩⟩⟩⟩
      have v1 := Same.upd (o := .tup [.ref q6, .ref q7]) hr3
      have w1 := Same.upd (o := .tup [.str "m", .int 1]) i5
      have w2 := Same.upd (o := .tup [.ref p5]) i6
      have w3 := Same.upd (o := .tup []) i7
      have w4 := Same.upd (o := .tup [.ref p6, .ref p7]) hr4
      have sJ := w1.trans (w2.trans (w3.trans w4))
      have M := N.same (v1.trans sJ)
      refine ⟨.tup (sJ _ _ upd_same) upd_same (.cons (.tup M.b (w4 _ _ (w3 _ _ upd_same)) (.cons (.tup M.a (w4 _ _ (w3 _ _ (w2 _ _ upd_same))) (.cons (.str _ _) (.cons (.int _ _) (.nil _)))) (.nil _))) (.cons (.tup M.c (w4 _ _ upd_same) (.nil _)) (.nil _))), ⟨_, _, rfl, rfl⟩, _, rfl, ?_⟩
      exact q _ (v1.trans sJ)
    case i3 =>
      obtain ⟨l, xs, n, h3, hl, h0, hx, q⟩ := h
      refine ⟨l, xs, n, h3, hl, h0, hx, fun D hD => ⟨Nat.zero_le _, fun D2 hD2 => ?_⟩⟩
      have u1 := Same.upd (o := .lst []) hD
      have u2 := u1.trans (Same.upd (o := .lst []) hD2)
      have n1 : D ≠ D2 := fun z => by rw [← z, upd_same] at hD2; cases hD2
      refine ⟨D, D2, [], rfl, rfl, SqL.of (by rw [upd_ne n1]; exact upd_same), SqL.of upd_same, _, rfl, ?_⟩
      exact q _ u2
    case la =>
      obtain ⟨n, h0, q⟩ := h
      refine ⟨_, h0, le1, fun e6 he6 => ⟨e6, _, rfl, upd_same, fun K1 X6 kp6 => ⟨rfl, ?_⟩⟩⟩
      have m6 := same_made he6 kp6
      obtain ⟨d6, o6, f6⟩ := X6
      refine ⟨e6, cBT, d6, _, _, rfl, o6, f6, xBadText, aBadText _ (by simp), lk1 _ _, _, h0, rfl, _, rfl, ?_⟩
      rw [decide_eq_true rfl]
      refine iteT ?_
      refine ⟨_, h0, le1, fun e7 he7 => ⟨e7, _, rfl, upd_same, fun K2 X7 kp7 => ⟨rfl, ?_⟩⟩⟩
      have m7 := m6.trans (same_made he7 kp7)
      obtain ⟨d7, o7, f7⟩ := X7
      refine ⟨e7, cSt, d7, _, _, rfl, o7, f7, xSteep, aSteep _ (by simp), lk1 _ _, _, h0, rfl, _, rfl, ?_⟩
      rw [decide_eq_true rfl]
      refine iteT ?_
      refine ⟨le1, fun e8 he8 => ⟨e8, _, rfl, upd_same, fun K3 X8 kp8 => ⟨rfl, ?_⟩⟩⟩
      have m8 := m7.trans (same_made he8 kp8)
      obtain ⟨d8, o8, f8⟩ := X8
      refine ⟨e8, cHa, d8, _, _, rfl, o8, f8, xHalted, aHalted _ (by simp), lk1 _ _, rfl, ?_⟩
      rw [decide_eq_true rfl]
      exact q _ m8
    case hcl => exact fun y a h => h
    case hfr =>
      intro j y i h1 h2
      match j, h1, h2 with
      | 0, h1, h2 =>
        cases h1
        cases h2
        exact ⟨rfl, rfl, rfl, _, rfl, rfl⟩
      | j + 1, h1, h2 => simp at h1
    case hhas =>
      intro y h
      have hy : y = "_law_number_here" := by
        rcases h with h | h
        · have z : (y, NameKind.cell) ∈ ([(".0", .local), ("_law_e", .local), ("isinstance", .globalImplicit), ("MeasureError", .globalImplicit), ("_law_number_here", .cell)] : List (Str × NameKind)) := lookup_mem h
          simpa using z
        · have z : (y, NameKind.free) ∈ ([(".0", .local), ("_law_e", .local), ("isinstance", .globalImplicit), ("MeasureError", .globalImplicit), ("_law_number_here", .cell)] : List (Str × NameKind)) := lookup_mem h
          simp at z
      subst hy
      exact ⟨_, rfl⟩
    case short =>
      obtain ⟨l, xs, n, h3, hl, h0, hx, q⟩ := h
      refine tcomp_none_lst h3 hl (fun D i x R hD hx2 hR => ?_) q
      have ha : around [0] σ = [some (.int n)] := by unfold around; simp [h0]
      rw [ha]
      obtain ⟨e, C, rfl, y, xc, na, nb, kk⟩ := hx x (List.mem_of_getElem? hx2)
      obtain ⟨dx, oe, fe⟩ := y.same (Same.upd hD)
      refine ⟨_, rfl, e, C, dx, _, _, rfl, oe, fe, xc, na, lk_next (by decide +kernel) (lk1 _ _), _, rfl, rfl, _, rfl, ?_⟩
      refine iteNS rfl ?_
      refine ⟨_, rfl, e, C, dx, _, _, rfl, oe, fe, xc, nb, lk_here _ _ _, rfl, _, rfl, ?_⟩
      refine iteNS rfl ?_
      exact ⟨_, rfl, e, C, .ref ME, .ref ME, true, _, rfl, rfl, oe, xo_kat, xc, kk, _, rfl, hR⟩
    refine ⟨n, rfl, fun e1 q1 q2 q3 q4 H1 s1 N1 X1 => ?_⟩
    intro e2 q5 q6 q7 H2 s2 N2 X2
    refine ⟨n, rfl, fun l e3 e4 e5 H3 s3 hl X3 X4 X5 => ?_⟩
    refine ⟨n, e1, q1, q2, q3, q4, rfl, rfl, N1.same (s2.trans s3), X1.same (s2.trans s3), fun H4 s4 => ?_⟩
    refine iteF ?_
    refine ⟨e2, q5, q6, q7, rfl, N2.same (s3.trans s4), X2.same (s3.trans s4), fun H5 s5 => ?_⟩
    refine iteF ?_
    have s45 := s4.trans s5
    refine ⟨l, _, n, rfl, SqL.of (s45 _ _ hl), rfl, fun x hx => ?_, fun H6 s6 => ?_⟩
    · simp only [List.mem_cons, List.not_mem_nil, or_false] at hx
      rcases hx with rfl | rfl | rfl
      · exact ⟨e3, cNN, rfl, X3.same s45, xNoName, aNoName _ (by simp), aNoName _ (by simp), kNN⟩
      · exact ⟨e4, cTw, rfl, X4.same s45, xTwice, aTwice _ (by simp), aTwice _ (by simp), kTw⟩
      · exact ⟨e5, cBC, rfl, X5.same s45, xBadCount, aBadCount _ (by simp), aBadCount _ (by simp), kBC⟩
    · refine iteF ?_
      exact ⟨n, rfl, fun H7 s7 => q _ (s1.trans (s2.trans (s3.trans (s45.trans (s6.trans s7)))))⟩
end
end Fr

set_option Elab.async false
set_option linter.all false
set_option maxRecDepth 100000
set_option maxHeartbeats 4000000
namespace Fr
open PySem PySem.Spec PyProof.Rows L2 FrM
section
variable {P : Program} {w : World} {K : PySem.W.Frag} {mg : Str → Option Value} {base : Heap}
def spLaw (K : PySem.W.Frag) : Sp := fun vs H Q _ => ∃ (a : Addr) (ns : List Int), vs = [.ref a] ∧ SqL K H a (ns.map V.int) ∧ ns.length ≤ 63 ∧ ∀ H', Q (.bl true) H'
/-- what is no fraction -/
def NoF (H : Hp) (v : V) : Prop := NoT H v ∨ ∃ p xs, v = .ref p ∧ H p = some (.tup xs) ∧ (∀ y ∈ xs, Kd H y) ∧ isFr xs = false
/-- is_fraction of these -/
def spNoF : Sp := fun vs H Q _ => ∃ x, vs = [x] ∧ NoF H x ∧ Q (.bl false) H
theorem NoF.same {H H' : Hp} {v : V} (k : NoF H v) (s : Same H H') : NoF H' v := by
  rcases k with k | ⟨p, xs, e, h, kd, f⟩
  · cases k with
    | non => exact .inl .non
    | str x => exact .inl (.str x)
    | lst e => exact .inl (.lst (s _ _ e))
  · exact .inr ⟨p, xs, e, s _ _ h, fun y hy => (kd y hy).same s, f⟩
/-- things that are no fractions, in a new list -/
def tOdd : TE := fun _ G0 Q => ∀ lo xs GL, Same G0 GL → GL lo = some (.lst xs) → (xs.length : Int) = 12 → (∀ v ∈ xs, NoF GL v) → Q (.ref lo) GL
def oddT : TE := tLst (tCons (tTup (tCons (tC (.int 1)) (tCons (tC (.int 0)) tNil))) (tCons (tTup (tCons (tC (.int 2)) (tCons (tC (.int 4)) tNil))) (tCons (tTup (tCons (tC (.int 1)) (tCons (tUn (rU fun i => .int (-i)) (tC (.int 2))) tNil))) (tCons (tTup (tCons (tC (.bl true)) (tCons (tC (.int 1)) tNil))) (tCons (tTup (tCons (tC (.int 1)) (tCons (tC (.bl true)) tNil))) (tCons (tLst (tCons (tC (.int 1)) (tCons (tC (.int 2)) tNil))) (tCons (tTup (tCons (tC (.int 1)) (tCons (tC (.int 2)) (tCons (tC (.int 3)) tNil)))) (tCons (tTup (tCons (tC (.int 1)) tNil)) (tCons (tC .non) (tCons (tC (.str "1")) (tCons (tTup (tCons (tC (.int 0)) (tCons (tC (.int 2)) tNil))) (tCons (tTup (tCons (tC (.int 1)) (tCons (tC .non) tNil))) tNil))))))))))))
theorem odd_read (σ : L2.St) (G0 : Hp) (Q : VK) (q : tOdd σ G0 Q) : oddT σ G0 Q := by
  refine ⟨(by show 2 ≤ sizeLine; decide), fun t1 ht1 => ⟨(by show 2 ≤ sizeLine; decide), fun t2 ht2 => ⟨_, rfl, (by show 2 ≤ sizeLine; decide), fun t3 ht3 => ⟨(by show 2 ≤ sizeLine; decide), fun t4 ht4 => ⟨(by show 2 ≤ sizeLine; decide), fun t5 ht5 => ⟨(by show 2 ≤ sizeLine; decide), fun t6 ht6 => ⟨(by show 3 ≤ sizeLine; decide), fun t7 ht7 => ⟨(by show 1 ≤ sizeLine; decide), fun t8 ht8 => ⟨(by show 2 ≤ sizeLine; decide), fun t9 ht9 => ⟨(by show 2 ≤ sizeLine; decide), fun t10 ht10 => ⟨(by show 12 ≤ sizeLine; decide), fun lo hlo => ?_⟩⟩⟩⟩⟩⟩⟩⟩⟩⟩⟩
  have w0 : Same G0 G0 := Same.refl G0
  have w1 : Same G0 (L2.upd G0 t1 (.tup [.int 1, .int 0])) := Same.upd ht1
  have x1 : L2.upd G0 t1 (.tup [.int 1, .int 0]) t1 = some (.tup [.int 1, .int 0]) := upd_same
  generalize L2.upd G0 t1 (.tup [.int 1, .int 0]) = G1 at w1 x1 ht2 ht3 ht4 ht5 ht6 ht7 ht8 ht9 ht10 hlo ⊢
  have w2 : Same G1 (L2.upd G1 t2 (.tup [.int 2, .int 4])) := Same.upd ht2
  have x2 : L2.upd G1 t2 (.tup [.int 2, .int 4]) t2 = some (.tup [.int 2, .int 4]) := upd_same
  generalize L2.upd G1 t2 (.tup [.int 2, .int 4]) = G2 at w2 x2 ht3 ht4 ht5 ht6 ht7 ht8 ht9 ht10 hlo ⊢
  have w3 : Same G2 (L2.upd G2 t3 (.tup [.int 1, .int (-2)])) := Same.upd ht3
  have x3 : L2.upd G2 t3 (.tup [.int 1, .int (-2)]) t3 = some (.tup [.int 1, .int (-2)]) := upd_same
  generalize L2.upd G2 t3 (.tup [.int 1, .int (-2)]) = G3 at w3 x3 ht4 ht5 ht6 ht7 ht8 ht9 ht10 hlo ⊢
  have w4 : Same G3 (L2.upd G3 t4 (.tup [.bl true, .int 1])) := Same.upd ht4
  have x4 : L2.upd G3 t4 (.tup [.bl true, .int 1]) t4 = some (.tup [.bl true, .int 1]) := upd_same
  generalize L2.upd G3 t4 (.tup [.bl true, .int 1]) = G4 at w4 x4 ht5 ht6 ht7 ht8 ht9 ht10 hlo ⊢
  have w5 : Same G4 (L2.upd G4 t5 (.tup [.int 1, .bl true])) := Same.upd ht5
  have x5 : L2.upd G4 t5 (.tup [.int 1, .bl true]) t5 = some (.tup [.int 1, .bl true]) := upd_same
  generalize L2.upd G4 t5 (.tup [.int 1, .bl true]) = G5 at w5 x5 ht6 ht7 ht8 ht9 ht10 hlo ⊢
  have w6 : Same G5 (L2.upd G5 t6 (.lst [.int 1, .int 2])) := Same.upd ht6
  have x6 : L2.upd G5 t6 (.lst [.int 1, .int 2]) t6 = some (.lst [.int 1, .int 2]) := upd_same
  generalize L2.upd G5 t6 (.lst [.int 1, .int 2]) = G6 at w6 x6 ht7 ht8 ht9 ht10 hlo ⊢
  have w7 : Same G6 (L2.upd G6 t7 (.tup [.int 1, .int 2, .int 3])) := Same.upd ht7
  have x7 : L2.upd G6 t7 (.tup [.int 1, .int 2, .int 3]) t7 = some (.tup [.int 1, .int 2, .int 3]) := upd_same
  generalize L2.upd G6 t7 (.tup [.int 1, .int 2, .int 3]) = G7 at w7 x7 ht8 ht9 ht10 hlo ⊢
  have w8 : Same G7 (L2.upd G7 t8 (.tup [.int 1])) := Same.upd ht8
  have x8 : L2.upd G7 t8 (.tup [.int 1]) t8 = some (.tup [.int 1]) := upd_same
  generalize L2.upd G7 t8 (.tup [.int 1]) = G8 at w8 x8 ht9 ht10 hlo ⊢
  have w9 : Same G8 (L2.upd G8 t9 (.tup [.int 0, .int 2])) := Same.upd ht9
  have x9 : L2.upd G8 t9 (.tup [.int 0, .int 2]) t9 = some (.tup [.int 0, .int 2]) := upd_same
  generalize L2.upd G8 t9 (.tup [.int 0, .int 2]) = G9 at w9 x9 ht10 hlo ⊢
  have w10 : Same G9 (L2.upd G9 t10 (.tup [.int 1, .non])) := Same.upd ht10
  have x10 : L2.upd G9 t10 (.tup [.int 1, .non]) t10 = some (.tup [.int 1, .non]) := upd_same
  generalize L2.upd G9 t10 (.tup [.int 1, .non]) = G10 at w10 x10 hlo ⊢
  have wL : Same G10 (L2.upd G10 lo (.lst [V.ref t1, .ref t2, .ref t3, .ref t4, .ref t5, .ref t6, .ref t7, .ref t8, .non, .str "1", .ref t9, .ref t10])) := Same.upd hlo
  have xL : L2.upd G10 lo (.lst [V.ref t1, .ref t2, .ref t3, .ref t4, .ref t5, .ref t6, .ref t7, .ref t8, .non, .str "1", .ref t9, .ref t10]) lo = some (.lst [V.ref t1, .ref t2, .ref t3, .ref t4, .ref t5, .ref t6, .ref t7, .ref t8, .non, .str "1", .ref t9, .ref t10]) := upd_same
  generalize L2.upd G10 lo (.lst [V.ref t1, .ref t2, .ref t3, .ref t4, .ref t5, .ref t6, .ref t7, .ref t8, .non, .str "1", .ref t9, .ref t10]) = GL at wL xL ⊢
  have v10 := wL
  have v9 := w10.trans v10
  have v8 := w9.trans v9
  have v7 := w8.trans v8
  have v6 := w7.trans v7
  have v5 := w6.trans v6
  have v4 := w5.trans v5
  have v3 := w4.trans v4
  have v2 := w3.trans v3
  have v1 := w2.trans v2
  have v0 := w1.trans v1
  have y1 := v1 _ _ x1
  have y2 := v2 _ _ x2
  have y3 := v3 _ _ x3
  have y4 := v4 _ _ x4
  have y5 := v5 _ _ x5
  have y6 := v6 _ _ x6
  have y7 := v7 _ _ x7
  have y8 := v8 _ _ x8
  have y9 := v9 _ _ x9
  have y10 := v10 _ _ x10
  have k1 : ∀ {H : Hp} (i : Int), Kd H (.int i) := fun i => .int i
  have nofs : ∀ v ∈ [V.ref t1, .ref t2, .ref t3, .ref t4, .ref t5, .ref t6, .ref t7, .ref t8, .non, .str "1", .ref t9, .ref t10], NoF GL v := fun v hv => by
    simp only [List.mem_cons, List.not_mem_nil, or_false] at hv
    rcases hv with rfl | rfl | rfl | rfl | rfl | rfl | rfl | rfl | rfl | rfl | rfl | rfl
    · exact .inr ⟨_, _, rfl, y1, by simp [k1], rfl⟩
    · exact .inr ⟨_, _, rfl, y2, by simp [k1], by decide⟩
    · exact .inr ⟨_, _, rfl, y3, by simp [k1], rfl⟩
    · exact .inr ⟨_, _, rfl, y4, by simp [k1]; exact .bl _, rfl⟩
    · exact .inr ⟨_, _, rfl, y5, by simp [k1]; exact .bl _, rfl⟩
    · exact .inl (.lst y6)
    · exact .inr ⟨_, _, rfl, y7, by simp [k1], rfl⟩
    · exact .inr ⟨_, _, rfl, y8, by simp [k1], rfl⟩
    · exact .inl .non
    · exact .inl (.str _)
    · exact .inr ⟨_, _, rfl, y9, by simp [k1], by decide⟩
    · exact .inr ⟨_, _, rfl, y10, by simp [k1]; exact .non, rfl⟩
  exact q lo _ GL v0 xL rfl nofs
/-- the value of an assignment -/
def asgVal (s : Stmt) : Expr := match s with
  | .Assign _ e _ => e
  | _ => .Constant .none 0 ⟨0, 0, 0, 0⟩
theorem odd_pe0 {X : Cx} : QE X (asgVal ((defBody lLaw).getD 3 (.Pass ⟨0, 0, 0, 0⟩))) oddT := (q_lst (qc (q_tup (qc q_int (qc q_int q_nil rfl) rfl)) (qc (q_tup (qc q_int (qc q_int q_nil rfl) rfl)) (qc (q_tup (qc q_int (qc (q_neg q_int) q_nil rfl) rfl)) (qc (q_tup (qc q_bl (qc q_int q_nil rfl) rfl)) (qc (q_tup (qc q_int (qc q_bl q_nil rfl) rfl)) (qc (q_lst (qc q_int (qc q_int q_nil rfl) rfl)) (qc (q_tup (qc q_int (qc q_int (qc q_int q_nil rfl) rfl) rfl)) (qc (q_tup (qc q_int q_nil rfl)) (qc q_non (qc q_str (qc (q_tup (qc q_int (qc q_int q_nil rfl) rfl)) (qc (q_tup (qc q_int (qc q_non q_nil rfl) rfl)) q_nil rfl) rfl) rfl) rfl) rfl) rfl) rfl) rfl) rfl) rfl) rfl) rfl))
theorem odd_pe {X : Cx} : PE X (asgVal ((defBody lLaw).getD 3 (.Pass ⟨0, 0, 0, 0⟩))) tOdd := PE.imp odd_pe0.out odd_read
theorem scLaw : FnScope ["_law_script", "_law_made_here", "_law_odd", "_law_here", "_law_k", "_law_number_here", "_law_other", "_law_less", "_law_found", "_law_due"] ["_law_script"] (defScope lLaw) := ⟨rfl, rfl, rfl, by decide +kernel, rfl, by decide +kernel, by decide +kernel⟩
theorem ok_law {f fMa fRe fN fNe fEr fI fGo fS fLe : Addr} {fd fdMa fdRe fdN fdNe fdEr fdI fdGo fdS fdLe : FuncData} (F : Fun K "law" "law" lLaw f fd) (B : Bn mg)
    (FMa : Fun K "_law_made" "_law_made" lMade fMa fdMa) (bMa : Binds K fdMa ["_law_script"] []) (mMa : mg "_law_made" = some (.ref fMa)) (GMa : FnOk P w K mg base CX0 5 fMa fdMa ["_law_script"] (spMade K))
    (FRe : Fun K "_law_refused" "_law_refused" lRef fRe fdRe) (bRe : Binds K fdRe ["_law_number_here"] []) (mRe : mg "_law_refused" = some (.ref fRe)) (GRe : FnOk P w K mg base CX0 5 fRe fdRe ["_law_number_here"] spLN)
    (FN : Fun K "_law_number" "_law_number" lNum fN fdN) (bN : Binds K fdN ["_law_script", "_law_k"] []) (mN : mg "_law_number" = some (.ref fN)) (GN : FnOk P w K mg base CX0 5 fN fdN ["_law_script", "_law_k"] (spNum K))
    (FNe : Fun K "_law_needed" "_law_needed" lNeed fNe fdNe) (bNe : Binds K fdNe ["_law_number_here"] []) (mNe : mg "_law_needed" = some (.ref fNe)) (GNe : FnOk P w K mg base CX0 5 fNe fdNe ["_law_number_here"] spLN)
    (FEr : Fun K "_law_made_errors" "_law_made_errors" lErr fEr fdEr) (bEr : Binds K fdEr ["_law_number_here"] []) (mEr : mg "_law_made_errors" = some (.ref fEr)) (GEr : FnOk P w K mg base CX0 5 fEr fdEr ["_law_number_here"] spLN)
    (FI : Fun K "is_fraction" "is_fraction" sIsF fI fdI) (bI : Binds K fdI ["thing"] []) (mI : mg "is_fraction" = some (.ref fI)) (GI : FnOk P w K mg base CX0 5 fI fdI ["thing"] spIsF)
    (FGo : Fun K "_law_gone_on" "_law_gone_on" lGone fGo fdGo) (bGo : Binds K fdGo ["_law_here", "_law_other", "_law_number_here"] []) (mGo : mg "_law_gone_on" = some (.ref fGo)) (GGo : FnOk P w K mg base CX0 5 fGo fdGo ["_law_here", "_law_other", "_law_number_here"] spGone)
    (FS : Fun K "_law_shortest" "_law_shortest" lSho fS fdS) (bS : Binds K fdS ["_law_found"] []) (mS : mg "_law_shortest" = some (.ref fS)) (GS : FnOk P w K mg base CX0 5 fS fdS ["_law_found"] spSho)
    (FLe : Fun K "is_less" "is_less" sLess fLe fdLe) (bLe : Binds K fdLe ["one", "other"] []) (mLe : mg "is_less" = some (.ref fLe)) (GLe : FnOk P w K mg base CX0 5 fLe fdLe ["one", "other"] spLess) :
    FnOk P w K mg base CX0 6 f fd ["_law_script"] (spLaw K) := by
  have GI2 : FnOk P w K mg base CX0 5 fI fdI ["thing"] spNoF := GI.imp fun vs H Q E ⟨x, e, n, q⟩ => ⟨x, e, by
    rcases n with k | ⟨p, xs, e2, h, kd, f⟩
    · exact .inl ⟨k, q⟩
    · exact .inr ⟨p, xs, e2, h, kd, by rw [f]; exact q⟩⟩
  refine F.ok scLaw (fun vs H Q E h => ?_) (fun cdv A outer s H vs Q E hr h => ?_)
  · obtain ⟨a, ns, rfl, _⟩ := h
    rfl
  · obtain ⟨a, ns, rfl, hS, hlen, q⟩ := h
    refine ⟨_, QB.out (b_cons 
      (s_set 1 scLaw.nd rfl (Or.inl rfl) (q_call GMa hr rfl mMa FMa.kp bMa .nil pass0 (qc (qv 0 rfl (.inl rfl) rfl rfl) q_nil rfl) rfl rfl rfl) rfl (.inr rfl)) (b_cons 
      (s_if (t_w (w_or (t_isN (qv 1 rfl (.inl rfl) rfl rfl) rfl) (w_or1 (t_not (t_val (q_call GRe hr rfl mRe FRe.kp bRe .nil pass0 (qc (q_call GN hr rfl mN FN.kp bN .nil pass0 (qc (qv 0 rfl (.inl rfl) rfl rfl) (qc q_int q_nil rfl) rfl) rfl rfl rfl) q_nil rfl) rfl rfl rfl) (fun _ => rfl)))))) (b_one 
        (s_ret q_bl)) b_nil) (b_cons 
      (s_if (t_w (w_or (t_not (t_val (q_call GNe hr rfl mNe FNe.kp bNe .nil pass0 (qc (q_call GN hr rfl mN FN.kp bN .nil pass0 (qc (qv 0 rfl (.inl rfl) rfl rfl) (qc q_int q_nil rfl) rfl) rfl rfl rfl) q_nil rfl) rfl rfl rfl) (fun _ => rfl))) (w_or1 (t_not (t_val (q_call GEr hr rfl mEr FEr.kp bEr .nil pass0 (qc (q_mod (q_call GN hr rfl mN FN.kp bN .nil pass0 (qc (qv 0 rfl (.inl rfl) rfl rfl) (qc q_int q_nil rfl) rfl) rfl rfl rfl) q_int) q_nil rfl) rfl rfl rfl) (fun _ => rfl)))))) (b_one 
        (s_ret q_bl)) b_nil) (b_cons 
      (s_set 2 scLaw.nd rfl (Or.inl rfl) ⟨odd_pe⟩ rfl (.inr rfl)) (b_cons 
      (s_if (t_cmp op_isnot_bl (q_call GI2 hr rfl mI FI.kp bI .nil pass0 (qc (q_ixl (K := K) rfl (qv 2 rfl (.inl rfl) rfl rfl) (q_mod (q_call GN hr rfl mN FN.kp bN .nil pass0 (qc (qv 0 rfl (.inl rfl) rfl rfl) (qc q_int q_nil rfl) rfl) rfl rfl rfl) q_int) (fun _ _ => rfl)) q_nil rfl) rfl rfl rfl) q_bl rfl) (b_one 
        (s_ret q_bl)) b_nil) (b_cons 
      (s_set 3 scLaw.nd rfl (Or.inl rfl) (q_ixl (K := K) rfl (qv 1 rfl (.inl rfl) rfl rfl) q_int (fun _ _ => rfl)) rfl (.inr rfl)) (b_cons 
      (s_for PassesOwn.never rfl (i_rng2 rfl B.range (qc q_int (qc q_int q_nil rfl) rfl) rfl rfl) (g_name 4 scLaw.nd rfl (Or.inl rfl) (.inr rfl)) (b_cons 
        (s_set 5 scLaw.nd rfl (Or.inl rfl) (q_call GN hr rfl mN FN.kp bN .nil pass0 (qc (qv 0 rfl (.inl rfl) rfl rfl) (qc (q_add q_int (qv 4 rfl (.inl rfl) rfl rfl)) q_nil rfl) rfl) rfl rfl rfl) rfl (.inr rfl)) (b_cons 
        (s_set 6 scLaw.nd rfl (Or.inl rfl) (q_ixl (K := K) rfl (qv 1 rfl (.inl rfl) rfl rfl) (q_mod (qv 5 rfl (.inl rfl) rfl rfl) (q_callB (call_lenK (K := K) rfl) rfl B.len bt_len (qc (qv 1 rfl (.inl rfl) rfl rfl) q_nil rfl) (by decide) rfl rfl rfl)) (fun _ _ => rfl)) rfl (.inr rfl)) (b_cons 
        (s_asg (q_call GGo hr rfl mGo FGo.kp bGo .nil pass0 (qc (qv 3 rfl (.inl rfl) rfl rfl) (qc (qv 6 rfl (.inl rfl) rfl rfl) (qc (qv 5 rfl (.inl rfl) rfl rfl) q_nil rfl) rfl) rfl) rfl rfl rfl) (g_tup (K := K) rfl rfl (g_cons (g_name 8 scLaw.nd rfl (Or.inl rfl) (.inr rfl)) (g_cons (g_name 9 scLaw.nd rfl (Or.inl rfl) (.inr rfl)) g_nil rfl) rfl) rfl rfl) rfl rfl rfl) (b_cons 
        (s_if (t_w (w_or (t_not (t_val (q_call GS hr rfl mS FS.kp bS .nil pass0 (qc (qv 8 rfl (.inl rfl) rfl rfl) q_nil rfl) rfl rfl rfl) (fun _ => rfl))) (w_or1 (t_cmp op_ne (q_mulS (q_ixt (K := K) rfl (qv 8 rfl (.inl rfl) rfl rfl) q_int (fun _ _ => rfl)) (q_ixt (K := K) rfl (qv 9 rfl (.inl rfl) rfl rfl) q_int (fun _ _ => rfl))) (q_mulS (q_ixt (K := K) rfl (qv 9 rfl (.inl rfl) rfl rfl) q_int (fun _ _ => rfl)) (q_ixt (K := K) rfl (qv 8 rfl (.inl rfl) rfl rfl) q_int (fun _ _ => rfl))) rfl)))) (b_one 
          (s_ret q_bl)) b_nil) (b_cons 
        (s_set 7 scLaw.nd rfl (Or.inl rfl) (q_call GLe hr rfl mLe FLe.kp bLe .nil pass0 (qc (qv 8 rfl (.inl rfl) rfl rfl) (qc (qv 6 rfl (.inl rfl) rfl rfl) q_nil rfl) rfl) rfl rfl rfl) rfl (.inr rfl)) (b_cons 
        (s_if (t_w (w_or (t_not (t_val (q_callB (call_isiK (K := K) rfl) rfl B.isi bt_isinstance (qc (qv 7 rfl (.inl rfl) rfl rfl) (qc (q_bltn (v := .ty "bool") rfl B.bool bt_bool rfl (by decide) rfl) q_nil rfl) rfl) (by decide) rfl rfl rfl) (fun _ => rfl))) (w_or1 (t_cmp op_ne (qv 7 rfl (.inl rfl) rfl rfl) (q_cmp op_lt (q_mulS (q_ixt (K := K) rfl (qv 8 rfl (.inl rfl) rfl rfl) q_int (fun _ _ => rfl)) (q_ixt (K := K) rfl (qv 6 rfl (.inl rfl) rfl rfl) q_int (fun _ _ => rfl))) (q_mulS (q_ixt (K := K) rfl (qv 6 rfl (.inl rfl) rfl rfl) q_int (fun _ _ => rfl)) (q_ixt (K := K) rfl (qv 8 rfl (.inl rfl) rfl rfl) q_int (fun _ _ => rfl))) rfl) rfl)))) (b_one 
          (s_ret q_bl)) b_nil) (b_one 
        (s_set 3 scLaw.nd rfl (Or.inl rfl) (qv 8 rfl (.inl rfl) rfl rfl) rfl (.inr rfl))))))))) (fun _ => rfl)) (b_one 
      (s_ret q_bl))))))))), ?_⟩
    refine ⟨_, rfl, a, ns, rfl, hS, hlen, fun l ps H1 s1 M1 n1 n6 => ?_⟩
    refine ⟨_, rfl, _, rfl, ?_⟩
    refine iteF ?_
    refine ⟨_, rfl, a, ns, 20, rfl, s1.seq hS, hlen, by decide, by decide, fun r2 H2 s2 _ _ => ⟨r2, rfl, fun H3 s3 => ⟨_, rfl, ?_⟩⟩⟩
    refine iteF ?_
    have s13 := s2.trans s3
    refine ⟨_, rfl, a, ns, 18, rfl, (s1.trans s13).seq hS, hlen, by decide, by decide, fun r4 H4 s4 _ _ => ⟨r4, rfl, fun H5 s5 => ⟨_, rfl, ?_⟩⟩⟩
    refine iteF ?_
    have s15 := s13.trans (s4.trans s5)
    refine ⟨_, rfl, a, ns, 17, rfl, (s1.trans s15).seq hS, hlen, by decide, by decide, fun r6 H6 s6 _ _ => ⟨_, _, rfl, rfl, (by decide : (0 : Int) < 99), _, rfl, fun G0 s7 => ⟨_, rfl, ?_⟩⟩⟩
    refine iteF ?_
    have s10 : Same H1 G0 := s15.trans (s6.trans s7)
    intro lo xo GL v0 xL lenL nofs
    have sL : Same H1 GL := s10.trans v0
    refine ⟨_, rfl, _, rfl, a, ns, 19, rfl, (s1.trans sL).seq hS, hlen, by decide, by decide, fun r8 H8 s8 r80 r81 => ?_⟩
    obtain ⟨x, hx, nx⟩ := at_all (n := r8) (m := 12) nofs lenL (by decide)
    refine ⟨_, _, rfl, rfl, (by decide : (0 : Int) < 12), lo, _, _, x, rfl, rfl, SqL.of (s8 _ _ xL), hx, x, rfl, ?_⟩
    have nx8 := nx.same s8
    have sA : Same H1 H8 := sL.trans s8
    have M8 := M1.same sA
    have sH8 := s1.trans sA
    refine ⟨nx8, ?_⟩
    refine ⟨_, _, rfl, rfl, _, rfl, ?_⟩
    refine iteF ?_
    obtain ⟨p0, pr, rfl⟩ : ∃ p0 pr, ps = p0 :: pr := by
      cases ps with
      | nil => exact absurd n1 (by decide)
      | cons p0 pr => exact ⟨p0, pr, rfl⟩
    refine ⟨_, rfl, l, _, _, .ref p0, rfl, rfl, SqL.of M8.lst, atI_nat (j := 0) rfl, ?_⟩
    obtain ⟨a0, b0, t0, hb0, _, za0, zb0⟩ := M8.all p0 (by simp)
    refine ⟨1, 9, rfl, ⟨by decide, by decide, by decide, by decide⟩, for_range (lo := 1) (n := ((9 : Int) - 1).toNat)
      (fun i σ H' => ∃ (ph : Addr) (x y : Int) (t4 t5 t6 t7 t8 t9 : Option V), σ = [some (.ref a), some (.ref l), some (.ref lo), some (.ref ph), t4, t5, t6, t7, t8, t9] ∧ Same H8 H' ∧ Tp H' ph x y ∧ 0 < y ∧ Sz (201 + 41 * i) x ∧ Sz (201 + 41 * i) y)
      ⟨p0, a0, b0, none, none, none, none, none, none, rfl, Same.refl _, t0, hb0, za0.mono (by decide), zb0.mono (by decide)⟩ ?_ ?_⟩
    · rintro i σ H' hi ⟨ph, x, y, t4, t5, t6, t7, t8, t9, rfl, sH, tph, hy, zx, zy⟩
      have hi8 : i < 8 := hi
      refine ⟨_, rfl, _, rfl, _, _, rfl, rfl, a, ns, _, rfl, (sH8.trans sH).seq hS, hlen, by omega, by omega, fun r Ha sa r0 r1 => ?_⟩
      have Ma := M8.same (sH.trans sa)
      have pw : ∀ v ∈ (p0 :: pr).map V.ref, ∃ p a b, v = .ref p ∧ Tp Ha p a b ∧ 0 < b ∧ Int.gcd a b = 1 ∧ Sz 40 a ∧ Sz 40 b := fun v hv => by
        obtain ⟨p, hp, rfl⟩ := List.mem_map.mp hv
        obtain ⟨a, b, h⟩ := Ma.all p hp
        exact ⟨p, a, b, rfl, h⟩
      have hpos : (0 : Int) < (((p0 :: pr).map V.ref).length : Int) := by simp
      obtain ⟨v, hv, po, c, d, rfl, tpo, hd, hg, zc, zd⟩ := at_all (n := r) pw rfl hpos
      refine ⟨_, rfl, _, rfl, _, rfl, l, _, rfl, .inl (SqL.of Ma.lst), _, _, rfl, rfl, hpos, l, _, _, .ref po, rfl, rfl, SqL.of Ma.lst, hv, ?_⟩
      have tpa := sa _ _ tph
      refine ⟨_, rfl, _, rfl, _, rfl, ph, po, x, y, c, d, r, 201 + 41 * i, rfl, tpa, tpo, hy, hd, hg, zx, zy, by omega, by omega, zc, zd, fun rr rf rd x' y' u' v' Hb sb trr trf trd hy' hg' hxy zx' zy' zu' zv' => ?_⟩
      refine ⟨rr, _, rfl, SqT.of trr, rfl, _, _, rfl, _, _, rfl, rfl, ?_⟩
      have w19 : ∀ {z : Int}, Sz (201 + 41 * i + 41) z → Sz 1900 z := fun h => h.mono (by omega)
      have w40 : ∀ {z : Int}, Sz (201 + 41 * i + 41) z → Sz 4000 z := fun h => h.mono (by omega)
      have u40 : ∀ {z : Int}, Sz 1900 z → Sz 4000 z := fun h => h.mono (by decide)
      have c19 : ∀ {z : Int}, Sz 40 z → Sz 1900 z := fun h => h.mono (by decide)
      refine ⟨_, rfl, rf, x', y', rfl, trf, hy', hg', w19 zx', w19 zy', fun Hc sc => ⟨_, rfl, ?_⟩⟩
      refine iteF ?_
      have trf' := sc _ _ trf
      have trd' := sc _ _ trd
      have tpo' := sc _ _ (sb _ _ tpo)
      refine ⟨_, rfl, rf, _, _, _, rfl, rfl, SqT.of trf', rfl, _, rfl, rd, _, _, _, rfl, rfl, SqT.of trd', rfl, _, _, rfl, rfl, ⟨w40 zx', u40 zv'⟩, _, rfl, rd, _, _, _, rfl, rfl, SqT.of trd', rfl, _, rfl, rf, _, _, _, rfl, rfl, SqT.of trf', rfl, _, _, rfl, rfl, ⟨u40 zu', w40 zy'⟩, rfl, _, rfl, ?_⟩
      refine iteNS (congrArg V.int hxy) ?_
      refine ⟨_, rfl, _, rfl, rf, po, x', y', c, d, rfl, trf', tpo', w19 zx', w19 zy', c19 zc, c19 zd, ?_⟩
      refine ⟨_, rfl, _, .ty "bool", _, .type "bool", _, rfl, rfl, .bl _, k_bool_bool K, _, rfl, ?_⟩
      refine iteF ?_
      refine ⟨_, rfl, _, rfl, rf, _, _, _, rfl, rfl, SqT.of trf', rfl, _, rfl, po, _, _, _, rfl, rfl, SqT.of tpo', rfl, _, _, rfl, rfl, ⟨w40 zx', u40 (c19 zd)⟩, _, rfl, po, _, _, _, rfl, rfl, SqT.of tpo', rfl, _, rfl, rf, _, _, _, rfl, rfl, SqT.of trf', rfl, _, _, rfl, rfl, ⟨u40 (c19 zc), w40 zy'⟩, _, _, rfl, rfl, rfl, _, rfl, ?_⟩
      refine iteNS rfl ?_
      exact ⟨_, rfl, rf, x', y', _, _, _, _, _, _, rfl, sH.trans (sa.trans (sb.trans sc)), trf', hy', zx'.mono (by omega), zy'.mono (by omega)⟩
    · rintro σ H' ⟨ph, x, y, t4, t5, t6, t7, t8, t9, rfl, sH, tph, hy, zx, zy⟩
      exact q _
end
end Fr

set_option Elab.async false
set_option linter.all false
set_option maxRecDepth 100000
set_option maxHeartbeats 4000000
namespace Fr
open PySem PySem.Spec PyProof.Rows L2 FrM
/-- what is asked of a class of refusals without an __init__ -/
def xOk (K : PySem.W.Frag) (C : Addr) : Bool := (PySem.W.clsIn K C).any (fun cd => PySem.W.excMro cd.mro) && PySem.W.hasDictIn K C &&
  PySem.W.findIn K (.ref C) "__getattribute__" == some (some (.builtin "BaseException.__getattribute__")) && PySem.W.findIn K (.ref C) "__getattr__" == some none && PySem.W.findIn K (.ref C) "__setattr__" == some (some (.builtin "object.__setattr__")) &&
  PySem.W.mroIn K C (.type "BaseException") == some true && PySem.W.mroIn K C (.type "object") == some true && PySem.W.findIn K (.ref C) "__class__" == some (some (.builtin "object.__class__"))
theorem x_mk {K : PySem.W.Frag} {C : Addr} (a : CA K) (h : xOk K C = true) : XCls K C := by
  unfold xOk at h
  simp only [Bool.and_eq_true, beq_iff_eq] at h
  obtain ⟨⟨⟨⟨⟨⟨⟨h4, h5⟩, h6⟩, h7⟩, h8⟩, h9⟩, h10⟩, h11⟩ := h
  exact ⟨h6, h7, h8, h9, h10, h4, h5, h11, a.cg, a.ct⟩
theorem len1 {us : List Value} (h : us.length = 1) : ∃ a, us = [a] := List.length_eq_one_iff.mp h
theorem len2 {us : List Value} (h : us.length = 2) : ∃ a b, us = [a, b] := by
  cases us with
  | nil => cases h
  | cons a r =>
    obtain ⟨b, rfl⟩ := len1 (us := r) (by simpa using h)
    exact ⟨a, b, rfl⟩
theorem len3 {us : List Value} (h : us.length = 3) : ∃ a b c, us = [a, b, c] := by
  cases us with
  | nil => cases h
  | cons a r =>
    obtain ⟨b, c, rfl⟩ := len2 (us := r) (by simpa using h)
    exact ⟨a, b, c, rfl⟩
theorem len4 {us : List Value} (h : us.length = 4) : ∃ a b c d, us = [a, b, c, d] := by
  cases us with
  | nil => cases h
  | cons a r =>
    obtain ⟨b, c, d, rfl⟩ := len3 (us := r) (by simpa using h)
    exact ⟨a, b, c, d, rfl⟩
theorem all_mk {l : PySem.W.OpenLaw} {w : World} {K : PySem.W.Frag} {h : Heap} {mg : Str → Option Value} {fa f0 f1 T1 f2 f3 T3 f4 f5 f6 f7 f8 f9 f10 f11 f12 f13 f14 f15 f16 f17 f18 f19 f20 f21 f22 f23 f24 f25 CBadText fBadText CNoName fNoName CTwice fTwice CBadCount fBadCount CSteep fSteep CClash fClash CUnlike fUnlike CHalted fHalted BN ME BU : Addr} (X : K.In h) (G : h.Ns mainGlobals mg) (hfa : mg "law" = some (.ref fa))
    {od0 an0 od1 an1 td1 od2 an2 od3 an3 td3 od4 an4 od5 an5 od6 an6 od7 an7 od8 an8 od9 an9 od10 an10 od11 an11 od12 an12 od13 an13 od14 an14 od15 an15 od16 an16 od17 an17 od18 an18 od19 an19 od20 an20 od21 an21 od22 an22 od23 an23 od24 an24 od25 an25 odBadText anBadText odNoName anNoName odTwice anTwice odBadCount anBadCount odSteep anSteep odClash anClash odUnlike anUnlike odHalted anHalted : Option Addr} {sl0 sl1 ts1 sl2 sl3 ts3 sl4 sl5 sl6 sl7 sl8 sl9 sl10 sl11 sl12 sl13 sl14 sl15 sl16 sl17 sl18 sl19 sl20 sl21 sl22 sl23 sl24 sl25 slBadText slNoName slTwice slBadCount slSteep slClash slUnlike slHalted : Array (Option Value)} {oc0 kV0 dc0 pm0 cd0 ct0 oc1 kV1 dc1 pm1 cd1 ct1 to1 oc2 kV2 dc2 pm2 cd2 ct2 oc3 kV3 dc3 pm3 cd3 ct3 to3 oc4 kV4 dc4 pm4 cd4 ct4 oc5 kV5 dc5 pm5 cd5 ct5 oc6 kV6 dc6 pm6 cd6 ct6 oc7 kV7 dc7 pm7 cd7 ct7 oc8 kV8 dc8 pm8 cd8 ct8 oc9 kV9 dc9 pm9 cd9 ct9 oc10 kV10 dc10 pm10 cd10 ct10 oc11 kV11 dc11 pm11 cd11 ct11 oc12 kV12 dc12 pm12 cd12 ct12 oc13 kV13 dc13 pm13 cd13 ct13 oc14 kV14 dc14 pm14 cd14 ct14 oc15 kV15 dc15 pm15 cd15 ct15 oc16 kV16 dc16 pm16 cd16 ct16 oc17 kV17 dc17 pm17 cd17 ct17 oc18 kV18 dc18 pm18 cd18 ct18 oc19 kV19 dc19 pm19 cd19 ct19 oc20 kV20 dc20 pm20 cd20 ct20 oc21 kV21 dc21 pm21 cd21 ct21 oc22 kV22 dc22 pm22 cd22 ct22 oc23 kV23 dc23 pm23 cd23 ct23 oc24 kV24 dc24 pm24 cd24 ct24 oc25 kV25 dc25 pm25 cd25 ct25 ocBadText kVBadText dcBadText pmBadText cdBadText ctBadText ocNoName kVNoName dcNoName pmNoName cdNoName ctNoName ocTwice kVTwice dcTwice pmTwice cdTwice ctTwice ocBadCount kVBadCount dcBadCount pmBadCount cdBadCount ctBadCount ocSteep kVSteep dcSteep pmSteep cdSteep ctSteep ocClash kVClash dcClash pmClash cdClash ctClash ocUnlike kVUnlike dcUnlike pmUnlike cdUnlike ctUnlike ocHalted kVHalted dcHalted pmHalted cdHalted ctHalted : Value} {tn1 tn3 : Nat} {tk3 : Tok}
    (a0 : PySem.W.nsIn K mainGlobals "is_whole" = some (some (.ref f0)))
    (l0 : K.lookup f0 = some ⟨oc0, od0, .func (PySem.W.fnOf "is_whole" "is_whole" (defArgs sWhole) (defBody sWhole) (defScope sWhole) .none kV0 dc0 pm0 an0 cd0 ct0), sl0⟩)
    (c0 : PySem.W.codeIn K cd0 "is_whole" = true)
    (k0 : PySem.W.keepIn K (.ref f0) = true)
    (a1 : PySem.W.nsIn K mainGlobals "need_whole" = some (some (.ref f1)))
    (l1 : K.lookup f1 = some ⟨oc1, od1, .func (PySem.W.fnOf "need_whole" "need_whole" (defArgs sNeed) (defBody sNeed) (defScope sNeed) (.ref T1) kV1 dc1 pm1 an1 cd1 ct1), sl1⟩)
    (c1 : PySem.W.codeIn K cd1 "need_whole" = true)
    (k1 : PySem.W.keepIn K (.ref f1) = true)
    (d1 : K.lookup T1 = some ⟨to1, td1, .seq #[.none] tn1, ts1⟩)
    (a2 : PySem.W.nsIn K mainGlobals "common_divisor" = some (some (.ref f2)))
    (l2 : K.lookup f2 = some ⟨oc2, od2, .func (PySem.W.fnOf "common_divisor" "common_divisor" (defArgs sDiv) (defBody sDiv) (defScope sDiv) .none kV2 dc2 pm2 an2 cd2 ct2), sl2⟩)
    (c2 : PySem.W.codeIn K cd2 "common_divisor" = true)
    (k2 : PySem.W.keepIn K (.ref f2) = true)
    (a3 : PySem.W.nsIn K mainGlobals "fraction" = some (some (.ref f3)))
    (l3 : K.lookup f3 = some ⟨oc3, od3, .func (PySem.W.fnOf "fraction" "fraction" (defArgs sFrac) (defBody sFrac) (defScope sFrac) (.ref T3) kV3 dc3 pm3 an3 cd3 ct3), sl3⟩)
    (c3 : PySem.W.codeIn K cd3 "fraction" = true)
    (k3 : PySem.W.keepIn K (.ref f3) = true)
    (d3 : K.lookup T3 = some ⟨to3, td3, .seq #[.int 1 tk3] tn3, ts3⟩)
    (a4 : PySem.W.nsIn K mainGlobals "is_fraction" = some (some (.ref f4)))
    (l4 : K.lookup f4 = some ⟨oc4, od4, .func (PySem.W.fnOf "is_fraction" "is_fraction" (defArgs sIsF) (defBody sIsF) (defScope sIsF) .none kV4 dc4 pm4 an4 cd4 ct4), sl4⟩)
    (c4 : PySem.W.codeIn K cd4 "is_fraction" = true)
    (k4 : PySem.W.keepIn K (.ref f4) = true)
    (a5 : PySem.W.nsIn K mainGlobals "sum_of" = some (some (.ref f5)))
    (l5 : K.lookup f5 = some ⟨oc5, od5, .func (PySem.W.fnOf "sum_of" "sum_of" (defArgs sSum) (defBody sSum) (defScope sSum) .none kV5 dc5 pm5 an5 cd5 ct5), sl5⟩)
    (c5 : PySem.W.codeIn K cd5 "sum_of" = true)
    (k5 : PySem.W.keepIn K (.ref f5) = true)
    (a6 : PySem.W.nsIn K mainGlobals "product_of" = some (some (.ref f6)))
    (l6 : K.lookup f6 = some ⟨oc6, od6, .func (PySem.W.fnOf "product_of" "product_of" (defArgs sProd) (defBody sProd) (defScope sProd) .none kV6 dc6 pm6 an6 cd6 ct6), sl6⟩)
    (c6 : PySem.W.codeIn K cd6 "product_of" = true)
    (k6 : PySem.W.keepIn K (.ref f6) = true)
    (a7 : PySem.W.nsIn K mainGlobals "whole_power" = some (some (.ref f7)))
    (l7 : K.lookup f7 = some ⟨oc7, od7, .func (PySem.W.fnOf "whole_power" "whole_power" (defArgs sWPow) (defBody sWPow) (defScope sWPow) .none kV7 dc7 pm7 an7 cd7 ct7), sl7⟩)
    (c7 : PySem.W.codeIn K cd7 "whole_power" = true)
    (k7 : PySem.W.keepIn K (.ref f7) = true)
    (a8 : PySem.W.nsIn K mainGlobals "turned_over" = some (some (.ref f8)))
    (l8 : K.lookup f8 = some ⟨oc8, od8, .func (PySem.W.fnOf "turned_over" "turned_over" (defArgs sTurn) (defBody sTurn) (defScope sTurn) .none kV8 dc8 pm8 an8 cd8 ct8), sl8⟩)
    (c8 : PySem.W.codeIn K cd8 "turned_over" = true)
    (k8 : PySem.W.keepIn K (.ref f8) = true)
    (a9 : PySem.W.nsIn K mainGlobals "power_of" = some (some (.ref f9)))
    (l9 : K.lookup f9 = some ⟨oc9, od9, .func (PySem.W.fnOf "power_of" "power_of" (defArgs sPow) (defBody sPow) (defScope sPow) .none kV9 dc9 pm9 an9 cd9 ct9), sl9⟩)
    (c9 : PySem.W.codeIn K cd9 "power_of" = true)
    (k9 : PySem.W.keepIn K (.ref f9) = true)
    (a10 : PySem.W.nsIn K mainGlobals "is_less" = some (some (.ref f10)))
    (l10 : K.lookup f10 = some ⟨oc10, od10, .func (PySem.W.fnOf "is_less" "is_less" (defArgs sLess) (defBody sLess) (defScope sLess) .none kV10 dc10 pm10 an10 cd10 ct10), sl10⟩)
    (c10 : PySem.W.codeIn K cd10 "is_less" = true)
    (k10 : PySem.W.keepIn K (.ref f10) = true)
    (a11 : PySem.W.nsIn K mainGlobals "shown_fraction" = some (some (.ref f11)))
    (l11 : K.lookup f11 = some ⟨oc11, od11, .func (PySem.W.fnOf "shown_fraction" "shown_fraction" (defArgs sShow) (defBody sShow) (defScope sShow) .none kV11 dc11 pm11 an11 cd11 ct11), sl11⟩)
    (c11 : PySem.W.codeIn K cd11 "shown_fraction" = true)
    (k11 : PySem.W.keepIn K (.ref f11) = true)
    (a12 : PySem.W.nsIn K mainGlobals "_law_mixed" = some (some (.ref f12)))
    (l12 : K.lookup f12 = some ⟨oc12, od12, .func (PySem.W.fnOf "_law_mixed" "_law_mixed" (defArgs lMix) (defBody lMix) (defScope lMix) .none kV12 dc12 pm12 an12 cd12 ct12), sl12⟩)
    (c12 : PySem.W.codeIn K cd12 "_law_mixed" = true)
    (k12 : PySem.W.keepIn K (.ref f12) = true)
    (a13 : PySem.W.nsIn K mainGlobals "_law_number" = some (some (.ref f13)))
    (l13 : K.lookup f13 = some ⟨oc13, od13, .func (PySem.W.fnOf "_law_number" "_law_number" (defArgs lNum) (defBody lNum) (defScope lNum) .none kV13 dc13 pm13 an13 cd13 ct13), sl13⟩)
    (c13 : PySem.W.codeIn K cd13 "_law_number" = true)
    (k13 : PySem.W.keepIn K (.ref f13) = true)
    (a14 : PySem.W.nsIn K mainGlobals "_law_common" = some (some (.ref f14)))
    (l14 : K.lookup f14 = some ⟨oc14, od14, .func (PySem.W.fnOf "_law_common" "_law_common" (defArgs lCom) (defBody lCom) (defScope lCom) .none kV14 dc14 pm14 an14 cd14 ct14), sl14⟩)
    (c14 : PySem.W.codeIn K cd14 "_law_common" = true)
    (k14 : PySem.W.keepIn K (.ref f14) = true)
    (a15 : PySem.W.nsIn K mainGlobals "_law_shortest" = some (some (.ref f15)))
    (l15 : K.lookup f15 = some ⟨oc15, od15, .func (PySem.W.fnOf "_law_shortest" "_law_shortest" (defArgs lSho) (defBody lSho) (defScope lSho) .none kV15 dc15 pm15 an15 cd15 ct15), sl15⟩)
    (c15 : PySem.W.codeIn K cd15 "_law_shortest" = true)
    (k15 : PySem.W.keepIn K (.ref f15) = true)
    (a16 : PySem.W.nsIn K mainGlobals "_law_above" = some (some (.ref f16)))
    (l16 : K.lookup f16 = some ⟨oc16, od16, .func (PySem.W.fnOf "_law_above" "_law_above" (defArgs lAbo) (defBody lAbo) (defScope lAbo) .none kV16 dc16 pm16 an16 cd16 ct16), sl16⟩)
    (c16 : PySem.W.codeIn K cd16 "_law_above" = true)
    (k16 : PySem.W.keepIn K (.ref f16) = true)
    (a17 : PySem.W.nsIn K mainGlobals "_law_below" = some (some (.ref f17)))
    (l17 : K.lookup f17 = some ⟨oc17, od17, .func (PySem.W.fnOf "_law_below" "_law_below" (defArgs lBel) (defBody lBel) (defScope lBel) .none kV17 dc17 pm17 an17 cd17 ct17), sl17⟩)
    (c17 : PySem.W.codeIn K cd17 "_law_below" = true)
    (k17 : PySem.W.keepIn K (.ref f17) = true)
    (a18 : PySem.W.nsIn K mainGlobals "_law_shown" = some (some (.ref f18)))
    (l18 : K.lookup f18 = some ⟨oc18, od18, .func (PySem.W.fnOf "_law_shown" "_law_shown" (defArgs lShw) (defBody lShw) (defScope lShw) .none kV18 dc18 pm18 an18 cd18 ct18), sl18⟩)
    (c18 : PySem.W.codeIn K cd18 "_law_shown" = true)
    (k18 : PySem.W.keepIn K (.ref f18) = true)
    (a19 : PySem.W.nsIn K mainGlobals "_law_made" = some (some (.ref f19)))
    (l19 : K.lookup f19 = some ⟨oc19, od19, .func (PySem.W.fnOf "_law_made" "_law_made" (defArgs lMade) (defBody lMade) (defScope lMade) .none kV19 dc19 pm19 an19 cd19 ct19), sl19⟩)
    (c19 : PySem.W.codeIn K cd19 "_law_made" = true)
    (k19 : PySem.W.keepIn K (.ref f19) = true)
    (a20 : PySem.W.nsIn K mainGlobals "_law_needed" = some (some (.ref f20)))
    (l20 : K.lookup f20 = some ⟨oc20, od20, .func (PySem.W.fnOf "_law_needed" "_law_needed" (defArgs lNeed) (defBody lNeed) (defScope lNeed) .none kV20 dc20 pm20 an20 cd20 ct20), sl20⟩)
    (c20 : PySem.W.codeIn K cd20 "_law_needed" = true)
    (k20 : PySem.W.keepIn K (.ref f20) = true)
    (a21 : PySem.W.nsIn K mainGlobals "_law_made_errors" = some (some (.ref f21)))
    (l21 : K.lookup f21 = some ⟨oc21, od21, .func (PySem.W.fnOf "_law_made_errors" "_law_made_errors" (defArgs lErr) (defBody lErr) (defScope lErr) .none kV21 dc21 pm21 an21 cd21 ct21), sl21⟩)
    (c21 : PySem.W.codeIn K cd21 "_law_made_errors" = true)
    (k21 : PySem.W.keepIn K (.ref f21) = true)
    (a22 : PySem.W.nsIn K mainGlobals "_law_refused" = some (some (.ref f22)))
    (l22 : K.lookup f22 = some ⟨oc22, od22, .func (PySem.W.fnOf "_law_refused" "_law_refused" (defArgs lRef) (defBody lRef) (defScope lRef) .none kV22 dc22 pm22 an22 cd22 ct22), sl22⟩)
    (c22 : PySem.W.codeIn K cd22 "_law_refused" = true)
    (k22 : PySem.W.keepIn K (.ref f22) = true)
    (a23 : PySem.W.nsIn K mainGlobals "_law_power" = some (some (.ref f23)))
    (l23 : K.lookup f23 = some ⟨oc23, od23, .func (PySem.W.fnOf "_law_power" "_law_power" (defArgs lPow) (defBody lPow) (defScope lPow) .none kV23 dc23 pm23 an23 cd23 ct23), sl23⟩)
    (c23 : PySem.W.codeIn K cd23 "_law_power" = true)
    (k23 : PySem.W.keepIn K (.ref f23) = true)
    (a24 : PySem.W.nsIn K mainGlobals "_law_gone_on" = some (some (.ref f24)))
    (l24 : K.lookup f24 = some ⟨oc24, od24, .func (PySem.W.fnOf "_law_gone_on" "_law_gone_on" (defArgs lGone) (defBody lGone) (defScope lGone) .none kV24 dc24 pm24 an24 cd24 ct24), sl24⟩)
    (c24 : PySem.W.codeIn K cd24 "_law_gone_on" = true)
    (k24 : PySem.W.keepIn K (.ref f24) = true)
    (a25 : PySem.W.nsIn K mainGlobals "law" = some (some (.ref f25)))
    (l25 : K.lookup f25 = some ⟨oc25, od25, .func (PySem.W.fnOf "law" "law" (defArgs lLaw) (defBody lLaw) (defScope lLaw) .none kV25 dc25 pm25 an25 cd25 ct25), sl25⟩)
    (c25 : PySem.W.codeIn K cd25 "law" = true)
    (k25 : PySem.W.keepIn K (.ref f25) = true)
    (bBadText : PySem.W.nsIn K mainGlobals "BadText" = some (some (.ref CBadText)))
    (aBadText : PySem.W.findIn K (.ref CBadText) "__init__" = some (some (.ref fBadText)))
    (lBadText : K.lookup fBadText = some ⟨ocBadText, odBadText, .func (PySem.W.fnOf "__init__" "BadText.__init__" (defArgs (inClass (top 4) 0)) (defBody (inClass (top 4) 0)) (defScope (inClass (top 4) 0)) .none kVBadText dcBadText pmBadText anBadText cdBadText ctBadText), slBadText⟩)
    (cBadText : PySem.W.codeIn K cdBadText "BadText.__init__" = true)
    (kBadText : PySem.W.keepIn K (.ref fBadText) = true)
    (oBadText : clsOk K CBadText fBadText ["at"] = true)
    (bNoName : PySem.W.nsIn K mainGlobals "NoName" = some (some (.ref CNoName)))
    (aNoName : PySem.W.findIn K (.ref CNoName) "__init__" = some (some (.ref fNoName)))
    (lNoName : K.lookup fNoName = some ⟨ocNoName, odNoName, .func (PySem.W.fnOf "__init__" "NoName.__init__" (defArgs (inClass (top 5) 0)) (defBody (inClass (top 5) 0)) (defScope (inClass (top 5) 0)) .none kVNoName dcNoName pmNoName anNoName cdNoName ctNoName), slNoName⟩)
    (cNoName : PySem.W.codeIn K cdNoName "NoName.__init__" = true)
    (kNoName : PySem.W.keepIn K (.ref fNoName) = true)
    (oNoName : clsOk K CNoName fNoName ["row", "name"] = true)
    (bTwice : PySem.W.nsIn K mainGlobals "Twice" = some (some (.ref CTwice)))
    (aTwice : PySem.W.findIn K (.ref CTwice) "__init__" = some (some (.ref fTwice)))
    (lTwice : K.lookup fTwice = some ⟨ocTwice, odTwice, .func (PySem.W.fnOf "__init__" "Twice.__init__" (defArgs (inClass (top 6) 0)) (defBody (inClass (top 6) 0)) (defScope (inClass (top 6) 0)) .none kVTwice dcTwice pmTwice anTwice cdTwice ctTwice), slTwice⟩)
    (cTwice : PySem.W.codeIn K cdTwice "Twice.__init__" = true)
    (kTwice : PySem.W.keepIn K (.ref fTwice) = true)
    (oTwice : clsOk K CTwice fTwice ["row", "name"] = true)
    (bBadCount : PySem.W.nsIn K mainGlobals "BadCount" = some (some (.ref CBadCount)))
    (aBadCount : PySem.W.findIn K (.ref CBadCount) "__init__" = some (some (.ref fBadCount)))
    (lBadCount : K.lookup fBadCount = some ⟨ocBadCount, odBadCount, .func (PySem.W.fnOf "__init__" "BadCount.__init__" (defArgs (inClass (top 7) 0)) (defBody (inClass (top 7) 0)) (defScope (inClass (top 7) 0)) .none kVBadCount dcBadCount pmBadCount anBadCount cdBadCount ctBadCount), slBadCount⟩)
    (cBadCount : PySem.W.codeIn K cdBadCount "BadCount.__init__" = true)
    (kBadCount : PySem.W.keepIn K (.ref fBadCount) = true)
    (oBadCount : clsOk K CBadCount fBadCount ["row", "name"] = true)
    (bSteep : PySem.W.nsIn K mainGlobals "Steep" = some (some (.ref CSteep)))
    (aSteep : PySem.W.findIn K (.ref CSteep) "__init__" = some (some (.ref fSteep)))
    (lSteep : K.lookup fSteep = some ⟨ocSteep, odSteep, .func (PySem.W.fnOf "__init__" "Steep.__init__" (defArgs (inClass (top 8) 0)) (defBody (inClass (top 8) 0)) (defScope (inClass (top 8) 0)) .none kVSteep dcSteep pmSteep anSteep cdSteep ctSteep), slSteep⟩)
    (cSteep : PySem.W.codeIn K cdSteep "Steep.__init__" = true)
    (kSteep : PySem.W.keepIn K (.ref fSteep) = true)
    (oSteep : clsOk K CSteep fSteep ["row"] = true)
    (bClash : PySem.W.nsIn K mainGlobals "Clash" = some (some (.ref CClash)))
    (aClash : PySem.W.findIn K (.ref CClash) "__init__" = some (some (.ref fClash)))
    (lClash : K.lookup fClash = some ⟨ocClash, odClash, .func (PySem.W.fnOf "__init__" "Clash.__init__" (defArgs (inClass (top 9) 0)) (defBody (inClass (top 9) 0)) (defScope (inClass (top 9) 0)) .none kVClash dcClash pmClash anClash cdClash ctClash), slClash⟩)
    (cClash : PySem.W.codeIn K cdClash "Clash.__init__" = true)
    (kClash : PySem.W.keepIn K (.ref fClash) = true)
    (oClash : clsOk K CClash fClash ["row", "parts", "modulus"] = true)
    (bUnlike : PySem.W.nsIn K mainGlobals "Unlike" = some (some (.ref CUnlike)))
    (aUnlike : PySem.W.findIn K (.ref CUnlike) "__init__" = some (some (.ref fUnlike)))
    (lUnlike : K.lookup fUnlike = some ⟨ocUnlike, odUnlike, .func (PySem.W.fnOf "__init__" "Unlike.__init__" (defArgs (inClass (top 10) 0)) (defBody (inClass (top 10) 0)) (defScope (inClass (top 10) 0)) .none kVUnlike dcUnlike pmUnlike anUnlike cdUnlike ctUnlike), slUnlike⟩)
    (cUnlike : PySem.W.codeIn K cdUnlike "Unlike.__init__" = true)
    (kUnlike : PySem.W.keepIn K (.ref fUnlike) = true)
    (oUnlike : clsOk K CUnlike fUnlike ["one", "other"] = true)
    (bHalted : PySem.W.nsIn K mainGlobals "Halted" = some (some (.ref CHalted)))
    (aHalted : PySem.W.findIn K (.ref CHalted) "__init__" = some (some (.ref fHalted)))
    (lHalted : K.lookup fHalted = some ⟨ocHalted, odHalted, .func (PySem.W.fnOf "__init__" "Halted.__init__" (defArgs (inClass (top 11) 0)) (defBody (inClass (top 11) 0)) (defScope (inClass (top 11) 0)) .none kVHalted dcHalted pmHalted anHalted cdHalted ctHalted), slHalted⟩)
    (cHalted : PySem.W.codeIn K cdHalted "Halted.__init__" = true)
    (kHalted : PySem.W.keepIn K (.ref fHalted) = true)
    (oHalted : clsOk K CHalted fHalted ["word"] = true)
    (mBN : PySem.W.nsIn K mainGlobals "BadNumber" = some (some (.ref BN)))
    (mME : PySem.W.nsIn K mainGlobals "MeasureError" = some (some (.ref ME)))
    (mBU : PySem.W.nsIn K mainGlobals "BadUnit" = some (some (.ref BU)))
    (inB : PySem.W.excIn K BN [.type "ValueError", .type "Exception", .type "BaseException", .type "object"] "ValueError.__new__" = true)
    (xB : xOk K BN = true)
    (ex : PySem.W.exmOne K (.ref BN) (.ref ME) = some true)
    (kv : PySem.W.kitOne K (.ref BN) (.type "ValueError") = some true)
    (ku : PySem.W.kitOne K (.ref BN) (.ref BU) = some false)
    (qNoName : PySem.W.kitOne K (.ref CNoName) (.ref ME) = some true)
    (qTwice : PySem.W.kitOne K (.ref CTwice) (.ref ME) = some true)
    (qBadCount : PySem.W.kitOne K (.ref CBadCount) (.ref ME) = some true)
    (cg : PySem.W.specialIn K (.builtin "object.__class__") "__get__" = some (some (.builtin "getset_descriptor.__get__")))
    (ct : PySem.W.takesIn K (.builtin "object.__class__") = some true)
    (zisi : PySem.W.nsIn K mainGlobals "isinstance" = some none)
    (zint : PySem.W.nsIn K mainGlobals "int" = some none)
    (zbool : PySem.W.nsIn K mainGlobals "bool" = some none)
    (ztuple : PySem.W.nsIn K mainGlobals "tuple" = some none)
    (zlen : PySem.W.nsIn K mainGlobals "len" = some none)
    (zrange : PySem.W.nsIn K mainGlobals "range" = some none)
    (zstr : PySem.W.nsIn K mainGlobals "str" = some none)
    (zabs : PySem.W.nsIn K mainGlobals "abs" = some none)
    (zverr : PySem.W.nsIn K mainGlobals "ValueError" = some none) :
    ∃ fd : FuncData, (∀ (s : Shared) (v : Value), BindsTo s fd ⟨[v], []⟩ [("_law_script", v)]) ∧ ∀ base : Heap, K.In base → base.Ns mainGlobals mg → FnOk l.prog w K mg base CX0 6 fa fd ["_law_script"] (spLaw K) := by
  have e := hfa.symm.trans (PySem.W.mg_of X G a25)
  cases e
  have B : Bn mg := ⟨PySem.W.mg_none_of X G zisi, PySem.W.mg_none_of X G zint, PySem.W.mg_none_of X G zbool, PySem.W.mg_none_of X G ztuple, PySem.W.mg_none_of X G zlen, PySem.W.mg_none_of X G zrange, PySem.W.mg_none_of X G zstr, PySem.W.mg_none_of X G zabs, PySem.W.mg_none_of X G zverr⟩
  have EX : Ex K mg BN := ⟨PySem.W.mg_of X G mBN, inB⟩
  have ca : CA K := ⟨cg, ct⟩
  have Y : Ex2 K mg BN ME BU := ⟨PySem.W.mg_of X G mME, PySem.W.mg_of X G mBU, ex, kv, ku, x_mk ca xB⟩
  have T : Txt mg CBadText CNoName CTwice CBadCount CSteep CClash CUnlike CHalted := ⟨PySem.W.mg_of X G bBadText, PySem.W.mg_of X G bNoName, PySem.W.mg_of X G bTwice, PySem.W.mg_of X G bBadCount, PySem.W.mg_of X G bSteep, PySem.W.mg_of X G bClash, PySem.W.mg_of X G bUnlike, PySem.W.mg_of X G bHalted⟩
  have F0 := fun_mk (st := sWhole) l0 c0 k0
  have B0 := F0.binds (ps := ["thing"]) fun _ _ _ _ _ _ us hl => by
    obtain ⟨v0, rfl⟩ := len1 hl
    rfl
  have M0 := PySem.W.mg_of X G a0
  have F1 := funD_mk (st := sNeed) l1 c1 k1
  have B1 : L2.Binds K _ ["thing", "least", "most"] [] := fun s us KX hl => by
    rw [List.append_nil] at hl ⊢
    obtain ⟨v0, v1, v2, rfl⟩ := len3 hl
    exact PySem.W.binds_K (fd := PySem.W.fnOf "need_whole" "need_whole" (defArgs sNeed) (defBody sNeed) (defScope sNeed) (.ref T1) kV1 dc1 pm1 an1 cd1 ct1) KX rfl d1 rfl rfl rfl
  have D1 : L2.Binds K _ ["thing", "least", "most"] [.none] := fun s us KX hl => by
    have hl : us.length = 2 := by simpa using hl
    obtain ⟨v0, v1, rfl⟩ := len2 hl
    exact PySem.W.binds_K (fd := PySem.W.fnOf "need_whole" "need_whole" (defArgs sNeed) (defBody sNeed) (defScope sNeed) (.ref T1) kV1 dc1 pm1 an1 cd1 ct1) KX rfl d1 rfl rfl rfl
  have M1 := PySem.W.mg_of X G a1
  have F2 := fun_mk (st := sDiv) l2 c2 k2
  have B2 := F2.binds (ps := ["above", "below"]) fun _ _ _ _ _ _ us hl => by
    obtain ⟨v0, v1, rfl⟩ := len2 hl
    rfl
  have M2 := PySem.W.mg_of X G a2
  have F3 := funD_mk (st := sFrac) l3 c3 k3
  have B3 : L2.Binds K _ ["above", "below"] [] := fun s us KX hl => by
    rw [List.append_nil] at hl ⊢
    obtain ⟨v0, v1, rfl⟩ := len2 hl
    exact PySem.W.binds_K (fd := PySem.W.fnOf "fraction" "fraction" (defArgs sFrac) (defBody sFrac) (defScope sFrac) (.ref T3) kV3 dc3 pm3 an3 cd3 ct3) KX rfl d3 rfl rfl rfl
  have D3 : L2.Binds K _ ["above", "below"] [.int 1 tk3] := fun s us KX hl => by
    have hl : us.length = 1 := by simpa using hl
    obtain ⟨v0, rfl⟩ := len1 hl
    exact PySem.W.binds_K (fd := PySem.W.fnOf "fraction" "fraction" (defArgs sFrac) (defBody sFrac) (defScope sFrac) (.ref T3) kV3 dc3 pm3 an3 cd3 ct3) KX rfl d3 rfl rfl rfl
  have M3 := PySem.W.mg_of X G a3
  have F4 := fun_mk (st := sIsF) l4 c4 k4
  have B4 := F4.binds (ps := ["thing"]) fun _ _ _ _ _ _ us hl => by
    obtain ⟨v0, rfl⟩ := len1 hl
    rfl
  have M4 := PySem.W.mg_of X G a4
  have F5 := fun_mk (st := sSum) l5 c5 k5
  have B5 := F5.binds (ps := ["one", "other"]) fun _ _ _ _ _ _ us hl => by
    obtain ⟨v0, v1, rfl⟩ := len2 hl
    rfl
  have M5 := PySem.W.mg_of X G a5
  have F6 := fun_mk (st := sProd) l6 c6 k6
  have B6 := F6.binds (ps := ["one", "other"]) fun _ _ _ _ _ _ us hl => by
    obtain ⟨v0, v1, rfl⟩ := len2 hl
    rfl
  have M6 := PySem.W.mg_of X G a6
  have F7 := fun_mk (st := sWPow) l7 c7 k7
  have B7 := F7.binds (ps := ["base", "exponent"]) fun _ _ _ _ _ _ us hl => by
    obtain ⟨v0, v1, rfl⟩ := len2 hl
    rfl
  have M7 := PySem.W.mg_of X G a7
  have F8 := fun_mk (st := sTurn) l8 c8 k8
  have B8 := F8.binds (ps := ["one"]) fun _ _ _ _ _ _ us hl => by
    obtain ⟨v0, rfl⟩ := len1 hl
    rfl
  have M8 := PySem.W.mg_of X G a8
  have F9 := fun_mk (st := sPow) l9 c9 k9
  have B9 := F9.binds (ps := ["one", "exponent"]) fun _ _ _ _ _ _ us hl => by
    obtain ⟨v0, v1, rfl⟩ := len2 hl
    rfl
  have M9 := PySem.W.mg_of X G a9
  have F10 := fun_mk (st := sLess) l10 c10 k10
  have B10 := F10.binds (ps := ["one", "other"]) fun _ _ _ _ _ _ us hl => by
    obtain ⟨v0, v1, rfl⟩ := len2 hl
    rfl
  have M10 := PySem.W.mg_of X G a10
  have F11 := fun_mk (st := sShow) l11 c11 k11
  have B11 := F11.binds (ps := ["one"]) fun _ _ _ _ _ _ us hl => by
    obtain ⟨v0, rfl⟩ := len1 hl
    rfl
  have M11 := PySem.W.mg_of X G a11
  have F12 := fun_mk (st := lMix) l12 c12 k12
  have B12 := F12.binds (ps := ["_law_number_here", "_law_k"]) fun _ _ _ _ _ _ us hl => by
    obtain ⟨v0, v1, rfl⟩ := len2 hl
    rfl
  have M12 := PySem.W.mg_of X G a12
  have F13 := fun_mk (st := lNum) l13 c13 k13
  have B13 := F13.binds (ps := ["_law_script", "_law_k"]) fun _ _ _ _ _ _ us hl => by
    obtain ⟨v0, v1, rfl⟩ := len2 hl
    rfl
  have M13 := PySem.W.mg_of X G a13
  have F14 := fun_mk (st := lCom) l14 c14 k14
  have B14 := F14.binds (ps := ["_law_one", "_law_other"]) fun _ _ _ _ _ _ us hl => by
    obtain ⟨v0, v1, rfl⟩ := len2 hl
    rfl
  have M14 := PySem.W.mg_of X G a14
  have F15 := fun_mk (st := lSho) l15 c15 k15
  have B15 := F15.binds (ps := ["_law_found"]) fun _ _ _ _ _ _ us hl => by
    obtain ⟨v0, rfl⟩ := len1 hl
    rfl
  have M15 := PySem.W.mg_of X G a15
  have F16 := fun_mk (st := lAbo) l16 c16 k16
  have B16 := F16.binds (ps := ["_law_number_here"]) fun _ _ _ _ _ _ us hl => by
    obtain ⟨v0, rfl⟩ := len1 hl
    rfl
  have M16 := PySem.W.mg_of X G a16
  have F17 := fun_mk (st := lBel) l17 c17 k17
  have B17 := F17.binds (ps := ["_law_number_here"]) fun _ _ _ _ _ _ us hl => by
    obtain ⟨v0, rfl⟩ := len1 hl
    rfl
  have M17 := PySem.W.mg_of X G a17
  have F18 := fun_mk (st := lShw) l18 c18 k18
  have B18 := F18.binds (ps := ["_law_found"]) fun _ _ _ _ _ _ us hl => by
    obtain ⟨v0, rfl⟩ := len1 hl
    rfl
  have M18 := PySem.W.mg_of X G a18
  have F19 := fun_mk (st := lMade) l19 c19 k19
  have B19 := F19.binds (ps := ["_law_script"]) fun _ _ _ _ _ _ us hl => by
    obtain ⟨v0, rfl⟩ := len1 hl
    rfl
  have M19 := PySem.W.mg_of X G a19
  have F20 := fun_mk (st := lNeed) l20 c20 k20
  have B20 := F20.binds (ps := ["_law_number_here"]) fun _ _ _ _ _ _ us hl => by
    obtain ⟨v0, rfl⟩ := len1 hl
    rfl
  have M20 := PySem.W.mg_of X G a20
  have F21 := fun_mk (st := lErr) l21 c21 k21
  have B21 := F21.binds (ps := ["_law_number_here"]) fun _ _ _ _ _ _ us hl => by
    obtain ⟨v0, rfl⟩ := len1 hl
    rfl
  have M21 := PySem.W.mg_of X G a21
  have F22 := fun_mk (st := lRef) l22 c22 k22
  have B22 := F22.binds (ps := ["_law_number_here"]) fun _ _ _ _ _ _ us hl => by
    obtain ⟨v0, rfl⟩ := len1 hl
    rfl
  have M22 := PySem.W.mg_of X G a22
  have F23 := fun_mk (st := lPow) l23 c23 k23
  have B23 := F23.binds (ps := ["_law_one", "_law_exponent"]) fun _ _ _ _ _ _ us hl => by
    obtain ⟨v0, v1, rfl⟩ := len2 hl
    rfl
  have M23 := PySem.W.mg_of X G a23
  have F24 := fun_mk (st := lGone) l24 c24 k24
  have B24 := F24.binds (ps := ["_law_here", "_law_other", "_law_number_here"]) fun _ _ _ _ _ _ us hl => by
    obtain ⟨v0, v1, v2, rfl⟩ := len3 hl
    rfl
  have M24 := PySem.W.mg_of X G a24
  have F25 := fun_mk (st := lLaw) l25 c25 k25
  have FBadText := fun_mk (st := inClass (top 4) 0) lBadText cBadText kBadText
  have BBadText := FBadText.binds (ps := ["self", "at"]) fun _ _ _ _ _ _ us hl => by
    obtain ⟨v0, v1, rfl⟩ := len2 hl
    rfl
  obtain ⟨MKBadText, XCBadText, NABadText⟩ := cls_mk ca oBadText
  have FNoName := fun_mk (st := inClass (top 5) 0) lNoName cNoName kNoName
  have BNoName := FNoName.binds (ps := ["self", "row", "name"]) fun _ _ _ _ _ _ us hl => by
    obtain ⟨v0, v1, v2, rfl⟩ := len3 hl
    rfl
  obtain ⟨MKNoName, XCNoName, NANoName⟩ := cls_mk ca oNoName
  have FTwice := fun_mk (st := inClass (top 6) 0) lTwice cTwice kTwice
  have BTwice := FTwice.binds (ps := ["self", "row", "name"]) fun _ _ _ _ _ _ us hl => by
    obtain ⟨v0, v1, v2, rfl⟩ := len3 hl
    rfl
  obtain ⟨MKTwice, XCTwice, NATwice⟩ := cls_mk ca oTwice
  have FBadCount := fun_mk (st := inClass (top 7) 0) lBadCount cBadCount kBadCount
  have BBadCount := FBadCount.binds (ps := ["self", "row", "name"]) fun _ _ _ _ _ _ us hl => by
    obtain ⟨v0, v1, v2, rfl⟩ := len3 hl
    rfl
  obtain ⟨MKBadCount, XCBadCount, NABadCount⟩ := cls_mk ca oBadCount
  have FSteep := fun_mk (st := inClass (top 8) 0) lSteep cSteep kSteep
  have BSteep := FSteep.binds (ps := ["self", "row"]) fun _ _ _ _ _ _ us hl => by
    obtain ⟨v0, v1, rfl⟩ := len2 hl
    rfl
  obtain ⟨MKSteep, XCSteep, NASteep⟩ := cls_mk ca oSteep
  have FClash := fun_mk (st := inClass (top 9) 0) lClash cClash kClash
  have BClash := FClash.binds (ps := ["self", "row", "parts", "modulus"]) fun _ _ _ _ _ _ us hl => by
    obtain ⟨v0, v1, v2, v3, rfl⟩ := len4 hl
    rfl
  obtain ⟨MKClash, XCClash, NAClash⟩ := cls_mk ca oClash
  have FUnlike := fun_mk (st := inClass (top 10) 0) lUnlike cUnlike kUnlike
  have BUnlike := FUnlike.binds (ps := ["self", "one", "other"]) fun _ _ _ _ _ _ us hl => by
    obtain ⟨v0, v1, v2, rfl⟩ := len3 hl
    rfl
  obtain ⟨MKUnlike, XCUnlike, NAUnlike⟩ := cls_mk ca oUnlike
  have FHalted := fun_mk (st := inClass (top 11) 0) lHalted cHalted kHalted
  have BHalted := FHalted.binds (ps := ["self", "word"]) fun _ _ _ _ _ _ us hl => by
    obtain ⟨v0, v1, rfl⟩ := len2 hl
    rfl
  obtain ⟨MKHalted, XCHalted, NAHalted⟩ := cls_mk ca oHalted
  refine ⟨PySem.W.fnOf "law" "law" (defArgs lLaw) (defBody lLaw) (defScope lLaw) .none kV25 dc25 pm25 an25 cd25 ct25, fun s v => .of_eq rfl, fun base _ _ => ?_⟩
  have GF : FnOk l.prog w K mg base (Fly l.prog w) 3 f3 _ ["above", "below"] (spFrac BN) := ok_frac F3 B EX F0 B0 M0 F1 D1 M1 F2 B2 M2
  have GP : FnOk l.prog w K mg base (Fly l.prog w) 3 f9 _ ["one", "exponent"] (spPow BN) := ok_pow F9 B9 M9 B EX F0 B0 M0 F7 B7 M7 F8 B8 M8
  have GN : FnOk l.prog w K mg base CX0 2 f13 _ ["_law_script", "_law_k"] (spNum K) := ok_num F13 B F12 B12 M12
  have GS : FnOk l.prog w K mg base CX0 2 f15 _ ["_law_found"] spSho := ok_sho F15 B F14 B14 M14
  have GI : FnOk l.prog w K mg base CX0 2 f4 _ ["thing"] spIsF := ok_isf F4 B F0 B0 M0 F2 B2 M2
  have GSu : FnOk l.prog w K mg base CX0 4 f5 _ ["one", "other"] spSum := ok_sum F5 F3 B3 M3 GF
  have GPr : FnOk l.prog w K mg base CX0 4 f6 _ ["one", "other"] spProd := ok_prod F6 F3 B3 M3 GF
  have GMa : FnOk l.prog w K mg base CX0 4 f19 _ ["_law_script"] (spMade K) := ok_made F19 B F13 B13 M13 GN F16 B16 M16 F17 B17 M17 F3 B3 D3 M3 GF F15 B15 M15 GS F11 B11 M11 F18 B18 M18 F4 B4 M4 GI
  have GRe : FnOk l.prog w K mg base CX0 4 f22 _ ["_law_number_here"] spLN := ok_lref F22 B EX Y F3 B3 M3 GF F9 B9 M9 GP
  have GNe : FnOk l.prog w K mg base CX0 3 f20 _ ["_law_number_here"] spLN := ok_lneed F20 B EX Y F0 B0 M0 F1 B1 D1 M1
  have GEr : FnOk l.prog w K mg base CX0 3 f21 _ ["_law_number_here"] spLN := ok_err F21 B (PySem.W.mg_of X G mME) T MKBadText FBadText BBadText XCBadText NABadText MKNoName FNoName BNoName XCNoName NANoName MKTwice FTwice BTwice XCTwice NATwice MKBadCount FBadCount BBadCount XCBadCount NABadCount MKSteep FSteep BSteep XCSteep NASteep MKClash FClash BClash XCClash NAClash MKUnlike FUnlike BUnlike XCUnlike NAUnlike MKHalted FHalted BHalted XCHalted NAHalted qNoName qTwice qBadCount
  have GLp : FnOk l.prog w K mg base CX0 1 f23 _ ["_law_one", "_law_exponent"] spLPow := ok_lpow F23 B
  have GGo : FnOk l.prog w K mg base CX0 5 f24 _ ["_law_here", "_law_other", "_law_number_here"] spGone := ok_gone F24 B F5 B5 M5 GSu F6 B6 M6 GPr F9 B9 M9 ((pow_n GP).mono (by decide)) F23 B23 M23 (GLp.mono (by decide))
  have GLe : FnOk l.prog w K mg base CX0 1 f10 _ ["one", "other"] spLess := ok_less F10
  exact ok_law F25 B F19 B19 M19 (GMa.mono (by decide)) F22 B22 M22 (GRe.mono (by decide)) F13 B13 M13 (GN.mono (by decide)) F20 B20 M20 (GNe.mono (by decide)) F21 B21 M21 (GEr.mono (by decide)) F4 B4 M4 (GI.mono (by decide)) F24 B24 M24 GGo F15 B15 M15 (GS.mono (by decide)) F10 B10 M10 (GLe.mono (by decide))
theorem walk {l : PySem.W.OpenLaw} {q : Program} {loose : List Str} {XP : (Str → Option Value) → Heap → Prop} {YP : World → Heap → Prop} {d : DefRec} {K : Params → PySem.W.Frag} (hn : l.most = some 63) (hdf : d.params.defaults = [])
    (hY : ∀ (w : World) (h : Heap), YP w h → (K w.params).In h)
    (F : ∀ (w : World) (mg : Str → Option Value) (fa : Addr) (h : Heap), (K w.params).In h → h.Ns mainGlobals mg → mg d.name = some (.ref fa) →
      ∃ fd : FuncData, (∀ (s : Shared) (u : Value), BindsTo s fd ⟨[u], []⟩ [("_law_script", u)]) ∧ ∀ base : Heap, (K w.params).In base → base.Ns mainGlobals mg → FnOk l.prog w (K w.params) mg base CX0 6 fa fd ["_law_script"] (spLaw (K w.params))) :
    PySem.W.WalkO q loose XP YP l.row.toRowW d [] (fun f vs => PySem.call f vs) :=
  L2.walk_of (n := 63) (k := 6) (x := "_law_script") (CX := fun _ => CX0) (sp := fun w => spLaw (K w.params)) hn (by decide) hdf ⟨rfl, by decide, by decide⟩ hY F (fun _ _ a ns hl _ hS => ⟨a, ns, rfl, hS, hl, fun _ => rfl⟩) fun _ _ _ _ _ z => z
end Fr

set_option Elab.async false
set_option linter.all false
open PySem PySem.W PyProof.Rows
set_option maxRecDepth 100000 in
set_option maxHeartbeats 0 in
theorem PySem.Challenge.cw_measurewise_k01_fractions_holds : PySem.Challenge.rw_measurewise_k01_fractions.Holds := by
  w_on; o_law; k_head; (case hw => w_witness2)
  k_fill
  refine Fr.walk (l := PySem.Challenge.rw_measurewise_k01_fractions) rfl rfl (fun w h Y => PySem.W.kIn_of Y) ?F
  case F =>
    intro w mg fa h KX G hmg
    refine' Fr.all_mk KX G hmg ?a0 ?l0 ?c0 ?k0 ?a1 ?l1 ?c1 ?k1 ?d1 ?a2 ?l2 ?c2 ?k2 ?a3 ?l3 ?c3 ?k3 ?d3 ?a4 ?l4 ?c4 ?k4 ?a5 ?l5 ?c5 ?k5 ?a6 ?l6 ?c6 ?k6 ?a7 ?l7 ?c7 ?k7 ?a8 ?l8 ?c8 ?k8 ?a9 ?l9 ?c9 ?k9 ?a10 ?l10 ?c10 ?k10 ?a11 ?l11 ?c11 ?k11 ?a12 ?l12 ?c12 ?k12 ?a13 ?l13 ?c13 ?k13 ?a14 ?l14 ?c14 ?k14 ?a15 ?l15 ?c15 ?k15 ?a16 ?l16 ?c16 ?k16 ?a17 ?l17 ?c17 ?k17 ?a18 ?l18 ?c18 ?k18 ?a19 ?l19 ?c19 ?k19 ?a20 ?l20 ?c20 ?k20 ?a21 ?l21 ?c21 ?k21 ?a22 ?l22 ?c22 ?k22 ?a23 ?l23 ?c23 ?k23 ?a24 ?l24 ?c24 ?k24 ?a25 ?l25 ?c25 ?k25 ?bBadText ?aBadText ?lBadText ?cBadText ?kBadText ?oBadText ?bNoName ?aNoName ?lNoName ?cNoName ?kNoName ?oNoName ?bTwice ?aTwice ?lTwice ?cTwice ?kTwice ?oTwice ?bBadCount ?aBadCount ?lBadCount ?cBadCount ?kBadCount ?oBadCount ?bSteep ?aSteep ?lSteep ?cSteep ?kSteep ?oSteep ?bClash ?aClash ?lClash ?cClash ?kClash ?oClash ?bUnlike ?aUnlike ?lUnlike ?cUnlike ?kUnlike ?oUnlike ?bHalted ?aHalted ?lHalted ?cHalted ?kHalted ?oHalted ?mBN ?mME ?mBU ?inB ?xB ?ex ?kv ?ku ?qNoName ?qTwice ?qBadCount ?cg ?ct ?zisi ?zint ?zbool ?ztuple ?zlen ?zrange ?zstr ?zabs ?zverr
    (case a0 => k_is)
    (case l0 => k_is)
    (case c0 => k_is)
    (case k0 => k_is)
    (case a1 => k_is)
    (case l1 => k_is)
    (case c1 => k_is)
    (case k1 => k_is)
    (case d1 => k_is)
    (case a2 => k_is)
    (case l2 => k_is)
    (case c2 => k_is)
    (case k2 => k_is)
    (case a3 => k_is)
    (case l3 => k_is)
    (case c3 => k_is)
    (case k3 => k_is)
    (case d3 => k_is)
    (case a4 => k_is)
    (case l4 => k_is)
    (case c4 => k_is)
    (case k4 => k_is)
    (case a5 => k_is)
    (case l5 => k_is)
    (case c5 => k_is)
    (case k5 => k_is)
    (case a6 => k_is)
    (case l6 => k_is)
    (case c6 => k_is)
    (case k6 => k_is)
    (case a7 => k_is)
    (case l7 => k_is)
    (case c7 => k_is)
    (case k7 => k_is)
    (case a8 => k_is)
    (case l8 => k_is)
    (case c8 => k_is)
    (case k8 => k_is)
    (case a9 => k_is)
    (case l9 => k_is)
    (case c9 => k_is)
    (case k9 => k_is)
    (case a10 => k_is)
    (case l10 => k_is)
    (case c10 => k_is)
    (case k10 => k_is)
    (case a11 => k_is)
    (case l11 => k_is)
    (case c11 => k_is)
    (case k11 => k_is)
    (case a12 => k_is)
    (case l12 => k_is)
    (case c12 => k_is)
    (case k12 => k_is)
    (case a13 => k_is)
    (case l13 => k_is)
    (case c13 => k_is)
    (case k13 => k_is)
    (case a14 => k_is)
    (case l14 => k_is)
    (case c14 => k_is)
    (case k14 => k_is)
    (case a15 => k_is)
    (case l15 => k_is)
    (case c15 => k_is)
    (case k15 => k_is)
    (case a16 => k_is)
    (case l16 => k_is)
    (case c16 => k_is)
    (case k16 => k_is)
    (case a17 => k_is)
    (case l17 => k_is)
    (case c17 => k_is)
    (case k17 => k_is)
    (case a18 => k_is)
    (case l18 => k_is)
    (case c18 => k_is)
    (case k18 => k_is)
    (case a19 => k_is)
    (case l19 => k_is)
    (case c19 => k_is)
    (case k19 => k_is)
    (case a20 => k_is)
    (case l20 => k_is)
    (case c20 => k_is)
    (case k20 => k_is)
    (case a21 => k_is)
    (case l21 => k_is)
    (case c21 => k_is)
    (case k21 => k_is)
    (case a22 => k_is)
    (case l22 => k_is)
    (case c22 => k_is)
    (case k22 => k_is)
    (case a23 => k_is)
    (case l23 => k_is)
    (case c23 => k_is)
    (case k23 => k_is)
    (case a24 => k_is)
    (case l24 => k_is)
    (case c24 => k_is)
    (case k24 => k_is)
    (case a25 => k_is)
    (case l25 => k_is)
    (case c25 => k_is)
    (case k25 => k_is)
    (case bBadText => k_is)
    (case aBadText => k_is)
    (case lBadText => k_is)
    (case cBadText => k_is)
    (case kBadText => k_is)
    (case oBadText => kernel_rfl)
    (case bNoName => k_is)
    (case aNoName => k_is)
    (case lNoName => k_is)
    (case cNoName => k_is)
    (case kNoName => k_is)
    (case oNoName => kernel_rfl)
    (case bTwice => k_is)
    (case aTwice => k_is)
    (case lTwice => k_is)
    (case cTwice => k_is)
    (case kTwice => k_is)
    (case oTwice => kernel_rfl)
    (case bBadCount => k_is)
    (case aBadCount => k_is)
    (case lBadCount => k_is)
    (case cBadCount => k_is)
    (case kBadCount => k_is)
    (case oBadCount => kernel_rfl)
    (case bSteep => k_is)
    (case aSteep => k_is)
    (case lSteep => k_is)
    (case cSteep => k_is)
    (case kSteep => k_is)
    (case oSteep => kernel_rfl)
    (case bClash => k_is)
    (case aClash => k_is)
    (case lClash => k_is)
    (case cClash => k_is)
    (case kClash => k_is)
    (case oClash => kernel_rfl)
    (case bUnlike => k_is)
    (case aUnlike => k_is)
    (case lUnlike => k_is)
    (case cUnlike => k_is)
    (case kUnlike => k_is)
    (case oUnlike => kernel_rfl)
    (case bHalted => k_is)
    (case aHalted => k_is)
    (case lHalted => k_is)
    (case cHalted => k_is)
    (case kHalted => k_is)
    (case oHalted => kernel_rfl)
    (case mBN => k_is)
    (case mME => k_is)
    (case mBU => k_is)
    (case inB => kernel_rfl)
    (case xB => kernel_rfl)
    (case ex => kernel_rfl)
    (case kv => kernel_rfl)
    (case ku => kernel_rfl)
    (case qNoName => kernel_rfl)
    (case qTwice => kernel_rfl)
    (case qBadCount => kernel_rfl)
    (case cg => k_is)
    (case ct => k_is)
    (case zisi => k_is)
    (case zint => k_is)
    (case zbool => k_is)
    (case ztuple => k_is)
    (case zlen => k_is)
    (case zrange => k_is)
    (case zstr => k_is)
    (case zabs => k_is)
    (case zverr => k_is)
#print axioms PySem.Challenge.cw_measurewise_k01_fractions_holds
