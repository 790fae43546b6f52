import PyProof.Rows.All
import Wide.All
import OpenK.AllK
import Wide.FinOn
import Lean
import PyProof.EqAt
import PyProof.EqKinds
import PyProof.TupleCall
import OpenK.KMore
import PyProof.ExcInit
import PyProof.ExcClass2
import PyProof.InstStoreFacts
import PyProof.ExcArgsOwn
import PyProof.ExcAttrAll.ValueError
import PySem.Challenge.RW_measurewise_k24_tables
set_option Elab.async false
set_option linter.all false
set_option maxRecDepth 100000
set_option maxHeartbeats 4000000
section
open PySem PySem.Spec PyProof PyProof.Rows
def zUK:=@List.getElem?_eq_getElem
def zUL:=@wpAny_bind
def zUM:=@Heap.get?_push_of_some
def zUN:=@PySem.W.mg_of
def zUO:=@Nat.le_refl
def zUP:=@List.getElem?_map
def zUQ:=@wpAny_pure
def zUR:=@List.length_map
def zUS:=@Nat.ne_of_lt
def zUT:=@Nat.lt_of_lt_of_le
def zUU:=@Heap.lt_size
def zUV:=@sizeLine_eq
def zUW:=@Int.emod_lt_of_pos
def zUX:=@Bool.false_ne_true
def zUY:=@Nat.le_trans
def zUZ:=@Nat.zero_le
def zUa:=@List.mem_append_right
def zUb:=@Nat.lt_of_le_of_lt
def zUc:=@Int.emod_nonneg
def zUd:=@Heap.get?_push_size
def zUe:=@List.size_toArray
def zUf:=@wpAny_mono
def zUg:=@List.map_append
def zUh:=@List.take_add_one
def zUi:=@decide_eq_true
def zUj:=@Nat.pow_le_pow_right
def zUk:=@List.take_length
def zUl:=@decide_eq_false
def zUm:=@List.append_nil
def zUn:=@List.length_append
def zUo:=@PySem.W.mg_none_of
def zUp:=@List.mem_of_getElem?
def zUq:=@List.filter_cons_of_pos
def zUr:=@List.filter_cons_of_neg
def zUs:=@List.getElem_mem
def zUt:=@of_decide_eq_true
def zUu:=@PySem.W.hideAll_get
def zUv:=@List.mem_cons_of_mem
def zUw:=@Heap.get?_update_other
def zUx:=@Heap.get?_update_self
def zUy:=@Nat.le_of_lt
def zUz:=@Nat.ne_of_gt
def zVA:=@PySem.W.kia_one
def zVB:=@wpAny_holding
def zVC:=@Nat.le_mul_of_pos_right
def zVD:=@Nat.pow_lt_pow_right
def zVE:=@Nat.mul_le_mul_left
def zVF:=@Nat.add_le_add_left
def zVG:=@wpAny_truthy_bool
def zVH:=@wpAny_Call_Name_kw
def zVI:=@codeAny_mono
def zVJ:=@PySem.W.of_hideAll
abbrev zVK:=@PySem.W.Frag
def zVL:=@List.mem_cons
def zVM:=@Bool.and_eq_true
def zVN:=@List.length_eq_one_iff
def zVO:=@List.mem_append
def zVP:=@List.map_cons
def zVQ:=@List.mem_singleton
def zVR:=@List.mem_map
def zVS:=@List.getD_eq_getElem?_getD
def zVT:=@List.length_cons
def zVU:=@Bool.eq_iff_iff
def zVV:=@List.not_mem_nil
def zVW:=@List.filter_append
def zVX:=@List.getElem?_eq_some_iff
def zVY:=@List.mem_filter
def zVZ:=@Int.natCast_ediv
def zVa:=@Bool.not_eq_true'
def zVb:=@List.find?_cons
def zVc:=@List.length_filter_le
end
namespace L2
open PySem PySem.Spec PyProof.Rows
abbrev Key:=Sum Int Str
def zEl:Key->Value->Bool
 | .inl k,v=>Value.isInt k v
 | .inr x,v=>Value.isStrOf x v
def zTp(w:World):Key->Int
 | .inl k=>hashInt k
 | .inr x=>hashStr w x
theorem ya: ∀{k:Key} {v:Value},zEl k v=true->(∃i t,k=Sum.inl i/\v=Value.int i t)\/(∃x t,k=Sum.inr x/\v=Value.str x t)
 | .inl i,v,h=>by
  obtain ⟨t,e⟩:=Value.isInt_shape (k:=i) (v:=v) h;exact .inl ⟨i,t,rfl,e⟩
 | .inr x,v,h=>by
  obtain ⟨t,e⟩:=Value.isStrOf_shape (x:=x) (v:=v) h;exact .inr ⟨x,t,rfl,e⟩
theorem zMC(i:Int)(t:Tok):zEl (.inl i) (.int i t)=true:=by simp [zEl,Value.isInt]
theorem zMg(x:Str)(t:Tok):zEl (.inr x) (.str x t)=true:=by simp [zEl,Value.isStrOf]
theorem zQk(a b:Int):decide ((Sum.inl a:Key)=Sum.inl b)=(a==b):=by
 by_cases e:a=b
 ·subst e;simp
 ·have h: ¬(Sum.inl a:Key)=Sum.inl b:=fun q=>e (Sum.inl.inj q);rw [zUl h];exact (beq_eq_false_iff_ne.mpr e).symm
theorem zSE(a b:Str):decide ((Sum.inr a:Key)=Sum.inr b)=decide (a=b):=by
 by_cases e:a=b
 ·subst e;simp
 ·have h: ¬(Sum.inr a:Key)=Sum.inr b:=fun q=>e (Sum.inr.inj q);rw [zUl h,zUl e]
theorem zQz(a:Int)(b:Str):decide ((Sum.inl a:Key)=Sum.inr b)=false:=zUl (fun q=>nomatch q)
theorem zRe(a:Str)(b:Int):decide ((Sum.inr a:Key)=Sum.inl b)=false:=zUl (fun q=>nomatch q)
def zu(prog:Program)(w:World):PySem.KeyKind prog w Key where
 is:=zEl
 hash:=zTp w
 inj:=fun v a b ha hb=>by
  rcases ya ha with ⟨i,t,rfl,rfl⟩|⟨x,t,rfl,rfl⟩
  ·rcases ya hb with ⟨j,u,rfl,e⟩|⟨y,u,rfl,e⟩
   ·injection e with e1 _;rw [e1]
   ·exact nomatch e
  ·rcases ya hb with ⟨j,u,rfl,e⟩|⟨y,u,rfl,e⟩
   ·exact nomatch e
   ·injection e with e1 _;rw [e1]
 byValue:=fun k v h=>by
  rcases ya h with ⟨i,t,rfl,rfl⟩|⟨x,t,rfl,rfl⟩<;>rfl
 pyHash:=fun hv h=>by
  rcases ya hv with ⟨i,t,rfl,rfl⟩|⟨x,t,rfl,rfl⟩
  ·exact wpAny_pyHash_int h
  ·exact wpAny_pyHash_str h
 eqBool:=fun hu hv h=>by
  rcases ya hu with ⟨i,t,rfl,rfl⟩|⟨x,t,rfl,rfl⟩
  ·rcases ya hv with ⟨j,u,rfl,rfl⟩|⟨y,u,rfl,rfl⟩
   ·rw [zQk] at h;exact wpAny_eqBool_int h
   ·rw [zQz] at h;exact SeqAt.EqAt.int_str i t y u _ _ _ _ h
  ·rcases ya hv with ⟨j,u,rfl,rfl⟩|⟨y,u,rfl,rfl⟩
   ·rw [zRe] at h;exact SeqAt.EqAt.str_int x t j u _ _ _ _ h
   ·rw [zSE] at h;exact wpAny_eqBool_str h
 «strs»:=fun k x t v h=>by
  rcases ya h with ⟨i,u,rfl,e⟩|⟨y,u,rfl,e⟩
  ·exact nomatch e
  ·injection e with e1 _;subst e1;cases v<;>rfl
theorem zJa(prog:Program)(w:World)(i:Int)(t:Tok):(zu prog w).is (.inl i) (.int i t)=true:=zMC i t
theorem zJh(prog:Program)(w:World)(x:Str)(t:Tok):(zu prog w).is (.inr x) (.str x t)=true:=zMg x t
inductive V where
 | non | bl (b:Bool)| int (i:Int)| str (x:Str)| byt (b:Array UInt8)| flt (b:UInt64)| ref (a:Addr)| ty (n:String)
 deriving DecidableEq
def zU:V->Value->Prop
 | .non,u=>u=Value.none
 | .bl b,u=>u=Value.bool b
 | .int i,u=> ∃t,u=Value.int i t
 | .str x,u=> ∃t,u=Value.str x t
 | .byt b,u=> ∃t,u=Value.bytes b t
 | .flt b,u=> ∃t,u=Value.float b t
 | .ref a,u=>u=Value.ref a
 | .ty n,u=>u=Value.type n
abbrev zS:List V->List Value->Prop:=Paired zU
theorem zS.length(r:zS xs us):xs.length=us.length:=Paired.length r
theorem zS.get: ∀{xs:List V} {us:List Value} {i:Nat} {x:V},zS xs us->xs[i]?=some x-> ∃u,us[i]?=some u/\zU x u
 | _,_,_,_,.nil,e=>by simp at e
 | _,_,0,_,.cons r _,e=>by simp at e;subst e;exact ⟨_,rfl,r⟩
 | _,_,i+1,x,.cons _ t,e=>by
  obtain ⟨u,h1,h2⟩:=zS.get (i:=i) (x:=x) t (by simpa using e);exact ⟨u,by simpa using h1,h2⟩
theorem zS.set(r:zU x u): ∀{xs:List V} {us:List Value} (i:Nat),zS xs us->zS (xs.set i x) (us.set i u)
 | _,_,_,.nil=> .nil
 | _,_,0,.cons _ t=> .cons r t
 | _,_,i+1,.cons q t=> .cons q (zS.set r i t)
theorem zS.append: ∀{xs ys:List V} {us ws:List Value},zS xs us->zS ys ws->zS (xs++ys) (us++ws)
 | _,_,_,_,.nil,s=>s
 | _,_,_,_,.cons r t,s=> .cons r (zS.append t s)
def zAC:Option V->Option Value->Prop
 | some v,some u=>zU v u
 | none,none=>True
 | _,_=>False
def KV{κ:Type}:List (κ×V)->List (κ×Value)->Prop:=Paired fun (p:κ×V) (q:κ×Value)=>p.1=q.1/\zU p.2 q.2
def kV:Key->V
 | .inl i=> .int i
 | .inr x=> .str x
inductive HO where
 | lst (xs:List V)
 | tup (xs:List V)
 | dK (kvs:List (Key×V))| dT (kvs:List (List Key×V))
 | set (S:Int->Bool) (n:Nat)
 | ins (C dx:Addr) (fs:List (Str×V))
 | own (x:Addr)
 | xd (fs:List (Str×V))
 | met (f x:Addr)
 | rng (lo hi:Int)
 | frz (o:Obj) (u:HO)
 | tbl (ps:Array Value)
 | ext (φ:Heap->Prop)
abbrev Hp:=Addr->Option HO
def upd(H:Hp)(a:Addr)(o:HO):Hp:=fun b=>if b=a then some o else H b
theorem zC:upd H a o a=some o:=by unfold upd;rw [if_pos rfl]
theorem zG(h:b≠a):upd H a o b=H b:=by unfold upd;rw [if_neg h]
theorem zAp:upd (upd H a o) a u=upd H a u:=by
 funext b;unfold upd;split<;>rfl
theorem zDf{H:Hp}{a b:Addr}{o u:HO}(h:H a=some o)(h':H b=some u)(d:o≠u):a≠b:=by
 intro e;subst e;rw [h] at h';exact d (Option.some.inj h')
theorem zI{H:Hp}{a b:Addr}{o:HO}(h:H a=some o)(h':H b=none):a≠b:=by
 intro e;subst e;rw [h] at h';cases h'
def zFq(h:Heap)(a:Addr)(items:Array Value):Prop:= ∃o,h.get? a=some o/\o.cls= .type "tuple" /\(∃n,o.data= .seq items n)/\o.dict=none
theorem zFq.new(h:Heap)(items:Array Value):zFq (h.push {cls:= .type "tuple",data:= .seq items}) h.objs.size items:=⟨_,zUd _ rfl,rfl,⟨_,rfl⟩,rfl⟩
section
variable (P:Program)(w:World)
def zj(H:Hp)(h:Heap)(a:Addr):HO->Prop
 | .lst xs=>xs.length<=sizeLine/\ ∃(its:List Value) (n:Nat),zS xs its/\h.get? a=some {cls:= .type "list",data:= .seq its.toArray n}
 | .tup xs=>xs.length<=sizeLine/\ ∃its:List Value,zS xs its/\zFq h a its.toArray
 | .dK kvs=>kvs.length<=sizeLine/\(a==sysModules)=false/\ ∃vs,KV kvs vs/\h.DictOf (zu P w) a vs
 | .dT kvs=>kvs.length<=sizeLine/\(a==sysModules)=false/\ ∃xs:List (List Key×Addr×Value),
   Paired (fun (p:List Key×V) (q:List Key×Addr×Value)=>p.1=q.1/\H q.2.1=some (.tup (p.1.map kV))/\zU p.2 q.2.2) kvs xs/\
   ∃o es ep,h.get? a=some o/\o.ExactDict/\o.data= .dict es ep/\es.toList=xs.map (entryOfKey (tupleKind (zu P w)))/\(xs.map (·.1)).Nodup
 | .set S n=>h.SetOf (intKind P w) a S n
 | .ins C dx fs=>H dx=some (.own a)/\fs.length<=1000/\dx≠a/\h.get? a=some (PySem.W.instObj C dx)/\
   ∃mA,h.Ns1 dx mA/\(∀f,zAC (fs.lookup f) (mA f))/\PySem.Within mA (fs.map (·.1))
 | .own _=> ∃o,h.get? a=some o
 | .xd fs=> ∃mA,h.Ns1 a mA/\ ∀f,zAC (fs.lookup f) (mA f)
 | .rng lo hi=> ∃t u v,h.get? a=some {cls:= .type "range",data:= .fields #[.int lo t,.int hi u,.int 1 v]}
 | .frz o u=>h.get? a=some o/\zj H h a u
 | .tbl ps=>h.get? a=some {cls:= .none,data:= .fields ps}
 | .met f x=>h.get? a=some (PySem.W.methodObj (.ref f) (.ref x))
 | .ext φ=>φ h/\(∃o,h.get? a=some o)/\ ∀h1 h2:Heap,φ h1->(∀o,h1.get? a=some o->h2.get? a=some o)->φ h2
def HOk(H:Hp)(h:Heap):Prop:= ∀a o,H a=some o->zj P w H h a o
end
section
variable {P:Program}{w:World}{H H':Hp}{h h':Heap}{a:Addr}{o:HO}
theorem zj.lt(x:zj P w H h a o):a<h.objs.size:=by
 cases o with
 | lst xs=>obtain ⟨_,_,_,_,e⟩:=x;exact zUU e
 | tup xs=>obtain ⟨_,_,_,_,e,_⟩:=x;exact zUU e
 | dK kvs=>obtain ⟨_,_,_,_,o,_,_,e,_⟩:=x;exact zUU e
 | dT kvs=>obtain ⟨_,_,_,_,o,_,_,e,_⟩:=x;exact zUU e
 | set S n=>obtain ⟨o,_,_,_,e,_⟩:=x;exact zUU e
 | ins C dx fs=>obtain ⟨_,_,_,e,_⟩:=x;exact zUU e
 | own y=>obtain ⟨_,e⟩:=x;exact zUU e
 | xd fs=>obtain ⟨_,⟨_,_,_,e,_⟩,_⟩:=x;exact zUU e
 | rng lo hi=>obtain ⟨_,_,_,e⟩:=x;exact zUU e
 | frz ob u=>obtain ⟨e,_⟩:=x;exact zUU e
 | tbl ps=>exact zUU (show h.get? a=some _ from x)
 | met f y=>exact zUU (show h.get? a=some _ from x)
 | ext φ=>obtain ⟨_,⟨_,e⟩,_⟩:=x;exact zUU e
theorem Paired.mapP{α β:Type}{F G:α->β->Prop}: ∀{l₁:List α} {l₂:List β},Paired F l₁ l₂->(∀a b,F a b->G a b)->Paired G l₁ l₂
 | _,_,.nil,_=> .nil
 | _,_,.cons r t,f=> .cons (f _ _ r) (Paired.mapP t f)
theorem zj.stay(x:zj P w H h a o)(k: ∀b u,(b=a\/H b=some (.own a))->h.get? b=some u->h'.get? b=some u)
  (ho: ∀b,H b=some (.own a)->H' b=some (.own a)) (ht: ∀b xs,H b=some (.tup xs)->H' b=some (.tup xs)):zj P w H' h' a o:=by
 induction o with
 | lst xs=>obtain ⟨z,its,n,r,e⟩:=x;exact ⟨z,its,n,r,k _ _ (.inl rfl) e⟩
 | tup xs=>obtain ⟨z,its,r,ob,e,c⟩:=x;exact ⟨z,its,r,ob,k _ _ (.inl rfl) e,c⟩
 | dK kvs=>obtain ⟨z,y,vs,r,ob,es,ep,e,c⟩:=x;exact ⟨z,y,vs,r,ob,es,ep,k _ _ (.inl rfl) e,c⟩
 | dT kvs=>
  obtain ⟨z,y,xs,r,ob,es,ep,e,c⟩:=x;exact ⟨z,y,xs,Paired.mapP r fun p q z=>⟨z.1,ht _ _ z.2.1,z.2.2⟩,ob,es,ep,k _ _ (.inl rfl) e,c⟩
 | set S n=>obtain ⟨ob,es,ep,t,e,c⟩:=x;exact ⟨ob,es,ep,t,k _ _ (.inl rfl) e,c⟩
 | ins C dx fs=>
  obtain ⟨d,z,ne,e,mA,⟨od,es,ep,e2,c⟩,r⟩:=x;exact ⟨ho _ d,z,ne,k _ _ (.inl rfl) e,mA,⟨od,es,ep,k _ _ (.inr d) e2,c⟩,r⟩
 | own y=>obtain ⟨ob,e⟩:=x;exact ⟨ob,k _ _ (.inl rfl) e⟩
 | xd fs=>obtain ⟨mA,⟨od,es,ep,e,c⟩,r⟩:=x;exact ⟨mA,⟨od,es,ep,k _ _ (.inl rfl) e,c⟩,r⟩
 | rng lo hi=>obtain ⟨t,u,v,e⟩:=x;exact ⟨t,u,v,k _ _ (.inl rfl) e⟩
 | frz ob u ih=>obtain ⟨e,q⟩:=x;exact ⟨k _ _ (.inl rfl) e,ih q⟩
 | tbl ps=>
  have e:h.get? a=some {cls:= .none,data:= .fields ps}:=x;show h'.get? a=some {cls:= .none,data:= .fields ps};exact k a _ (.inl rfl) e
 | met f y=>
  have e:h.get? a=some (PySem.W.methodObj (.ref f) (.ref y)):=x;show h'.get? a=some (PySem.W.methodObj (.ref f) (.ref y));exact k a _ (.inl rfl) e
 | ext φ=>obtain ⟨p,⟨o,e⟩,st⟩:=x;exact ⟨st _ _ p fun o q=>k _ _ (.inl rfl) q,⟨o,k _ _ (.inl rfl) e⟩,st⟩
theorem HOk.lt(x:HOk P w H h)(e:H a=some o):a<h.objs.size:=(x a o e).lt
theorem HOk.fresh(x:HOk P w H h)(e:h.objs.size<=a):H a=none:=by
 cases q:H a with
 | none=>rfl
 | some u=>exact absurd (zUT (x.lt q) e) (Nat.lt_irrefl _)
theorem HOk.kept(x:HOk P w H h)(k: ∀b u,h.get? b=some u->h'.get? b=some u):HOk P w H h':=fun a o e=>
 (x a o e).stay (fun b u _ q=>k b u q) (fun _ q=>q) fun _ _ q=>q
theorem HOk.laid(x:HOk P w H h)(k: ∀b u,h.get? b=some u->h'.get? b=some u)(hp:h.objs.size<=a)(new:zj P w (upd H a o) h' a o):HOk P w (upd H a o) h':=fun b u e=>by
 have hn:=x.fresh hp;by_cases hb:b=a
 ·subst hb;rw [zC] at e;cases e;exact new
 ·rw [zG hb] at e;exact (x b u e).stay (fun c v _ q=>k c v q) (fun c q=>by rw [zG (zI q hn)];exact q) fun c xs q=>by rw [zG (zI q hn)];exact q
end
def Rd(H:Hp)(a:Addr)(u:HO):Prop:=H a=some u\/ ∃o,H a=some (.frz o u)
theorem Rd.ok(r:Rd H a u)(x:HOk P w H h):zj P w H h a u:=by
 rcases r with r |⟨o,r⟩
 ·exact x a u r
 ·obtain ⟨_,q⟩:=x a _ r;exact q
def Mut:Option HO->Prop
 | some (.lst _)=>True
 | some (.dK _)=>True
 | some (.dT _)=>True
 | some (.set _ _)=>True
 | some (.ins _ _ _)=>True
 | some (.ext _)=>True
 | _=>False
section
variable {P:Program}{w:World}{H:Hp}{h h':Heap}{x e:Addr}{o':HO}
theorem HOk.write(ok:HOk P w H h)(mu:Mut (H x))(he:e=x\/H e=some (.own x))(k: ∀b u,b≠e->h.get? b=some u->h'.get? b=some u)(heo: ∃u,h'.get? e=some u)
  (new:zj P w (upd H x o') h' x o'):HOk P w (upd H x o') h':=fun b u q=>by
 have nown: ∀c y,H c=some (.own y)->c≠x:=fun c y r z=>by subst z;rw [r] at mu;exact mu
 have ntup: ∀c xs,H c=some (.tup xs)->c≠x:=fun c xs r z=>by subst z;rw [r] at mu;exact mu
 by_cases hb:b=x
 ·subst hb;rw [zC] at q;cases q;exact new
 ·rw [zG hb] at q;by_cases hbe:b=e
  ·have q':H b=some (.own x):=by
    rcases he with z | z
    ·exact absurd (hbe.trans z) hb
    ·rw [hbe];exact z
   rw [q] at q';cases q';obtain ⟨v,hv⟩:=heo;exact ⟨v,by rw [hbe];exact hv⟩
  ·refine (ok b u q).stay (fun c v hc r=>k c v ?_ r) (fun c r=>by rw [zG (nown c b r)];exact r) fun c xs r=>by rw [zG (ntup c xs r)];exact r
   rcases hc with rfl | hc
   ·exact hbe
   ·rintro rfl;rcases he with z | z
    ·exact nown c b hc z
    ·rw [hc] at z;cases z;exact hb rfl
end
structure Un(fs ex:List Addr)(H H':Hp)(h h':Heap):Prop where
 keep: ∀b o,h.get? b=some o->H b=none->b∉fs->b∉ex->h'.get? b=some o
 slot: ∀b o,h.get? b=some o->H b=none->b∈fs->b∉ex-> ∃sl,h'.get? b=some {o with slots:=sl}
 free: ∀b o,h.get? b=some o->H b=none->b∉ex->H' b=none
 there: ∀b o,h.get? b=some o->b∉ex-> ∃o',h'.get? b=some o'
 tups: ∀b xs,H b=some (.tup xs)->H' b=some (.tup xs)
 frzs: ∀b o u,H b=some (.frz o u)->H' b=some (.frz o u)
 tbls: ∀b ps,H b=some (.tbl ps)-> ∃more,H' b=some (.tbl (ps++more))
section
variable {fs fs' ex ex':List Addr}{H H1 H2:Hp}{h h1 h2 h':Heap}{a x e:Addr}{o:HO}
theorem Un.any(u:Un fs ex H H1 h h1)(q:h.get? b=some ob)(n:H b=none)(hx:b∉ex): ∃sl,h1.get? b=some {ob with slots:=sl}:=by
 by_cases hb:b∈fs
 ·exact u.slot b ob q n hb hx
 ·exact ⟨ob.slots,u.keep b ob q n hb hx⟩
theorem Un.kept(k: ∀b u,h.get? b=some u->h'.get? b=some u):Un fs ex H H h h':=
 ⟨fun b ob q _ _ _=>k b ob q,fun b ob q _ _ _=>⟨ob.slots,k b ob q⟩,fun _ _ _ n _=>n,fun b ob q _=>⟨ob,k b ob q⟩,fun _ _ q=>q,fun _ _ _ q=>q,fun _ ps q=>⟨#[],by rw [q];simp⟩⟩
theorem Un.refl:Un fs ex H H h h:=Un.kept fun _ _ q=>q
theorem Un.laid(k: ∀b u,h.get? b=some u->h'.get? b=some u)(hp:h.objs.size<=a)(hn:H a=none):Un fs ex H (upd H a o) h h' where
 keep:=fun b u q _ _ _=>k b u q
 slot:=fun b u q _ _ _=>⟨u.slots,k b u q⟩
 free:=fun b u q n _=>by rw [zG (zUS (zUT (zUU q) hp))];exact n
 there:=fun b u q _=>⟨u,k b u q⟩
 tups:=fun b xs q=>by rw [zG (zI q hn)];exact q
 frzs:=fun b u xs q=>by rw [zG (zI q hn)];exact q
 tbls:=fun b ps q=>⟨#[],by rw [zG (zI q hn),q];simp⟩
theorem Un.write(mu:Mut (H x))(he:e=x\/H e=some (.own x))(k: ∀b u,b≠e->h.get? b=some u->h'.get? b=some u)(heo: ∃u,h'.get? e=some u):Un fs ex H (upd H x o) h h':=by
 have hx: ∀b,H b=none->b≠x:=fun b n z=>by subst z;rw [n] at mu;exact mu
 have hb: ∀b,H b=none->b≠e:=fun b n z=>by
  subst z;rcases he with r | r
  ·exact hx b n r
  ·rw [n] at r;cases r
 have hm: ∀b u,H b=some u-> ¬Mut (some u)->b≠x:=fun b u q nm z=>by subst z;rw [q] at mu;exact nm mu
 refine ⟨fun b u q n _ _=>k b u (hb b n) q,fun b u q n _ _=>⟨u.slots,k b u (hb b n) q⟩,fun b u q n _=>by rw [zG (hx b n)];exact n,fun b u q _=>?_,
  fun b xs q=>by rw [zG (hm b _ q fun z=>z)];exact q,fun b u xs q=>by rw [zG (hm b _ q fun z=>z)];exact q,fun b ps q=>⟨#[],by rw [zG (hm b _ q fun z=>z),q];simp⟩⟩
 by_cases hbe:b=e
 ·subst hbe;exact heo
 ·exact ⟨u,k b u hbe q⟩
end
def trk(h:Heap)(H:Hp):List Addr:=(List.range h.objs.size).filter fun a=>(H a).isSome
def zCo(h:Heap)(H:Hp):Heap:=PySem.W.hideAll h (trk h H)
theorem zMd(h:Heap)(H:Hp):(zCo h H).objs.size=h.objs.size:=PySem.W.hideAll_size _ _
theorem zNZ(e:h.get? b=some o)(n:H b=none):(zCo h H).get? b=some o:=
 zUu _ e fun hm=>by
  have q:(H b).isSome=true:=(zVY.mp hm).2;rw [n] at q;simp at q
theorem zPb(e:(zCo h H).get? b=some o):h.get? b=some o/\H b=none:=by
 have e':h.get? b=some o:=zVJ (trk h H) e;refine ⟨e',?_⟩;cases q:H b with
 | none=>rfl
 | some x=>
  have hm:b∈trk h H:=zVY.mpr ⟨List.mem_range.mpr (zUU e'),by simp [q]⟩;have z:(zCo h H).get? b=none:=PySem.W.hideAll_none (trk h H) hm;rw [z] at e;cases e
structure Mod(K:zVK)(mg:Str->Option Value)(base:Heap):Prop where
 kin:K.In base
 glob:base.Ns mainGlobals mg
 blt: ∃mb,base.Ns builtinsNs mb/\ ∀x:Str,x≠ "__name__" ->mb x=bootBuiltins x
 nolimit:base.NoLimit
 seer:base.NoSeer
structure Cx where
 prog:Program
 w:World
 K:zVK
 mg:Str->Option Value
 base:Heap
 A:Around
 N:List Str
 s₀:Shared
 H₀:Hp
 env:Env
 outer:List Env
 stack:List Env
 ex:List Addr
 fn:Str->Bool
 calm:Bool
 pn:List (Addr×Obj)
 xe:Value->Shared->Prop
def yW(l:List Env):List Addr:=l.filterMap (·.frame)
abbrev Cx.fs(X:Cx):List Addr:=yW X.outer
def Vis(sc:Scope)(x:Str):Prop:=sc.names.lookup x=some .local\/sc.names.lookup x=some .cell\/sc.names.lookup x=some .free
def Loc(sc:Scope)(x:Str):Prop:=sc.names.lookup x=some .local\/sc.names.lookup x=some .cell
def zUA(env:Env)(h:Heap)(m:Str->Option Value)(x:Str)(u:Value):Prop:=
 (env.kindOf x=some .local/\m x=some u)\/((env.kindOf x=some .cell\/env.kindOf x=some .free)/\ ∃c,env.cells.lookup x=some c/\h.IsCell c (some u))
structure Cx.Ok(X:Cx):Prop where
 mod:Mod X.K X.mg X.base
 kind:X.env.scope.kind= .function
 glob:X.env.globals=mainGlobals
 blt:X.env.builtins=builtinsNs
 above:X.s₀.heap.objs.size<=X.env.locals
 inj: ∀x y c,X.env.cells.lookup x=some c->X.env.cells.lookup y=some c->x=y
 has: ∀x,(X.env.kindOf x=some .cell\/X.env.kindOf x=some .free)-> ∃c,X.env.cells.lookup x=some c
 cab: ∀x c,X.fn x=true->X.env.cells.lookup x=some c->X.s₀.heap.objs.size<=c
 hd:X.calm=true->X.A.handled=none
 frames:X.A.frames=some X.stack
 stk:X.stack=X.outer\/(X.stack=X.env::X.outer/\X.env.frame=some X.env.locals)
 exf: ∀b∈X.ex,b≠X.env.locals/\ ∀x c,X.env.cells.lookup x=some c->c≠b
 bs: ∀b o,X.base.get? b=some o->X.s₀.heap.get? b=some o/\X.H₀ b=none
 bsz:X.base.objs.size<=X.s₀.heap.objs.size
 noex: ∀b o,X.base.get? b=some o->b∉X.ex
 exfs: ∀b∈X.ex,b∉X.fs
 funs:X.s₀.heap.FunFrames X.base X.outer
 frf: ∀b∈X.fs,X.H₀ b=none
structure Inv(X:Cx)(pins:List (Addr×Obj))(σ:List (Option V))(H:Hp)(s:Shared):Prop where
 ok:X.Ok
 os:s.os=X.s₀.os
 bare:AllBare s.gens
 base:Un X.fs X.ex X.H₀ H X.s₀.heap s.heap
 loc: ∃m,s.heap.Ns X.env.locals m/\ ∀(i:Nat) (x:Str) (v:V),X.N[i]?=some x->σ[i]?=some (some v)->Vis X.env.scope x-> ∃u,zU v u/\zUA X.env s.heap m x u
 cell: ∀x c,X.env.cells.lookup x=some c-> ∃v,s.heap.IsCell c v
 free:H X.env.locals=none
 freeC: ∀x c,X.env.cells.lookup x=some c->H c=none
 pin: ∀p∈X.pn++pins,s.heap.get? p.1=some p.2/\H p.1=none/\p.1≠X.env.locals/\p.1∉X.fs/\ ∀v,p.2.data≠ .cell v
 hok:HOk X.prog X.w H s.heap
 len:σ.length=X.N.length
section
variable {X:Cx}{pins:List (Addr×Obj)}{σ:List (Option V)}{H H':Hp}{s:Shared}{h':Heap}
theorem Cx.Ok.nofr(ok:X.Ok)(e:X.base.get? b=some o):b∉X.fs:=fun hb=>by
 have:=(ok.funs.mem hb).1;rw [e] at this;cases this
theorem Inv.bs(I:Inv X pins σ H s): ∀b o,X.base.get? b=some o->s.heap.get? b=some o/\H b=none:=fun b o e=>
 ⟨I.base.keep b o (I.ok.bs b o e).1 (I.ok.bs b o e).2 (I.ok.nofr e) (I.ok.noex b o e),I.base.free b o (I.ok.bs b o e).1 (I.ok.bs b o e).2 (I.ok.noex b o e)⟩
theorem Inv.bk(I:Inv X pins σ H s): ∀b o,X.base.get? b=some o->s.heap.get? b=some o:=fun b o e=>(I.bs b o e).1
theorem Inv.mod(I:Inv X pins σ H s):Mod X.K X.mg X.base:=I.ok.mod
theorem Inv.kIn(I:Inv X pins σ H s):X.K.In s.heap:=I.ok.mod.kin.keeps I.bk
theorem Inv.lt(I:Inv X pins σ H s):X.env.locals<s.heap.objs.size:=let ⟨_,hn,_⟩:=I.loc;hn.lt
theorem Inv.sz(I:Inv X pins σ H s):X.s₀.heap.objs.size<=s.heap.objs.size:=zUY I.ok.above (zUy I.lt)
theorem Inv.nofs(I:Inv X pins σ H s)(h:s.heap.objs.size<=a):a∉X.fs:=fun hb=>by
 obtain ⟨_,o,ho,_⟩:=I.ok.funs.mem hb;exact absurd (zUT (zUU ho) (zUY I.sz h)) (Nat.lt_irrefl _)
theorem Inv.cne(I:Inv X pins σ H s): ∀x c,X.env.cells.lookup x=some c->c≠X.env.locals:=fun x c e z=>by
 obtain ⟨v,o,ho,hd⟩:=I.cell x c e;obtain ⟨m,⟨o',es,ep,ho',hd',_⟩,_⟩:=I.loc;rw [z,ho'] at ho;cases ho;rw [hd'] at hd;cases hd
theorem Inv.funs(I:Inv X pins σ H s):s.heap.FunFrames X.base X.outer:=by
 have all: ∀(l:List Env),(∀b∈yW l,b∈X.fs)->X.s₀.heap.FunFrames X.base l->s.heap.FunFrames X.base l:=by
  intro l
  induction l with
  | nil=>intro _ _;trivial
  | cons env r ih=>
   intro hs hl;obtain ⟨hk,⟨L,o,hf,hn,ho,hd⟩,hr⟩:=hl;have hL:L∈X.fs:=hs L (by unfold yW;rw [List.filterMap_cons,hf];exact List.mem_cons_self);obtain ⟨sl,e⟩:=I.base.slot L o ho (I.ok.frf L hL) hL fun z=>I.ok.exfs L z hL;exact ⟨hk,⟨L,_,hf,hn,e,hd⟩,ih (fun b hb=>hs b (by unfold yW;rw [List.filterMap_cons,hf];exact zUv _ hb)) hr⟩
 exact all X.outer (fun _ hb=>hb) I.ok.funs
theorem Inv.stack(I:Inv X pins σ H s):s.heap.FunFrames X.base X.stack:=by
 rcases I.ok.stk with e |⟨e,hf⟩
 ·rw [e];exact I.funs
 ·rw [e];obtain ⟨m,hn,_⟩:=I.loc;refine .cons (by rw [I.ok.kind];decide) hf hn ?_ I.funs;exact Heap.get?_none_of_le (zUY I.ok.bsz I.ok.above)
theorem Inv.stkSub(I:Inv X pins σ H s): ∀b∈yW X.stack,b∈X.env.locals::X.fs:=fun b hb=>by
 rcases I.ok.stk with e |⟨e,hf⟩
 ·rw [e] at hb;exact zUv _ hb
 ·rw [e] at hb;unfold yW at hb;rw [List.filterMap_cons,hf] at hb;exact hb
theorem Inv.stkFree(I:Inv X pins σ H s): ∀b∈yW X.stack,H b=none:=fun b hb=>by
 rcases zVL.mp (I.stkSub b hb) with e | hb
 ·rw [e];exact I.free
 ·obtain ⟨_,o,ho,_⟩:=I.ok.funs.mem hb;exact I.base.free b o ho (I.ok.frf b hb) fun z=>I.ok.exfs b z hb
theorem Inv.step{g':Array GenState}{t':Nat}{d':Drawn}{ch:List Addr}(I:Inv X pins σ H s)
  (hch: ∀b∈ch,(b∈X.ex\/X.s₀.heap.objs.size<=b)/\b≠X.env.locals/\(∀x c,X.env.cells.lookup x=some c->c≠b)/\ ∀p∈X.pn++pins,p.1≠b)
  (keep: ∀b o,b≠X.env.locals->b∉X.fs->b∉ch->s.heap.get? b=some o->H b=none->h'.get? b=some o)
  (slot: ∀b o,b≠X.env.locals->b∈X.fs->b∉ch->s.heap.get? b=some o->H b=none-> ∃sl,h'.get? b=some {o with slots:=sl}) (free: ∀b o,b∉ch->s.heap.get? b=some o->H b=none->H' b=none)
  (there: ∀b o,b∉ch->s.heap.get? b=some o-> ∃o',h'.get? b=some o')
  (tups: ∀b xs,H b=some (.tup xs)->H' b=some (.tup xs)) (frzs: ∀b o u,H b=some (.frz o u)->H' b=some (.frz o u)) (tbls: ∀b ps,H b=some (.tbl ps)-> ∃more,H' b=some (.tbl (ps++more)))
  (ns: ∀m,s.heap.Ns X.env.locals m->h'.Ns X.env.locals m) (hok:HOk X.prog X.w H' h') (hg:AllBare g'):
  Inv X pins σ H' {s with heap:=h',gens:=g',drawn:=d',toks:=t'}:=by
 have neL: ∀b o,X.s₀.heap.get? b=some o->b≠X.env.locals:=fun b o e=>zUS (zUT (zUU e) I.ok.above);have neC: ∀b o,X.s₀.heap.get? b=some o->b∉X.ex->b∉ch:=fun b o e hx hb=>by
  rcases (hch b hb).1 with z | z
  ·exact hx z
  ·exact absurd (zUT (zUU e) z) (Nat.lt_irrefl _)
 have cellK: ∀x c,X.env.cells.lookup x=some c-> ∀v,s.heap.IsCell c v->h'.IsCell c v:=fun x c e v ⟨o,ho,hd⟩=>by
  have nch:c∉ch:=fun z=>(hch c z).2.2.1 x c e rfl;by_cases hc:c∈X.fs
  ·obtain ⟨sl,q⟩:=slot c o (I.cne x c e) hc nch ho (I.freeC x c e);exact ⟨_,q,hd⟩
  ·exact ⟨o,keep c o (I.cne x c e) hc nch ho (I.freeC x c e),hd⟩
 refine ⟨I.ok,I.os,hg,⟨fun b o e n hb hx=>?_,fun b o e n hb hx=>?_,fun b o e n hx=>?_,fun b o e hx=>?_,fun b xs e=>tups b xs (I.base.tups b xs e),fun b o xs e=>frzs b o xs (I.base.frzs b o xs e),fun b ps e=>?_⟩,?_,fun x c e=>?_,?_,fun x c e=>?_,fun p hp=>?_,hok,I.len⟩
 ·exact keep b o (neL b o e) hb (neC b o e hx) (I.base.keep b o e n hb hx) (I.base.free b o e n hx)
 ·obtain ⟨sl,e1⟩:=I.base.slot b o e n hb hx;obtain ⟨sl',e2⟩:=slot b _ (neL b o e) hb (neC b o e hx) e1 (I.base.free b o e n hx);exact ⟨sl',e2⟩
 ·obtain ⟨o',e1⟩:=I.base.there b o e hx;exact free b o' (neC b o e hx) e1 (I.base.free b o e n hx)
 ·obtain ⟨o',e1⟩:=I.base.there b o e hx;exact there b o' (neC b o e hx) e1
 ·obtain ⟨m1,e1⟩:=I.base.tbls b ps e;obtain ⟨m2,e2⟩:=tbls b _ e1;exact ⟨m1++m2,by rw [e2,Array.append_assoc]⟩
 ·obtain ⟨m,hn,hl⟩:=I.loc;refine ⟨m,ns m hn,fun i x v e1 e2 e3=>?_⟩;obtain ⟨u,r,l⟩:=hl i x v e1 e2 e3;refine ⟨u,r,?_⟩;rcases l with l |⟨k,c,e,z⟩
  ·exact .inl l
  ·exact .inr ⟨k,c,e,cellK x c e _ z⟩
 ·obtain ⟨v,z⟩:=I.cell x c e;exact ⟨v,cellK x c e v z⟩
 ·obtain ⟨m,⟨o,_,_,ho,_⟩,_⟩:=I.loc;exact free _ o (fun z=>(hch _ z).2.1 rfl) ho I.free
 ·obtain ⟨v,o,ho,hd⟩:=I.cell x c e;exact free c o (fun z=>(hch c z).2.2.1 x c e rfl) ho (I.freeC x c e)
 ·obtain ⟨e,n,ne,nf,d⟩:=I.pin p hp;have nch:p.1∉ch:=fun z=>(hch p.1 z).2.2.2 p hp rfl;exact ⟨keep p.1 p.2 ne nf nch e n,free p.1 p.2 nch e n,ne,nf,d⟩
theorem Inv.un{t':Nat}(I:Inv X pins σ H s)(u:Un X.fs [] H H' s.heap h')(hok:HOk X.prog X.w H' h'):Inv X pins σ H' {s with heap:=h',toks:=t'}:=by
 obtain ⟨m,⟨o,es,ep,ho,r⟩,_⟩:=id I.loc;obtain ⟨sl,hL⟩:=u.any ho I.free (by simp);exact I.step (g':=s.gens) (d':=s.drawn) (ch:= []) (fun _ z=>nomatch z) (fun b o _ hb _ e n=>u.keep b o e n hb (by simp)) (fun b o _ hb _ e n=>u.slot b o e n hb (by simp)) (fun b o _ e n=>u.free b o e n (by simp)) (fun b o _ e=>u.there b o e (by simp)) u.tups u.frzs u.tbls (fun m' hm=>by
  obtain ⟨o',es',ep',ho',r'⟩:=hm;rw [ho] at ho';cases ho';exact ⟨_,es',ep',hL,r'⟩) hok I.bare
theorem Inv.call{g':Array GenState}{t':Nat}{d':Drawn}{ch:List Addr}(I:Inv X pins σ H s)(u:Un (yW X.stack) ch H H' s.heap h')(hok:HOk X.prog X.w H' h')(hg:AllBare g')
  (hch: ∀b∈ch,(b∈X.ex\/X.s₀.heap.objs.size<=b)/\b≠X.env.locals/\(∀x c,X.env.cells.lookup x=some c->c≠b)/\ ∀p∈X.pn++pins,p.1≠b):
  Inv X pins σ H' {s with heap:=h',gens:=g',drawn:=d',toks:=t'}:=by
 obtain ⟨m,⟨o,es,ep,ho,r⟩,_⟩:=id I.loc;obtain ⟨sl,hL⟩:=u.any ho I.free fun z=>(hch _ z).2.1 rfl;exact I.step (ch:=ch) hch (fun b o hL hb hc e n=>u.keep b o e n (fun z=>(zVL.mp (I.stkSub b z)).elim hL hb) hc) (fun b o _ _ hc e n=>u.any e n hc) (fun b o hc e n=>u.free b o e n hc) (fun b o hc e=>u.there b o e hc) u.tups u.frzs u.tbls (fun m' hm=>by
  obtain ⟨o',es',ep',ho',r'⟩:=hm;rw [ho] at ho';cases ho';exact ⟨_,es',ep',hL,r'⟩) hok hg
theorem Inv.turned{t':Nat}{it:Addr}(I:Inv X pins σ H s)(k: ∀b o,b≠it->s.heap.get? b=some o->h'.get? b=some o)(hn:H it=none)(hL:it≠X.env.locals)
  (h1:it∈X.ex\/X.s₀.heap.objs.size<=it) (h2: ∀x c,X.env.cells.lookup x=some c->c≠it) (h3: ∀p∈X.pn++pins,p.1≠it):Inv X pins σ H {s with heap:=h',toks:=t'}:=by
 have nit: ∀b u,H b=some u->b≠it:=fun b u e z=>by rw [z,hn] at e;cases e
 refine I.step (g':=s.gens) (d':=s.drawn) (ch:= [it]) (fun b hb=>?_) (fun b o _ _ hc e _=>k b o (fun z=>hc (by simp [z])) e) (fun b o _ _ hc e _=>⟨o.slots,k b o (fun z=>hc (by simp [z])) e⟩) (fun _ _ _ _ n=>n)
  (fun b o hc e=>⟨o,k b o (fun z=>hc (by simp [z])) e⟩) (fun _ _ e=>e) (fun _ _ _ e=>e) (fun b ps e=>⟨#[],by rw [e];simp⟩) (fun m hm=>?_) (fun b u e=>?_) I.bare
 ·have e:b=it:=by simpa using hb
  subst e;exact ⟨h1,hL,h2,h3⟩
 ·obtain ⟨o,es,ep,ho,r⟩:=hm;exact ⟨o,es,ep,k _ o (Ne.symm hL) ho,r⟩
 ·refine (I.hok b u e).stay (fun c v hc q=>k c v ?_ q) (fun _ q=>q) fun _ _ q=>q;rcases hc with z | z
  ·rw [z];exact nit b u e
  ·exact nit c _ z
theorem Inv.tok(I:Inv X pins σ H s)(t:Nat):Inv X pins σ H {s with toks:=t}:=I.un (h':=s.heap) (t':=t) Un.refl I.hok
theorem Inv.kept(I:Inv X pins σ H s)(k: ∀b u,s.heap.get? b=some u->h'.get? b=some u):Inv X pins σ H {s with heap:=h',toks:=t'}:=I.un (Un.kept k) (I.hok.kept k)
theorem Inv.laid(I:Inv X pins σ H s)(k: ∀b u,s.heap.get? b=some u->h'.get? b=some u)(hp:s.heap.objs.size<=a)(new:zj X.prog X.w (upd H a o) h' a o):
  Inv X pins σ (upd H a o) {s with heap:=h',toks:=t'}:=I.un (Un.laid k hp (I.hok.fresh hp)) (I.hok.laid k hp new)
theorem Inv.write(I:Inv X pins σ H s)(mu:Mut (H x))(he:e=x\/H e=some (.own x))(k: ∀b u,b≠e->s.heap.get? b=some u->h'.get? b=some u)(heo: ∃u,h'.get? e=some u)
  (new:zj X.prog X.w (upd H x o) h' x o):Inv X pins σ (upd H x o) {s with heap:=h',toks:=t'}:=I.un (Un.write mu he k heo) (I.hok.write mu he k heo new)
theorem Inv.pins_of(I:Inv X pins σ H s)(h: ∀p∈pins',s.heap.get? p.1=some p.2/\H p.1=none/\p.1≠X.env.locals/\p.1∉X.fs/\ ∀v,p.2.data≠ .cell v):Inv X pins' σ H s:=
 ⟨I.ok,I.os,I.bare,I.base,I.loc,I.cell,I.free,I.freeC,fun p hp=>(zVO.mp hp).elim (fun z=>I.pin p (List.mem_append_left _ z)) (h p),I.hok,I.len⟩
theorem zFc{N:List Str}(hN:N.Nodup){i j:Nat}{x:Str}(a:N[i]?=some x)(b:N[j]?=some x):i=j:=by
 obtain ⟨h1,e1⟩:=zVX.mp a;obtain ⟨h2,e2⟩:=zVX.mp b;exact (List.getElem_inj hN).mp (e1.trans e2.symm)
theorem zHR{M:Model}{A:Around}{E:Value->Shared->Prop}{i:Nat}{x:Str}{v:V}{u:Value}{Q:Unit->Shared->Prop}(I:Inv X pins σ H s)(hN:X.N.Nodup)(hi:X.N[i]?=some x)(hx:Loc X.env.scope x)(r:zU v u)
  (h: ∀s',Inv X pins (σ.set i (some v)) H s'->(∃a,Heap.SameBut a s.heap s'.heap/\(a=X.env.locals\/X.env.cells.lookup x=some a))->Q () s') (hf:X.fn x=true\/X.env.scope.names.lookup x=some .local:=by first | exact .inl rfl | exact .inr rfl | assumption):wpAny M A (storeName X.env x u) Q E s:=by
 obtain ⟨m,hn,hl⟩:=id I.loc;have hcls:(X.env.scope.kind== .class ||(X.env.scope.kind== .module&&X.env.locals !=X.env.globals))=false:=by rw [I.ok.kind];rfl
 have hiσ:i<σ.length:=by rw [I.len];exact (zVX.mp hi).1
 have cne:=I.cne;have tracked: ∀{a:Addr} {h':Heap},(∃o,s.heap.get? a=some o/\H a=none)->Heap.SameBut a s.heap h'->HOk X.prog X.w H h':=fun {a h'} ha hs b ob e=>by
  obtain ⟨_,_,hfree⟩:=ha;refine (I.hok b ob e).stay (fun c w' hc q=>(hs.2 c ?_).trans q) (fun _ q=>q) fun _ _ q=>q;rintro rfl;rcases hc with rfl | hc
  ·rw [hfree] at e;cases e
  ·rw [hfree] at hc;cases hc
 rcases hx with hk | hk
 ·refine wpAny_storeName_local hk hn (fun h' hn' hs=>?_) hcls;obtain ⟨oL,_,_,hoL,_⟩:=id hn;refine h _ ⟨I.ok,I.os,I.bare,⟨fun b o e n hb hx=>?_,fun b o e n hb hx=>?_,I.base.free,fun b o e hx=>?_,I.base.tups,I.base.frzs,I.base.tbls⟩,⟨_,hn',fun j y v' e1 e2 e3=>?_⟩,fun y c e=>?_,I.free,I.freeC,fun p hp=>?_,tracked ⟨oL,hoL,I.free⟩ hs,by simpa using I.len⟩ ⟨_,hs,.inl rfl⟩
  ·exact (hs.2 b (zUS (zUT (zUU e) I.ok.above))).trans (I.base.keep b o e n hb hx)
  ·obtain ⟨sl,e1⟩:=I.base.slot b o e n hb hx;exact ⟨sl,(hs.2 b (zUS (zUT (zUU e) I.ok.above))).trans e1⟩
  ·obtain ⟨o',e1⟩:=I.base.there b o e hx;exact ⟨o',(hs.2 b (zUS (zUT (zUU e) I.ok.above))).trans e1⟩
  ·by_cases hj:j=i
   ·subst hj;rw [hi] at e1;cases e1;rw [List.getElem?_set_self hiσ] at e2;cases e2;exact ⟨u,r,.inl ⟨hk,by simp⟩⟩
   ·rw [List.getElem?_set_ne (Ne.symm hj)] at e2;obtain ⟨u',r',q⟩:=hl j y v' e1 e2 e3;refine ⟨u',r',?_⟩;rcases q with ⟨k,e⟩|⟨k,c,e,z⟩
    ·refine .inl ⟨k,?_⟩;have:y≠x:=fun e=>hj (zFc hN e1 (e▸hi));simp [this,e]
    ·exact .inr ⟨k,c,e,z.sameBut hs (cne y c e)⟩
  ·obtain ⟨w',z⟩:=I.cell y c e;exact ⟨w',z.sameBut hs (cne y c e)⟩
  ·obtain ⟨e,n,ne,nf,d⟩:=I.pin p hp;exact ⟨(hs.2 p.1 ne).trans e,n,ne,nf,d⟩
 ·have hfn:X.fn x=true:=by
   rcases hf with z | z
   ·exact z
   ·rw [z] at hk;cases hk
  obtain ⟨c,hc⟩:=I.ok.has x (.inl hk);obtain ⟨w',z⟩:=I.cell x c hc;refine wpAny_storeName_cell I.ok.kind hk hc z (fun h' hc' hs=>?_);obtain ⟨oc,hoc,hocd⟩:=id z;refine h {s with heap:=h'} ⟨I.ok,I.os,I.bare,⟨fun b o e n hb hx=>?_,fun b o e n hb hx=>?_,I.base.free,fun b o e hx=>?_,I.base.tups,I.base.frzs,I.base.tbls⟩,⟨m,hn.sameBut hs (Ne.symm (cne x c hc)),fun j y v' e1 e2 e3=>?_⟩,fun y c' e=>?_,I.free,I.freeC,fun p hp=>?_,tracked ⟨oc,hoc,I.freeC x c hc⟩ hs,by simpa using I.len⟩ ⟨c,hs,.inr hc⟩
  ·exact (hs.2 b (zUS (zUT (zUU e) (I.ok.cab x c hfn hc)))).trans (I.base.keep b o e n hb hx)
  ·obtain ⟨sl,e1⟩:=I.base.slot b o e n hb hx;exact ⟨sl,(hs.2 b (zUS (zUT (zUU e) (I.ok.cab x c hfn hc)))).trans e1⟩
  ·obtain ⟨o',e1⟩:=I.base.there b o e hx;exact ⟨o',(hs.2 b (zUS (zUT (zUU e) (I.ok.cab x c hfn hc)))).trans e1⟩
  ·by_cases hj:j=i
   ·subst hj;rw [hi] at e1;cases e1;rw [List.getElem?_set_self hiσ] at e2;cases e2;exact ⟨u,r,.inr ⟨.inl hk,c,hc,hc'⟩⟩
   ·rw [List.getElem?_set_ne (Ne.symm hj)] at e2;obtain ⟨u',r',q⟩:=hl j y v' e1 e2 e3;refine ⟨u',r',?_⟩;rcases q with q |⟨k,c',e,z'⟩
    ·exact .inl q
    ·refine .inr ⟨k,c',e,z'.sameBut hs ?_⟩;rintro rfl;exact hj (zFc hN e1 (I.ok.inj _ _ _ e hc▸hi))
  ·by_cases hcc:c'=c
   ·subst hcc;exact ⟨_,hc'⟩
   ·obtain ⟨w2,z2⟩:=I.cell y c' e;exact ⟨w2,z2.sameBut hs hcc⟩
  ·obtain ⟨e,n,ne,nf,d⟩:=I.pin p hp;refine ⟨(hs.2 p.1 ?_).trans e,n,ne,nf,d⟩;intro q;rw [q,hoc] at e;have q':oc=p.2:=Option.some.inj e;exact d w' (by rw [<-q'];exact hocd)
theorem zFf{M:Model}{E:Value->Shared->Prop}{Q:Unit->Shared->Prop}(I:Inv X pins σ H s)(hN:X.N.Nodup)(hi:X.N[i]?=some x)(hx:Loc X.env.scope x)(r:zU v u)
  (h: ∀s',Inv X pins (σ.set i (some v)) H s'->Q () s') (hf:X.fn x=true\/X.env.scope.names.lookup x=some .local:=by first | exact .inl rfl | exact .inr rfl | assumption):wpAny M A (storeName X.env x u) Q E s:=
 zHR I hN hi hx r (fun s' I' _=>h s' I') hf
theorem Inv.call'(I:Inv X pins σ H s)(ho:s'.os=s.os)(u:Un (yW X.stack) ch H H' s.heap s'.heap)(hok:HOk X.prog X.w H' s'.heap)(hg:AllBare s'.gens)
  (hch: ∀b∈ch,(b∈X.ex\/X.s₀.heap.objs.size<=b)/\b≠X.env.locals/\(∀x c,X.env.cells.lookup x=some c->c≠b)/\ ∀p∈X.pn++pins,p.1≠b):Inv X pins σ H' s':=by
 obtain ⟨h',g',d',t',o'⟩:=s';have e:o'=s.os:=ho;subst e;exact I.call (g':=g') (t':=t') (d':=d') u hok hg hch
end
abbrev XK:=Value->Option Addr->Hp->Prop
abbrev St:=List (Option V)
abbrev VK:=V->Hp->Prop
abbrev TE:=St->Hp->VK->Prop
abbrev TT:=St->Hp->(Bool->Hp->Prop)->Prop
abbrev TA:=St->Hp->(List V->Hp->Prop)->Prop
structure Ends where
 nx:St->Hp->Prop
 rt:VK
 bk:St->Hp->Prop:=fun _ _=>False
 ct:St->Hp->Prop:=fun _ _=>False
abbrev TS:=Ends->St->Hp->Prop
def EP(X:Cx)(pins:List (Addr×Obj))(σ:St)(Q:VK)(u:Value)(s':Shared):Prop:= ∃v H',Inv X pins σ H' s'/\zU v u/\Q v H'
def TP(X:Cx)(pins:List (Addr×Obj))(σ:St)(Q:Bool->Hp->Prop)(b:Bool)(s':Shared):Prop:= ∃H',Inv X pins σ H' s'/\Q b H'
def AP(X:Cx)(pins:List (Addr×Obj))(σ:St)(Q:List V->Hp->Prop)(us:List Value)(s':Shared):Prop:= ∃vs H',Inv X pins σ H' s'/\zS vs us/\Q vs H'
def SP(X:Cx)(pins:List (Addr×Obj))(D:Ends)(f:Flow)(s':Shared):Prop:=
 match f with
 | .next=> ∃σ' H',Inv X pins σ' H' s'/\D.nx σ' H'
 | .brk=> ∃σ' H',Inv X pins σ' H' s'/\D.bk σ' H'
 | .cont=> ∃σ' H',Inv X pins σ' H' s'/\D.ct σ' H'
 | .ret u=> ∃v σ' H',Inv X pins σ' H' s'/\zU v u/\D.rt v H'
def PE(X:Cx)(e:Expr)(t:TE):Prop:=
 ∀(pins:List (Addr×Obj)) (s:Shared) (σ:St) (H:Hp) (Q:VK),Inv X pins σ H s->t σ H Q->wpAny (model X.prog X.w) X.A (eval e X.env) (EP X pins σ Q) X.xe s
def PT(X:Cx)(e:Expr)(t:TT):Prop:=
 ∀(pins:List (Addr×Obj)) (s:Shared) (σ:St) (H:Hp) (Q:Bool->Hp->Prop),Inv X pins σ H s->t σ H Q->wpAny (model X.prog X.w) X.A (isTrue e X.env (eval e X.env)) (TP X pins σ Q) X.xe s
def PW(X:Cx)(e:Expr)(t:TT):Prop:=
 ∀(whole:Sem Value) (pins:List (Addr×Obj)) (s:Shared) (σ:St) (H:Hp) (Q:Bool->Hp->Prop),Inv X pins σ H s->t σ H Q->wpAny (model X.prog X.w) X.A (isTrue e X.env whole) (TP X pins σ Q) X.xe s
theorem PW.pt{X:Cx}(h:PW X e t):PT X e t:=h _
def PA(X:Cx)(es:List Expr)(t:TA):Prop:=
 ∀(pos:Pos) (pins:List (Addr×Obj)) (s:Shared) (σ:St) (H:Hp) (Q:List V->Hp->Prop),Inv X pins σ H s->t σ H Q->wpAny (model X.prog X.w) X.A (spliced (backTo pos (starEach es X.env))) (AP X pins σ Q) X.xe s
def PS(X:Cx)(st:Stmt)(t:TS):Prop:=
 ∀(pins:List (Addr×Obj)) (s:Shared) (σ:St) (H:Hp) (D:Ends),Inv X pins σ H s->t D σ H->wpAny (model X.prog X.w) X.A (exec st X.env) (SP X pins D) X.xe s
def PSs(X:Cx)(st:List Stmt)(t:TS):Prop:=
 ∀(pins:List (Addr×Obj)) (s:Shared) (σ:St) (H:Hp) (D:Ends),Inv X pins σ H s->t D σ H->wpAny (model X.prog X.w) X.A (execs st X.env) (SP X pins D) X.xe s
theorem zV{α:Type}{t:Sem α}{Q Q':α->Shared->Prop}{M:Model}{E:Value->Shared->Prop}(h:wpAny M A t Q E s)(hQ: ∀a s,Q a s->Q' a s):wpAny M A t Q' E s:=zUf h hQ fun _ _ x=>x
section
variable {X:Cx}
inductive XVar (i:Nat) (σ:St) (H:Hp) (Q:VK):Prop
 | mk (v:V) (h:σ[i]?=some (some v)) (q:Q v H)
def zLe(i:Nat):TE:=fun σ H Q=>XVar i σ H Q
def tC(v:V):TE:=fun _ H Q=>Q v H
theorem zIq(hN:X.N[i]?=some x)(hv:Vis X.env.scope x)(hd:(x==("__debug__" :Str))=false:=by decide)(hcd:(x==("__classdict__" :Str))=false:=by decide):PE X (.Name x pos) (zLe i):=by
 intro pins s σ H Q I h;obtain ⟨v,e,h⟩:=h;obtain ⟨m,hn,hl⟩:=I.loc;obtain ⟨u,r,l⟩:=hl i x v hN e hv;have fin:EP X pins σ Q u s:=⟨v,H,I,r,h⟩;rcases l with ⟨hk,hm⟩|⟨hk,c,hc,hcell⟩
 ·exact wpAny_Name (wpAny_loadName_local I.ok.kind hk hn hm fin) hd
 ·rcases hk with hk | hk
  ·exact wpAny_Name (wpAny_loadName_cell I.ok.kind hk hc hcell fin) hd
  ·exact wpAny_Name (wpAny_loadName_free I.ok.kind hk hc hcell fin hcd) hd
theorem zt{i j pos}:PE X (.Constant (.int i) j pos) (tC (.int i)):=fun _ _ _ H _ I h=>wpAny_Constant_int ⟨.int i,H,I.tok _,⟨_,rfl⟩,h⟩
theorem zLd{b j pos}:PE X (.Constant (.bool b) j pos) (tC (.bl b)):=fun _ _ _ H _ I h=>Constant_bool ⟨.bl b,H,I,rfl,h⟩
theorem zRa{j pos}:PE X (.Constant .none j pos) (tC .non):=fun _ _ _ H _ I h=>Constant_none ⟨.non,H,I,rfl,h⟩
theorem zEB{x j pos}:PE X (.Constant (.str x) j pos) (tC (.str x)):=fun _ _ _ H _ I h=>Calls.Constant_str ⟨.str x,H,I.tok _,⟨_,rfl⟩,h⟩
def Gl(X:Cx)(x:Str):Prop:=X.env.kindOf x=some .globalImplicit
theorem zBY{E:Value->Shared->Prop}{Q:Value->Shared->Prop}(I:Inv X pins σ H s)(hg:Gl X x)(hm:X.mg x=some u)(h:Q u s)
  (hd:(x==("__debug__" :Str))=false:=by decide):wpAny (model X.prog X.w) X.A (eval (.Name x pos) X.env) Q E s:=
 Calls.Name_function_global I.ok.kind hg (Calls.loadGlobal_global (by rw [I.ok.glob];exact I.mod.glob.keeps I.bk) hm h) hd
theorem zDO{E:Value->Shared->Prop}{Q:Value->Shared->Prop}(I:Inv X pins σ H s)(hg:Gl X x)(hm:X.mg x=none)(hv:bootBuiltins x=some u)(h:Q u s)
  (hn:x≠ "__name__" :=by decide) (hd:(x==("__debug__" :Str))=false:=by decide):wpAny (model X.prog X.w) X.A (eval (.Name x pos) X.env) Q E s:=by
 obtain ⟨mb,h1,h2⟩:=I.mod.blt;exact Calls.Name_function_global I.ok.kind hg (Calls.loadGlobal_builtin (by rw [I.ok.glob];exact I.mod.glob.keeps I.bk) hm (by rw [I.ok.blt];exact h1.keeps I.bk) ((h2 x hn).trans hv) h) hd
theorem zQH(hg:Gl X x)(hm:X.mg x=some u)(r:zU v u)(hd:(x==("__debug__" :Str))=false:=by decide):PE X (.Name x pos) (tC v):=
 fun _ _ _ H _ I h=>zBY I hg hm ⟨v,H,I,r,h⟩ hd
theorem zEb(hg:Gl X x)(hm:X.mg x=none)(hv:bootBuiltins x=some u)(r:zU v u)(hn:x≠ "__name__" :=by decide)(hd:(x==("__debug__" :Str))=false:=by decide):PE X (.Name x pos) (tC v):=
 fun _ _ _ H _ I h=>zDO I hg hm hv ⟨v,H,I,r,h⟩ hn hd
variable {a b:Expr}{ta tb:TE}{pos:Pos}
def PC(X:Cx)(op:CmpOp)(a b:Expr)(t:TE):Prop:=
 ∀(pins:List (Addr×Obj)) (s:Shared) (σ:St) (H:Hp) (Q:VK),Inv X pins σ H s->t σ H Q->
  wpAny (model X.prog X.w) X.A (eval a X.env) (fun v s₁=>wpAny (model X.prog X.w) X.A (eval b X.env) (fun u s₂=>wpAny (model X.prog X.w) X.A (compareOp op v u) (EP X pins σ Q) X.xe s₂) X.xe s₁) X.xe s
theorem zIF(b:Expr){op:CmpOp}(h:op≠ .In)(h2:op≠ .NotIn):behindInMarks op b=false:=by
 have e1:(op==CmpOp.In)=false:=by cases op<;>first | rfl | exact absurd rfl h
 have e2:(op==CmpOp.NotIn)=false:=by cases op<;>first | rfl | exact absurd rfl h2
 cases b<;>simp [behindInMarks,e1,e2]
def zSM(ta:TE):TE:=fun σ H Q=>ta σ H fun x H1=>Q (.bl (decide (x= .non))) H1
def zOj(ta:TE):TE:=fun σ H Q=>ta σ H fun x H1=>Q (.bl (!decide (x= .non))) H1
theorem zU.none_iff(r:zU x v):(v==Value.none)=decide (x= .non):=by
 cases x with
 | non=>cases r;rfl
 | bl _=>cases r;rfl
 | int _=>obtain ⟨t,rfl⟩:=r;rfl
 | str _=>obtain ⟨t,rfl⟩:=r;rfl
 | byt _=>obtain ⟨t,rfl⟩:=r;rfl
 | flt _=>obtain ⟨t,rfl⟩:=r;rfl
 | ref _=>cases r;rfl
 | ty _=>cases r;rfl
theorem zSH{j pos'}(ha:PE X a ta):PC X .Is a (.Constant .none j pos') (zSM ta):=by
 intro pins s σ H Q I h;refine zV (ha pins s σ H _ I h) fun v s1 ⟨x,H1,I1,r1,q1⟩=>?_;exact Constant_none (is_none_gen ⟨.bl _,H1,I1,by rw [r1.none_iff];rfl,q1⟩)
theorem zJw{j pos'}(ha:PE X a ta):PC X .IsNot a (.Constant .none j pos') (zOj ta):=by
 intro pins s σ H Q I h;refine zV (ha pins s σ H _ I h) fun v s1 ⟨x,H1,I1,r1,q1⟩=>?_;exact Constant_none (isnot_none_gen ⟨.bl _,H1,I1,by rw [r1.none_iff];rfl,q1⟩)
inductive XB (x:V) (H:Hp) (Q:Bool->Hp->Prop):Prop
 | mk (c:Bool) (h:x= .bl c) (q:Q c H)
def tB(t:TE):TT:=fun σ H Q=>t σ H fun x H1=>XB x H1 Q
theorem zSK{op:CmpOp}(h:PC X op a b t)(h1:behindInMarks op b=false:=by first | exact zIF _ (by decide) (by decide)| rfl):PE X (.Compare a [op] [b] pos) t:=fun pins s σ H Q I hw=>wpAny_Compare1 (h pins s σ H Q I hw) h1
theorem zDx{op:CmpOp}(h:PC X op a b t)(h1:behindInMarks op b=false:=by first | exact zIF _ (by decide) (by decide)| rfl):PT X (.Compare a [op] [b] pos) (tB t):=by
 intro pins s σ H Q I hw;refine wpAny_isTrue_Compare1 (zV (h pins s σ H _ I hw) fun v s1 h1=>zV h1 fun u s2 h2=>zV h2 fun c s3 ⟨x,H1,I1,r1,q1⟩=>?_) h1;obtain ⟨d,rfl,q⟩:=q1;cases r1;exact zVG ⟨H1,I1,q⟩
theorem zDI(h:PE X e t)(he: ∀whole,isTrue e X.env whole=(do let v<-whole;standAt e.pos;holding [v] (truthy v)):=by intro _;rfl):PT X e (tB t):=by
 intro pins s σ H Q I hw;refine isTrue_plain (zV (h pins s σ H _ I hw) fun v s1 ⟨x,H1,I1,r1,q1⟩=>?_) (he _);obtain ⟨d,rfl,q⟩:=q1;cases r1;exact zVG ⟨H1,I1,q⟩
variable {tA tB':TT}{rest:List Expr}
def zRD(t u:TT):TT:=fun σ H Q=>t σ H fun c H1=>if c=true then u σ H1 Q else Q false H1
def tOr(t u:TT):TT:=fun σ H Q=>t σ H fun c H1=>if c=true then Q true H1 else u σ H1 Q
def zQr(t:TT):TT:=fun σ H Q=>t σ H fun c H1=>Q (!c) H1
theorem zKM(ha:PT X a tA):PW X (.BoolOp .And [a] pos) tA:=by
 intro wh pins s σ H Q I h;refine isTrue_and (zV (ha pins s σ H Q I h) fun c s1 e=>?_);cases c with
 | true=>exact isTrue_and_nil e
 | false=>exact e
theorem zJB(ha:PT X a tA):PW X (.BoolOp .Or [a] pos) tA:=by
 intro wh pins s σ H Q I h;refine isTrue_or (zV (ha pins s σ H Q I h) fun c s1 e=>?_);cases c with
 | false=>exact isTrue_or_nil e
 | true=>exact e
theorem zMV(ha:PT X a tA)(hb:PW X (.BoolOp .And (b::rest) pos) tB'):PW X (.BoolOp .And (a::b::rest) pos) (zRD tA tB'):=by
 intro wh pins s σ H Q I h;refine isTrue_and (zV (ha pins s σ H _ I h) fun c s1 ⟨H1,I1,q1⟩=>?_);cases c with
 | true=>exact hb wh pins s1 σ H1 Q I1 q1
 | false=>exact ⟨H1,I1,q1⟩
theorem zHv(ha:PT X a tA)(hb:PW X (.BoolOp .Or (b::rest) pos) tB'):PW X (.BoolOp .Or (a::b::rest) pos) (tOr tA tB'):=by
 intro wh pins s σ H Q I h;refine isTrue_or (zV (ha pins s σ H _ I h) fun c s1 ⟨H1,I1,q1⟩=>?_);cases c with
 | true=>exact ⟨H1,I1,q1⟩
 | false=>exact hb wh pins s1 σ H1 Q I1 q1
theorem zCx(ha:PT X a tA):PT X (.UnaryOp .Not a pos) (zQr tA):=by
 intro pins s σ H Q I h;exact isTrue_not (ha pins s σ H (fun c H1=>Q (!c) H1) I h)
inductive XAnd (tb:TE) (x:V) (σ:St) (H:Hp) (Q:VK):Prop
 | mk (c:Bool) (h:x= .bl c) (q:if c=true then tb σ H Q else Q (.bl false) H)
def zOh(ta tb:TE):TE:=fun σ H Q=>ta σ H fun x H1=>XAnd tb x σ H1 Q
inductive XNot (x:V) (H:Hp) (Q:VK):Prop
 | mk (c:Bool) (h:x= .bl c) (q:Q (.bl (!c)) H)
def zTH(ta:TE):TE:=fun σ H Q=>ta σ H fun x H1=>XNot x H1 Q
theorem zLt{op}(h:PE X a t):PE X (.BoolOp op [a] pos) t:=fun pins s σ H Q I hw=>BoolOp_one (h pins s σ H Q I hw)
theorem zMf(ha:PE X a ta)(hb:PE X (.BoolOp .And (b::rest) pos) tb):PE X (.BoolOp .And (a::b::rest) pos) (zOh ta tb):=by
 intro pins s σ H Q I h;refine BoolOp_and (zV (ha pins s σ H _ I h) fun v s1 ⟨x,H1,I1,r1,q1⟩=>?_);obtain ⟨c,rfl,q1⟩:=q1;cases r1;refine zVG ?_;cases c with
 | true=>exact hb pins s1 σ H1 Q I1 q1
 | false=>exact ⟨.bl false,H1,I1,rfl,q1⟩
theorem zSB(ha:PE X a ta):PE X (.UnaryOp .Not a pos) (zTH ta):=by
 intro pins s σ H Q I h;refine UnaryOp_ (zV (ha pins s σ H _ I h) fun v s1 ⟨x,H1,I1,r1,q1⟩=>?_);obtain ⟨c,rfl,q1⟩:=q1;cases r1;exact not_of (zVG ⟨.bl (!c),H1,I1,rfl,q1⟩)
end
def SqL(K:zVK)(H:Hp)(a:Addr)(xs:List V):Prop:=
 Rd H a (.lst xs)\/
  ∃(o:Obj) (its:Array Value) (n:Nat),K.lookup a=some o/\o.cls= .type "list" /\o.dict=none/\o.data= .seq its n/\its.size<=sizeLine/\zS xs its.toList
def SqT(K:zVK)(H:Hp)(a:Addr)(xs:List V):Prop:=
 Rd H a (.tup xs)\/
  ∃(o:Obj) (its:Array Value) (n:Nat),K.lookup a=some o/\o.cls= .type "tuple" /\o.data= .seq its n/\its.size<=sizeLine/\zS xs its.toList
def zTq:Value->Option V
 | .none=>some .non
 | .bool b=>some (.bl b)
 | .int i _=>some (.int i)
 | .str x _=>some (.str x)
 | .bytes b _=>some (.byt b)
 | .float b _=>some (.flt b)
 | .ref a=>some (.ref a)
 | .type n=>some (.ty n)
 | _=>none
theorem zU.abs(r:zU x u):zTq u=some x:=by
 cases x with
 | non=>cases r;rfl
 | bl _=>cases r;rfl
 | int _=>obtain ⟨t,rfl⟩:=r;rfl
 | str _=>obtain ⟨t,rfl⟩:=r;rfl
 | byt _=>obtain ⟨t,rfl⟩:=r;rfl
 | flt _=>obtain ⟨t,rfl⟩:=r;rfl
 | ref _=>cases r;rfl
 | ty _=>cases r;rfl
theorem zU.inj(r:zU x u)(q:zU y u):x=y:=Option.some.inj (r.abs.symm.trans q.abs)
theorem zS.inj: ∀{xs ys:List V} {us:List Value},zS xs us->zS ys us->xs=ys
 | _,_,_,.nil,.nil=>rfl
 | _,_,_,.cons r t,.cons r' t'=>by rw [r.inj r',zS.inj t t']
section
variable {X:Cx}{pins:List (Addr×Obj)}{σ:St}{H:Hp}{s:Shared}{a:Addr}{xs ys:List V}
theorem SqL.of{K:zVK}(h:H a=some (.lst xs)):SqL K H a xs:= .inl (.inl h)
theorem SqT.of{K:zVK}(h:H a=some (.tup xs)):SqT K H a xs:= .inl (.inl h)
theorem Inv.list(I:Inv X pins σ H s)(h:SqL X.K H a xs): ∃its:List Value,zS xs its/\PlainL s.heap a its.toArray/\xs.length<=sizeLine:=by
 rcases h with h |⟨o,its,n,hk,hc,hd,hs,hz,r⟩
 ·obtain ⟨z,its,n,r,e⟩:=h.ok I.hok;exact ⟨its,r,⟨_,n,e,rfl,rfl,rfl⟩,z⟩
 ·refine ⟨its.toList,r,⟨o,n,I.kIn a o hk,hc,hd,by simpa using hs⟩,?_⟩;have e:=r.length;simp only [Array.length_toList] at e;omega
theorem Inv.tuple(I:Inv X pins σ H s)(h:SqT X.K H a xs): ∃its:List Value,zS xs its/\IsTup s.heap a its.toArray/\xs.length<=sizeLine:=by
 rcases h with h |⟨o,its,n,hk,hc,hs,hz,r⟩
 ·obtain ⟨z,its,r,o,e,c,⟨n,d⟩,_⟩:=h.ok I.hok;exact ⟨its,r,⟨o,e,c,n,d⟩,z⟩
 ·refine ⟨its.toList,r,⟨o,I.kIn a o hk,hc,n,by simpa using hs⟩,?_⟩;have e:=r.length;simp only [Array.length_toList] at e;omega
theorem Inv.list_inj(I:Inv X pins σ H s)(h:SqL X.K H a xs)(h':SqL X.K H a ys):xs=ys:=by
 obtain ⟨its,r,⟨o,n,e,_,_,d⟩,_⟩:=I.list h;obtain ⟨its',r',⟨o',n',e',_,_,d'⟩,_⟩:=I.list h';rw [e] at e';cases e';rw [d] at d';injection d' with d1 _;have:its=its':=by simpa using congrArg Array.toList d1
 subst this;exact r.inj r'
theorem Inv.tuple_inj(I:Inv X pins σ H s)(h:SqT X.K H a xs)(h':SqT X.K H a ys):xs=ys:=by
 obtain ⟨its,r,⟨o,e,_,n,d⟩,_⟩:=I.tuple h;obtain ⟨its',r',⟨o',e',_,n',d'⟩,_⟩:=I.tuple h';rw [e] at e';cases e';rw [d] at d';injection d' with d1 _;have:its=its':=by simpa using congrArg Array.toList d1
 subst this;exact r.inj r'
end
abbrev Cx.wish(X:Cx)(E:Value->Shared->Prop):Cx:={X with xe:=E}
abbrev Cx.nox(X:Cx):Cx:=X.wish fun _ _=>False
theorem Cx.Ok.wish{X:Cx}(ok:X.Ok)(E:Value->Shared->Prop):(X.wish E).Ok:=
 ⟨ok.mod,ok.kind,ok.glob,ok.blt,ok.above,ok.inj,ok.has,ok.cab,ok.hd,ok.frames,ok.stk,ok.exf,ok.bs,ok.bsz,ok.noex,ok.exfs,ok.funs,ok.frf⟩
theorem Cx.Ok.unwish{X:Cx}{E:Value->Shared->Prop}(ok:(X.wish E).Ok):X.Ok:=
 ⟨ok.mod,ok.kind,ok.glob,ok.blt,ok.above,ok.inj,ok.has,ok.cab,ok.hd,ok.frames,ok.stk,ok.exf,ok.bs,ok.bsz,ok.noex,ok.exfs,ok.funs,ok.frf⟩
section
variable {X:Cx}{pins:List (Addr×Obj)}{σ:St}{H:Hp}{s:Shared}{E:Value->Shared->Prop}
theorem Inv.wish(I:Inv X pins σ H s)(E:Value->Shared->Prop):Inv (X.wish E) pins σ H s:=⟨I.ok.wish E,I.os,I.bare,I.base,I.loc,I.cell,I.free,I.freeC,I.pin,I.hok,I.len⟩
theorem Inv.unwish(I:Inv (X.wish E) pins σ H s):Inv X pins σ H s:=⟨I.ok.unwish,I.os,I.bare,I.base,I.loc,I.cell,I.free,I.freeC,I.pin,I.hok,I.len⟩
theorem SP.unwish{f:Flow}(h:SP (X.wish E) pins D f s'):SP X pins D f s':=by
 cases f with
 | next=>obtain ⟨σ',H',I,q⟩:=h;exact ⟨σ',H',I.unwish,q⟩
 | brk=>obtain ⟨σ',H',I,q⟩:=h;exact ⟨σ',H',I.unwish,q⟩
 | cont=>obtain ⟨σ',H',I,q⟩:=h;exact ⟨σ',H',I.unwish,q⟩
 | ret u=>obtain ⟨v,σ',H',I,r,q⟩:=h;exact ⟨v,σ',H',I.unwish,r,q⟩
theorem PSs.nox{st:List Stmt}{t:TS}(h:PSs X.nox st t):PSs X st t:=fun pins s σ H D I hw=>
 zUf (h pins s σ H D (I.wish _) hw) (fun _ _ q=>q.unwish) fun _ _ z=>False.elim z
end
section
variable {X:Cx}{st:Stmt}{rest:List Stmt}{t u:TS}{e:Expr}{te:TE}{pos:Pos}
def zOe:TS:=fun D σ H=>D.nx σ H
def zCn(t u:TS):TS:=fun D σ H=>t {D with nx:=u D} σ H
theorem zAV:PSs X [] zOe:=fun _ _ σ H _ I h=>wpAny_execs_nil ⟨σ,H,I,h⟩
theorem zv(h1:PS X st t)(h2:PSs X rest u):PSs X (st::rest) (zCn t u):=by
 intro pins s σ H D I h;refine wpAny_execs_cons (zV (h1 pins s σ H {D with nx:=u D} I h) fun f s1 q=>?_);cases f with
 | next=>
  obtain ⟨σ',H',I',q⟩:=q;exact h2 pins s1 σ' H' D I' q
 | ret v=>exact q
 | brk=>exact q
 | cont=>exact q
theorem yC(h1:PS X st t):PSs X [st] t:=by
 intro pins s σ H D I h;refine wpAny_execs_cons (zV (h1 pins s σ H D I h) fun f s1 q=>?_);cases f with
 | next=>exact wpAny_execs_nil q
 | ret v=>exact q
 | brk=>exact q
 | cont=>exact q
theorem Inv.quiet(I:Inv X pins σ H s):interactive X.env=false:=by simp [interactive,I.ok.kind]
def zOa(te:TE):TS:=fun D σ H=>te σ H fun _ H1=>D.nx σ H1
theorem zKJ(he:PE X e te)(hs:swapsWith e none pos.line X.env=pure false:=by rfl):PS X (.Expr e pos) (zOa te):=by
 intro pins s σ H D I h;exact wpAny_Expr_any (zV (he pins s σ H _ I h) fun v s1 ⟨x,H1,I1,r1,q1⟩=>⟨σ,H1,I1,q1⟩) I.quiet hs
def zLP(te:TE):TS:=fun D σ H=>te σ H D.rt
theorem zAA(he:PE X e te):PS X (.Return (some e) pos) (zLP te):=by
 intro pins s σ H D I h;exact wpAny_Return_some (zV (he pins s σ H _ I h) fun v s1 ⟨x,H1,I1,r1,q1⟩=>⟨x,σ,H1,I1,r1,q1⟩)
def zRj(c:TT)(t u:TS):TS:=fun D σ H=>c σ H fun b H1=>if b=true then t D σ H1 else u D σ H1
theorem zBc(hc:PT X c tc)(ha:PSs X a t)(hb:PSs X b u):PS X (.If c a b pos) (zRj tc t u):=by
 intro pins s σ H D I h;refine wpAny_If (zV (hc pins s σ H _ I h) fun d s1 ⟨H1,I1,q1⟩=>?_);cases d with
 | true=>exact ha pins s1 σ H1 D I1 q1
 | false=>exact hb pins s1 σ H1 D I1 q1
end
abbrev TG:=V->St->Hp->(St->Hp->Prop)->Prop
abbrev TGs:=List V->St->Hp->(St->Hp->Prop)->Prop
def PG(X:Cx)(target:Expr)(t:TG):Prop:=
 ∀(pins:List (Addr×Obj)) (s:Shared) (σ:St) (H:Hp) (v:V) (u:Value) (Q:St->Hp->Prop),Inv X pins σ H s->zU v u->t v σ H Q->
  wpAny (model X.prog X.w) X.A (assign target X.env u) (fun _ s'=> ∃σ' H',Inv X pins σ' H' s'/\Q σ' H') X.xe s
def PGs(X:Cx)(ts:List Expr)(t:TGs):Prop:=
 ∀(pins:List (Addr×Obj)) (s:Shared) (σ:St) (H:Hp) (vs:List V) (us:List Value) (Q:St->Hp->Prop),Inv X pins σ H s->zS vs us->t vs σ H Q->
  wpAny (model X.prog X.w) X.A (assignInOrder ((assignEach ts X.env).map (·.2)) us) (fun _ s'=> ∃σ' H',Inv X pins σ' H' s'/\Q σ' H') X.xe s
abbrev zTk:=V->V->V->Hp->(Hp->Prop)->Prop
def zTr(X:Cx)(t:zTk):Prop:=
 ∀(pins:List (Addr×Obj)) (s:Shared) (σ:St) (H:Hp) (o i v:V) (ov iv u:Value) (Q:Hp->Prop),Inv X pins σ H s->zU o ov->zU i iv->zU v u->t o i v H Q->
  wpAny (model X.prog X.w) X.A (setItem ov iv u) (fun _ s'=> ∃H',Inv X pins σ H' s'/\Q H') X.xe s
section
variable {X:Cx}{pos:Pos}
def zBM(i:Nat):TG:=fun v σ H Q=>Q (σ.set i (some v)) H
theorem zPz(hN:X.N.Nodup)(hi:X.N[i]?=some x)(hx:Loc X.env.scope x)(hf:X.fn x=true\/X.env.scope.names.lookup x=some .local:=by first | exact .inl rfl | exact .inr rfl | assumption):PG X (.Name x pos) (zBM i):=by
 intro pins s σ H v u Q I r h;exact wpAny_assign_Name (zFf I hN hi hx r (fun s' I'=>⟨_,H,I',h⟩) hf)
def zRo:TGs:=fun vs σ H Q=>vs= [] /\Q σ H
inductive XCons (t:TG) (u:TGs) (vs:List V) (σ:St) (H:Hp) (Q:St->Hp->Prop):Prop
 | mk (v:V) (r:List V) (h:vs=v::r) (q:t v σ H fun σ' H'=>u r σ' H' Q)
def zOp(t:TG)(u:TGs):TGs:=fun vs σ H Q=>XCons t u vs σ H Q
theorem zPX:PGs X [] zRo:=by
 intro pins s σ H vs us Q I r h;obtain ⟨e,h⟩:=h;subst e;cases r;exact assignInOrder_nil ⟨σ,H,I,h⟩
theorem zNh(h1:PG X e t)(h2:PGs X es u)
  (hs:(assignEach (e::es) X.env).map (·.2)=assign e X.env::(assignEach es X.env).map (·.2):=by rfl):PGs X (e::es) (zOp t u):=by
 intro pins s σ H vs us Q I r h;obtain ⟨v,vr,e1,h⟩:=h;subst e1;cases r with
 | cons r rr=>
  rw [hs];refine assignInOrder_cons (zV (h1 pins s σ H _ _ _ I r h) fun _ s1 ⟨σ1,H1,I1,q1⟩=>?_);exact h2 pins s1 σ1 H1 _ _ Q I1 rr q1
inductive XTup (K:zVK) (n:Nat) (t:TGs) (v:V) (σ:St) (H:Hp) (Q:St->Hp->Prop):Prop
 | mk (a:Addr) (xs:List V) (h:v= .ref a) (h2:SqT K H a xs) (h3:xs.length=n) (q:t xs σ H Q)
def zSG(K:zVK)(n:Nat)(t:TGs):TG:=fun v σ H Q=>XTup K n t v σ H Q
theorem zRd(hc:X.calm=true)(h:PGs X es t)
  (hn:(assignEach es X.env).length=n:=by rfl) (hst:(assignEach es X.env).findIdx? (·.1)=none:=by rfl):PG X (.Tuple es k pos) (zSG X.K n t):=by
 intro pins s σ H v u Q I r hw;obtain ⟨a,xs,e1,hq,hl,hw⟩:=hw;subst e1;cases r;obtain ⟨its,rv,ht,hz⟩:=I.tuple hq;refine assign_Tuple_tuple (I.ok.hd hc) ht (by simp [hn,<-hl,rv.length]) hst fun h' hx=>?_;have I1:Inv X pins σ H {s with heap:=h'}:=I.kept (t':=s.toks) fun b o e=>hx b o (zUS (zUU e)) e;exact h pins _ σ H xs _ Q I1 (by simpa using rv) hw
def zDz(te:TE)(g:TG):TS:=fun D σ H=>te σ H fun x H1=>g x σ H1 D.nx
theorem zAM(hN:X.N.Nodup)(hi:X.N[i]?=some x)(hx:Loc X.env.scope x)(he:PE X e te)(hs:swapsWith e (some (.Name x pos')) pos.line X.env=pure false:=by rfl)(hf:X.fn x=true\/X.env.scope.names.lookup x=some .local:=by first | exact .inl rfl | exact .inr rfl | assumption):
  PS X (.Assign [.Name x pos'] e pos) (zDz te (zBM i)):=by
 intro pins s σ H D I h;refine wpAny_Assign_Name (zV (he pins s σ H _ I h) fun v s1 ⟨y,H1,I1,r1,q1⟩=>?_) hs;exact zFf I1 hN hi hx r1 (fun s2 I2=>⟨_,H1,I2,q1⟩) hf
def zIc(c:TT)(tb:TS):TS:=fun D σ H=> ∃W:Nat->St->Hp->Prop,(∃m,W m σ H)/\ ∀m σ H,W m σ H->
 c σ H fun b H1=>if b=true then∃N:St->Hp->Prop,(∀σ' H',N σ' H'-> ∃m',m'<m/\W m' σ' H')/\tb {D with nx:=N,ct:=N,bk:=D.nx} σ H1 else D.nx σ H1
theorem zFW(hp:PassesOwn (model X.prog X.w) X.A X.env X.xe)(hc:PT X c tc)(hb:PSs X body tb):PS X (.While c body [] pos) (zIc tc tb):=by
 intro pins s σ H D I h;obtain ⟨W,⟨m0,w0⟩,turn⟩:=h;refine wpAny_While (codeAny_whileLoop (fun n s'=> ∃σ' H',Inv X pins σ' H' s'/\W n σ' H') ?_ m0 ⟨σ,H,I,w0⟩);rintro n s1 ⟨σ1,H1,I1,w1⟩;refine wpAny_passesOwn hp (zV (hc pins s1 σ1 H1 _ I1 (turn n σ1 H1 w1)) fun b s2 ⟨H2,I2,q2⟩=>?_);cases b with
 | true=>
  obtain ⟨N,hN,q2⟩:=q2;rw [if_pos rfl];refine wpAny_passesOwn hp (zV (hb pins s2 σ1 H2 _ I2 q2) fun f s3 q3=>?_);cases f with
  | next=>
   obtain ⟨σ3,H3,I3,n3⟩:=q3;obtain ⟨m',hm,w3⟩:=hN σ3 H3 n3;exact ⟨m',hm,σ3,H3,I3,w3⟩
  | cont=>
   obtain ⟨σ3,H3,I3,n3⟩:=q3;obtain ⟨m',hm,w3⟩:=hN σ3 H3 n3;exact ⟨m',hm,σ3,H3,I3,w3⟩
  | brk=>exact q3
  | ret v=>exact q3
 | false=>
  rw [if_neg zUX];exact wpAny_execs_nil ⟨σ1,H2,I2,q2⟩
end
structure It where
 go:Nat->Hp->Prop
 yld:Nat->Hp->V->Hp->Prop
 stop:Nat->Hp->Prop
def zDh(X:Cx)(pins:List (Addr×Obj))(H:Hp)(b:Addr):Prop:=
 H b=none/\b≠X.env.locals/\b∉X.fs/\(b∈X.ex\/X.s₀.heap.objs.size<=b)/\(∀x c,X.env.cells.lookup x=some c->c≠b)/\ ∀p∈X.pn++pins,p.1≠b
theorem Inv.fpOk{X:Cx}(I:Inv X pins σ H s)(hb:s.heap.objs.size<=b)(hn:H' b=none):zDh X pins H' b:=by
 refine ⟨hn,zUz (zUT I.lt hb),I.nofs hb,.inr (zUY I.sz hb),fun x c e z=>?_,fun p hp z=>?_⟩
 ·obtain ⟨v,q⟩:=I.cell x c e;exact absurd (zUT q.lt (by rw [z];exact hb)) (Nat.lt_irrefl _)
 ·exact absurd (zUT (zUU (I.pin p hp).1) (by rw [z];exact hb)) (Nat.lt_irrefl _)
structure Turn(P:Program)(w:World)(K:zVK)(tg:Expr)(J:It)(fp:List Addr)(it:Addr)(tn:Nat->Heap->Prop):Prop where
 mem:it∈fp
 obj: ∀i h,tn i h-> ∀b∈fp,∃o,h.get? b=some o/\ ∀v,o.data≠ .cell v
 keep: ∀i h h',tn i h->(∀b∈fp,∀o,h.get? b=some o->h'.get? b=some o)->tn i h'
 item: ∀(X:Cx),X.prog=P->X.w=w->X.K=K->X.calm=true-> ∀(i:Nat) (pins:List (Addr×Obj)) (s:Shared) (σ:St) (H:Hp) (E:Value->Shared->Prop),Inv X pins σ H s->(∀b∈fp,zDh X pins H b)->tn i s.heap->J.go i H->
  wpAny (model P w) X.A (pyNext (.ref it)) (fun r s1=> ∃u,r=some u/\
   wpAny (model P w) X.A (letOwnedTupleGo tg (.ref it) u) (fun _ s2=> ∃x H',Inv X pins σ H' s2/\zU x u/\J.yld i H x H'/\tn (i+1) s2.heap/\ ∀b∈fp,H' b=none) E s1) E s
 done: ∀(X:Cx),X.prog=P->X.w=w->X.K=K->X.calm=true-> ∀(i:Nat) (pins:List (Addr×Obj)) (s:Shared) (σ:St) (H:Hp) (E:Value->Shared->Prop),Inv X pins σ H s->(∀b∈fp,zDh X pins H b)->tn i s.heap->J.stop i H->
  wpAny (model P w) X.A (pyNext (.ref it)) (fun r s1=>r=none/\Inv X pins σ H s1) E s
 self: ∀(A:Around) (i:Nat) (s:Shared) (Q:Value->Shared->Prop) (E:Value->Shared->Prop),tn i s.heap->Q (.ref it) s->wpAny (model P w) A (pyIter (.ref it)) Q E s
abbrev TI:=St->Hp->(It->Hp->Prop)->Prop
def PIE(X:Cx)(pins:List (Addr×Obj))(σ:St)(tg:Expr)(R:It->Hp->Prop)(itv:Value)(s2:Shared):Prop:=
 ∃(it:Addr) (fp:List Addr) (tn:Nat->Heap->Prop) (J:It) (H':Hp),itv= .ref it/\Inv X pins σ H' s2/\Turn X.prog X.w X.K tg J fp it tn/\tn 0 s2.heap/\(∀b∈fp,zDh X pins H' b)/\R J H'
def PI(X:Cx)(tg iter:Expr)(wi:TI):Prop:=
 ∀(pins:List (Addr×Obj)) (s:Shared) (σ:St) (H:Hp) (R:It->Hp->Prop),Inv X pins σ H s->wi σ H R->
  wpAny (model X.prog X.w) X.A (eval iter X.env) (fun v s1=>wpAny (model X.prog X.w) X.A (pyIter v) (PIE X pins σ tg R) X.xe s1) X.xe s
theorem zDn{M:Model}{E:Value->Shared->Prop}{n:String}{vs:Array Value}{Q:Unit->Shared->Prop}(ho:s.heap.get? it=some o)(hc:o.cls= .type n)(hd:o.data= .fields vs)
  (hn: ["enumerate","zip","dict_itemiterator","dict_reverseitemiterator","odict_iterator","itertools.zip_longest","itertools.pairwise"].contains n=false) (hQ:Q () s):wpAny M A (letOwnedTupleGo tg (.ref it) u) Q E s:=by
 unfold letOwnedTupleGo;cases tg<;>first
  | exact zUQ hQ
  |(cases u<;>first
    | exact zUQ hQ
    |(refine zUL (wpAny_load ho ?_)
      rw [hc,hd];show wpAny M A (if (["enumerate","zip","dict_itemiterator","dict_reverseitemiterator","odict_iterator","itertools.zip_longest","itertools.pairwise"].contains n&&vs[0]?==some (rawInt _))=true then _ else _) Q E s;rw [if_neg (by intro h;rw [hn,Bool.false_and] at h;cases h)];exact zUQ hQ))
def Itl(K:zVK)(a:Addr):It:=
 ⟨fun i H=> ∃xs x,SqL K H a xs/\xs[i]?=some x,fun i H x H'=>H'=H/\ ∀xs,SqL K H a xs->xs[i]?=some x,fun i H=> ∃xs,SqL K H a xs/\xs.length<=i⟩
def Itt(K:zVK)(a:Addr):It:=
 ⟨fun i H=> ∃xs x,SqT K H a xs/\xs[i]?=some x,fun i H x H'=>H'=H/\ ∀xs,SqT K H a xs->xs[i]?=some x,fun i H=> ∃xs,SqT K H a xs/\xs.length<=i⟩
def Itr(lo:Int)(n:Nat):It:=⟨fun i _=>i<n,fun i H x H'=>H'=H/\x= .int (lo+i),fun i _=>n<=i⟩
theorem zLw{P:Program}{w:World}{K:zVK}{tg:Expr}(a it:Addr):Turn P w K tg (Itl K a) [it] it (fun i h=>h.IsListIter it a i) where
 mem:=by simp
 obj:=fun i h st b hb=>by
  have e:b=it:=by simpa using hb
  subst e;obtain ⟨o,e,c,d⟩:=st;exact ⟨o,e,fun v z=>by rw [d] at z;cases z⟩
 keep:=fun i h h' st k=>st.at fun o e=>k it (by simp) o e
 item:=by
  intro X hP hw hK hc i pins s σ H E I hf st hg;subst hP hw hK;obtain ⟨xs,x,hq,hx⟩:=hg;obtain ⟨its,rv,p,hz⟩:=I.list hq;obtain ⟨u,hu,ru⟩:=rv.get hx;obtain ⟨f0,f1,f2,f3,f4,f5⟩:=hf it (by simp);refine wpAny_pyNext_list_item st p.isList (x:=u) (by simpa using hu) fun h' st' sb=>?_;have I1:Inv X pins σ H {s with heap:=h'}:=I.turned (t':=s.toks) (fun b o hb e=>(sb.2 b hb).trans e) f0 f1 f3 f4 f5;obtain ⟨o,e,c,d⟩:=id st';exact ⟨u,rfl,zDn (s:={s with heap:=h'}) e c d (by decide) ⟨x,H,I1,ru,⟨rfl,fun ys hy=>by rw [I.list_inj hy hq];exact hx⟩,st',fun b hb=>(hf b hb).1⟩⟩
 done:=by
  intro X hP hw hK hc i pins s σ H E I hf st hg;subst hP hw hK;obtain ⟨xs,hq,hx⟩:=hg;obtain ⟨its,rv,p,hz⟩:=I.list hq;obtain ⟨f0,f1,f2,f3,f4,f5⟩:=hf it (by simp);have hl:=rv.length;exact wpAny_pyNext_list_end (I.ok.hd hc) st p.isList (by simp;omega) fun h' eb=>⟨rfl,I.turned (t':=s.toks) (fun b o hb e=>eb b o hb e) f0 f1 f3 f4 f5⟩
 self:=fun _ _ _ _ _ st h=>wpAny_pyIter_listiter st h
theorem zKo{P:Program}{w:World}{K:zVK}{tg:Expr}(a it:Addr):Turn P w K tg (Itt K a) [it] it (fun i h=>h.IsTupleIter it a i) where
 mem:=by simp
 obj:=fun i h st b hb=>by
  have e:b=it:=by simpa using hb
  subst e;obtain ⟨o,e,c,d⟩:=st;exact ⟨o,e,fun v z=>by rw [d] at z;cases z⟩
 keep:=fun i h h' st k=>st.at fun o e=>k it (by simp) o e
 item:=by
  intro X hP hw hK hc i pins s σ H E I hf st hg;subst hP hw hK;obtain ⟨xs,x,hq,hx⟩:=hg;obtain ⟨its,rv,p,hz⟩:=I.tuple hq;obtain ⟨u,hu,ru⟩:=rv.get hx;obtain ⟨f0,f1,f2,f3,f4,f5⟩:=hf it (by simp);refine wpAny_pyNext_tuple_item st (show s.heap.IsTuple a its.toArray from p) (x:=u) (by simpa using hu) fun h' st' sb=>?_;have I1:Inv X pins σ H {s with heap:=h'}:=I.turned (t':=s.toks) (fun b o hb e=>(sb.2 b hb).trans e) f0 f1 f3 f4 f5;obtain ⟨o,e,c,d⟩:=id st';exact ⟨u,rfl,zDn (s:={s with heap:=h'}) e c d (by decide) ⟨x,H,I1,ru,⟨rfl,fun ys hy=>by rw [I.tuple_inj hy hq];exact hx⟩,st',fun b hb=>(hf b hb).1⟩⟩
 done:=by
  intro X hP hw hK hc i pins s σ H E I hf st hg;subst hP hw hK;obtain ⟨xs,hq,hx⟩:=hg;obtain ⟨its,rv,p,hz⟩:=I.tuple hq;obtain ⟨f0,f1,f2,f3,f4,f5⟩:=hf it (by simp);have hl:=rv.length;exact wpAny_pyNext_tuple_end (I.ok.hd hc) st (show s.heap.IsTuple a its.toArray from p) (by simp;omega) fun h' eb=>⟨rfl,I.turned (t':=s.toks) (fun b o hb e=>eb b o hb e) f0 f1 f3 f4 f5⟩
 self:=fun _ _ _ _ _ st h=>wpAny_pyIter_tupleiter st h
theorem zLb{P:Program}{w:World}{K:zVK}{tg:Expr}(it:Addr)(lo:Int)(n:Nat):Turn P w K tg (Itr lo n) [it] it (fun i h=>IsRangeIter h it (lo+(i:Nat)*1) ((n:Int) -(i:Nat)) 1) where
 mem:=by simp
 obj:=fun i h st b hb=>by
  have e:b=it:=by simpa using hb
  subst e;exact ⟨_,st,fun v z=>by
   have z':Data.fields _=Data.cell v:=z;cases z'⟩
 keep:=fun i h h' st k=>k it (by simp) _ st
 item:=by
  intro X hP hw hK hc i pins s σ H E I hf st hg;subst hP hw hK;obtain ⟨f0,f1,f2,f3,f4,f5⟩:=hf it (by simp);have W:=Walks.range (prog:=X.prog) (w:=X.w) (I.ok.hd hc) it lo 1 n;refine W.item i s _ _ hg st fun v h' tk hv st' kk=>?_;obtain ⟨t,rfl⟩:=hv;have I1:Inv X pins σ H {s with heap:=h',toks:=tk}:=I.turned (fun b o hb e=>kk b o (by simpa using hb) e) f0 f1 f3 f4 f5;refine ⟨_,rfl,zDn (s:={s with heap:=h',toks:=tk}) (n:= "range_iterator") st' rfl rfl (by decide) ⟨.int (lo+i),H,I1,⟨t,?_⟩,⟨rfl,rfl⟩,st',fun b hb=>(hf b hb).1⟩⟩;rw [Int.mul_one]
 done:=by
  intro X hP hw hK hc i pins s σ H E I hf st hg;subst hP hw hK;obtain ⟨f0,f1,f2,f3,f4,f5⟩:=hf it (by simp);exact wpAny_pyNext_range_end (I.ok.hd hc) st (by have:n<=i:=hg;omega) fun h' eb=>⟨rfl,I.turned (t':=s.toks) (fun b o hb e=>eb b o hb e) f0 f1 f3 f4 f5⟩
 self:=fun _ _ _ _ _ st h=>wpAny_pyIter_rangeiter st h
section
variable {X:Cx}{tg:Expr}
inductive XIl (K:zVK) (x:V) (H:Hp) (R:It->Hp->Prop):Prop
 | mk (a:Addr) (h:x= .ref a) (h2: ∃xs,SqL K H a xs) (q:R (Itl K a) H)
def zOu(K:zVK)(tl:TE):TI:=fun σ H R=>tl σ H fun x H1=>XIl K x H1 R
inductive XIt (K:zVK) (x:V) (H:Hp) (R:It->Hp->Prop):Prop
 | mk (a:Addr) (h:x= .ref a) (h2: ∃xs,SqT K H a xs) (q:R (Itt K a) H)
def zRm(K:zVK)(tl:TE):TI:=fun σ H R=>tl σ H fun x H1=>XIt K x H1 R
theorem zPy{l:Expr}{tl:TE}(hl:PE X l tl):PI X tg l (zOu X.K tl):=by
 intro pins s σ H R I h;refine zV (hl pins s σ H _ I h) fun v s1 ⟨x,H1,I1,r1,q1⟩=>?_;obtain ⟨a,e,⟨xs,hq⟩,q⟩:=q1;subst e;cases r1;obtain ⟨its,rv,p,hz⟩:=I1.list hq;refine wpAny_pyIter_list p.isList ?_;refine ⟨s1.heap.objs.size,[s1.heap.objs.size],_,_,H1,rfl,I1.kept (t':=s1.toks) fun b o e=>zUM _ e,zLw a _,⟨_,zUd _ rfl,rfl,rfl⟩,fun b hb=>?_,q⟩;have e:b=s1.heap.objs.size:=by simpa using hb
 subst e;exact I1.fpOk (zUO _) (I1.hok.fresh (zUO _))
theorem zSo{l:Expr}{tl:TE}(hl:PE X l tl):PI X tg l (zRm X.K tl):=by
 intro pins s σ H R I h;refine zV (hl pins s σ H _ I h) fun v s1 ⟨x,H1,I1,r1,q1⟩=>?_;obtain ⟨a,e,⟨xs,hq⟩,q⟩:=q1;subst e;cases r1;obtain ⟨its,rv,p,hz⟩:=I1.tuple hq;refine wpAny_pyIter_tuple (show s1.heap.IsTuple a its.toArray from p) ?_;refine ⟨s1.heap.objs.size,[s1.heap.objs.size],_,_,H1,rfl,I1.kept (t':=s1.toks) fun b o e=>zUM _ e,zKo a _,⟨_,zUd _ rfl,rfl,rfl⟩,fun b hb=>?_,q⟩;have e:b=s1.heap.objs.size:=by simpa using hb
 subst e;exact I1.fpOk (zUO _) (I1.hok.fresh (zUO _))
theorem zIm{pins:List (Addr×Obj)}{σ:St}{H:Hp}{s:Shared}{R:It->Hp->Prop}{E:Value->Shared->Prop}{lo hi:Int}{t u v:Tok}{tk:Nat}(I:Inv X pins σ H s)(h1: -(2^62)<=lo)(h2:lo<2^62)(h3: -(2^62)<=hi)(h4:hi<2^62)
  (q:R (Itr lo (hi - lo).toNat) H):wpAny (model X.prog X.w) X.A (pyIter (.ref s.heap.objs.size)) (PIE X pins σ tg R) E {s with heap:=s.heap.push {cls:= .type "range",data:= .fields #[.int lo t,.int hi u,.int 1 v]},toks:=tk}:=by
 refine wpAny_pyIter_range (IsRange.new ..) (small_one h1 h2 h3 h4) ?_;have I1:Inv X pins σ H {s with heap:=s.heap.push {cls:= .type "range",data:= .fields #[.int lo t,.int hi u,.int 1 v]},toks:=tk}:=I.kept fun b o e=>zUM _ e;refine ⟨(s.heap.push {cls:= .type "range",data:= .fields #[.int lo t,.int hi u,.int 1 v]}).objs.size,[(s.heap.push {cls:= .type "range",data:= .fields #[.int lo t,.int hi u,.int 1 v]}).objs.size],_,_,H,rfl,
  I1.kept (t':=tk) fun b o e=>zUM _ e,zLb _ lo (hi - lo).toNat,?_,fun b hb=>?_,q⟩
 ·have e1:lo+((0:Nat):Int)*1=lo:=by simp
  have e2:(((hi - lo).toNat:Nat):Int) -((0:Nat):Int)=Builtin.Range.rangeSize lo hi 1:=by rw [rangeSize_one];split<;>omega
  show IsRangeIter _ _ (lo+((0:Nat):Int)*1) ((((hi - lo).toNat:Nat):Int) -((0:Nat):Int)) 1;rw [e1,e2];exact zUd _ rfl
 ·have e:b=(s.heap.push {cls:= .type "range",data:= .fields #[.int lo t,.int hi u,.int 1 v]}).objs.size:=by simpa using hb
  subst e;exact I1.fpOk (zUO _) (I1.hok.fresh (zUO _))
def zOn(ta:TA):TI:=fun σ H R=>ta σ H fun vs H1=> ∃j:Int,vs= [.int j] /\ -(2^62)<=j/\j<2^62/\R (Itr 0 j.toNat) H1
def zOy(ta:TA):TI:=fun σ H R=>ta σ H fun vs H1=> ∃i j:Int,vs= [.int i,.int j] /\(-(2^62)<=i/\i<2^62/\ -(2^62)<=j/\j<2^62)/\R (Itr i (j - i).toNat) H1
theorem zLo{a:Expr}{ta:TA}{p pos:Pos}(hg:Gl X "range")(hm:X.mg "range" =none)(ha:PA X [a] ta)(hs:starEach [a] X.env= [(false,eval a X.env)] :=by rfl):PI X tg (.Call (.Name "range" p) [a] [] pos) (zOn ta):=by
 intro pins s σ H R I h;refine Call_ (zDO I hg hm boot_range (PyProof.Rows.callWith_type1 (zV (ha pos pins s σ H _ I h) fun us s1 ⟨vs,H1,I1,r1,q1⟩=>?_) hs rfl));obtain ⟨j,e,q1,q2,q⟩:=q1;subst e;cases r1 with
 | cons r rr=>
  cases rr;obtain ⟨t,rfl⟩:=r;exact call_range_1 (zIm I1 (by omega) (by omega) q1 q2 (by simpa using q))
theorem zMS(hg:Gl X "range")(hm:X.mg "range" =none)(ha:PA X [a,b] ta)(hs:starEach [a,b] X.env= [(false,eval a X.env),(false,eval b X.env)] :=by rfl)(hs2:starEach [b] X.env= [(false,eval b X.env)] :=by rfl):
  PI X tg (.Call (.Name "range" p) [a,b] [] pos) (zOy ta):=by
 intro pins s σ H R I h;refine Call_ (zDO I hg hm boot_range (PyProof.Rows.callWith_type1 (zV (ha pos pins s σ H _ I h) fun us s1 ⟨vs,H1,I1,r1,q1⟩=>?_) (by rw [hs,hs2]) (by rw [hs2];rfl)));obtain ⟨i,j,e,⟨q1,q2,q3,q4⟩,q⟩:=q1;subst e;cases r1 with
 | cons r rr=>
  cases rr with
  | cons r' rr=>
   cases rr;obtain ⟨t,rfl⟩:=r;obtain ⟨t',rfl⟩:=r';exact call_range_2 (zIm I1 q1 q2 q3 q4 q)
def zRX(wi:TI)(g:TG)(tb:TS):TS:=fun D σ H=>wi σ H fun J H1=> ∃W:Nat->Nat->St->Hp->Prop,(∃m,W 0 m σ H1)/\ ∀i m σ H,W i m σ H->
 (J.stop i H/\D.nx σ H)\/(J.go i H/\ ∃N:St->Hp->Prop,(∀σ' H',N σ' H'-> ∃m',m'<m/\W (i+1) m' σ' H')/\ ∀x H',J.yld i H x H'->g x σ H' fun σ2 H2=>tb {D with nx:=N,ct:=N,bk:=D.nx} σ2 H2)
def zFh(fp:List Addr)(h:Heap):List (Addr×Obj):=fp.filterMap fun b=>(h.get? b).map fun o=>(b,o)
theorem zAL(hb:b∈fp)(e:h.get? b=some o):(b,o)∈zFh fp h:=List.mem_filterMap.mpr ⟨b,hb,by rw [e];rfl⟩
theorem zMi{p:Addr×Obj}(hp:p∈zFh fp h):p.1∈fp/\h.get? p.1=some p.2:=by
 obtain ⟨b,hb,e⟩:=List.mem_filterMap.mp hp;cases q:h.get? b with
 | none=>rw [q] at e;cases e
 | some o=>
  rw [q] at e;have e':(b,o)=p:=Option.some.inj e;subst e';exact ⟨hb,q⟩
theorem Inv.pinned(I:Inv X pins σ H s)(hf: ∀b∈fp,zDh X pins H b)(ho: ∀b∈fp,∃o,s.heap.get? b=some o/\ ∀v,o.data≠ .cell v):Inv X (pins++zFh fp s.heap) σ H s:=
 I.pins_of fun p hp=>(zVO.mp hp).elim (fun z=>I.pin p (zUa _ z)) fun z=>by
  obtain ⟨hb,e⟩:=zMi z;obtain ⟨f0,f1,f2,_⟩:=hf p.1 hb;obtain ⟨o,e',d⟩:=ho p.1 hb;rw [e] at e';cases e';exact ⟨e,f0,f1,f2,d⟩
theorem Inv.unpinned(I:Inv X (pins++pl) σ H s):Inv X pins σ H s:=I.pins_of fun p hp=>I.pin p (zUa _ (List.mem_append_left _ hp))
theorem zRx(hp:PassesOwn (model X.prog X.w) X.A X.env X.xe)(hc:X.calm=true)(hi:PI X tg iter wi)(hg:PG X tg g)(hb:PSs X body tb)
  (hs: ∀x,foldedSetIterable iter X.env x=pure x:=by intro _;rfl):PS X (.For tg iter body [] pos) (zRX wi g tb):=by
 intro pins s σ H D I h;refine wpAny_For (zV (hi pins s σ H _ I h) fun v s1 h1=>zV h1 fun itv s2 h2=>?_) hs;obtain ⟨it,fp,tn,J,H2,e,I2,T,st2,f2,W,⟨m0,w0⟩,turn⟩:=h2;subst e;have stat: ∀{H':Hp},(∀b∈fp,H' b=none)-> ∀b∈fp,zDh X pins H' b:=fun hn b hb=>⟨hn b hb,(f2 b hb).2⟩;refine codeAny_forLoop_any (fun n s'=> ∃i σ' H',Inv X pins σ' H' s'/\tn i s'.heap/\(∀b∈fp,H' b=none)/\W i n σ' H') ?_ m0 ⟨0,σ,H2,I2,st2,fun b hb=>(f2 b hb).1,w0⟩;rintro n s3 ⟨i,σ3,H3,I3,st3,fr3,w3⟩;rcases turn i n σ3 H3 w3 with ⟨stop,qn⟩|⟨go,N,hN,step⟩
 ·refine wpAny_passesOwn hp (zV (T.done X rfl rfl rfl hc i pins s3 σ3 H3 X.xe I3 (stat fr3) st3 stop) fun r s4 ⟨hr,I4⟩=>?_);subst hr;exact wpAny_execs_nil ⟨σ3,H3,I4,qn⟩
 ·refine wpAny_passesOwn hp (zV (T.item X rfl rfl rfl hc i pins s3 σ3 H3 X.xe I3 (stat fr3) st3 go) fun r s4 ⟨u,hr,h4⟩=>?_);subst hr;refine wpAny_passesOwn hp (zV h4 fun _ s5 ⟨x,H5,I5,r5,y5,st5,fr5⟩=>?_);have I5':=I5.pinned (stat fr5) (T.obj _ _ st5);refine wpAny_passesOwn hp (zV (hg _ s5 σ3 H5 x u _ I5' r5 (step x H5 y5)) fun _ s6 ⟨σ6,H6,I6,q6⟩=>?_);refine wpAny_passesOwn hp (zV (hb _ s6 σ6 H6 _ I6 q6) fun f s7 q7=>?_);have again: ∀{σ7:St} {H7:Hp},Inv X (pins++zFh fp s5.heap) σ7 H7 s7->N σ7 H7-> ∃m,m<n/\ ∃i σ' H',Inv X pins σ' H' s7/\tn i s7.heap/\(∀b∈fp,H' b=none)/\W i m σ' H':=fun {σ7 H7} I7 n7=>by
   obtain ⟨m',hm,w7⟩:=hN σ7 H7 n7;refine ⟨m',hm,i+1,σ7,H7,I7.unpinned,T.keep _ _ _ st5 fun b hb o e=>(I7.pin (b,o) (zUa _ (zUa _ (zAL hb e)))).1,fun b hb=>?_,w7⟩;obtain ⟨o,e,d⟩:=T.obj _ _ st5 b hb;exact (I7.pin (b,o) (zUa _ (zUa _ (zAL hb e)))).2.1
  cases f with
  | next=>obtain ⟨σ7,H7,I7,n7⟩:=q7;exact again I7 n7
  | cont=>obtain ⟨σ7,H7,I7,n7⟩:=q7;exact again I7 n7
  | brk=>obtain ⟨σ7,H7,I7,q7⟩:=q7;exact ⟨σ7,H7,I7.unpinned,q7⟩
  | ret v=>obtain ⟨x7,σ7,H7,I7,r7,q7⟩:=q7;exact ⟨x7,σ7,H7,I7.unpinned,r7,q7⟩
end
theorem zFS(Pv:St->Hp->Prop)(μ:St->Hp->Nat)(h0:Pv σ H)
  (hs: ∀σ H,Pv σ H->c σ H fun b H1=>if b=true then tb {D with nx:=fun σ' H'=>Pv σ' H'/\μ σ' H'<μ σ H,ct:=fun σ' H'=>Pv σ' H'/\μ σ' H'<μ σ H,bk:=D.nx} σ H1 else D.nx σ H1)
  (mono: ∀σ H Q Q',(∀b H1,Q b H1->Q' b H1)->c σ H Q->c σ H Q'):zIc c tb D σ H:=by
 refine ⟨fun m σ H=>m=μ σ H/\Pv σ H,⟨_,rfl,h0⟩,?_⟩;rintro m σ H ⟨rfl,p⟩;refine mono σ H _ _ (fun b H1 q=>?_) (hs σ H p);cases b with
 | true=>exact ⟨_,fun σ' H' ⟨p',l⟩=>⟨_,l,rfl,p'⟩,q⟩
 | false=>exact q
abbrev R2:=V->V->Hp->VK->Prop
def OpR(X:Cx)(f:Value->Value->Sem Value)(r:R2):Prop:=
 ∀(pins:List (Addr×Obj)) (s:Shared) (σ:St) (H:Hp) (x y:V) (v u:Value) (Q:VK),Inv X pins σ H s->zU x v->zU y u->r x y H Q->
  wpAny (model X.prog X.w) X.A (f v u) (EP X pins σ Q) X.xe s
def UnR(X:Cx)(f:Value->Sem Value)(r:V->Hp->VK->Prop):Prop:=
 ∀(pins:List (Addr×Obj)) (s:Shared) (σ:St) (H:Hp) (x:V) (v:Value) (Q:VK),Inv X pins σ H s->zU x v->r x H Q->
  wpAny (model X.prog X.w) X.A (f v) (EP X pins σ Q) X.xe s
def yU(X:Cx)(f:Value)(r:List V->Hp->VK->Prop):Prop:=
 ∀(pins:List (Addr×Obj)) (s:Shared) (σ:St) (H:Hp) (xs:List V) (us:List Value) (Q:VK),Inv X pins σ H s->zS xs us->r xs H Q->
  wpAny (model X.prog X.w) X.A (call f us) (EP X pins σ Q) X.xe s
def tOp(r:R2)(ta tb:TE):TE:=fun σ H Q=>ta σ H fun x H1=>tb σ H1 fun y H2=>r x y H2 Q
def tUn(r:V->Hp->VK->Prop)(ta:TE):TE:=fun σ H Q=>ta σ H fun x H1=>r x H1 Q
inductive XI (C:Int->Int->Prop) (g:Int->Int->V) (x y:V) (H:Hp) (Q:VK):Prop
 | mk (i j:Int) (h1:x= .int i) (h2:y= .int j) (h:C i j) (q:Q (g i j) H)
def rI(C:Int->Int->Prop)(g:Int->Int->V):R2:=fun x y H Q=>XI C g x y H Q
inductive XI0 (g:Int->Int->V) (x y:V) (H:Hp) (Q:VK):Prop
 | mk (i j:Int) (h1:x= .int i) (h2:y= .int j) (q:Q (g i j) H)
def rI0(g:Int->Int->V):R2:=fun x y H Q=>XI0 g x y H Q
inductive XU (g:Int->V) (x:V) (H:Hp) (Q:VK):Prop
 | mk (i:Int) (h1:x= .int i) (q:Q (g i) H)
def rU(g:Int->V):V->Hp->VK->Prop:=fun x H Q=>XU g x H Q
section
variable {X:Cx}{a b c:Expr}{ta tb tc:TE}{pos:Pos}
theorem zNp(ha:PE X a ta)(hb:PE X b tb){R:V->V->Hp->Prop}(I:Inv X pins σ H s)
  (h:ta σ H fun x H1=>tb σ H1 fun y H2=>R x y H2) {Q:Value->Shared->Prop} {f:Value->Value->Sem Value}
  (hf: ∀v u s2 x y H2,Inv X pins σ H2 s2->zU x v->zU y u->R x y H2->wpAny (model X.prog X.w) X.A (f v u) Q X.xe s2):
  wpAny (model X.prog X.w) X.A (eval a X.env) (fun v s₁=>wpAny (model X.prog X.w) X.A (eval b X.env) (fun u s₂=>wpAny (model X.prog X.w) X.A (f v u) Q X.xe s₂) X.xe s₁) X.xe s:=by
 refine zV (ha pins s σ H _ I h) fun v s1 ⟨x,H1,I1,r1,q1⟩=>?_;refine zV (hb pins s1 σ H1 _ I1 q1) fun u s2 ⟨y,H2,I2,r2,q2⟩=>?_;exact hf v u s2 x y H2 I2 r1 r2 q2
theorem yf{op:Operator}(ho:OpR X (binaryOp op) r)(ha:PE X a ta)(hb:PE X b tb):PE X (.BinOp a op b pos) (tOp r ta tb):=by
 intro pins s σ H Q I h;exact wpAny_BinOp (zNp ha hb I h fun v u s2 x y H2 I2 rx ry q=>ho pins s2 σ H2 x y v u Q I2 rx ry q)
theorem zLH{op:UnaryOp}{r:V->Hp->VK->Prop}(ho:UnR X (unaryOp op) r)(ha:PE X a ta):PE X (.UnaryOp op a pos) (tUn r ta):=by
 intro pins s σ H Q I h;exact UnaryOp_ (zV (ha pins s σ H _ I h) fun v s1 ⟨x,H1,I1,r1,q1⟩=>ho pins s1 σ H1 x v Q I1 r1 q1)
theorem opI{f:Value->Value->Sem Value}{C:Int->Int->Prop}{g:Int->Int->Int}
  (rule: ∀(i j:Int) (t u:Tok) (s:Shared) (Q:Value->Shared->Prop) (E:Value->Shared->Prop),C i j->Q (.int (g i j) s.toks) {s with toks:=s.toks+1}->wpAny (model X.prog X.w) X.A (f (.int i t) (.int j u)) Q E s):
  OpR X f (rI C fun i j=> .int (g i j)):=by
 intro pins s σ H x y v u Q I rx ry h;obtain ⟨i,j,rfl,rfl,hc,q⟩:=h;obtain ⟨t,rfl⟩:=rx;obtain ⟨t',rfl⟩:=ry;exact rule i j t t' s _ _ hc ⟨.int (g i j),H,I.tok _,⟨_,rfl⟩,q⟩
theorem zSA{f:Value->Value->Sem Value}{g:Int->Int->Int}
  (rule: ∀(i j:Int) (t u:Tok) (s:Shared) (Q:Value->Shared->Prop) (E:Value->Shared->Prop),Q (.int (g i j) s.toks) {s with toks:=s.toks+1}->wpAny (model X.prog X.w) X.A (f (.int i t) (.int j u)) Q E s):
  OpR X f (rI0 fun i j=> .int (g i j)):=by
 intro pins s σ H x y v u Q I rx ry h;obtain ⟨i,j,rfl,rfl,q⟩:=h;obtain ⟨t,rfl⟩:=rx;obtain ⟨t',rfl⟩:=ry;exact rule i j t t' s _ _ ⟨.int (g i j),H,I.tok _,⟨_,rfl⟩,q⟩
theorem zKa{f:Value->Value->Sem Value}{g:Int->Int->Bool}
  (rule: ∀(i j:Int) (t u:Tok) (s:Shared) (Q:Value->Shared->Prop) (E:Value->Shared->Prop),Q (.bool (g i j)) s->wpAny (model X.prog X.w) X.A (f (.int i t) (.int j u)) Q E s):
  OpR X f (rI0 fun i j=> .bl (g i j)):=by
 intro pins s σ H x y v u Q I rx ry h;obtain ⟨i,j,rfl,rfl,q⟩:=h;obtain ⟨t,rfl⟩:=rx;obtain ⟨t',rfl⟩:=ry;exact rule i j t t' s _ _ ⟨.bl (g i j),H,I,rfl,q⟩
def zKz(i j:Int):Prop:=0<j/\j<1073741824
def zSd(i j:Int):Prop:=0<=j/\j<=1000000/\i.natAbs<2^64
def zKi(i j:Int):Prop:=(-(2^64)<i/\i<2^64)\/(-(2^64)<j/\j<2^64)
theorem zKi.ok(h:zKi i j):IntMulOk i j:=by
 rcases h with ⟨h1,h2⟩|⟨h1,h2⟩
 ·exact .of_left (intBits_le_64 h1 h2)
 ·exact .of_right (intBits_le_64 h1 h2)
theorem zFv:OpR X (binaryOp .Add) (rI0 fun i j=> .int (i+j)):=zSA fun _ _ _ _ _ _ _ q=>add_int q
theorem zSl:OpR X (binaryOp .Sub) (rI0 fun i j=> .int (i - j)):=zSA fun _ _ _ _ _ _ _ q=>sub_int q
theorem zCR:OpR X (binaryOp .Mult) (rI zKi fun i j=> .int (i*j)):=opI fun _ _ _ _ _ _ _ hc q=>mul_int q hc.ok
theorem zJj:OpR X (binaryOp .FloorDiv) (rI zKz fun i j=> .int (i/j)):=opI fun i j _ _ _ _ _ hc q=>by
 have h1:(0:Int)<j:=hc.1;have h2:j<1073741824:=hc.2;exact floordiv_int (by omega) (by rw [Int.fdiv_eq_ediv_of_nonneg i (by omega)];exact q) (.inl (PyProof.noPylong_small (by omega)))
theorem zBw:OpR X (binaryOp .Mod) (rI (fun _ j=>0<j) fun i j=> .int (i % j)):=opI fun i j _ _ _ _ _ hc q=>by
 have h1:(0:Int)<j:=hc;exact mod_int' (by omega) (by rw [Int.fmod_eq_emod_of_nonneg i (by omega)];exact q)
theorem zRr:OpR X (binaryOp .Pow) (rI zSd fun i j=> .int (i^j.toNat)):=opI fun _ _ _ _ _ _ _ hc q=>pow_int_small hc.1 hc.2.1 hc.2.2 q
theorem unI{f:Value->Sem Value}{g:Int->Int}
  (rule: ∀(i:Int) (t:Tok) (s:Shared) (Q:Value->Shared->Prop) (E:Value->Shared->Prop),Q (.int (g i) s.toks) {s with toks:=s.toks+1}->wpAny (model X.prog X.w) X.A (f (.int i t)) Q E s):
  UnR X f (rU fun i=> .int (g i)):=by
 intro pins s σ H x v Q I rx h;obtain ⟨i,rfl,q⟩:=h;obtain ⟨t,rfl⟩:=rx;exact rule i t s _ _ ⟨.int (g i),H,I.tok _,⟨_,rfl⟩,q⟩
theorem zIR:UnR X (unaryOp .USub) (rU fun i=> .int (-i)):=unI fun _ _ _ _ _ q=>neg_int q
def zSW:V->V->Bool
 | .non,.non=>true | .non,.int _=>true | .int _,.non=>true | .non,.bl _=>true | .bl _,.non=>true | .non,.str _=>true | .str _,.non=>true
 | .int _,.int _=>true | .bl _,.bl _=>true | .str _,.str _=>true | .byt _,.byt _=>true
 | .int _,.str _=>true | .str _,.int _=>true | .bl _,.str _=>true | .str _,.bl _=>true
 | _,_=>false
def rEq:R2:=fun x y H Q=>zSW x y=true/\Q (.bl (decide (x=y))) H
def rNe:R2:=fun x y H Q=>zSW x y=true/\Q (.bl (!decide (x=y))) H
theorem zJt:decide (V.int i=V.int j)=(i==j):=by
 rw [zVU];simp
theorem zMH:decide (V.bl i=V.bl j)=(i==j):=by
 rw [zVU];simp
theorem zKK:decide (V.str i=V.str j)=(i==j):=by
 rw [zVU];simp
theorem zKG{i j:Array UInt8}:decide (V.byt i=V.byt j)=(i.toList==j.toList):=by
 rw [zVU];cases i;cases j;simp
theorem yA(I:Inv X pins σ H s)(q:Q (.bl k) H)(e:k=k'):EP X pins σ Q (.bool k') s:=by
 subst e;exact ⟨.bl k,H,I,rfl,q⟩
theorem zAI:OpR X (compareOp .Eq) rEq:=by
 intro pins s σ H x y v u Q I rx ry h;obtain ⟨hs,q⟩:=h;cases x with
 | non=>
  cases rx;cases y with
  | non=>cases ry;exact PySem.EqNone.eq_none_none (yA I q (by simp))
  | bl j=>cases ry;exact PySem.EqNone.eq_none_bool (yA I q (by simp))
  | int j=>obtain ⟨t',rfl⟩:=ry;exact PySem.EqNone.eq_none_int (yA I q (by simp))
  | str j=>obtain ⟨t',rfl⟩:=ry;exact PySem.EqNone.eq_none_str (yA I q (by simp))
  | _=>exact absurd (show false=true from hs) zUX
 | bl i=>
  cases rx;cases y with
  | non=>cases ry;exact PySem.EqNone.eq_bool_none (yA I q (by simp))
  | bl j=>cases ry;exact eq_bool (yA I q zMH)
  | str j=>obtain ⟨t',rfl⟩:=ry;exact PySem.EqMixed.eq_bool_str (yA I q (by simp))
  | _=>exact absurd (show false=true from hs) zUX
 | int i=>
  obtain ⟨t,rfl⟩:=rx;cases y with
  | non=>cases ry;exact PySem.EqNone.eq_int_none (yA I q (by simp))
  | int j=>obtain ⟨t',rfl⟩:=ry;exact eq_int (yA I q zJt)
  | str j=>obtain ⟨t',rfl⟩:=ry;exact PySem.EqMixed.eq_int_str (yA I q (by simp))
  | _=>exact absurd (show false=true from hs) zUX
 | str i=>
  obtain ⟨t,rfl⟩:=rx;cases y with
  | non=>cases ry;exact PySem.EqNone.eq_str_none (yA I q (by simp))
  | bl j=>cases ry;exact PySem.EqMixed.eq_str_bool (yA I q (by simp))
  | int j=>obtain ⟨t',rfl⟩:=ry;exact PySem.EqMixed.eq_str_int (yA I q (by simp))
  | str j=>obtain ⟨t',rfl⟩:=ry;exact eq_str (yA I q zKK)
  | _=>exact absurd (show false=true from hs) zUX
 | byt i=>
  obtain ⟨t,rfl⟩:=rx;cases y with
  | byt j=>obtain ⟨t',rfl⟩:=ry;exact PySem.W.eq_bytes (yA I q zKG)
  | _=>exact absurd (show false=true from hs) zUX
 | _=>cases y<;>exact absurd (show false=true from hs) zUX
theorem zDd:OpR X (compareOp .NotEq) rNe:=by
 intro pins s σ H x y v u Q I rx ry h;obtain ⟨hs,q⟩:=h;cases x with
 | non=>
  cases rx;cases y with
  | non=>cases ry;exact PySem.EqNone.ne_none_none (yA I q (by simp))
  | bl j=>cases ry;exact PySem.EqNone.ne_none_bool (yA I q (by simp))
  | int j=>obtain ⟨t',rfl⟩:=ry;exact PySem.EqNone.ne_none_int (yA I q (by simp))
  | str j=>obtain ⟨t',rfl⟩:=ry;exact PySem.EqNone.ne_none_str (yA I q (by simp))
  | _=>exact absurd (show false=true from hs) zUX
 | bl i=>
  cases rx;cases y with
  | non=>cases ry;exact PySem.EqNone.ne_bool_none (yA I q (by simp))
  | bl j=>cases ry;exact ne_bool (yA I q (congrArg not zMH))
  | str j=>obtain ⟨t',rfl⟩:=ry;exact PySem.EqMixed.ne_bool_str (yA I q (by simp))
  | _=>exact absurd (show false=true from hs) zUX
 | int i=>
  obtain ⟨t,rfl⟩:=rx;cases y with
  | non=>cases ry;exact PySem.EqNone.ne_int_none (yA I q (by simp))
  | int j=>obtain ⟨t',rfl⟩:=ry;exact ne_int (yA I q (congrArg not zJt))
  | str j=>obtain ⟨t',rfl⟩:=ry;exact PySem.EqMixed.ne_int_str (yA I q (by simp))
  | _=>exact absurd (show false=true from hs) zUX
 | str i=>
  obtain ⟨t,rfl⟩:=rx;cases y with
  | non=>cases ry;exact PySem.EqNone.ne_str_none (yA I q (by simp))
  | bl j=>cases ry;exact PySem.EqMixed.ne_str_bool (yA I q (by simp))
  | int j=>obtain ⟨t',rfl⟩:=ry;exact PySem.EqMixed.ne_str_int (yA I q (by simp))
  | str j=>obtain ⟨t',rfl⟩:=ry;exact ne_str (yA I q (congrArg not zKK))
  | _=>exact absurd (show false=true from hs) zUX
 | byt i=>
  obtain ⟨t,rfl⟩:=rx;cases y with
  | byt j=>obtain ⟨t',rfl⟩:=ry;exact PySem.W.ne_bytes (yA I q (congrArg not zKG))
  | _=>exact absurd (show false=true from hs) zUX
 | _=>cases y<;>exact absurd (show false=true from hs) zUX
theorem zDi:OpR X (compareOp .Lt) (rI0 fun i j=> .bl (decide (i<j))):=zKa fun _ _ _ _ _ _ _ q=>lt_int q
theorem zLD:OpR X (compareOp .LtE) (rI0 fun i j=> .bl (decide (i<=j))):=zKa fun _ _ _ _ _ _ _ q=>le_int q
theorem zAh:OpR X (compareOp .Gt) (rI0 fun i j=> .bl (decide (j<i))):=zKa fun _ _ _ _ _ _ _ q=>gt_int q
theorem zLa:OpR X (compareOp .GtE) (rI0 fun i j=> .bl (decide (j<=i))):=zKa fun _ _ _ _ _ _ _ q=>ge_int q
theorem zAw(b:Expr){op:CmpOp}(h:op≠ .In:=by decide)(h2:op≠ .NotIn:=by decide):behindInMarks op b=false:=by
 have e1:(op==CmpOp.In)=false:=by cases op<;>first | rfl | exact absurd rfl h
 have e2:(op==CmpOp.NotIn)=false:=by cases op<;>first | rfl | exact absurd rfl h2
 cases b<;>simp [behindInMarks,e1,e2]
theorem zKS{op:CmpOp}(ho:OpR X (compareOp op) r)(ha:PE X a ta)(hb:PE X b tb)(hm:behindInMarks op b=false):PE X (.Compare a [op] [b] pos) (tOp r ta tb):=by
 intro pins s σ H Q I h;exact wpAny_Compare1 (zNp ha hb I h fun v u s2 x y H2 I2 rx ry q=>ho pins s2 σ H2 x y v u Q I2 rx ry q) hm
def zHq(t:TE):TT:=fun σ H Q=>t σ H fun x H'=>XB x H' Q
theorem zAT{op:CmpOp}(ho:OpR X (compareOp op) r)(ha:PE X a ta)(hb:PE X b tb)(hm:behindInMarks op b=false):PT X (.Compare a [op] [b] pos) (zHq (tOp r ta tb)):=by
 intro pins s σ H Q I h;refine wpAny_isTrue_Compare1 (zV (ha pins s σ H _ I h) fun v s1 ⟨x,H1,I1,r1,q1⟩=>zV (hb pins s1 σ H1 _ I1 q1) fun u s2 ⟨y,H2,I2,r2,q2⟩=>
  zV (ho pins s2 σ H2 x y v u _ I2 r1 r2 q2) fun c s3 ⟨z,H3,I3,r3,k,e,q3⟩=>?_) hm
 subst e;cases r3;exact zVG ⟨H3,I3,q3⟩
def zGA(r r':R2)(ta tb tc:TE):TE:=fun σ H Q=>ta σ H fun x H1=>tb σ H1 fun y H2=>r x y H2 fun z H3=> ∃k,z= .bl k/\
 (if k=true then tc σ H3 fun w' H4=>r' y w' H4 Q else Q (.bl false) H3)
theorem zNn{op op':CmpOp}(ho:OpR X (compareOp op) r)(ho':OpR X (compareOp op') r')(ha:PE X a ta)(hb:PE X b tb)(hc:PE X c tc)
  (hm:lastMarks [op,op'] [b,c] =false:=by with_unfolding_all rfl):PE X (.Compare a [op,op'] [b,c] pos) (zGA r r' ta tb tc):=by
 intro pins s σ H Q I h;refine Compare_chain (zV (ha pins s σ H _ I h) fun v s1 ⟨x,H1,I1,r1,q1⟩=>chain_link (zV (hb pins s1 σ H1 _ I1 q1) fun u s2 ⟨y,H2,I2,r2,q2⟩=>
  zV (ho pins s2 σ H2 x y v u _ I2 r1 r2 q2) fun d s3 ⟨z,H3,I3,r3,k,e,q3⟩=>?_)) hm
 subst e;cases r3;refine zVG ?_;cases k with
 | false=>exact ite_ff ⟨.bl false,H3,I3,rfl,q3⟩
 | true=>exact ite_tt (chain_last (zV (hc pins s3 σ H3 _ I3 q3) fun w' s4 ⟨z',H4,I4,r4,q4⟩=>ho' pins s4 σ H4 y z' u w' Q I4 r2 r4 q4))
theorem zOL{op op':CmpOp}(ho:OpR X (compareOp op) r)(ho':OpR X (compareOp op') r')(ha:PE X a ta)(hb:PE X b tb)(hc:PE X c tc)
  (hm:lastMarks [op,op'] [b,c] =false:=by with_unfolding_all rfl):PT X (.Compare a [op,op'] [b,c] pos) (zHq (zGA r r' ta tb tc)):=by
 intro pins s σ H Q I h;refine isTrue_chain (zV (ha pins s σ H _ I h) fun v s1 ⟨x,H1,I1,r1,q1⟩=>test_link (zV (hb pins s1 σ H1 _ I1 q1) fun u s2 ⟨y,H2,I2,r2,q2⟩=>
  zV (ho pins s2 σ H2 x y v u _ I2 r1 r2 q2) fun d s3 ⟨z,H3,I3,r3,k,e,q3⟩=>?_)) hm
 subst e;cases r3;refine zVG ?_;cases k with
 | false=>
  obtain ⟨k',e',q'⟩:=q3;cases e';exact ite_ff ⟨H3,I3,q'⟩
 | true=>
  refine ite_tt (test_last (zV (hc pins s3 σ H3 _ I3 q3) fun w' s4 ⟨z',H4,I4,r4,q4⟩=>zV (ho' pins s4 σ H4 y z' u w' _ I4 r2 r4 q4) fun d' s5 ⟨z2,H5,I5,r5,k2,e2,q5⟩=>?_));subst e2;cases r5;exact zVG ⟨H5,I5,q5⟩
theorem zCa:(sizeLine:Nat)<2^63:=by rw [zUV];decide
theorem zDV:OpR X (binaryOp .Add) (fun x y H Q=> ∃i j,x= .str i/\y= .str j/\i.length+j.length<=sizeLine/\Q (.str (i++j)) H):=by
 intro pins s σ H x y v u Q I rx ry h;obtain ⟨i,j,rfl,rfl,hz,q⟩:=h;obtain ⟨t,rfl⟩:=rx;obtain ⟨t',rfl⟩:=ry;exact add_str (fun t' tk=>⟨.str (i++j),H,I.tok _,⟨_,rfl⟩,q⟩) hz
theorem zAR(r:zS [x] us): ∃u,us= [u] /\zU x u:=by
 cases r with
 | cons r1 r2=>cases r2;exact ⟨_,rfl,r1⟩
theorem zTJ(r:zS [x,y] us): ∃u w',us= [u,w'] /\zU x u/\zU y w':=by
 cases r with
 | cons r1 r2=>
  cases r2 with
  | cons r3 r4=>cases r4;exact ⟨_,_,rfl,r1,r3⟩
theorem zCZ:yU X (.builtin "abs") (fun xs H Q=> ∃i,xs= [.int i] /\Q (.int (if i<0 then -i else i)) H):=by
 intro pins s σ H xs us Q I r h;obtain ⟨i,rfl,q⟩:=h;obtain ⟨u,rfl,t,rfl⟩:=zAR r;exact call_abs_int fun u tk=>⟨.int (if i<0 then -i else i),H,I.tok _,⟨_,rfl⟩,q⟩
theorem zHW(hc:X.calm=true):yU X (.builtin "max") (fun xs H Q=> ∃i j,xs= [.int i,.int j] /\Q (.int (if j>i then j else i)) H):=by
 intro pins s σ H xs us Q I r h;obtain ⟨i,j,rfl,q⟩:=h;obtain ⟨u,w',rfl,⟨t,rfl⟩,⟨t',rfl⟩⟩:=zTJ r;refine max_two_ints (I.ok.hd hc) fun h' tk k=>⟨_,H,I.kept k,?_,q⟩;by_cases hj:j>i
 ·rw [if_pos hj,if_pos hj];exact ⟨_,rfl⟩
 ·rw [if_neg hj,if_neg hj];exact ⟨_,rfl⟩
theorem zHa:yU X (.type "int") (fun xs H Q=>(∃i,xs= [.int i] /\Q (.int i) H)\/ ∃k,xs= [.bl k] /\Q (.int (if k then 1 else 0)) H):=by
 intro pins s σ H xs us Q I r h;rcases h with ⟨i,rfl,q⟩|⟨k,rfl,q⟩
 ·obtain ⟨u,rfl,t,rfl⟩:=zAR r;exact call_int_int ⟨.int i,H,I,⟨_,rfl⟩,q⟩
 ·obtain ⟨u,rfl,r1⟩:=zAR r;cases r1;exact call_int_bool ⟨.int (if k then 1 else 0),H,I.tok _,⟨_,rfl⟩,q⟩
end
structure ObjM(h:Heap)(x dx C:Addr)(mA:Str->Option Value):Prop where
 obj:h.get? x=some (PySem.W.instObj C dx)
 ns:h.Ns1 dx mA
 ne:dx≠x
theorem zHQ{h:Heap}{dx:Addr}{mA:Str->Option Value}(n:h.Ns1 dx mA): ∃od,h.get? dx=some od/\ ∀name,PySem.W.lookIn name od=some (mA name):=by
 obtain ⟨o,es,ep,ho,hd,hk,_,hm⟩:=n;refine ⟨o,ho,fun name=>?_⟩;have e:=hm name;unfold nsFind findBy at e;rw [<-Array.find?_toList] at e;unfold PySem.W.lookIn;rw [hd];dsimp only;split
 ·rename_i y q
  rw [q] at e;exact congrArg some e
 ·rename_i q
  rw [q] at e;have a:es.toList.any (·.refKey)=false:=by
   rw [List.any_eq_false];intro y hy;obtain ⟨z,t,hkey⟩:=hk y (Array.mem_toList_iff.mp hy);simp [DictEntry.refKey,hkey]
  have a': ¬es.toList.any (·.refKey)=true:=by rw [a];exact zUX
  rw [if_neg a'];exact congrArg some e
theorem ObjM.look(I:ObjM h x dx C mA): ∃od,PySem.W.InstAt h x (PySem.W.instObj C dx) C (some od)/\ ∀name,PySem.W.lookIn name od=some (mA name):=
 let ⟨od,ho,hl⟩:=zHQ I.ns
 ⟨od,⟨I.obj,rfl,rfl,ho⟩,hl⟩
section
variable {prog:Program}{w:World}{A:Around}{E:Value->Shared->Prop}{s:Shared}{K:zVK}{x dx C f:Addr}{mA:Str->Option Value}{name:Str}{v:Value}
theorem zQb{Q:Value->Shared->Prop}(X:K.In s.heap)(I:ObjM s.heap x dx C mA)(hg:PySem.W.plainGet K C name=true)(hh:PySem.W.hasDictIn K C=true)
  (ha:PySem.W.findIn K (.ref C) name=some none) (hv:mA name=some v) (hv':PySem.W.handedIn v=true) (h:Q v {s with toks:=s.toks+1}):
  wpAny (model prog w) A (getAttr (.ref x) name expr) Q E s:=by
 obtain ⟨od,J,hl⟩:=I.look;exact PySem.W.get_value X J (PySem.W.plainGet_of hg).1 (PySem.W.findObj_own hh ha rfl (by rw [hl,hv])) hv' h
theorem zNW{Q:Value×List Value->Shared->Prop}(X:K.In s.heap)(I:ObjM s.heap x dx C mA)(hg:PySem.W.plainGet K C name=true)
  (hf:PySem.W.findIn K (.ref C) name=some (some (.ref f))) (ht:PySem.W.isFn K (.ref f)=true) (hv:mA name=none) (h:Q (.ref f,[.ref x]) s):
  wpAny (model prog w) A (getMethod (.ref x) name pl) Q E s:=by
 obtain ⟨od,J,hl⟩:=I.look;exact PySem.W.method_fn X J (PySem.W.plainGet_of hg).1 (PySem.W.plainGet_of hg).2 hf (beq_iff_eq.mp ht) (by show (PySem.W.lookIn name od).map (·.isSome)=some false;rw [hl,hv];rfl) h
theorem zPS{Q:Unit->Shared->Prop}(X:K.In s.heap)(I:ObjM s.heap x dx C mA)
  (hs:PySem.W.findIn K (.ref C) "__setattr__" =some (some (.builtin "object.__setattr__"))) (hp:PySem.W.plainOver K C=true) (ht:PySem.W.takerIn K C name=some none) (hh:PySem.W.hasDictIn K C=true)
  (hw:PySem.Within mA ns) (hsz:ns.length<=sizeLine)
  (h: ∀h',ObjM h' x dx C (fun y=>if y=name then some v else mA y)->Heap.SameBut dx s.heap h'->Q () {s with heap:=h',toks:=s.toks+2}):
  wpAny (model prog w) A (setAttr (.ref x) name v) Q E s:=by
 obtain ⟨od,J,hl⟩:=I.look;refine PySem.W.set_plain X J hs (PySem.W.osa_open (s:={s with toks:=s.toks+1}) (r:=none) X J hp ht fun b=>?_);obtain ⟨cd,hc,hd'⟩:=PySem.W.any_some hh;have hx:s.heap.get? x=some ⟨.ref C,some dx,.plain,#[]⟩:=I.obj;refine zUL (zUQ (zUL (zUL (wpAny_loadPart hx (zUL (PySem.W.Looks.here (s:={s with toks:=s.toks+1}) (PySem.W.looks_clsIn X hc) ?_))))));rw [hd'];refine zUQ (a:=some dx) (zUL (zUQ (zUL ?_)));refine wpAny_nsSet1 (s:={s with toks:=s.toks+1}) I.ns fun h' hn2 hs2=>?_;obtain ⟨oD,esD,epD,hoD,hdD,hcD⟩:=hn2.count (PySem.Within.cons name v hw);refine zUL (wpAny_lookBehind hoD (by rw [hdD];exact pastItsLine_dict (zUY hcD (by rw [zVT];omega))) ?_);exact zUQ (h _ ⟨(hs2.2 _ (Ne.symm I.ne)).trans I.obj,hn2,I.ne⟩ hs2)
theorem zOR{R:Result->Shared->Prop}{kw:List (Str×Value)}(X:K.In s.heap)(hm:PySem.W.makesIn K C=true)
  (hi:PySem.W.findIn K (.ref C) "__init__" =some (some (.ref f))) (hf:PySem.W.typeIn K (.ref f)=some (.type "function"))
  (h:codeAny (model prog w) (A.under (.builtin "type.__call__" ⟨.ref C::vs,kw⟩)) (.call (.ref f) ⟨.ref (s.heap.objs.size+1)::vs,kw⟩) (PySem.W.InitBack (s.heap.objs.size+1) R)
   {s with heap:=(s.heap.push PySem.W.emptyDict).push (PySem.W.instObj C s.heap.objs.size)}):
  codeAny (model prog w) A (.call (.ref C) ⟨vs,kw⟩) R s:=by
 obtain ⟨hh,g,d,t,os⟩:=s;exact PySem.W.make_core (PySem.W.makes_of X hm) (PySem.W.looks_findIn X hi) (fun self=>PySem.W.bind_fn X self hf) (.inl rfl) h
end
def ym(f:Str)(v:V):List (Str×V)->List (Str×V)
 | [] => [(f,v)]
 |(g,x)::r=>if g=f then (g,v)::r else (g,x)::ym f v r
theorem zBH(f g:Str)(v:V): ∀fs:List (Str×V),(ym f v fs).lookup g=if g=f then some v else fs.lookup g
 | [] =>by
  show List.lookup g [(f,v)] =_;by_cases h:g=f
  ·have hb:(g==f)=true:=beq_iff_eq.mpr h;simp only [List.lookup,hb,if_pos h]
  ·have hb:(g==f)=false:=beq_eq_false_iff_ne.mpr h;simp only [List.lookup,hb,if_neg h]
 |(k,x)::r=>by
  have ih:=zBH f g v r;rw [show ym f v ((k,x)::r)=(if k=f then (k,v)::r else (k,x)::ym f v r) from rfl];by_cases hk:k=f
  ·rw [if_pos hk];by_cases h:g=k
   ·have hb:(g==k)=true:=beq_iff_eq.mpr h;simp only [List.lookup,hb,if_pos (h.trans hk)]
   ·have hb:(g==k)=false:=beq_eq_false_iff_ne.mpr h;simp only [List.lookup,hb,if_neg (fun e:g=f=>h (e.trans hk.symm))]
  ·rw [if_neg hk];by_cases h:g=k
   ·have hb:(g==k)=true:=beq_iff_eq.mpr h;simp only [List.lookup,hb,if_neg (fun e:g=f=>hk (h.symm.trans e))]
   ·have hb:(g==k)=false:=beq_eq_false_iff_ne.mpr h;simp only [List.lookup,hb];exact ih
theorem zBv(f:Str)(v:V): ∀fs:List (Str×V),f∈(ym f v fs).map (·.1)/\ ∀g,g∈fs.map (·.1)->g∈(ym f v fs).map (·.1)
 | [] =>⟨by simp [ym],fun g h=>by simp at h⟩
 |(k,x)::r=>by
  obtain ⟨i1,i2⟩:=zBv f v r;rw [show ym f v ((k,x)::r)=(if k=f then (k,v)::r else (k,x)::ym f v r) from rfl];by_cases hk:k=f
  ·rw [if_pos hk];subst hk;exact ⟨by simp,fun g h=>by simpa using h⟩
  ·rw [if_neg hk];refine ⟨?_,fun g h=>?_⟩
   ·rw [zVP];exact zUv _ i1
   ·rw [zVP] at h⊢;rcases zVL.mp h with e | e
    ·exact zVL.mpr (.inl e)
    ·exact zUv _ (i2 g e)
theorem zFA(f:Str)(v:V): ∀fs:List (Str×V),(ym f v fs).length<=fs.length+1
 | [] =>by simp [ym]
 |(k,x)::r=>by
  have ih:=zFA f v r;rw [show ym f v ((k,x)::r)=(if k=f then (k,v)::r else (k,x)::ym f v r) from rfl];by_cases hk:k=f
  ·rw [if_pos hk,zVT,zVT];omega
  ·rw [if_neg hk,zVT,zVT];omega
theorem zAC.some_of{o:Option Value}(r:zAC (some v) o): ∃u,o=some u/\zU v u:=by
 cases o with
 | none=>exact (show False from r).elim
 | some u=>exact ⟨u,rfl,r⟩
theorem zAC.none_of{o:Option Value}(r:zAC none o):o=none:=by
 cases o with
 | none=>rfl
 | some u=>exact (show False from r).elim
theorem zHP(r:zU v u):PySem.W.handedIn u=true:=by
 cases v with
 | non=>cases (show u=Value.none from r);rfl
 | bl b=>cases (show u=Value.bool b from r);rfl
 | int i=>obtain ⟨t,e⟩:=(show∃t,u=Value.int i t from r);cases e;rfl
 | str x=>obtain ⟨t,e⟩:=(show∃t,u=Value.str x t from r);cases e;rfl
 | byt b=>obtain ⟨t,e⟩:=(show∃t,u=Value.bytes b t from r);cases e;rfl
 | flt b=>obtain ⟨t,e⟩:=(show∃t,u=Value.float b t from r);cases e;rfl
 | ref a=>cases (show u=Value.ref a from r);rfl
 | ty n=>cases (show u=Value.type n from r);rfl
section
variable {P:Program}{w:World}{H H':Hp}{h h':Heap}{a C dx:Addr}{fs fs':List (Str×V)}
theorem zEV(hok:HOk P w H h)(e:H a=some (.ins C dx fs)): ∃mA,ObjM h a dx C mA/\(∀f,zAC (fs.lookup f) (mA f))/\PySem.Within mA (fs.map (·.1))/\fs.length<=1000/\H dx=some (.own a):=by
 obtain ⟨d,z,ne,ob,mA,n,r,q⟩:=(show zj P w H h a (.ins C dx fs) from hok a _ e);exact ⟨mA,⟨ob,n,ne⟩,r,q,z,d⟩
end
structure Cls(K:zVK)(C:Addr):Prop where
 pg:PySem.W.plainGet K C Str.empty=true
 hd:PySem.W.hasDictIn K C=true
 po:PySem.W.plainOver K C=true
 sa:PySem.W.findIn K (.ref C) "__setattr__" =some (some (.builtin "object.__setattr__"))
theorem Cls.get{K:zVK}{C:Addr}(c:Cls K C)(f:Str):PySem.W.plainGet K C f=true:=c.pg
def yR(K:zVK)(C:Addr)(f:Str):Prop:=PySem.W.findIn K (.ref C) f=some none
theorem yR.taker{K:zVK}{C:Addr}{f:Str}(n:yR K C f):PySem.W.takerIn K C f=some none:=by
 unfold PySem.W.takerIn;rw [show PySem.W.findIn K (.ref C) f=some none from n];rfl
structure Meth(K:zVK)(C:Addr)(m:Str)(f:Addr):Prop where
 at_:PySem.W.findIn K (.ref C) m=some (some (.ref f))
 fn:PySem.W.isFn K (.ref f)=true
 kp:PySem.W.keepIn K (.ref f)=true
section
variable {X:Cx}{pins:List (Addr×Obj)}{σ:St}{H:Hp}{s:Shared}{a C dx:Addr}{fs:List (Str×V)}{f:Str}{v:V}{A:Around}{E:Value->Shared->Prop}
theorem zLZ{Q:Value->Shared->Prop}(I:Inv X pins σ H s)(e:H a=some (.ins C dx fs))(c:Cls X.K C)(n:yR X.K C f)(l:fs.lookup f=some v)
  (h: ∀u s',Inv X pins σ H s'->zU v u->Q u s'):wpAny (model X.prog X.w) A (getAttr (.ref a) f b) Q E s:=by
 obtain ⟨mA,O,r,_,_,_⟩:=zEV I.hok e;obtain ⟨u,hu,ru⟩:=zAC.some_of (v:=v) (o:=mA f) (by rw [<-l];exact r f);exact zQb I.kIn O (c.get f) c.hd n hu (zHP ru) (h u _ (I.tok _) ru)
theorem zDa{Q:Value×List Value->Shared->Prop}(I:Inv X pins σ H s)(e:H a=some (.ins C dx fs))(c:Cls X.K C)(k:Meth X.K C m g)(l:fs.lookup m=none)
  (h:Q (.ref g,[.ref a]) s):wpAny (model X.prog X.w) A (getMethod (.ref a) m pl) Q E s:=by
 obtain ⟨mA,O,r,_,_,_⟩:=zEV I.hok e;have hn:mA m=none:=zAC.none_of (by rw [<-l];exact r m);exact zNW I.kIn O (c.get m) k.at_ k.fn hn h
theorem zLE{Q:Unit->Shared->Prop}(I:Inv X pins σ H s)(e:H a=some (.ins C dx fs))(c:Cls X.K C)(n:yR X.K C f)(hl:fs.length<1000)(ry:zU y u)
  (h: ∀s',Inv X pins σ (upd H a (.ins C dx (ym f y fs))) s'->Q () s'):wpAny (model X.prog X.w) A (setAttr (.ref a) f u) Q E s:=by
 obtain ⟨mA,O,r,wi,_,ho⟩:=zEV I.hok e;have hz:(fs.map (·.1)).length<=sizeLine:=by rw [zUR,zUV];omega
 refine zPS I.kIn O c.sa c.po n.taker c.hd wi hz fun h' O' sb=>h _ ?_;have hd: ∃o,h'.get? dx=some o:=let ⟨o,_,_,e',_⟩:=O'.ns;⟨o,e'⟩;refine I.write (x:=a) (e:=dx) (by rw [e];exact True.intro) (.inr ho) (fun b q hb z=>(sb.2 b hb).trans z) hd ?_;refine ⟨by rw [zG O.ne];exact ho,?_,O.ne,O'.obj,_,O'.ns,fun g=>?_,fun g hg=>?_⟩
 ·have:=zFA f y fs;omega
 ·show zAC ((ym f y fs).lookup g) (if g=f then some u else mA g);rw [zBH];by_cases q:g=f
  ·rw [if_pos q,if_pos q];exact ry
  ·rw [if_neg q,if_neg q];exact r g
 ·by_cases q:g=f
  ·rw [q];exact (zBv f y fs).1
  ·refine (zBv f y fs).2 g (wi g fun z=>hg ?_);show (if g=f then some u else mA g)=none;rw [if_neg q];exact z
theorem Inv.made(I:Inv X pins σ H s):Inv X pins σ (upd (upd H s.heap.objs.size (.own (s.heap.objs.size+1))) (s.heap.objs.size+1) (.ins C s.heap.objs.size []))
  {s with heap:=(s.heap.push PySem.W.emptyDict).push (PySem.W.instObj C s.heap.objs.size)}:=by
 have e1:(s.heap.push PySem.W.emptyDict).get? s.heap.objs.size=some PySem.W.emptyDict:=zUd s.heap rfl;have e2:((s.heap.push PySem.W.emptyDict).push (PySem.W.instObj C s.heap.objs.size)).get? (s.heap.objs.size+1)=some (PySem.W.instObj C s.heap.objs.size):=by
  have:=zUd (s.heap.push PySem.W.emptyDict) (o:=PySem.W.instObj C s.heap.objs.size) rfl
  rwa [Heap.size_push] at this
 have e3:(s.heap.push PySem.W.emptyDict).Ns s.heap.objs.size (fun _=>none):=⟨PySem.W.emptyDict,#[],_,e1,rfl,(fun e he=>absurd he (by simp)),fun _=>rfl⟩;have I1:=I.laid (a:=s.heap.objs.size) (o:= .own (s.heap.objs.size+1)) (h':=s.heap.push PySem.W.emptyDict) (t':=s.toks) (fun b u q=>zUM _ q) (zUO _) ⟨_,e1⟩;refine I1.laid (a:=s.heap.objs.size+1) (o:= .ins C s.heap.objs.size []) (t':=s.toks) (fun b u q=>zUM _ q) (Nat.le_of_eq (Heap.size_push _ _)) ?_;have ne:s.heap.objs.size≠s.heap.objs.size+1:=zUS (Nat.lt_succ_self _);refine ⟨by rw [zG ne,zC],zUZ _,ne,e2,fun _=>none,(Heap.Ns1.of_empty e3).at fun o q=>zUM _ q,fun _=>True.intro,fun y hy=>absurd rfl hy⟩
theorem zJi{Q:Value->Shared->Prop}(hb:attributeBase e f env (eval e env)=eval e env)
  (h:wpAny (model prog w) A (eval e env) (fun o s₁=>wpAny (model prog w) A (getAttr o f true) Q E s₁) E s):wpAny (model prog w) A (eval (.Attribute e f pos) env) Q E s:=
 Attribute_any_ h (by rw [arm_eval_Attribute,hb])
end
inductive XFld (K:zVK) (f:Str) (x:V) (H1:Hp) (Q:VK):Prop
 | mk (a C dx:Addr) (fs:List (Str×V)) (v:V) (h1:x= .ref a) (h2:H1 a=some (.ins C dx fs)) (h3:Cls K C) (h4:yR K C f) (h5:fs.lookup f=some v) (q:Q v H1)
def zSJ(K:zVK)(ta:TE)(f:Str):TE:=fun σ H Q=>ta σ H fun x H1=>XFld K f x H1 Q
inductive XSf (K:zVK) (f:Str) (x y:V) (H2:Hp) (Q:Hp->Prop):Prop
 | mk (a C dx:Addr) (fs:List (Str×V)) (h1:x= .ref a) (h2:H2 a=some (.ins C dx fs)) (h3:Cls K C) (h4:yR K C f) (h5:fs.length<1000) (q:Q (upd H2 a (.ins C dx (ym f y fs))))
def zRu(K:zVK)(ta tv:TE)(f:Str):TS:=fun D σ H=>tv σ H fun y H1=>ta σ H1 fun x H2=>XSf K f x y H2 fun H3=>D.nx σ H3
section
variable {X:Cx}{o e value:Expr}{f:Str}{pos pos' tpos:Pos}{ta tv:TE}
theorem zQt(he:PE X e ta)(hb:attributeBase e f X.env (eval e X.env)=eval e X.env):PE X (.Attribute e f pos) (zSJ X.K ta f):=by
 intro pins s σ H Q I h;refine zJi hb (zV (he pins s σ H _ I h) fun u s1 ⟨x,H1,I1,rx,a,C,dx,fs,v,ex,ea,c,n,l,q⟩=>?_);subst ex;obtain rfl:u=Value.ref a:=rx;exact zLZ I1 ea c n l fun u' s2 I2 ru=>⟨v,H1,I2,ru,q⟩
theorem zRO(ha:PE X o ta)(hv:PE X value tv)(hs:swapsWith value (some (.Attribute o f pos')) pos.line X.env=pure false):PS X (.Assign [.Attribute o f pos'] value pos) (zRu X.K ta tv f):=by
 intro pins s σ H D I h;refine plainObj_wpAny_Assign_Attribute (zV (hv pins s σ H _ I h) fun u s1 ⟨y,H1,I1,ry,q⟩=>zV (ha pins s1 σ H1 _ I1 q) fun ov s2 ⟨x,H2,I2,rx,a,C,dx,fs,ex,ea,c,n,l,q2⟩=>?_) hs;subst ex;obtain rfl:ov=Value.ref a:=rx;exact zLE I2 ea c n l ry fun s3 I3=>⟨σ,_,I3,q2⟩
end
section
variable {X:Cx}{pins:List (Addr×Obj)}{σ:St}{H:Hp}{s:Shared}{A:Around}{E:Value->Shared->Prop}{Q:Value->Shared->Prop}{c:Value}{b:Bool}
inductive TyOf (K:zVK) (H:Hp):V->Value->Prop where
 | non:TyOf K H .non (.type "NoneType")
 | bl (x:Bool):TyOf K H (.bl x) (.type "bool")
 | int (i:Int):TyOf K H (.int i) (.type "int")
 | str (x:Str):TyOf K H (.str x) (.type "str")
 | flt (x:UInt64):TyOf K H (.flt x) (.type "float")
 | lst {a:Addr} {xs:List V} (e:H a=some (.lst xs)):TyOf K H (.ref a) (.type "list")
 | frz {a:Addr} {o:Obj} {xs:List V} (e:H a=some (.frz o (.lst xs))):TyOf K H (.ref a) (.type "list")
 | tup {a:Addr} {xs:List V} (e:H a=some (.tup xs)):TyOf K H (.ref a) (.type "tuple")
 | dK {a:Addr} {kvs:List (Key×V)} (e:H a=some (.dK kvs)):TyOf K H (.ref a) (.type "dict")
 | dT {a:Addr} {kvs:List (List Key×V)} (e:H a=some (.dT kvs)):TyOf K H (.ref a) (.type "dict")
 | ins {a C dx:Addr} {fs:List (Str×V)} (e:H a=some (.ins C dx fs)) (cl:Cls K C) (ha:PySem.W.findIn K (.ref C) "__class__" =some (some (.builtin "object.__class__")))
   (hn:PySem.W.specialIn K (.builtin "object.__class__") "__get__" =some (some (.builtin "getset_descriptor.__get__"))) (htk:PySem.W.takesIn K (.builtin "object.__class__")=some true)
   (hm:PySem.W.mroIn K C (.type "object")=some true):TyOf K H (.ref a) (.ref C)
theorem zMD(I:Inv X pins σ H s)(rx:zU x u)(ty:TyOf X.K H x t)(e:PySem.W.kitOne X.K t c=some b)(h: ∀tk,Q (.bool b) {s with toks:=tk}):
  wpAny (model X.prog X.w) A (call (.builtin "isinstance") [u,c]) Q E s:=by
 cases ty with
 | non=>cases (show u=Value.none from rx);exact zVA PySem.W.kitx_none I.kIn True.intro e (fun z=>nomatch z) h
 | bl y=>cases (show u=Value.bool y from rx);exact zVA PySem.W.kitx_bool I.kIn True.intro e (fun z=>nomatch z) h
 | int i=>obtain ⟨t,q⟩:=(show∃t,u=Value.int i t from rx);cases q;exact zVA PySem.W.kitx_int I.kIn True.intro e (fun z=>nomatch z) h
 | str y=>obtain ⟨t,q⟩:=(show∃t,u=Value.str y t from rx);cases q;exact zVA PySem.W.kitx_str I.kIn True.intro e (fun z=>nomatch z) h
 | flt y=>obtain ⟨t,q⟩:=(show∃t,u=Value.float y t from rx);cases q;exact zVA PySem.W.kitx_float I.kIn True.intro e (fun z=>nomatch z) h
 | @lst a xs ea=>
  cases (show u=Value.ref a from rx);obtain ⟨_,_,n,_,h1⟩:=(show zj X.prog X.w H s.heap a (.lst xs) from I.hok a _ ea);exact zVA PySem.W.kitx_list I.kIn ⟨_,h1,rfl⟩ e (fun z=>nomatch z) h
 | @frz a ob xs ea=>
  cases (show u=Value.ref a from rx);obtain ⟨_,_,_,n,_,h1⟩:=(show zj X.prog X.w H s.heap a (.frz ob (.lst xs)) from I.hok a _ ea);exact zVA PySem.W.kitx_list I.kIn ⟨_,h1,rfl⟩ e (fun z=>nomatch z) h
 | @tup a xs ea=>
  cases (show u=Value.ref a from rx);obtain ⟨_,_,_,p⟩:=(show zj X.prog X.w H s.heap a (.tup xs) from I.hok a _ ea);obtain ⟨o,h1,h2,_⟩:=p;exact zVA PySem.W.kitx_tuple I.kIn ⟨o,h1,h2⟩ e (fun z=>nomatch z) h
 | @dK a kvs ea=>
  cases (show u=Value.ref a from rx);obtain ⟨_,_,vs,_,p⟩:=(show zj X.prog X.w H s.heap a (.dK kvs) from I.hok a _ ea);obtain ⟨o,es,ep,h1,h2,_⟩:=p;exact zVA PySem.W.kitx_dict I.kIn ⟨o,h1,h2.1⟩ e (fun z=>nomatch z) h
 | @dT a kvs ea=>
  cases (show u=Value.ref a from rx);obtain ⟨_,_,xs,_,o,es,ep,h1,h2,_⟩:=(show zj X.prog X.w H s.heap a (.dT kvs) from I.hok a _ ea);exact zVA PySem.W.kitx_dict I.kIn ⟨o,h1,h2.1⟩ e (fun z=>nomatch z) h
 | @ins a C dx fs ea cl ha hn htk hm=>
  cases (show u=Value.ref a from rx);obtain ⟨mA,O,_⟩:=zEV I.hok ea;obtain ⟨od,J,_⟩:=O.look;exact zVA (PySem.W.kitx_own (cl.get _) cl.hd ha hn htk hm) I.kIn J e (fun z=>nomatch z) h
end
structure Room(k:Nat)(A:Around):Prop where
 hd:A.handled=none
 dp:A.depth+3*k+5<recursionLimit
 un:A.units+16*k+200<cLine
 gd:A.guards=some []
theorem Room.mono(r:Room k A)(h:j<=k):Room j A:=⟨r.hd,by have:=r.dp;omega,by have:=r.un;omega,r.gd⟩
theorem Room.deeper(r:Room (k+1) A)(env:Env):Room k (A.deeper env):=
 ⟨r.hd,by have:=r.dp;show A.depth+1+3*k+5<_;omega,by have:=r.un;show A.units+3+16*k+200<_;omega,r.gd⟩
theorem zLQ{A:Around}{C:Addr}{us:List Value}{kw:List (Str×Value)}:(A.under (.builtin "type.__call__" ⟨.ref C::us,kw⟩)).depth=A.depth+1:=by
 first | rfl | simp [Around.under,Code.weight,Code.isCreation,Code.isGuard,Code.isCaller,Code.frames,Code.isFrame,guardIds]
theorem zKl{A:Around}{C:Addr}{us:List Value}{kw:List (Str×Value)}:(A.under (.builtin "type.__call__" ⟨.ref C::us,kw⟩)).units=A.units+1:=by
 first | rfl | simp [Around.under,Code.cUnits,Code.frames,Code.isFrame]
theorem zJV{A:Around}{C:Addr}{us:List Value}{kw:List (Str×Value)}:(A.under (.builtin "type.__call__" ⟨.ref C::us,kw⟩)).guards=A.guards:=by
 show pushGuards [] A.guards=A.guards;cases A.guards<;>rfl
theorem Room.make{k:Nat}{A:Around}(r:Room (k+1) A)(C:Addr)(us:List Value)(kw:List (Str×Value)):Room k (A.under (.builtin "type.__call__" ⟨.ref C::us,kw⟩)):=
 ⟨r.hd,by have:=r.dp;rw [zLQ];omega,by have:=r.un;rw [zKl];omega,zJV.trans r.gd⟩
theorem Room.depth(r:Room k A):A.depth<recursionLimit:=by have:=r.dp;omega
theorem Room.units(r:Room k A):A.units+64<cLine:=by have:=r.un;omega
def zCT:TA:=fun _ H Q=>Q [] H
def zDj(ta:TE)(tr:TA):TA:=fun σ H Q=>ta σ H fun x H1=>tr σ H1 fun xs H2=>Q (x::xs) H2
section
variable {X:Cx}{e:Expr}{es:List Expr}{te:TE}{t:TA}{pos:Pos}
theorem yG:PA X [] zCT:=fun _ _ _ _ H Q I h=>Calls.spliced_nil ⟨[],H,I,.nil,h⟩
theorem zf(ha:PE X e te)(hr:PA X es t)(hs:starEach (e::es) X.env=(false,eval e X.env)::starEach es X.env:=by rfl):PA X (e::es) (zDj te t):=by
 intro pos pins s σ H Q I h;rw [hs];show wpAny _ _ (spliced ((false,eval e X.env)::backTo pos (starEach es X.env))) _ _ s;refine Calls.spliced_cons (zV (ha pins s σ H _ I h) fun u s1 ⟨x,H1,I1,r1,q1⟩=>?_);exact zV (hr pos pins s1 σ H1 _ I1 q1) fun us s2 ⟨xs,H2,I2,r2,q2⟩=>⟨x::xs,H2,I2,.cons r1 r2,q2⟩
def zRk(t:TA):TE:=fun σ H Q=>t σ H fun xs H1=>xs.length<=sizeLine/\ ∀p,H1 p=none->Q (.ref p) (upd H1 p (.tup xs))
def zQn(t:TA):TE:=fun σ H Q=>t σ H fun xs H1=>xs.length<=sizeLine/\ ∀p,H1 p=none->Q (.ref p) (upd H1 p (.lst xs))
theorem zGb{x1}(h:PA X es t):PE X (.Tuple es x1 pos) (zRk t):=by
 intro pins s σ H Q I hq;refine wpAny_Tuple_spliced (zV (h pos pins s σ H _ I hq) fun us s1 ⟨xs,H1,I1,r,z,q⟩=>⟨by rw [<-r.length];exact z,?_⟩);have hf:H1 s1.heap.objs.size=none:=I1.hok.fresh (zUO _);refine ⟨.ref s1.heap.objs.size,upd H1 s1.heap.objs.size (.tup xs),I1.laid (t':=s1.toks) (fun b u e=>zUM _ e) (zUO _) ?_,rfl,q _ hf⟩;exact ⟨z,us,r,⟨_,zUd _ rfl,rfl,⟨_,rfl⟩,rfl⟩⟩
theorem zLl(h:PA X es t):PE X (.List es pos) (zQn t):=by
 intro pins s σ H Q I hq;refine wpAny_List_spliced (zV (h pos pins s σ H _ I hq) fun us s1 ⟨xs,H1,I1,r,z,q⟩=>⟨by rw [<-r.length];exact z,?_⟩);have hf:H1 s1.heap.objs.size=none:=I1.hok.fresh (zUO _);refine ⟨.ref s1.heap.objs.size,upd H1 s1.heap.objs.size (.lst xs),I1.laid (t':=s1.toks) (fun b u e=>zUM _ e) (zUO _) ?_,rfl,q _ hf⟩;exact ⟨z,us,0,r,zUd _ rfl⟩
end
abbrev Sp:=List V->Hp->VK->XK->Prop
abbrev CXT:=List Env->Hp->Shared->XK->Value->Shared->Prop
structure Env0(P:Program)(w:World)(K:zVK)(mg:Str->Option Value)(base:Heap)(A:Around)(outer:List Env)(s:Shared)(H:Hp):Prop where
 frames:A.frames=some outer
 mod:Mod K mg base
 bs: ∀b o,base.get? b=some o->s.heap.get? b=some o/\H b=none
 bsz:base.objs.size<=s.heap.objs.size
 funs:s.heap.FunFrames base outer
 frf: ∀b∈yW outer,H b=none
 hok:HOk P w H s.heap
 bare:AllBare s.gens
def CE(outer:List Env)(P:Program)(w:World)(H:Hp)(s:Shared)(Q:VK)(u:Value)(s':Shared):Prop:=
 ∃v H',s'.os=s.os/\AllBare s'.gens/\Un (yW outer) [] H H' s.heap s'.heap/\HOk P w H' s'.heap/\zU v u/\Q v H'
def CR(CX:CXT)(outer:List Env)(P:Program)(w:World)(H:Hp)(s:Shared)(Q:VK)(E:XK)(r:Result)(s':Shared):Prop:=
 match r with
 | .ok (.ret u)=>CE outer P w H s Q u s'
 | .ok _=>False
 | .error e=>CX outer H s E e s'
structure FnOk(P:Program)(w:World)(K:zVK)(mg:Str->Option Value)(base:Heap)(CX:CXT)(k:Nat)(f:Addr)(fd:FuncData)(ps:List Str)(sp:Sp):Prop where
 len: ∀vs H Q E,sp vs H Q E->vs.length=ps.length
 run: ∀(A:Around) (outer:List Env) (s:Shared) (H:Hp) (args:Args) (us:List Value) (vs:List V) (Q:VK) (E:XK),Room k A->Env0 P w K mg base A outer s H->BindsTo s fd args (ps.zip us)->zS vs us->sp vs H Q E->
  codeAny (model P w) A (.call (.ref f) args) (CR CX outer P w H s Q E) s
theorem Env0.make{P:Program}{w:World}{K:zVK}{mg:Str->Option Value}{base:Heap}{A:Around}{outer:List Env}{s:Shared}{H:Hp}(e:Env0 P w K mg base A outer s H)(C:Addr)(us:List Value)(kw:List (Str×Value)):
  Env0 P w K mg base (A.under (.builtin "type.__call__" ⟨.ref C::us,kw⟩)) outer s H:=⟨by first | exact e.frames |(simpa [Around.under,Code.envs,Code.isFrame,pushEnvs] using e.frames),e.mod,e.bs,e.bsz,e.funs,e.frf,e.hok,e.bare⟩
section
variable {X:Cx}{pins:List (Addr×Obj)}{σ:St}{H:Hp}{s s':Shared}
theorem Inv.env0(I:Inv X pins σ H s):Env0 X.prog X.w X.K X.mg X.base X.A X.stack s H:=
 ⟨I.ok.frames,I.ok.mod,I.bs,zUY I.ok.bsz I.sz,I.stack,I.stkFree,I.hok,I.bare⟩
theorem Inv.after(I:Inv X pins σ H s)(h:CE X.stack X.prog X.w H s Q u s'):EP X pins σ Q u s':=by
 obtain ⟨v,H',os,bare,un,hok,r,q⟩:=h;obtain ⟨hh,g,d,t,os'⟩:=s';obtain rfl:os'=s.os:=os;exact ⟨v,H',I.call (h':=hh) (g':=g) (d':=d) (t':=t) (ch:= []) un hok bare (fun b z=>absurd z (by simp)),r,q⟩
end
def zKZ(sp:Sp)(dvs:List V)(E:XK)(t:TA):TE:=fun σ H Q=>t σ H fun vs H1=>sp (vs++dvs) H1 Q E
inductive XMeth (C:Addr) (m:Str) (sp:Sp) (dvs:List V) (E:XK) (t:TA) (x:V) (σ:St) (H1:Hp) (Q:VK):Prop
 | mk (a dx:Addr) (fs:List (Str×V)) (h1:x= .ref a) (h2:H1 a=some (.ins C dx fs)) (h3:fs.lookup m=none) (q:t σ H1 fun vs H2=>sp (x::(vs++dvs)) H2 Q E)
def zHx(C:Addr)(m:Str)(sp:Sp)(dvs:List V)(E:XK)(ta:TE)(t:TA):TE:=fun σ H Q=>ta σ H fun x H1=>XMeth C m sp dvs E t x σ H1 Q
def zPE(C:Addr)(sp:Sp)(dvs:List V)(E:XK)(t:TA):TE:=fun σ H Q=>t σ H fun vs H1=> ∀x dx,H1 x=none->H1 dx=none->dx≠x->
 sp (.ref x::(vs++dvs)) (upd (upd H1 dx (.own x)) x (.ins C dx [])) (fun v H2=>v= .non/\Q (.ref x) H2) E
def zL(K:zVK)(fd:FuncData)(ps:List Str)(ds:List Value):Prop:=
 ∀(s:Shared) (us:List Value),K.In s.heap->(us++ds).length=ps.length->BindsTo s fd ⟨us,[]⟩ (ps.zip (us++ds))
theorem zL.all{K:zVK}{fd:FuncData}{ps:List Str}(h: ∀us:List Value,us.length=ps.length->bindArgs fd ⟨us,[]⟩=pure (ps.zip us)):zL K fd ps [] :=fun s us _ hl=>by
 rw [zUm] at hl⊢;exact .of_eq (h us hl)
def zAK(CX:CXT)(X:Cx)(E:XK):Prop:= ∀(pins:List (Addr×Obj)) (σ:St) (H:Hp) (s:Shared) (e:Value) (s':Shared),Inv X pins σ H s->CX X.stack H s E e s'->X.xe e s'
section
variable {X:Cx}{CX:CXT}{k:Nat}{f C:Addr}{fd:FuncData}{ps:List Str}{sp:Sp}{dvs:List V}{ds:List Value}{E:XK}{x m:Str}{p pos apos:Pos}{e o:Expr}{es:List Expr}{ta:TE}{t:TA}
theorem zIV(F:FnOk X.prog X.w X.K X.mg X.base CX k f fd ps sp)(hr:Room k X.A)(hb:zL X.K fd ps ds)(hd:zS dvs ds)(hx:zAK CX X E)
  (I:Inv X pins σ H s) (r:zS vs us) (h:sp (vs++dvs) H Q E):wpAny (model X.prog X.w) X.A (call (.ref f) us) (EP X pins σ Q) X.xe s:=by
 have r2:zS (vs++dvs) (us++ds):=r.append hd;have hl:(us++ds).length=ps.length:=by rw [<-r2.length];exact F.len _ _ _ _ h
 refine wpAny_call (zVI (F.run X.A X.stack s H ⟨us,[]⟩ (us++ds) (vs++dvs) Q E hr I.env0 (hb s us I.kIn hl) r2 h) fun r s' hq=>?_);cases r with
 | error e=>exact hx pins σ H s e s' I hq
 | ok fl=>
  cases fl with
  | ret u=>exact I.after hq
  | next=>exact False.elim hq
  | brk=>exact False.elim hq
  | cont=>exact False.elim hq
theorem zAo(F:FnOk X.prog X.w X.K X.mg X.base CX k f fd ps sp)(hr:Room k X.A)(hg:Gl X x)(hm:X.mg x=some (.ref f))(hk:PySem.W.keepIn X.K (.ref f)=true)(hb:zL X.K fd ps ds)(hd:zS dvs ds)(hx:zAK CX X E)
  (ha:PA X (e::es) t) (hdb:(x==("__debug__" :Str))=false:=by decide) (he:starEach (e::es) X.env=(false,eval e X.env)::starEach es X.env:=by rfl) (hpl:(backTo pos (starEach es X.env)).any (·.1)=false:=by rfl):
  PE X (.Call (.Name x p) (e::es) [] pos) (zKZ sp dvs E t):=by
 intro pins s σ H Q I h;refine zVH (zBY I hg hm ?_ hdb);refine PySem.W.callWith_K (h₀:=X.base) I.ok.mod.kin hk (zV (ha pos pins s σ H _ I h) fun us s1 ⟨vs,H1,I1,r,q⟩=>⟨I1.kIn,?_⟩) he hpl;exact zIV F hr hb hd hx I1 r q
theorem zQK(he:PE X o ta)(c:Cls X.K C)(hm:Meth X.K C m f)(F:FnOk X.prog X.w X.K X.mg X.base CX k f fd ps sp)(hr:Room k X.A)(hb:zL X.K fd ps ds)(hd:zS dvs ds)(hx:zAK CX X E)(ha:PA X (e::es) t)
  (hst:starEach (e::es) X.env=(false,eval e X.env)::starEach es X.env:=by rfl) (hpl:(backTo pos (starEach es X.env)).any (·.1)=false:=by rfl)
  (ht:eval (.Call (.Attribute o m apos) (e::es) [] pos) X.env=(do
   let ov<-eval o X.env
   standAt apos.atName
   let (f,first)<-holding [ov] (getMethod ov m pl)
   callWith pos f first (backTo pos (starEach (e::es) X.env)) (backToKw pos (keywordEach [] X.env))):=by rfl):
  PE X (.Call (.Attribute o m apos) (e::es) [] pos) (zHx C m sp dvs E ta t):=by
 intro pins s σ H Q I h;refine PySem.W.methodCall_KW (pl:=pl) (zV (he pins s σ H _ I h) fun u s1 ⟨x,H1,I1,rx,a,dx,fs,ex,ea,l,q⟩=>?_) ht;subst ex;obtain rfl:u=Value.ref a:=rx;refine zDa I1 ea c hm l ?_;refine PySem.W.callWith_K (first:= [.ref a]) (h₀:=X.base) I.ok.mod.kin hm.kp (zV (ha pos pins s1 σ H1 _ I1 q) fun us s2 ⟨vs,H2,I2,r,q2⟩=>⟨I2.kIn,?_⟩) hst hpl;exact zIV (us:= .ref a::us) (vs:= .ref a::vs) F hr hb hd hx I2 (.cons rfl r) q2
theorem zNe(he:PE X o ta)(c:Cls X.K C)(hm:Meth X.K C m f)(F:FnOk X.prog X.w X.K X.mg X.base CX k f fd ps sp)(hr:Room k X.A)(hb:zL X.K fd ps ds)(hd:zS dvs ds)(hx:zAK CX X E)
  (ht:eval (.Call (.Attribute o m apos) [] [] pos) X.env=(do
   let ov<-eval o X.env
   standAt apos.atName
   let (f,first)<-holding [ov] (getMethod ov m pl)
   callWith pos f first (backTo pos (starEach [] X.env)) (backToKw pos (keywordEach [] X.env))):=by rfl):
  PE X (.Call (.Attribute o m apos) [] [] pos) (zHx C m sp dvs E ta zCT):=by
 intro pins s σ H Q I h;refine PySem.W.methodCall_KW (pl:=pl) (zV (he pins s σ H _ I h) fun u s1 ⟨x,H1,I1,rx,a,dx,fs,ex,ea,l,q⟩=>?_) ht;subst ex;obtain rfl:u=Value.ref a:=rx;refine zDa I1 ea c hm l ?_;exact PySem.W.callWith_K0 (first:= [.ref a]) I1.kIn hm.kp (zIV (us:= [.ref a]) (vs:= [.ref a]) F hr hb hd hx I1 (.cons rfl .nil) q)
structure Mk(K:zVK)(C f:Addr):Prop where
 makes:PySem.W.makesIn K C=true
 init:PySem.W.findIn K (.ref C) "__init__" =some (some (.ref f))
 fn:PySem.W.isFn K (.ref f)=true
 kp:PySem.W.keepIn K (.ref C)=true
theorem zNP(M:Mk X.K C f)(F:FnOk X.prog X.w X.K X.mg X.base CX k f fd ps sp)(hr:Room (k+1) X.A)(hb:zL X.K fd ps ds)(hd:zS dvs ds)
  (hx:zAK CX X E) (I:Inv X pins σ H s) (r:zS vs us)
  (h: ∀x dx,H x=none->H dx=none->dx≠x->sp (.ref x::(vs++dvs)) (upd (upd H dx (.own x)) x (.ins C dx [])) (fun v H2=>v= .non/\Q (.ref x) H2) E):
  wpAny (model X.prog X.w) X.A (call (.ref C) us) (EP X pins σ Q) X.xe s:=by
 have hq:=h (s.heap.objs.size+1) s.heap.objs.size (I.hok.fresh (Nat.le_succ _)) (I.hok.fresh (zUO _)) (zUS (Nat.lt_succ_self _));have I2:=Inv.made (C:=C) I;have r2:zS (V.ref (s.heap.objs.size+1)::(vs++dvs)) (Value.ref (s.heap.objs.size+1)::(us++ds)):= .cons rfl (r.append hd);have hl:(Value.ref (s.heap.objs.size+1)::us++ds).length=ps.length:=by
  have e:=r2.length;rw [F.len _ _ _ _ hq] at e;exact e.symm
 refine wpAny_call (zOR (f:=f) I.kIn M.makes M.init (beq_iff_eq.mp M.fn) (zVI (F.run _ X.stack _ _ ⟨Value.ref (s.heap.objs.size+1)::us,[]⟩ (Value.ref (s.heap.objs.size+1)::(us++ds)) _ _ E (hr.make C us [])
  (I2.env0.make C us []) (hb _ (Value.ref (s.heap.objs.size+1)::us) I2.kIn hl) r2 hq) fun r s' hq'=>?_))
 cases r with
 | error e=>exact hx pins σ _ _ e s' I2 hq'
 | ok fl=>
  cases fl with
  | ret u=>
   obtain ⟨v,H',I3,rv,ev,q3⟩:=I2.after hq';subst ev;exact ⟨rv,⟨V.ref (s.heap.objs.size+1),H',I3,rfl,q3⟩⟩
  | next=>exact False.elim hq'
  | brk=>exact False.elim hq'
  | cont=>exact False.elim hq'
theorem zNk(M:Mk X.K C f)(F:FnOk X.prog X.w X.K X.mg X.base CX k f fd ps sp)(hr:Room (k+1) X.A)(hg:Gl X x)(hm:X.mg x=some (.ref C))(hb:zL X.K fd ps ds)(hd:zS dvs ds)(hx:zAK CX X E)
  (hdb:(x==("__debug__" :Str))=false:=by decide):PE X (.Call (.Name x p) [] [] pos) (zPE C sp dvs E zCT):=by
 intro pins s σ H Q I h;refine zVH (zBY I hg hm ?_ hdb);exact PySem.W.callWith_K0 I.kIn M.kp (zNP (us:= []) M F hr hb hd hx I .nil h)
end
section
variable {X:Cx}{CX:CXT}{k:Nat}{f C:Addr}{fd:FuncData}{ps ks:List Str}{sp:Sp}{E:XK}{x m:Str}{p pos apos kpos:Pos}{e o:Expr}{es:List Expr}{kws:List Keyword}{te ta:TE}{t tk:TA}{nm:Option Str}
variable {g:List Value->List Value->List Value}{gV:List V->List V->List V}
end
structure FnScope(N P:List Str)(sc:Scope):Prop where
 kind:sc.kind= .function
 co:sc.isCoroutine=false
 gen:sc.isGenerator=false
 nd:N.Nodup
 pre:N.take P.length=P
 par: ∀x∈P,sc.names.lookup x=some .local\/sc.names.lookup x=some .cell
 nofree: ∀y∈sc.names,y.2≠ .free
theorem zHK{kindOf:Str->Option NameKind}: ∀{binds:List (Str×Value)} {m:Str->Option Value},(∀v,(x,v)∉binds)->bindL kindOf binds m x=m x
 | [],_,_=>rfl
 |(n,v)::r,m,h=>by
  unfold bindL;rw [zHK fun w hw=>h w (zUv _ hw)];split
  ·have:x≠n:=by rintro rfl;exact h v List.mem_cons_self
   simp [this]
  ·rfl
theorem zHH{kindOf:Str->Option NameKind}: ∀{binds:List (Str×Value)} {m:Str->Option Value},(∀v,(x,v)∉binds)->bindC kindOf binds m x=m x
 | [],_,_=>rfl
 |(n,v)::r,m,h=>by
  unfold bindC;rw [zHH fun w hw=>h w (zUv _ hw)];split
  ·rfl
  ·have:x≠n:=by rintro rfl;exact h v List.mem_cons_self
   simp [this]
theorem zHL{kindOf:Str->Option NameKind}: ∀{P:List Str} {vs:List Value} {i:Nat} {m:Str->Option Value},P.Nodup->P[i]?=some x->vs[i]?=some v->kindOf x=some .local->
  bindL kindOf (P.zip vs) m x=some v
 | [],_,_,_,_,h,_,_=>by simp at h
 | _::_,[],_,_,_,_,h,_=>by simp at h
 | p::P,w::vs,0,m,nd,h1,h2,hk=>by
  simp at h1 h2;subst h1;subst h2;show bindL kindOf ((p,w)::P.zip vs) m p=_;unfold bindL;rw [zHK fun v hv=>(List.nodup_cons.mp nd).1 (List.of_mem_zip hv).1,if_pos hk];simp
 | p::P,w::vs,i+1,m,nd,h1,h2,hk=>by
  show bindL kindOf ((p,w)::P.zip vs) m x=_;unfold bindL;exact zHL (i:=i) (List.nodup_cons.mp nd).2 (by simpa using h1) (by simpa using h2) hk
theorem zHc{kindOf:Str->Option NameKind}: ∀{P:List Str} {vs:List Value} {i:Nat} {m:Str->Option Value},P.Nodup->P[i]?=some x->vs[i]?=some v->kindOf x≠some .local->
  bindC kindOf (P.zip vs) m x=some v
 | [],_,_,_,_,h,_,_=>by simp at h
 | _::_,[],_,_,_,_,h,_=>by simp at h
 | p::P,w::vs,0,m,nd,h1,h2,hk=>by
  simp at h1 h2;subst h1;subst h2;show bindC kindOf ((p,w)::P.zip vs) m p=_;unfold bindC;rw [zHH fun v hv=>(List.nodup_cons.mp nd).1 (List.of_mem_zip hv).1,if_neg hk];simp
 | p::P,w::vs,i+1,m,nd,h1,h2,hk=>by
  show bindC kindOf ((p,w)::P.zip vs) m x=_;unfold bindC;exact zHc (i:=i) (List.nodup_cons.mp nd).2 (by simpa using h1) (by simpa using h2) hk
def start(N:List Str)(vs:List V):St:=vs.map some++List.replicate (N.length - vs.length) none
def zAx(CX:CXT)(P:Program)(w:World)(K:zVK)(mg:Str->Option Value)(base:Heap)(N:List Str)(qual:Str)(scope:Scope)(f:Addr)(cd:Value)(A:Around)(outer:List Env)(s:Shared)(H:Hp)(E:XK):Cx where
 prog:=P
 w:=w
 K:=K
 mg:=mg
 base:=base
 A:=A.deeper (envOfC qual scope s.heap.objs.size f cd)
 N:=N
 s₀:=s
 H₀:=H
 env:=envOfC qual scope s.heap.objs.size f cd
 outer:=outer
 stack:=envOfC qual scope s.heap.objs.size f cd::outer
 ex:= []
 calm:=true
 fn:=fun _=>true
 pn:= []
 xe:=fun e s'=>wpAny (model P w) (A.deeper (envOfC qual scope s.heap.objs.size f cd)) (leaving (envOfC qual scope s.heap.objs.size f cd) e) (fun _ s''=>CX outer H s E e s'') (fun e' s''=>CX outer H s E e' s'') s'
theorem zIz{sc:Scope}{n:Nat}{x:Str}(h:sc.names.lookup x=some .cell): ∃c,(cellsFrom n sc.names []).lookup x=some c:=by
 have q:=PySem.W.cellsFrom_some sc.names n [] (.inl h);exact Option.isSome_iff_exists.mp q
theorem zHY{CX:CXT}{P:Program}{w:World}{K:zVK}{mg:Str->Option Value}{base:Heap}{N ps:List Str}{qual:Str}{scope:Scope}{f:Addr}{cd:Value}{A:Around}{outer:List Env}{s s1:Shared}{H:Hp}{E:XK}{us:List Value}{vs:List V}
  (S:FnScope N ps scope) (hd:A.handled=none) (e0:Env0 P w K mg base A outer s H) (hl:vs.length=ps.length) (r:zS vs us)
  (x:InCallC s s.heap.objs.size (bindL (envOfC qual scope s.heap.objs.size f cd).kindOf (ps.zip us) fun _=>none) (cellsFrom (s.heap.objs.size+1) scope.names []) (bindC (envOfC qual scope s.heap.objs.size f cd).kindOf (ps.zip us) fun _=>none) s1):
  Inv (zAx CX P w K mg base N qual scope f cd A outer s H E) [] (start N vs) H s1:=by
 have hpl:ps.length<=N.length:=by have:=congrArg List.length S.pre;rw [List.length_take] at this;omega
 obtain ⟨h1,tk,rfl,hk⟩:=x.done;have noA: ∀b:Addr,b∉(zAx CX P w K mg base N qual scope f cd A outer s H E).ex:=fun b z=>absurd (show b∈([] :List Addr) from z) (by simp);refine ⟨⟨e0.mod,S.kind,rfl,rfl,zUO _,fun y z c h1 h2=>?_,fun y hy=>?_,fun y c _ h=>?_,fun _=>hd,Around.frames_deeper e0.frames,.inr ⟨rfl,rfl⟩,fun b z=>absurd z (noA b),e0.bs,e0.bsz,fun b _ _=>noA b,fun b z=>absurd z (noA b),e0.funs,e0.frf⟩,
  rfl,e0.bare,Un.kept hk,⟨_,x.toInCall.ns,fun i y v h1 h2 h3=>?_⟩,fun y c h=>⟨_,x.cell y c h⟩,e0.hok.fresh (zUO _),fun y c h=>?_,fun p hp=>absurd (show p∈([] :List (Addr×Obj)) from hp) (by simp),e0.hok.kept hk,?_⟩
 ·exact name_of_addr x.apart (PySem.mem_of_lookup h1) (PySem.mem_of_lookup h2)
 ·have hy:scope.names.lookup y=some .cell\/scope.names.lookup y=some .free:=hy;rcases hy with hy | hy
  ·exact zIz hy
  ·exact absurd rfl (S.nofree _ (PySem.mem_of_lookup hy))
 ·exact zUy (x.above y c (PySem.mem_of_lookup h))
 ·have hi:i<vs.length:=by
   unfold start at h2;by_cases hi:i<vs.length
   ·exact hi
   ·rw [List.getElem?_append_right (by simpa using hi)] at h2;rw [List.getElem?_replicate] at h2;split at h2<;>cases h2
  have ha:vs[i]?=some v:=by
   unfold start at h2;rw [List.getElem?_append_left (by simpa using hi),zUP] at h2;cases e:vs[i]? with
   | none=>rw [e] at h2;cases h2
   | some a=>rw [e] at h2;cases h2;rfl
  obtain ⟨u,hu,rv⟩:=r.get ha;have hp:ps[i]?=some y:=by
   rw [<-S.pre,List.getElem?_take_of_lt (by omega)];exact h1
  have ndP:ps.Nodup:=by rw [<-S.pre];exact S.nd.sublist (List.take_sublist _ _)
  refine ⟨u,rv,?_⟩;rcases S.par y (zUp hp) with k | k
  ·exact .inl ⟨k,zHL ndP hp hu k⟩
  ·obtain ⟨c,e⟩:=zIz (n:=s.heap.objs.size+1) k;refine .inr ⟨.inl k,c,e,?_⟩;have q:=x.cell y c e;rw [zHc ndP hp hu (by show scope.names.lookup y≠_;rw [k];decide)] at q;exact q
 ·exact e0.hok.fresh (zUy (x.above y c (PySem.mem_of_lookup h)))
 ·unfold start;show _=N.length;rw [zUn,zUR,List.length_replicate];omega
theorem zKq{CX:CXT}{P:Program}{w:World}{K:zVK}{mg:Str->Option Value}{base:Heap}{k:Nat}{f:Addr}{name qual:Str}{params:Arguments}{body:List Stmt}{scope:Scope}{dV kV doc pm cdv ct oc:Value}{an od:Option Addr}
  {osl:Array (Option Value)} {N ps:List Str} {sp:Sp} (lk:K.lookup f=some ⟨oc,od,.func (PySem.W.fnOf name qual params body scope dV kV doc pm an cdv ct),osl⟩) (hcd:PySem.W.codeIn K cdv qual=true) (S:FnScope N ps scope)
  (len: ∀vs H Q E,sp vs H Q E->vs.length=ps.length)
  (hbody: ∀(A:Around) (outer:List Env) (s:Shared) (H:Hp) (vs:List V) (Q:VK) (E:XK),Room k (A.deeper (envOfC qual scope s.heap.objs.size f cdv))->sp vs H Q E->
   ∃t,PSs (zAx CX P w K mg base N qual scope f cdv A outer s H E) body t/\t {nx:=fun _ H'=>Q .non H',rt:=Q} (start N vs) H):
  FnOk P w K mg base CX (k+1) f (PySem.W.fnOf name qual params body scope dV kV doc pm an cdv ct) ps sp:=by
 refine ⟨len,fun A outer s H args us vs Q E hr e0 hb r hsp=>?_⟩;have hl:=len _ _ _ _ hsp;have KX:K.In s.heap:=e0.mod.kin.keeps fun b o e=>(e0.bs b o e).1;have lim:s.heap.NoLimit:=e0.mod.nolimit.keeps fun b o e=>(e0.bs b o e).1;have hkind: ∀y∈ps.zip us,scope.names.lookup y.1=some .local\/(scope.names.lookup y.1=some .cell/\((cellsFrom (s.heap.objs.size+1) scope.names []).lookup y.1).isSome=true):=fun ⟨n,v⟩ hy=>by
  rcases S.par n (List.of_mem_zip hy).1 with q | q
  ·exact .inl q
  ·exact .inr ⟨q,PySem.W.cellsFrom_some _ _ _ (.inl q)⟩
 refine codeAny_call_function hr.depth (KX _ _ lk) rfl S.co S.gen rfl (PySem.W.codeRec_of KX hcd) (hb _ _ _ _ ?_);refine wpAny_newFunctionEnv_cells S.kind hkind fun env he s1 x=>?_;subst he;refine ⟨lim.keeps x.toInCall.keep,codeAny_func ?_⟩;obtain ⟨t,ht,hq⟩:=hbody A outer s H vs Q E (hr.deeper _) hsp;have I:Inv (zAx CX P w K mg base N qual scope f cdv A outer s H E) [] (start N vs) H s1:=zHY S hr.hd e0 hl r x;refine zUf (ht [] s1 (start N vs) H _ I hq) (fun fl s' hs=>?_) fun e s' hs=>hs;have fin: ∀{σ':St} {H':Hp} {v:V} {u:Value},Inv (zAx CX P w K mg base N qual scope f cdv A outer s H E) [] σ' H' s'->zU v u->Q v H'->CE outer P w H s Q u s':=
  fun {σ' H' v u} J rv q=>⟨v,H',J.os,J.bare,J.base,J.hok,rv,q⟩
 cases fl with
 | ret u=>
  obtain ⟨v,σ',H',J,rv,q⟩:=hs;exact fin J rv q
 | next=>
  obtain ⟨σ',H',J,q⟩:=hs;exact fin (v:=V.non) (u:=Value.none) J rfl q
 | brk=>
  obtain ⟨_,_,_,q⟩:=hs;exact False.elim q
 | cont=>
  obtain ⟨_,_,_,q⟩:=hs;exact False.elim q
section
variable {X:Cx}{x:Str}{p pos:Pos}{e:Expr}{es:List Expr}{t:TA}{id T:String}{r:List V->Hp->VK->Prop}
def tCB(r:List V->Hp->VK->Prop)(t:TA):TE:=fun σ H Q=>t σ H fun vs H1=>r vs H1 Q
theorem zBq(hc:yU X (.builtin id) r)(hg:Gl X x)(hm:X.mg x=none)(hv:bootBuiltins x=some (.builtin id))(ha:PA X (e::es) t)(hn:x≠ "__name__" :=by decide)(hdb:(x==("__debug__" :Str))=false:=by decide)
  (he:starEach (e::es) X.env=(false,eval e X.env)::starEach es X.env:=by rfl) (hpl:(backTo pos (starEach es X.env)).any (·.1)=false:=by rfl):PE X (.Call (.Name x p) (e::es) [] pos) (tCB r t):=by
 intro pins s σ H Q I h;refine zVH (zDO I hg hm hv ?_ hn hdb);exact PyProof.Rows.callWith_builtin1 (zV (ha pos pins s σ H _ I h) fun us s1 ⟨vs,H1,I1,r1,q1⟩=>hc pins s1 σ H1 vs us Q I1 r1 q1) he hpl
theorem zNA(hc:yU X (.type T) r)(hg:Gl X x)(hm:X.mg x=none)(hv:bootBuiltins x=some (.type T))(ha:PA X (e::es) t)(hn:x≠ "__name__" :=by decide)(hdb:(x==("__debug__" :Str))=false:=by decide)
  (he:starEach (e::es) X.env=(false,eval e X.env)::starEach es X.env:=by rfl) (hpl:(backTo pos (starEach es X.env)).any (·.1)=false:=by rfl):PE X (.Call (.Name x p) (e::es) [] pos) (tCB r t):=by
 intro pins s σ H Q I h;refine zVH (zDO I hg hm hv ?_ hn hdb);exact PyProof.Rows.callWith_type1 (zV (ha pos pins s σ H _ I h) fun us s1 ⟨vs,H1,I1,r1,q1⟩=>hc pins s1 σ H1 vs us Q I1 r1 q1) he hpl
end
end L2
namespace HT
open PySem PyProof.Rows
section
open PySem.SeqAt
open PySem.AutoSeq1 (wpAny_loadPart')
open PySem.MeetsSeq PySem.MeetsSeq2 PySem.MeetsSeq3
end
section
variable {prog:Program}{w:World}{A:Around}{E:Value->Shared->Prop}{s:Shared}
end
end HT
namespace L2
open PySem PySem.Spec PyProof.Rows
abbrev TO:=St->Hp->(Option Int->Hp->Prop)->Prop
def PO(X:Cx)(e:Option Expr)(t:TO):Prop:=
 ∀(pins:List (Addr×Obj)) (s:Shared) (σ:St) (H:Hp) (Q:Option Int->Hp->Prop),Inv X pins σ H s->t σ H Q->
  wpAny (model X.prog X.w) X.A (evalPart e X.env) (fun u s'=> ∃o H',Inv X pins σ H' s'/\IsPart u o/\Q o H') X.xe s
def zKB:TO:=fun _ H Q=>Q none H
inductive XPart (x:V) (H1:Hp) (Q:Option Int->Hp->Prop):Prop
 | mk (i:Int) (h:x= .int i) (q:Q (some i) H1)
def zOd(t:TE):TO:=fun σ H Q=>t σ H fun x H1=>XPart x H1 Q
section
variable {X:Cx}{e:Expr}{te:TE}{lo hi:Option Expr}{tl th:TO}{pos p2:Pos}
theorem zPK:PO X none zKB:=by
 intro pins s σ H Q I h;rw [evalPart_none];exact zUQ ⟨none,H,I,.none,h⟩
theorem zQB(h:PE X e te):PO X (some e) (zOd te):=by
 intro pins s σ H Q I hw;rw [evalPart_some];refine zV (h pins s σ H _ I hw) fun u s1 ⟨x,H1,I1,r1,q1⟩=>?_;obtain ⟨i,rfl,q⟩:=q1;obtain ⟨t,rfl⟩:=r1;exact ⟨some i,H1,I1,.int i t,q⟩
def SlR(X:Cx)(r:V->Option Int->Option Int->Hp->VK->Prop):Prop:=
 ∀(pins:List (Addr×Obj)) (s:Shared) (σ:St) (H:Hp) (x:V) (v vl vu:Value) (lo hi:Option Int) (sl:Addr) (Q:VK),Inv X pins σ H s->zU x v->s.heap.IsSliceOf sl vl vu .none->IsPart vl lo->IsPart vu hi->r x lo hi H Q->
  ∃T id,typeLookup (.type T) "__getitem__" =pure (some (.builtin id))/\s.TypeIs v T/\wpAny (model X.prog X.w) X.A (getItem v (.ref sl)) (EP X pins σ Q) X.xe s
def tSl(r:V->Option Int->Option Int->Hp->VK->Prop)(te:TE)(tl th:TO):TE:=fun σ H Q=>te σ H fun x H1=>tl σ H1 fun l H2=>th σ H2 fun u H3=>r x l u H3 Q
theorem zOF{r:V->Option Int->Option Int->Hp->VK->Prop}(hr:SlR X r)(he:PE X e te)(hl:PO X lo tl)(hu:PO X hi th):PE X (.Subscript e (.Slice lo hi none p2) pos) (tSl r te tl th):=by
 intro pins s σ H Q I h;refine Subscript_ (zV (he pins s σ H _ I h) fun v s1 ⟨x,H1,I1,r1,q1⟩=>?_);refine wpAny_Slice (zV (hl pins s1 σ H1 _ I1 q1) fun vl s2 ⟨l,H2,I2,pl,q2⟩=>zV (hu pins s2 σ H2 _ I2 q2) fun vu s3 ⟨u,H3,I3,pu,q3⟩=>?_);rw [evalPart_none];refine zUQ ?_;have I4:Inv X pins σ H3 {s3 with heap:=s3.heap.push {cls:= .type "slice",data:= .fields #[vl,vu,.none]}}:=I3.kept (t':=s3.toks) fun b ob q=>zUM _ q;obtain ⟨T,id,hT,ht,hg⟩:=hr pins {s3 with heap:=s3.heap.push {cls:= .type "slice",data:= .fields #[vl,vu,.none]}} σ H3 x v vl vu l u s3.heap.objs.size Q I4 r1 (Heap.IsSliceOf.new ..) pl pu q3;show wpAny (model X.prog X.w) X.A (subscriptTail e (.Slice lo hi none p2) v (.ref s3.heap.objs.size)) (EP X pins σ Q) X.xe {s3 with heap:=s3.heap.push {cls:= .type "slice",data:= .fields #[vl,vu,.none]}};exact tail_any (ops:= [.ref s3.heap.objs.size,v]) ht hT hg (by with_unfolding_all rfl)
end
def ixN(n:Nat)(i:Int):Option Nat:=if 0<=i then (if i<n then some i.toNat else none) else if -(n:Int)<=i then some (i+n).toNat else none
def atI{α:Type}(xs:List α)(i:Int):Option α:=(ixN xs.length i).bind fun j=>xs[j]?
theorem zKE(h:ixN n i=some j):seqIndex? i n=some j/\j<n/\ -(n:Int)<=i/\i<n:=by
 unfold ixN at h;by_cases h0:0<=i
 ·rw [if_pos h0] at h;by_cases h1:i<n
  ·rw [if_pos h1] at h;have e:i.toNat=j:=Option.some.inj h;exact ⟨by rw [seqIndex_of h0 h1,e],by omega,by omega,h1⟩
  ·rw [if_neg h1] at h;cases h
 ·rw [if_neg h0] at h;by_cases h1: -(n:Int)<=i
  ·rw [if_pos h1] at h;have e:(i+n).toNat=j:=Option.some.inj h;exact ⟨by rw [seqIndex_neg (by omega) h1,e],by omega,h1,by omega⟩
  ·rw [if_neg h1] at h;cases h
theorem zGo{α:Type}{xs:List α}{v:α}(h:atI xs i=some v): ∃j,seqIndex? i xs.length=some j/\xs[j]?=some v/\j<xs.length/\ -(xs.length:Int)<=i/\i<xs.length:=by
 unfold atI at h;cases e:ixN xs.length i with
 | none=>rw [e] at h;cases h
 | some j=>
  rw [e] at h;obtain ⟨h1,h2,h3,h4⟩:=zKE e;exact ⟨j,h1,h,h2,h3,h4⟩
theorem zAG{α:Type}{xs:List α}{j:Nat}{v:α}(h:xs[j]?=some v):atI xs (j:Int)=some v:=by
 have hj:j<xs.length:=(zVX.mp h).1;have e:ixN xs.length (j:Int)=some j:=by
  unfold ixN;rw [if_pos (by omega),if_pos (by omega)];simp
 unfold atI;rw [e];exact h
def zEj(b:Expr):Prop:= ∀o i,subscripted b false o i=operate [o,i] (getItem o i)
def IxR(X:Cx)(r:R2):Prop:=
 ∀(value slice:Expr) (pins:List (Addr×Obj)) (s:Shared) (σ:St) (H:Hp) (x y:V) (v u:Value) (Q:VK),Inv X pins σ H s->zU x v->zU y u->r x y H Q->
  subscripted slice false v u=operate [v,u] (getItem v u)->wpAny (model X.prog X.w) X.A (subscriptTail value slice v u) (EP X pins σ Q) X.xe s
def MtR(X:Cx)(id:String)(r:V->List V->Hp->VK->Prop):Prop:=
 ∀(pins:List (Addr×Obj)) (s:Shared) (σ:St) (H:Hp) (x:V) (xs:List V) (v:Value) (us:List Value) (Q:VK),Inv X pins σ H s->zU x v->zS xs us->r x xs H Q->
  wpAny (model X.prog X.w) X.A (call (.builtin id) (v::us)) (EP X pins σ Q) X.xe s
section
variable {X:Cx}{a b:Expr}{ta tb:TE}{pos:Pos}
theorem zAF(hr:IxR X r)(ha:PE X a ta)(hb:PE X b tb)(hs:zEj b):PE X (.Subscript a b pos) (tOp r ta tb):=by
 intro pins s σ H Q I h;exact Subscript_ (zNp ha hb I h fun v u s2 x y H2 I2 rx ry q=>hr a b pins s2 σ H2 x y v u Q I2 rx ry q (hs _ _))
inductive XIxL (K:zVK) (x y:V) (H:Hp) (Q:VK):Prop
 | mk (p:Addr) (xs:List V) (i:Int) (v:V) (h1:x= .ref p) (h2:y= .int i) (h3:SqL K H p xs) (h4:atI xs i=some v) (q:Q v H)
def zSi(K:zVK):R2:=fun x y H Q=>XIxL K x y H Q
inductive XIxT (K:zVK) (x y:V) (H:Hp) (Q:VK):Prop
 | mk (p:Addr) (xs:List V) (i:Int) (v:V) (h1:x= .ref p) (h2:y= .int i) (h3:SqT K H p xs) (h4:atI xs i=some v) (q:Q v H)
def zSV(K:zVK):R2:=fun x y H Q=>XIxT K x y H Q
def zST:R2:=fun x y H Q=> ∃z i c,x= .str z/\y= .int i/\z.length<=sizeLine/\atI z.cps.toList i=some c/\Q (.str ⟨#[c]⟩) H
theorem zKF:IxR X (zSi X.K):=by
 intro value slice pins s σ H x y v u Q I rx ry h hs;obtain ⟨p,xs,i,z,rfl,rfl,hq,he,q⟩:=h;cases rx;obtain ⟨t,rfl⟩:=ry;obtain ⟨its,r,pl,hz⟩:=I.list hq;obtain ⟨j,h1,h2,h3,h4,h5⟩:=zGo he;obtain ⟨w,ew,rw'⟩:=r.get h2;have hl:=r.length;have hn:=zCa;have fin:EP X pins σ Q w s:=⟨z,H,I,rw',q⟩;by_cases h0:0<=i
 ·have hj:i.toNat=j:=by
   rw [seqIndex_of h0 h5] at h1;exact Option.some.inj h1
  exact item_listR pl.isList h0 (by omega) (by rw [hj];simpa using ew) fin hs
 ·have hj:(i+(its.toArray.size:Int)).toNat=j:=by
   rw [seqIndex_neg (by omega) h4] at h1;rw [zUe,<-hl];exact Option.some.inj h1
  exact subscriptTail_builtinR (x:=w) pl.isList.typeIs slot_list_getitem.lookup
   (wpAny_getItem_list_neg (Q:=fun r s'=>r=w/\EP X pins σ Q r s') pl.isList (by omega) (by rw [zUe] <;>omega) (by omega) (by rw [hj];simpa using ew) ⟨rfl,fin⟩) hs
theorem yz:IxR X (zSV X.K):=by
 intro value slice pins s σ H x y v u Q I rx ry h hs;obtain ⟨p,xs,i,z,rfl,rfl,hq,he,q⟩:=h;cases rx;obtain ⟨t,rfl⟩:=ry;obtain ⟨its,r,pl,hz⟩:=I.tuple hq;obtain ⟨j,h1,h2,h3,h4,h5⟩:=zGo he;obtain ⟨w,ew,rw'⟩:=r.get h2;have hl:=r.length;have hn:=zCa;have fin:EP X pins σ Q w s:=⟨z,H,I,rw',q⟩;exact subscriptTail_builtinR (x:=w) pl.typeIs slot_tuple_getitem.lookup
  (getItem_tuple (j:=j) (Q:=fun r s'=>r=w/\EP X pins σ Q r s') pl (by omega) (by omega) (by rw [zUe,<-hl];exact h1) (by simpa using ew) ⟨rfl,fin⟩) hs
theorem zRf:IxR X zST:=by
 intro value slice pins s σ H x y v u Q I rx ry h hs;obtain ⟨z,i,c,rfl,rfl,hz,he,q⟩:=h;obtain ⟨t,rfl⟩:=rx;obtain ⟨t',rfl⟩:=ry;obtain ⟨j,h1,h2,h3,h4,h5⟩:=zGo he;have hl:z.cps.toList.length=z.length:=by simp [Str.length]
 rw [hl] at h1 h4 h5;have hn:=zCa;exact tail_any (typeIs_str s z t) slot_str_getitem.lookup (getItem_str (c:=c) (by
  have e1:decide (i< -(2^63:Int))=false:=zUl (by omega);have e2:decide (i≥2^63)=false:=zUl (by omega);rw [e1,e2,Bool.or_false]) (by rw [h1];simpa using h2) ⟨.str ⟨#[c]⟩,H,I.tok _,⟨_,rfl⟩,q⟩) hs
theorem zKm(its:List Value)(n j:Nat)(u:Value):Obj.mapSeq (·.setIfInBounds j u) {cls:= .type "list",data:= .seq its.toArray n}={cls:= .type "list",data:= .seq (its.set j u).toArray n}:=by
 simp [Obj.mapSeq]
theorem Inv.lst(I:Inv X pins σ H s)(h:H p=some (.lst xs)):
  ∃(its:List Value) (n:Nat),zS xs its/\s.heap.get? p=some {cls:= .type "list",data:= .seq its.toArray n}/\xs.length<=sizeLine:=by
 obtain ⟨z,its,n,r,e⟩:=I.hok p _ h;exact ⟨its,n,r,e,z⟩
theorem Inv.lstUpd{pins:List (Addr×Obj)}{σ:St}{H:Hp}{s:Shared}{p:Addr}{xs ys:List V}{its its':List Value}{n n':Nat}{f:Obj->Obj}(I:Inv X pins σ H s)(h:H p=some (.lst xs))
  (ho:s.heap.get? p=some {cls:= .type "list",data:= .seq its.toArray n}) (hf:f {cls:= .type "list",data:= .seq its.toArray n}={cls:= .type "list",data:= .seq its'.toArray n'}) (r:zS ys its') (hz:ys.length<=sizeLine) (t:Nat):
  Inv X pins σ (upd H p (.lst ys)) {s with heap:=s.heap.update p f,toks:=t}:=by
 have e:(s.heap.update p f).get? p=some {cls:= .type "list",data:= .seq its'.toArray n'}:=by
  rw [zUx f ho (by rw [hf] <;>rfl),hf]
 refine I.write (x:=p) (e:=p) (by rw [h];trivial) (.inl rfl) (fun b u hb q=>(zUw _ _ (Ne.symm hb)).trans q) ⟨_,e⟩ ?_;exact ⟨hz,its',n',r,e⟩
def zOo:V->V->V->Hp->(Hp->Prop)->Prop:=fun o i v H Q=> ∃p xs k j,o= .ref p/\i= .int k/\H p=some (.lst xs)/\ixN xs.length k=some j/\Q (upd H p (.lst (xs.set j v)))
theorem zOA:zTr X zOo:=by
 intro pins s σ H o i v ov iv u Q I ro ri rv h;obtain ⟨p,xs,k,j,rfl,rfl,hp,hj,q⟩:=h;cases ro;obtain ⟨t,rfl⟩:=ri;obtain ⟨its,n,r,ho,hz⟩:=I.lst hp;obtain ⟨h1,h2,h3,h4⟩:=zKE hj;have hl:=r.length;have hn:=zCa;have I':Inv X pins σ (upd H p (.lst (xs.set j v))) {s with heap:=s.heap.update p (Obj.mapSeq (·.setIfInBounds j u))}:=
  I.lstUpd hp ho (zKm its n j u) (r.set rv j) (by rw [List.length_set];exact hz) s.toks
 by_cases h0:0<=k
 ·have hk:k.toNat=j:=by
   rw [seqIndex_of h0 h4] at h1;exact Option.some.inj h1
  exact PySem.W.ki_setAt ho h0 (by omega) (by rw [zUe,<-hl];exact h4) (by rw [hk];exact ⟨_,I',q⟩)
 ·have hk:(k+(its.toArray.size:Int)).toNat=j:=by
   rw [seqIndex_neg (by omega) h3] at h1;rw [zUe,<-hl];exact Option.some.inj h1
  exact PySem.W.ki_setBack ho (by omega) (by rw [zUe,<-hl];exact h3) (by omega) (by rw [hk];exact ⟨_,I',q⟩)
def zAQ:V->Bool
 | .non=>true
 | .bl _=>true
 | .int _=>true
 | .str _=>true
 | _=>false
def eqV:V->V->Bool
 | .non,.non=>true
 | .bl a,.bl b=>a==b
 | .bl a,.int b=>(if a then 1 else 0)==b
 | .int a,.bl b=>a==(if b then 1 else 0)
 | .int a,.int b=>a==b
 | .str a,.str b=>a==b
 | _,_=>false
theorem zSZ(ry:zU y u)(rx:zU x v)(fy:zAQ y=true)(fx:zAQ x=true):SeqAt.EqAt A s u v (eqV y x):=by
 cases y with
 | non=>
  cases ry;cases x with
  | non=>cases rx;exact SeqAt.EqAt.same _
  | bl b=>cases rx;exact SeqAt.EqAt.none_bool b
  | int b=>obtain ⟨t,rfl⟩:=rx;exact SeqAt.EqAt.none_int b t
  | str b=>obtain ⟨t,rfl⟩:=rx;exact SeqAt.EqAt.none_str b t
  | _=>exact absurd (show false=true from fx) zUX
 | bl a=>
  cases ry;cases x with
  | non=>cases rx;exact SeqAt.EqAt.bool_none a
  | bl b=>cases rx;exact SeqAt.EqAt.bool_bool a b
  | int b=>obtain ⟨t,rfl⟩:=rx;exact SeqAt.EqAt.bool_int a b t
  | str b=>obtain ⟨t,rfl⟩:=rx;exact SeqAt.EqAt.bool_str a b t
  | _=>exact absurd (show false=true from fx) zUX
 | int a=>
  obtain ⟨t',rfl⟩:=ry;cases x with
  | non=>cases rx;exact SeqAt.EqAt.int_none a t'
  | bl b=>cases rx;exact SeqAt.EqAt.int_bool a t' b
  | int b=>obtain ⟨t,rfl⟩:=rx;exact SeqAt.EqAt.int_int a t' b t
  | str b=>obtain ⟨t,rfl⟩:=rx;exact SeqAt.EqAt.int_str a t' b t
  | _=>exact absurd (show false=true from fx) zUX
 | str a=>
  obtain ⟨t',rfl⟩:=ry;cases x with
  | non=>cases rx;exact SeqAt.EqAt.str_none a t'
  | bl b=>cases rx;exact SeqAt.EqAt.str_bool a t' b
  | int b=>obtain ⟨t,rfl⟩:=rx;exact SeqAt.EqAt.str_int a t' b t
  | str b=>obtain ⟨t,rfl⟩:=rx;exact SeqAt.EqAt.str_str a t' b t
  | _=>exact absurd (show false=true from fx) zUX
 | _=>exact absurd (show false=true from fy) zUX
def eqU(x:V)(u:Value):Bool:=match u with
 | .none=>eqV .non x
 | .bool b=>eqV (.bl b) x
 | .int i _=>eqV (.int i) x
 | .str z _=>eqV (.str z) x
 | _=>false
theorem zGB(r:zU y u)(f:zAQ y=true):eqU x u=eqV y x:=by
 cases y with
 | non=>cases r;rfl
 | bl b=>cases r;rfl
 | int i=>obtain ⟨t,rfl⟩:=r;rfl
 | str z=>obtain ⟨t,rfl⟩:=r;rfl
 | _=>exact absurd (show false=true from f) zUX
theorem zDF: ∀{xs:List V} {us:List Value},zS xs us->xs.all zAQ=true->us.any (eqU x)=xs.any fun y=>eqV y x
 | _,_,.nil,_=>rfl
 | y::xs,u::us,.cons r t,f=>by
  rw [List.all_cons,zVM] at f;rw [List.any_cons,List.any_cons,zGB r f.1,zDF t f.2]
theorem zBQ(rx:zU x v)(fx:zAQ x=true): ∀{xs:List V} {us:List Value},zS xs us->xs.all zAQ=true-> ∀u∈us,SeqAt.EqAt A s u v (eqU x u)
 | _,_,.nil,_=>fun u hu=>by cases hu
 | y::xs,u::us,.cons r t,f=>fun u' hu=>by
  rw [List.all_cons,zVM] at f;rcases zVL.mp hu with rfl | hu
  ·rw [zGB r f.1];exact zSZ r rx f.1 fx
  ·exact zBQ rx fx t f.2 u' hu
def inV(x:V)(xs:List V):Bool:=xs.any fun y=>eqV y x
def rIn(K:zVK)(neg:Bool):R2:=fun x y H Q=> ∃p xs,y= .ref p/\(SqL K H p xs\/SqT K H p xs)/\zAQ x=true/\xs.all zAQ=true/\Q (.bl (if neg then !inV x xs else inV x xs)) H
theorem zNE:OpR X (compareOp .In) (rIn X.K false):=by
 intro pins s σ H x y v u Q I rx ry h;obtain ⟨p,xs,rfl,hq,fx,fs,q⟩:=h;cases ry;rcases hq with hq | hq
 ·obtain ⟨its,r,pl,hz⟩:=I.list hq;refine SeqAt.in_listAt (eqU x) pl.isList (fun w hw=>zBQ rx fx r fs w (by simpa using hw)) ⟨.bl _,H,I,rfl,?_⟩;rw [show its.toArray.any (eqU x)=its.any (eqU x) by simp,zDF r fs];exact q
 ·obtain ⟨its,r,pl,hz⟩:=I.tuple hq;refine SeqAt.in_tupleAt (eqU x) pl (fun w hw=>zBQ rx fx r fs w (by simpa using hw)) ⟨.bl _,H,I,rfl,?_⟩;rw [show its.toArray.any (eqU x)=its.any (eqU x) by simp,zDF r fs];exact q
theorem zIi:OpR X (compareOp .NotIn) (rIn X.K true):=by
 intro pins s σ H x y v u Q I rx ry h;obtain ⟨p,xs,rfl,hq,fx,fs,q⟩:=h;cases ry;rcases hq with hq | hq
 ·obtain ⟨its,r,pl,hz⟩:=I.list hq;refine SeqAt.notIn_listAt (eqU x) pl.isList (fun w hw=>zBQ rx fx r fs w (by simpa using hw)) ⟨.bl _,H,I,rfl,?_⟩;rw [show its.toArray.any (eqU x)=its.any (eqU x) by simp,zDF r fs];exact q
 ·obtain ⟨its,r,pl,hz⟩:=I.tuple hq;refine SeqAt.notIn_tupleAt (eqU x) pl (fun w hw=>zBQ rx fx r fs w (by simpa using hw)) ⟨.bl _,H,I,rfl,?_⟩;rw [show its.toArray.any (eqU x)=its.any (eqU x) by simp,zDF r fs];exact q
theorem zCY:yU X (.builtin "len") (fun xs H Q=> ∃p ys,xs= [.ref p] /\(SqL X.K H p ys\/SqT X.K H p ys)/\Q (.int ys.length) H):=by
 intro pins s σ H xs us Q I r h;obtain ⟨p,ys,rfl,hq,q⟩:=h;obtain ⟨u,rfl,rx⟩:=zAR r;cases rx;have hn:=zCa;rcases hq with hq | hq
 ·obtain ⟨its,r',pl,hz⟩:=I.list hq;have hlen:=r'.length;exact Calls.call_len_list pl.isList (by simp only [zUe] <;>omega) ⟨.int ys.length,H,I.tok _,⟨s.toks+1,by rw [zUe,hlen]⟩,q⟩
 ·obtain ⟨its,r',pl,hz⟩:=I.tuple hq;have hlen:=r'.length;exact len_tuple pl (by simp only [zUe] <;>omega) ⟨.int ys.length,H,I.tok _,⟨s.toks+1,by rw [zUe,hlen]⟩,q⟩
theorem zIP:yU X (.builtin "len") (fun xs H Q=> ∃z,xs= [.str z] /\z.length<=sizeLine/\Q (.int z.length) H):=by
 intro pins s σ H xs us Q I r h;obtain ⟨z,rfl,hz,q⟩:=h;obtain ⟨u,rfl,t,rfl⟩:=zAR r;have hn:=zCa;exact len_str (by omega) ⟨.int z.length,H,I.tok _,⟨_,rfl⟩,q⟩
theorem zJM:yU X (.type "list") (fun xs H Q=> ∃p ys,xs= [.ref p] /\(SqL X.K H p ys\/SqT X.K H p ys)/\ ∀l,H l=none->Q (.ref l) (upd H l (.lst ys))):=by
 intro pins s σ H xs us Q I r h;obtain ⟨p,ys,rfl,hq,q⟩:=h;obtain ⟨u,rfl,rx⟩:=zAR r;cases rx;have fin: ∀(its:List Value),zS ys its->ys.length<=sizeLine-> ∀(h':Heap) (c':Nat),(∀b o',s.heap.get? b=some o'->h'.get? b=some o')->
   h'.get? s.heap.objs.size=some {cls:= .type "list",dict:=none,data:= .seq its.toArray c',slots:= #[]}->EP X pins σ Q (.ref s.heap.objs.size) {s with heap:=h'}:=fun its r' hz h' c' kp e=>
  ⟨.ref s.heap.objs.size,_,I.laid (t':=s.toks) kp (zUO _) (show zj X.prog X.w _ h' _ (.lst ys) from ⟨hz,its,c',r',e⟩),rfl,q _ (I.hok.fresh (zUO _))⟩
 rcases hq with hq | hq
 ·obtain ⟨its,r',pl,hz⟩:=I.list hq;have hlen:=r'.length;obtain ⟨o,ho,hc,n,hd⟩:=pl.isList;exact call_list_seq p (.inl rfl) ho hc hd (fun h' c' kp e=>fin its r' hz h' c' kp e) (by simp only [zUe] <;>omega)
 ·obtain ⟨its,r',pl,hz⟩:=I.tuple hq;have hlen:=r'.length;obtain ⟨o,ho,hc,n,hd⟩:=pl;exact call_list_seq p (.inr rfl) ho hc hd (fun h' c' kp e=>fin its r' hz h' c' kp e) (by simp only [zUe] <;>omega)
theorem zHk:yU X (.type "tuple") (fun xs H Q=> ∃p ys,xs= [.ref p] /\((SqL X.K H p ys/\ ∀l,H l=none->Q (.ref l) (upd H l (.tup ys)))\/(SqT X.K H p ys/\Q (.ref p) H))):=by
 intro pins s σ H xs us Q I r h;obtain ⟨p,ys,rfl,h⟩:=h;obtain ⟨u,rfl,rx⟩:=zAR r;cases rx;rcases h with ⟨hq,q⟩|⟨hq,q⟩
 ·obtain ⟨its,r',pl,hz⟩:=I.list hq;have hlen:=r'.length;refine call_tuple_list pl.isList (fun h' kp=>?_) (by simp only [zUe] <;>omega);have I1:Inv X pins σ H {s with heap:=h'}:=I.kept (t':=s.toks) kp;have I2:Inv X pins σ (upd H h'.objs.size (.tup ys)) {s with heap:=h'.push {cls:= .type "tuple",data:= .seq its.toArray}}:=
   I1.laid (t':=s.toks) (fun b o e=>zUM _ e) (zUO _) (show zj X.prog X.w _ _ _ (.tup ys) from ⟨hz,its,r',zFq.new _ _⟩)
  exact ⟨.ref h'.objs.size,_,I2,rfl,q _ (I1.hok.fresh (zUO _))⟩
 ·obtain ⟨its,r',pl,hz⟩:=I.tuple hq;exact call_tuple_same pl ⟨.ref p,H,I,rfl,q⟩
def tyV(K:zVK)(T:String)(x:V)(H:Hp):Prop:=match x with
 | .str _=>T= "str"
 | .int _=>T= "int"
 | .ref p=>(T= "list" /\ ∃xs,SqL K H p xs)\/(T= "tuple" /\ ∃o,K.lookup p=some o/\o.cls= .type "tuple" /\o.dict=none)\/
   (T= "dict" /\((∃kvs,H p=some (.dK kvs))\/ ∃kvs,H p=some (.dT kvs)))\/(T= "set" /\ ∃S n,H p=some (.set S n))
 | _=>False
theorem zMM{T:String}(I:Inv X pins σ H s)(r:zU x v)(ty:tyV X.K T x H):
  s.TypeIs v T/\ ∀a,v= .ref a-> ∃ob,s.heap.get? a=some ob/\ob.dict=none:=by
 cases x with
 | str z=>
  obtain ⟨t,rfl⟩:=r;cases (show T= "str" from ty);exact ⟨typeIs_str s z t,fun _ e=>nomatch e⟩
 | int i=>
  obtain ⟨t,rfl⟩:=r;cases (show T= "int" from ty);exact ⟨typeIs_int s i t,fun _ e=>nomatch e⟩
 | ref p=>
  cases r;rcases ty with ⟨rfl,xs,hq⟩|⟨rfl,o,hk,hc,hd⟩|⟨rfl,hk⟩|⟨rfl,S,n,hk⟩
  ·obtain ⟨its,_,pl,_⟩:=I.list hq;refine ⟨pl.isList.typeIs,fun a e=>?_⟩;cases e;obtain ⟨o,n,e,c,hd,_⟩:=pl;exact ⟨o,e,hd⟩
  ·refine ⟨⟨o,I.kIn p o hk,hc⟩,fun a e=>?_⟩;cases e;exact ⟨o,I.kIn _ o hk,hd⟩
  ·have z: ∃o,s.heap.get? p=some o/\o.ExactDict:=by
    rcases hk with ⟨kvs,hk⟩|⟨kvs,hk⟩
    ·obtain ⟨_,_,_,_,o,_,_,e,ex,_⟩:=I.hok p _ hk;exact ⟨o,e,ex⟩
    ·obtain ⟨_,_,_,_,o,_,_,e,ex,_⟩:=I.hok p _ hk;exact ⟨o,e,ex⟩
   obtain ⟨o,e,ex⟩:=z;refine ⟨⟨o,e,ex.1⟩,fun a e2=>?_⟩;cases e2;exact ⟨o,e,ex.2.1⟩
  ·obtain ⟨o,_,_,_,e,ex,_⟩:=I.hok p _ hk;refine ⟨⟨o,e,ex.1⟩,fun a e2=>?_⟩;cases e2;exact ⟨o,e,ex.2.1⟩
 | _=>exact False.elim ty
def zSI(K:zVK)(T:String)(r:V->List V->Hp->VK->Prop)(to:TE):TE:=fun σ H Q=>to σ H fun x H1=>tyV K T x H1/\r x [] H1 Q
def tBM(K:zVK)(T:String)(r:V->List V->Hp->VK->Prop)(to:TE)(t:TA):TE:=fun σ H Q=>to σ H fun x H1=>tyV K T x H1/\t σ H1 fun xs H2=>r x xs H2 Q
variable {o e:Expr}{es:List Expr}{to:TE}{t:TA}{name:Str}{apos cpos:Pos}{T id:String}{r:V->List V->Hp->VK->Prop}
theorem zSg(pa:PlainAttrs T)(slot:Slot T name id)(hty:typeOf (.builtin id)=pure (.type "method_descriptor"))(hm:MtR X id r)(ho:PE X o to)
  (hbase:attributeBase o name X.env (eval o X.env)=eval o X.env:=by rfl) (hline:(apos.endLine==cpos.line)=true:=by rfl):PE X (.Call (.Attribute o name apos) [] [] cpos) (zSI X.K T r to):=by
 intro pins s σ H Q I h;refine wpAny_Call_method0_late hbase hline (zV (ho pins s σ H _ I h) fun v s1 ⟨x,H1,I1,r1,ty,q1⟩=>?_);obtain ⟨h1,h2⟩:=zMM I1 r1 ty;exact ⟨T,id,pa,slot,hty,h1,h2,Calls.callWith_builtin rfl (PySem.evalArgs_none (hm pins s1 σ H1 x [] v [] Q I1 r1 .nil q1))⟩
theorem zGH(pa:PlainAttrs T)(slot:Slot T name id)(hty:typeOf (.builtin id)=pure (.type "method_descriptor"))(hm:MtR X id r)(ho:PE X o to)(ha:PA X (e::es) t)
  (hbase:attributeBase o name X.env (eval o X.env)=eval o X.env:=by rfl)
  (hfew:((backTo cpos (starEach (e::es) X.env)).all (fun x=>!x.1)&&(backToKw cpos (keywordEach [] X.env)).all (fun x=>x.1.isSome)
   &&decide ((e::es).length+([] :List Keyword).length+(if ([] :List Keyword).isEmpty then 0 else 1)<30))=true:=by rfl)
  (hline:(apos.endLine==cpos.line)=true:=by rfl) (hs:starEach (e::es) X.env=(false,eval e X.env)::starEach es X.env:=by rfl) (hplain:(backTo cpos (starEach es X.env)).any (·.1)=false:=by rfl):
  PE X (.Call (.Attribute o name apos) (e::es) [] cpos) (tBM X.K T r to t):=by
 intro pins s σ H Q I h;refine wpAny_Call_method_late hbase hfew hline rfl (zV (ho pins s σ H _ I h) fun v s1 ⟨x,H1,I1,r1,ty,q1⟩=>?_);obtain ⟨h1,h2⟩:=zMM I1 r1 ty;refine ⟨T,id,pa,slot,hty,h1,h2,?_⟩;have hA:=ha cpos pins s1 σ H1 _ I1 q1;rw [hs] at hA⊢;refine Calls.callWith_builtin (by show (false ||(backTo cpos (starEach es X.env)).any (·.1))=false;rw [hplain] <;>rfl) (Calls.evalArgs_plain ?_);exact zV hA fun us s2 ⟨vs,H2,I2,r2,q2⟩=>hm pins s2 σ H2 x vs v us Q I2 r1 r2 q2
end
def MtM(X:Cx)(id:String)(r:V->List V->Hp->VK->Prop):Prop:=
 ∀(pins:List (Addr×Obj)) (s:Shared) (σ:St) (H:Hp) (x:V) (xs:List V) (v:Value) (us:List Value) (Q:VK),Inv X pins σ H s->zU x v->zS xs us->r x xs H Q->
  wpAny (model X.prog X.w) X.A (call (.builtin id) (v::us)) (EP X pins σ Q) X.xe s
theorem zS.one: ∀{x:V} {us:List Value},zS [x] us-> ∃u,us= [u] /\zU x u
 | _,_,.cons r .nil=>⟨_,rfl,r⟩
theorem zS.two: ∀{x y:V} {us:List Value},zS [x,y] us-> ∃u v,us= [u,v] /\zU x u/\zU y v
 | _,_,_,.cons r (.cons q .nil)=>⟨_,_,rfl,r,q⟩
theorem zS.zero: ∀{us:List Value},zS [] us->us= []
 | _,.nil=>rfl
theorem zS.dropLast(h:zS xs us):zS xs.dropLast us.dropLast:=by
 induction h with
 | nil=>exact .nil
 | cons r t ih=>
  cases t with
  | nil=>exact .nil
  | cons q t'=>exact .cons r ih
theorem zKh{α:Type}(l:List α):l.eraseIdx (l.length - 1)=l.dropLast:=by
 induction l with
 | nil=>rfl
 | cons a r ih=>
  cases r with
  | nil=>rfl
  | cons b r=>
   have e:(a::b::r).length - 1=((b::r).length - 1)+1:=by
    have h1:(a::b::r).length=r.length+2:=rfl;have h2:(b::r).length=r.length+1:=rfl;omega
   rw [e,List.eraseIdx_cons_succ,ih]
   all_goals rfl
section
variable {X:Cx}{pins:List (Addr×Obj)}{σ:St}{H:Hp}{s:Shared}{l b:Addr}{xs ys zs:List V}
theorem Inv.lset{its its':List Value}{n:Nat}{f:Array Value->Array Value}{t':Nat}(I:Inv X pins σ H s)(hH:H l=some (.lst xs))
  (e:s.heap.get? l=some {cls:= .type "list",data:= .seq its.toArray n}) (hf:f its.toArray=its'.toArray) (hv:zS ys its') (hz:ys.length<=sizeLine):
  Inv X pins σ (upd H l (.lst ys)) {s with heap:=s.heap.update l (Obj.mapSeq f),toks:=t'}:=by
 have q:=PySem.IsL.update e f;rw [hf] at q;refine I.write (x:=l) (e:=l) (by rw [hH];exact trivial) (.inl rfl) (fun b' u hb hu=>(zUw s.heap (Obj.mapSeq f) (Ne.symm hb)).trans hu) ⟨_,q⟩ ?_;exact ⟨hz,its',_,hv,q⟩
theorem Inv.lnew(I:Inv X pins σ H s)(hv:zS ys its)(hz:ys.length<=sizeLine):
  Inv X pins σ (upd H s.heap.objs.size (.lst ys)) {s with heap:=s.heap.push {cls:= .type "list",data:= .seq its.toArray},toks:=t'}:=
 I.laid (fun _ _ q=>zUM _ q) (zUO _) ⟨hz,its,0,hv,zUd _ rfl⟩
theorem Inv.fresh(I:Inv X pins σ H s):H s.heap.objs.size=none:=I.hok.fresh (zUO _)
theorem Inv.lstM(I:Inv X pins σ H s)(hH:H l=some (.lst xs)):xs.length<=sizeLine/\ ∃(its:List Value) (n:Nat),zS xs its/\xs.length=its.length/\s.heap.get? l=some {cls:= .type "list",data:= .seq its.toArray n}:=by
 obtain ⟨z,its,n,r,e⟩:=I.hok l _ hH;exact ⟨z,its,n,r,r.length,e⟩
theorem zJJ(h:n<=sizeLine):Builtin.List.listTooLong n=false:=by
 unfold Builtin.List.listTooLong;exact zUl (by omega)
end
section
variable {X:Cx}
inductive XApp (x:V) (vs:List V) (H:Hp) (Q:VK):Prop
 | mk (l:Addr) (xs:List V) (y:V) (h1:x= .ref l) (h2:vs= [y]) (h3:H l=some (.lst xs)) (h4:xs.length<sizeLine) (q:Q .non (upd H l (.lst (xs++ [y]))))
def zKD:V->List V->Hp->VK->Prop:=fun x vs H Q=>XApp x vs H Q
theorem zEA:MtM X "list.append" zKD:=by
 intro pins s σ H x vs v us Q I rx rv h;obtain ⟨l,xs,y,rfl,rfl,hH,hz,q⟩:=h;cases rx;obtain ⟨u,rfl,ru⟩:=rv.one;obtain ⟨z,its,n,r,hl,e⟩:=I.lstM hH;refine call_meets F.slot_list_append ⟨_,e,rfl⟩ F.entry_list_append (F.args_list_append_2 _ _) (PySem.list_append l its.toArray n u (by rw [zUe];omega)) ⟨e,?_⟩;refine ⟨.non,_,I.lset (its':=its++ [u]) hH e (by simp) (r.append (.cons ru .nil)) ?_,rfl,q⟩;rw [zUn,List.length_singleton];omega
def zQd:V->List V->Hp->VK->Prop:=fun x vs H Q=> ∃l b xs zs,x= .ref l/\vs= [.ref b] /\H l=some (.lst xs)/\H b=some (.lst zs)/\xs.length+zs.length<=sizeLine/\Q .non (upd H l (.lst (xs++zs)))
theorem zMO:MtM X "list.extend" zQd:=by
 intro pins s σ H x vs v us Q I rx rv h;obtain ⟨l,b,xs,zs,rfl,rfl,hH,hB,hz,q⟩:=h;cases rx;obtain ⟨u,rfl,ru⟩:=rv.one;cases ru;obtain ⟨z,its,n,r,hl,e⟩:=I.lstM hH;obtain ⟨z2,its2,n2,r2,hl2,e2⟩:=I.lstM hB;have hsz:its.toArray.size+its2.toArray.size<=sizeLine:=by rw [zUe,zUe];omega
 have hlong: ¬(!its.toArray.isEmpty&&Builtin.List.listTooLong (its.toArray.size+its2.toArray.size))=true:=by
  rw [zJJ hsz,Bool.and_false];exact zUX
 refine call_meets F.slot_list_extend ⟨_,e,rfl⟩ F.entry_list_extend (F.args_list_extend_2 _ _)
  (AutoSeq1.list_extend_list_list_0 l its.toArray n b its2.toArray n2 hlong (by rw [zUe];omega) (by omega)) ⟨e,e2,?_⟩
 refine ⟨.non,_,I.lset (its':=its++its2) hH e (by simp) (r.append r2) ?_,rfl,q⟩;rw [zUn];omega
def zRS:V->List V->Hp->VK->Prop:=fun x vs H Q=> ∃l xs y,x= .ref l/\vs= [] /\H l=some (.lst xs)/\xs[xs.length - 1]?=some y/\Q y (upd H l (.lst xs.dropLast))
theorem zRV:MtM X "list.pop" zRS:=by
 intro pins s σ H x vs v us Q I rx rv h;obtain ⟨l,xs,y,rfl,rfl,hH,hy,q⟩:=h;cases rx;have hus:=rv.zero;subst hus;obtain ⟨z,its,n,r,hl,e⟩:=I.lstM hH;obtain ⟨u,hu,ru⟩:=r.get hy;have hy':its.toArray[its.toArray.size - 1]?=some u:=by
  show its.toArray[its.length - 1]?=some u;rw [<-Array.getElem?_toList,<-hl];exact hu
 refine call_meets F.slot_list_pop ⟨_,e,rfl⟩ F.entry_list_pop (F.args_list_pop_1 _) (MeetsSeq.list_pop_last l its.toArray n u hy' (by rw [zUe];omega)) ⟨e,?_⟩;refine ⟨y,_,I.lset (its':=its.dropLast) hH e ?_ r.dropLast ?_,ru,q⟩
 ·show its.toArray.eraseIdxIfInBounds (its.toArray.size - 1)=its.dropLast.toArray;rw [zUe,List.eraseIdxIfInBounds_toArray,zKh]
 ·rw [List.length_dropLast];omega
def zSc:R2:=fun x y H Q=> ∃l b xs zs,x= .ref l/\y= .ref b/\H l=some (.lst xs)/\H b=some (.lst zs)/\xs.length+zs.length<=sizeLine/\ ∀p,H p=none->Q (.ref p) (upd H p (.lst (xs++zs)))
theorem zSF:OpR X (binaryOp .Add) zSc:=by
 intro pins s σ H x y v u Q I rx ry h;obtain ⟨l,b,xs,zs,rfl,rfl,hH,hB,hz,q⟩:=h;cases rx;cases ry;obtain ⟨z,its,n,r,hl,e⟩:=I.lstM hH;obtain ⟨z2,its2,n2,r2,hl2,e2⟩:=I.lstM hB;refine PySem.P.add_list e e2 ?_ (by rw [zUe,zUe];omega);have ea:its.toArray++its2.toArray=(its++its2).toArray:=by simp
 rw [ea];exact ⟨.ref _,_,I.lnew (t':=s.toks) (r.append r2) (by rw [zUn];omega),rfl,q _ I.fresh⟩
end
section
variable {prog:Program}{w:World}{A:Around}{E:Value->Shared->Prop}{s:Shared}
set_option maxRecDepth 100000 in
end
section
variable {X:Cx}
end
end L2
namespace Att
open PySem PySem.W PySem.Calls PyProof.Rows
theorem zFo{P:Params}: ∀(ns:List Int) (vs:List Value),WellAll P h vs (ns.map WData.int)->IntsAre vs ns:=by
 intro ns
 induction ns with
 | nil=>
  intro vs w;rw [List.map_nil] at w;cases w;exact .nil
 | cons n ns ih=>
  intro vs w;rw [zVP] at w;cases w with
  | cons a b=>
   cases a;exact .cons _ _ (ih _ b)
theorem zMr{l:OpenLaw}(hn:l.most=some n){P:Params}{args:List WData}
  (hpre:l.row.toRowW.claim.pre args=true) (hwl:WellAll P h vals args):
  ∃a vs ns,vals= [Value.ref a] /\args= [WData.list (ns.map WData.int)] /\h.get? a=some {cls:= .type "list",data:= .seq vs.toArray}/\IntsAre vs ns/\ns.length<=n:=by
 have hsh:WShape.hasAll [] args [.list .int] =true:=(pre_splitW hpre).1;have hc:l.pre.holds [] {args:=args}=true:=(pre_splitW hpre).2;obtain ⟨d,r,rfl,h1,h2⟩:=hasAllW_cons hsh;obtain rfl:=hasAllW_nil h2;obtain ⟨xs,rfl,h3⟩:=hasW_list h1;obtain ⟨ns,rfl⟩:=items_int h3;have hlen:ns.length<=n:=by
  unfold OpenLaw.pre at hc;have h4:(WTm.not (.lt (.lit (.int (n:Int))) (.len (.arg 0)))).holds [] {args:= [.list (ns.map .int)]}=true:=by
   have h4:=(holds_andW hc).1;rw [hn] at h4;exact h4
  have h5:=condW_of h4 (w_not (w_lt w_lit (w_len_list (w_arg rfl))));rw [zUR] at h5;refine Nat.le_of_not_lt fun q=>?_;have q':(n:Int)<((ns.length:Nat):Int):=by omega
  first
   |(rw [zUi q'] at h5;exact absurd h5 (by decide))
   |(simp at h5;omega)
 cases hwl with
 | cons w1 w2=>
  cases w2;cases w1 with
  | list ho hall=>exact ⟨_,_,ns,rfl,rfl,ho,zFo ns _ hall,hlen⟩
theorem zNK(l:OpenLaw)(args:List WData):l.row.toRowW.claim.post args (.bool true) args=true:=
 postW_of (r:=l.row.toRowW) (X:=(true==true))
  (show WShape.has [] (.bool true) .bool=true by first | rfl | decide | simp [WShape.has,WShape.arms,WShape.armsAll])
  (show (WTm.eq .res (.lit (.bool true))).value [] {args:=args,res:=some (.bool true),after:=args}=some (.bool (true==true)) from w_eq_bool (w_res rfl) w_lit) rfl
theorem attach_call{l:OpenLaw}{XP:(Str->Option Value)->Heap->Prop}{YP:World->Heap->Prop}{d:DefRec}
  (hn:l.most=some n) (hdf:d.params.defaults= [])
  (call: ∀(w:World) (s₀ s₁:Shared) (mg mb:Str->Option Value) (fa:Addr) (o:Obj) (pm cd doc:Value) (a:Addr) (vs:List Value) (ns:List Int),
   Ground q loose [] XP w s₀ mg mb s₁.heap->YP w s₁.heap->
   s₁.heap.get? fa=some o->o.data= .func (docDef d.name d.params d.body d.scope pm cd doc)->s₁.heap.CodeRec cd d.name->mg d.name=some (.ref fa)->
   s₁.heap.get? a=some {cls:= .type "list",data:= .seq vs.toArray}->IntsAre vs ns->ns.length<=n->s₁.gens= #[] ->
   codeAny (model l.prog w) callerA (.call (.ref fa) ⟨[.ref a],[]⟩) (fun r s'=>r= .ok (.ret (.bool true))/\OldK s₁.heap s'.heap/\s'.os=s₁.os/\AllBare s'.gens) s₁):
  WalkO q loose XP YP l.row.toRowW d [] (fun f vs=>PySem.call f vs):=by
 intro w s₀ s₁ mg mb G Y fa o pm cd doc dV kV ho hd hcd hD hmg hg args vals as hpre hlay hrd hwl hlo;obtain rfl:dV= .none:=Dflts.none hD hdf;obtain rfl:kV= .none:=Dflts.noKw hD;obtain ⟨a,vs,ns,rfl,rfl,hobj,hints,hlen⟩:=zMr hn hpre hwl;refine enter_call (zVI (call w s₀ s₁ mg mb fa o pm cd doc a vs ns G Y ho (fd_plain hd) hcd hmg hobj hints hlen hg) fun r s' hq=>?_);obtain ⟨rfl,h2,h3,h4⟩:=hq;exact ⟨.inl ⟨.bool true,.bool true,[],rfl,fun _=>rfl,.bool true,zNK l _,fun _=>⟨List.Pairwise.nil,fun _ hm=>(nomatch hm)⟩⟩,h2,h3,h4⟩
section
variable {prog:Program}{w:World}{A:Around}{E:Value->Shared->Prop}{s:Shared}{K:Frag}
end
end Att
namespace L2
open PySem PySem.Spec PyProof.Rows
theorem zHV: ∀{vs:List Value} {ns:List Int},IntsAre vs ns->zS (ns.map V.int) vs
 | _,_,.nil=> .nil
 | _,_,.cons n t h=> .cons ⟨t,rfl⟩ (zHV h)
def zNO(H:Hp):Prop:= ∀b,H b=none\/ ∃o xs,H b=some (.frz o (.lst xs))
theorem zNt{P:Program}{w:World}{K:zVK}{mg mb:Str->Option Value}{CX:CXT}{k:Nat}{fa a:Addr}{fd:FuncData}{x:Str}{sp:Sp}{s₁:Shared}{vs:List Value}{ns:List Int}
  (KX:K.In s₁.heap) (hns:s₁.heap.Ns mainGlobals mg) (hb:s₁.heap.Ns builtinsNs mb) (hbb: ∀x:Str,x≠ "__name__" ->mb x=bootBuiltins x) (hlim:s₁.heap.NoLimit) (hse:s₁.heap.NoSeer) (hg:s₁.gens= #[])
  (ha:s₁.heap.get? a=some {cls:= .type "list",data:= .seq vs.toArray}) (hi:IntsAre vs ns) (hl:ns.length<=sizeLine) (hr:Room k callerA)
  (F: ∀base:Heap,K.In base->base.Ns mainGlobals mg->FnOk P w K mg base CX k fa fd [x] sp) (hbind: ∀(s:Shared) (u:Value),BindsTo s fd ⟨[u],[]⟩ [(x,u)])
  (hsp: ∀H:Hp,zNO H->SqL K H a (ns.map V.int)->sp [.ref a] H (fun v _=>v= .bl true) fun _ _ _=>False)
  (hCX: ∀H e s',CX [] H s₁ (fun _ _ _=>False) e s'->False):
  codeAny (model P w) callerA (.call (.ref fa) ⟨[.ref a],[]⟩) (fun r s'=>r= .ok (.ret (.bool true))/\OldK s₁.heap s'.heap/\s'.os=s₁.os/\AllBare s'.gens) s₁:=by
 have rv:=zHV hi;have lenV:=hi.length;have core: ∀H:Hp,zNO H->SqL K H a (ns.map V.int)->HOk P w H s₁.heap->(∀b,H b≠none->b=a)->(H a≠none->K.lookup a=none)->
   codeAny (model P w) callerA (.call (.ref fa) ⟨[.ref a],[]⟩) (fun r s'=>r= .ok (.ret (.bool true))/\OldK s₁.heap s'.heap/\s'.os=s₁.os/\AllBare s'.gens) s₁:=by
  intro H hO hS hok hA hK;have base_of: ∀{b:Addr} {o:Obj},s₁.heap.get? b=some o->H b=none->(zCo s₁.heap H).get? b=some o:=fun e n=>zNZ e n;have noA: ∀{b:Addr} {o:Obj} {es:Array DictEntry} {ep:Nat},s₁.heap.get? b=some o->o.data= .dict es ep->H b=none:=fun {b o es ep} e d=>by
   cases q:H b with
   | none=>rfl
   | some u=>
    have e':b=a:=hA b (by rw [q];simp);subst e';rw [ha] at e;cases e;have d':Data.seq vs.toArray _=Data.dict es ep:=d;cases d'
  have nsK: ∀{b:Addr} {m:Str->Option Value},s₁.heap.Ns b m->(zCo s₁.heap H).Ns b m:=fun {b m} ⟨o,es,ep,e,d,r⟩=>⟨o,es,ep,base_of e (noA e d),d,r⟩;have hKb:K.In (zCo s₁.heap H):=fun b o e=>base_of (KX b o e) (by
   cases q:H b with
   | none=>rfl
   | some u=>
    have e':b=a:=hA b (by rw [q];simp);subst e';rw [hK (by rw [q];simp)] at e;cases e)
  have hsb:(zCo s₁.heap H).NoSeer:=by
   obtain ⟨mg',bm,ob,g1,g2,g3,g4,g5⟩:=hse.main;have nb:H bm=none:=by
    cases q:H bm with
    | none=>rfl
    | some u=>
     have e':bm=a:=hA bm (by rw [q];simp);subst e';rw [ha] at g3;cases g3;have g4':Value.type "list" =Value.type "module" :=g4;exact absurd g4' (by decide)
   exact ⟨let ⟨mc,h1,h2⟩:=hse.statics;⟨mc,nsK h1,h2⟩,let ⟨mc,h1,h2⟩:=hse.mods;⟨mc,nsK h1,h2⟩,let ⟨mc,h1,h2⟩:=hse.imp;⟨mc,nsK h1,h2⟩,⟨mg',bm,ob,nsK g1,g2,base_of g3 nb,g4,g5⟩⟩
  have hM:Mod K mg (zCo s₁.heap H):=⟨hKb,nsK hns,⟨mb,nsK hb,hbb⟩,(let ⟨mc,h1,h2⟩:=hlim;⟨mc,nsK h1,h2⟩),hsb⟩;have e0:Env0 P w K mg (zCo s₁.heap H) callerA [] s₁ H:=⟨rfl,hM,fun b o e=>zPb e,Nat.le_of_eq (zMd _ _),trivial,fun b hb=>absurd (show b∈([] :List Addr) from hb) (by simp),hok,.of_eq hg⟩;refine zVI ((F _ hKb (nsK hns)).run callerA [] s₁ H ⟨[.ref a],[]⟩ [.ref a] [.ref a] _ _ hr e0 (hbind s₁ (.ref a)) (.cons rfl .nil) (hsp H hO hS)) fun r s' h=>?_;cases r with
  | error e=>exact (hCX H e s' h).elim
  | ok fl=>
   cases fl with
   | next=>exact False.elim h
   | brk=>exact False.elim h
   | cont=>exact False.elim h
   | ret u=>
    obtain ⟨v,H',os,bare,un,hok',r',q⟩:=h;have q':v= .bl true:=q;subst q';obtain rfl:u=Value.bool true:=r';refine ⟨rfl,OldK.of_keep fun b o e=>?_,os,bare⟩;cases q:H b with
    | none=>exact un.keep b o e q (by intro z;exact absurd (show b∈([] :List Addr) from z) (by simp)) (by simp)
    | some u=>
     rcases hO b with z |⟨ob,xs,z⟩
     ·rw [q] at z;cases z
     ·have z2:=un.frzs b ob _ z;obtain ⟨e1,_⟩:=hok b _ z;obtain ⟨e2,_⟩:=hok' b _ z2;rw [e] at e1;cases e1;exact e2
 cases hk:K.lookup a with
 | some o=>
  have e:=KX a o hk;rw [ha] at e;cases e;refine core (fun _=>none) (fun _=> .inl rfl) (.inr ⟨_,vs.toArray,_,hk,rfl,rfl,rfl,by rw [zUe,lenV];exact hl,by simpa using rv⟩) (fun b u z=>by have z':(none:Option HO)=some u:=z;cases z') (fun b z=>absurd rfl z) fun z=>absurd rfl z
 | none=>
  refine core (fun b=>if b=a then some (.frz {cls:= .type "list",data:= .seq vs.toArray} (.lst (ns.map V.int))) else none) (fun b=>?_) (.inl (.inr ⟨{cls:= .type "list",data:= .seq vs.toArray},if_pos rfl⟩)) (fun b u z=>?_) (fun b z=>?_) fun _=>hk
  ·by_cases hb:b=a
   ·exact .inr ⟨_,_,if_pos hb⟩
   ·exact .inl (if_neg hb)
  ·by_cases hb:b=a
   ·have z':=(if_pos hb).symm.trans z;cases z';subst hb;exact ⟨ha,by rw [zUR];exact hl,vs,_,rv,ha⟩
   ·have z':=(if_neg hb).symm.trans z;cases z'
  ·by_cases hb:b=a
   ·exact hb
   ·exact absurd (if_neg hb) z
theorem zQE{l:PySem.W.OpenLaw}{XP:(Str->Option Value)->Heap->Prop}{YP:World->Heap->Prop}{d:DefRec}{K:Params->zVK}{CX:World->CXT}{sp:World->Sp}
  (hn:l.most=some n) (hn2:n<=sizeLine) (hdf:d.params.defaults= []) (hI:importsNone q=true) (hr:Room k callerA)
  (hY: ∀(w:World) (h:Heap),YP w h->(K w.params).In h)
  (F: ∀(w:World) (mg:Str->Option Value) (fa:Addr) (h:Heap),(K w.params).In h->h.Ns mainGlobals mg->mg d.name=some (.ref fa)->
   ∃fd:FuncData,(∀(s:Shared) (u:Value),BindsTo s fd ⟨[u],[]⟩ [(x,u)])/\
    ∀base:Heap,(K w.params).In base->base.Ns mainGlobals mg->FnOk l.prog w (K w.params) mg base (CX w) k fa fd [x] (sp w))
  (hsp: ∀(w:World) (H:Hp) (a:Addr) (ns:List Int),ns.length<=n->zNO H->SqL (K w.params) H a (ns.map V.int)->sp w [.ref a] H (fun v _=>v= .bl true) fun _ _ _=>False)
  (hCX: ∀(w:World) (H:Hp) (s:Shared) (e:Value) (s':Shared),CX w [] H s (fun _ _ _=>False) e s'->False):
  PySem.W.WalkO q loose XP YP l.row.toRowW d [] (fun f vs=>PySem.call f vs):=by
 refine Att.attach_call hn hdf fun w s₀ s₁ mg mb fa o pm cd doc a vs ns G Y ho hd hcd hmg hobj hints hlen hg=>?_;have KX:=hY w _ Y;obtain ⟨fd,hb,hF⟩:=F w mg fa _ KX G.T.g hmg;exact zNt KX G.T.g G.T.b G.T.builtins G.T.nolimit (G.T.seer hI) hg hobj hints (zUY hlen hn2) hr hF hb (fun H hO hS=>hsp w H a ns hlen hO hS) fun H e s'=>hCX w H s₁ e s'
def yM(s:Stmt)(j:Nat):Stmt:=match s with
 | .ClassDef _ _ _ body _ _ _ _ _ _ _=>body.getD j (.Pass ⟨0,0,0,0⟩)
 | _=> .Pass ⟨0,0,0,0⟩
def zAH(s:Stmt):Arguments:=match s with
 | .FunctionDef _ a _ _ _ _ _ _ _ _=>a
 | _=>{posonlyargs:= [],args:= [],vararg:=none,kwonlyargs:= [],kw_defaults:= [],kwarg:=none,defaults:= []}
def yd(s:Stmt):List Stmt:=match s with
 | .FunctionDef _ _ b _ _ _ _ _ _ _=>b
 | _=> []
def zK(s:Stmt):Scope:=match s with
 | .FunctionDef _ _ _ _ _ _ sc _ _ _=>sc
 | _=>{kind:= .function,names:= [],isGenerator:=false,isCoroutine:=false}
abbrev CX0:CXT:=fun _ _ _ _ _ _=>False
abbrev E0:XK:=fun _ _ _=>False
theorem zO{X:Cx}:zAK CX0 X E0:=fun _ _ _ _ _ _ _ h=>h.elim
structure Fun(K:zVK)(x qual:Str)(st:Stmt)(f:Addr)(fd:FuncData):Prop where
 ex: ∃(oc:Value) (od:Option Addr) (kV doc pm:Value) (an:Option Addr) (cdv ct:Value) (osl:Array (Option Value)),
  fd=PySem.W.fnOf x qual (zAH st) (yd st) (zK st) .none kV doc pm an cdv ct/\K.lookup f=some ⟨oc,od,.func fd,osl⟩/\PySem.W.codeIn K cdv qual=true
 kp:PySem.W.keepIn K (.ref f)=true
section
variable {P:Program}{w:World}{K:zVK}{mg:Str->Option Value}{base:Heap}
theorem Fun.ok{x qual:Str}{st:Stmt}{f:Addr}{fd:FuncData}{N ps:List Str}{k:Nat}{sp:Sp}(F:Fun K x qual st f fd)(S:FnScope N ps (zK st))(len: ∀vs H Q E,sp vs H Q E->vs.length=ps.length)
  (hbody: ∀(cdv:Value) (A:Around) (outer:List Env) (s:Shared) (H:Hp) (vs:List V) (Q:VK) (E:XK),Room k (A.deeper (envOfC qual (zK st) s.heap.objs.size f cdv))->sp vs H Q E->
   ∃t,PSs (zAx CX0 P w K mg base N qual (zK st) f cdv A outer s H E).nox (yd st) t/\t {nx:=fun _ H'=>Q .non H',rt:=Q} (start N vs) H):FnOk P w K mg base CX0 (k+1) f fd ps sp:=by
 obtain ⟨oc,od,kV,doc,pm,an,cdv,ct,osl,rfl,lk,hcd⟩:=F.ex;refine zKq lk hcd S len fun A outer s H vs Q E hr hsp=>?_;obtain ⟨t,h,q⟩:=hbody cdv A outer s H vs Q E hr hsp;exact ⟨t,h.nox,q⟩
theorem Fun.binds{x qual:Str}{st:Stmt}{f:Addr}{fd:FuncData}{ps:List Str}(F:Fun K x qual st f fd)
  (h: ∀(kV doc pm:Value) (an:Option Addr) (cdv ct:Value) (us:List Value),us.length=ps.length->bindArgs (PySem.W.fnOf x qual (zAH st) (yd st) (zK st) .none kV doc pm an cdv ct) ⟨us,[]⟩=pure (ps.zip us)):zL K fd ps [] :=by
 obtain ⟨oc,od,kV,doc,pm,an,cdv,ct,osl,rfl,lk,hcd⟩:=F.ex;exact .all (h kV doc pm an cdv ct)
theorem zi{x qual:Str}{st:Stmt}{f:Addr}{oc:Value}{od an:Option Addr}{osl:Array (Option Value)}{kV doc pm cdv ct:Value}(l:K.lookup f=some ⟨oc,od,.func (PySem.W.fnOf x qual (zAH st) (yd st) (zK st) .none kV doc pm an cdv ct),osl⟩)
  (c:PySem.W.codeIn K cdv qual=true) (k:PySem.W.keepIn K (.ref f)=true):Fun K x qual st f (PySem.W.fnOf x qual (zAH st) (yd st) (zK st) .none kV doc pm an cdv ct):=⟨⟨oc,od,kV,doc,pm,an,cdv,ct,osl,rfl,l,c⟩,k⟩
end
theorem zAD(hr:Room k A):A.units+1<cLine:=zUb (zVF (by decide:1<=64) _) hr.units
section
variable {X:Cx}
theorem pv(i:Nat)(hN:X.N[i]?=some x:=by rfl)(hv:Vis X.env.scope x:=by first | exact Or.inl rfl | exact Or.inr (Or.inl rfl)| exact Or.inr (Or.inr rfl))(hd:(x==("__debug__" :Str))=false:=by decide)
  (hcd:(x==("__classdict__" :Str))=false:=by decide):PE X (.Name x pos) (zLe i):=zIq hN hv hd hcd
end
theorem zM{A B:Prop}(h:B):if false=true then A else B:=by
 rw [if_neg zUX];exact h
theorem zZ{A B:Prop}(h:A):if true=true then A else B:=by
 rw [if_pos rfl];exact h
theorem yB{c A B:Prop}[Decidable c](h1:c->A)(h2: ¬c->B):if c then A else B:=by
 by_cases h:c
 ·rw [if_pos h];exact h1 h
 ·rw [if_neg h];exact h2 h
theorem zOg{c A B:Prop}[Decidable c](hc:c)(h:B):if (!decide c)=true then A else B:=by
 rw [zUi hc];exact zM h
def zE(H H':Hp):Prop:= ∀b o,H b=some o->H' b=some o
theorem zE.refl(H:Hp):zE H H:=fun _ _ h=>h
theorem zE.trans(a:zE H H1)(b:zE H1 H2):zE H H2:=fun c o h=>b c o (a c o h)
theorem zE.free(e:zE H H')(h:H' l=Option.none):H l=Option.none:=by
 cases q:H l with
 | none=>rfl
 | some o=>
  rw [e l o q] at h;cases h
theorem zE.seq{K:zVK}{H H':Hp}{a:Addr}{xs:List V}(e:zE H H')(h:SqL K H a xs):SqL K H' a xs:=by
 rcases h with (h |⟨o,h⟩)| h
 ·exact .inl (.inl (e _ _ h))
 ·exact .inl (.inr ⟨o,e _ _ h⟩)
 ·exact .inr h
end L2
namespace FrM
def Sz(n:Nat)(a:Int):Prop:=a.natAbs<2^n
theorem Sz.mono(h:Sz m a)(hmn:m<=n):Sz n a:=zUT h (zUj (by decide) hmn)
theorem Sz.mul(ha:Sz m a)(hb:Sz n b):Sz (m+n) (a*b):=by
 unfold Sz at*;rw [Int.natAbs_mul,Nat.pow_add];exact Nat.mul_lt_mul'' ha hb
theorem Sz.pow(ha:Sz m a): ∀n:Nat,Sz (m*n+1) (a^n)
 | 0=>by unfold Sz;simp
 | n+1=>by
  have h:=(Sz.pow ha n).mul ha;rw [Int.pow_succ];exact h.mono (by rw [Nat.mul_succ];omega)
theorem Sz.div(ha:Sz m a)(_hg:0<g):Sz m (a/g):=by
 unfold Sz at*;refine zUb ?_ ha;exact Int.natAbs_ediv_le_natAbs a g
theorem Sz.of(h1: -(2^n:Int)<a)(h2:a<2^n):Sz n a:=by
 unfold Sz;have e:((2^n:Nat):Int)=(2:Int)^n:=by simp
 omega
theorem zFR(a b:Int)(_hb:0<b):Int.gcd b (a % b)=Int.gcd a b:=by
 rw [Int.gcd_comm,Int.emod_def,Int.gcd_sub_mul_left_left]
theorem zIM(g:Int)(h:0<=g):((Int.gcd g 0:Nat):Int)=g:=by
 rw [Int.gcd_zero_right];omega
theorem zCN(a:Int)(hb:0<b):0<((Int.gcd a b:Nat):Int):=by
 have:=Int.gcd_pos_of_ne_zero_right a (b:=b) (by omega);omega
def fa(a b:Int):Int:=a/((Int.gcd a b:Nat):Int)
def fb(a b:Int):Int:=b/((Int.gcd a b:Nat):Int)
theorem zQo(a b:Int):fb a b*((Int.gcd a b:Nat):Int)=b:=Int.ediv_mul_cancel (Int.gcd_dvd_right a b)
theorem zRc(a:Int)(hb:0<b):0<fb a b:=by
 have h1:=zQo a b;have h2:=zCN a hb;rcases Int.lt_trichotomy (fb a b) 0 with h | h | h
 ·have:=Int.mul_neg_of_neg_of_pos h h2;omega
 ·rw [h,Int.zero_mul] at h1;omega
 ·exact h
structure PowI(base:Int)(e:Nat)(product square left:Int):Prop where
 nn:0<=left
 ex: ∃i j:Nat,product=base^i/\square=base^j/\i+j*left.toNat=e
theorem PowI.start(base:Int)(h:0<=e):PowI base e.toNat 1 base e:=⟨h,0,1,by rw [Int.pow_zero],by rw [Int.pow_succ,Int.pow_zero,Int.one_mul],by omega⟩
theorem PowI.done(h:PowI base e product square 0):product=base^e:=by
 obtain ⟨_,i,j,h1,h2,h3⟩:=h;have:i=e:=by simpa using h3
 rw [h1,this]
theorem PowI.sz(h:PowI base e product square left)(hl:0<left)(hb:Sz m base):Sz (m*e+1) product/\Sz (m*e+1) square:=by
 obtain ⟨_,i,j,h1,h2,h3⟩:=h;have hn:1<=left.toNat:=by omega
 have hi:i<=e:=by omega
 have hj:j<=e:=by
  have:j*1<=j*left.toNat:=zVE j hn;omega
 subst h1 h2;exact ⟨(hb.pow i).mono (by have:=zVE m hi;omega),(hb.pow j).mono (by have:=zVE m hj;omega)⟩
theorem PowI.odd_last(h:PowI base e product square left)(ho:left % 2=1)(hz: ¬0<left/2):PowI base e (product*square) square (left/2):=by
 obtain ⟨nn,i,j,h1,h2,h3⟩:=h;have e1:left=1:=by omega
 subst e1;refine ⟨by decide,i+j,j,by rw [h1,h2,<-Int.pow_add],h2,?_⟩;simp at h3⊢;omega
theorem PowI.odd(h:PowI base e product square left)(ho:left % 2=1):PowI base e (product*square) (square*square) (left/2):=by
 obtain ⟨nn,i,j,h1,h2,h3⟩:=h;obtain ⟨m,hm⟩: ∃m:Nat,left=2*m+1:=⟨(left/2).toNat,by omega⟩;have hd:left/2=m:=by omega
 refine ⟨by omega,i+j,j+j,by rw [h1,h2,<-Int.pow_add],by rw [h2,<-Int.pow_add],?_⟩;have ht:left.toNat=2*m+1:=by omega
 rw [ht] at h3;rw [hd];simp only [Int.toNat_natCast];rw [<-h3,Nat.add_mul,Nat.mul_add,Nat.mul_one,Nat.two_mul,Nat.mul_add];omega
theorem PowI.even(h:PowI base e product square left)(ho: ¬left % 2=1):PowI base e product (square*square) (left/2):=by
 obtain ⟨nn,i,j,h1,h2,h3⟩:=h;obtain ⟨m,hm⟩: ∃m:Nat,left=2*m:=⟨(left/2).toNat,by omega⟩;have hd:left/2=m:=by omega
 refine ⟨by omega,i,j+j,h1,by rw [h2,<-Int.pow_add],?_⟩;have ht:left.toNat=2*m:=by omega
 rw [ht] at h3;rw [hd];simp only [Int.toNat_natCast];rw [<-h3,Nat.add_mul,Nat.two_mul,Nat.mul_add]
theorem PowI.even_last(h:PowI base e product square left)(hl:0<left)(ho: ¬left % 2=1):0<left/2:=by
 have:=h.nn;omega
end FrM
namespace L2
open PySem PySem.Spec PyProof.Rows
theorem zj.there(x:zj P w H h a o): ∃u,h.get? a=some u:=by
 cases o with
 | lst xs=>obtain ⟨_,_,_,_,e⟩:=x;exact ⟨_,e⟩
 | tup xs=>obtain ⟨_,_,_,_,e,_⟩:=x;exact ⟨_,e⟩
 | dK kvs=>obtain ⟨_,_,_,_,_,_,_,e,_⟩:=x;exact ⟨_,e⟩
 | dT kvs=>obtain ⟨_,_,_,_,_,_,_,e,_⟩:=x;exact ⟨_,e⟩
 | set S n=>obtain ⟨_,_,_,_,e,_⟩:=x;exact ⟨_,e⟩
 | ins C dx fs=>obtain ⟨_,_,_,e,_⟩:=x;exact ⟨_,e⟩
 | own y=>obtain ⟨_,e⟩:=x;exact ⟨_,e⟩
 | xd fs=>obtain ⟨_,⟨_,_,_,e,_⟩,_⟩:=x;exact ⟨_,e⟩
 | rng lo hi=>obtain ⟨_,_,_,e⟩:=x;exact ⟨_,e⟩
 | frz ob u=>obtain ⟨e,_⟩:=x;exact ⟨_,e⟩
 | tbl ps=>exact ⟨_,(show h.get? a=some _ from x)⟩
 | met f y=>exact ⟨_,(show h.get? a=some _ from x)⟩
 | ext φ=>obtain ⟨_,⟨_,e⟩,_⟩:=x;exact ⟨_,e⟩
theorem HOk.untracked(x:HOk P w H h)(e:h.get? a=none):H a=none:=by
 cases q:H a with
 | none=>rfl
 | some o=>
  obtain ⟨u,z⟩:=(x a o q).there;rw [e] at z;cases z
structure FlyU(fs:List Addr)(H H':Hp)(h B h':Heap):Prop where
 keep: ∀b o,h.get? b=some o->H b=none->b∉fs->B.get? b=some o
 slot: ∀b o,h.get? b=some o->H b=none->b∈fs-> ∃sl,h'.get? b=some {o with slots:=sl}
 inB: ∀b o,h.get? b=some o->b∉fs-> ∃o',B.get? b=some o'
 free: ∀b o,h.get? b=some o->H b=none->H' b=none
 tups: ∀b xs,H b=some (.tup xs)->H' b=some (.tup xs)
 frzs: ∀b o u,H b=some (.frz o u)->H' b=some (.frz o u)
 tbls: ∀b ps,H b=some (.tbl ps)-> ∃more,H' b=some (.tbl (ps++more))
theorem FlyU.un(U:FlyU fs H H' h B h')(st:B.StaysIn h')(hf: ∀b∈fs,H b=none):Un fs [] H H' h h' where
 keep:=fun b o e n hb _=>st b o (U.keep b o e n hb)
 slot:=fun b o e n hb _=>U.slot b o e n hb
 free:=fun b o e n _=>U.free b o e n
 there:=fun b o e _=>by
  by_cases hb:b∈fs
  ·obtain ⟨sl,q⟩:=U.slot b o e (hf b hb) hb;exact ⟨_,q⟩
  ·obtain ⟨o',q⟩:=U.inB b o e hb;exact ⟨o',st b o' q⟩
 tups:=U.tups
 frzs:=U.frzs
 tbls:=U.tbls
theorem FlyU.land(U:FlyU (yW l) H H' h B h1)(ff:h1.FunFrames B l)(up:h1.UpToSlots h2):FlyU (yW l) H H' h B h2:=
 ⟨U.keep,fun b o e n hb=>by
  obtain ⟨sl,q⟩:=U.slot b o e n hb;obtain ⟨_,o',e',hd⟩:=ff.mem hb;rw [q] at e';cases e';obtain ⟨sl3,z3⟩:=up b _ q hd;exact ⟨sl3,z3⟩,U.inB,U.free,U.tups,U.frzs,U.tbls⟩
def Fly(P:Program)(w:World):CXT:=fun outer H s E e s'=>
 ∃(ea:Addr) (cls a0:Value) (H':Hp) (B:Heap),e= .ref ea/\s'.os=s.os/\AllBare s'.gens/\Heap.FlyingW B outer ea cls a0 s'.heap/\HOk P w H' B/\FlyU (yW outer) H H' s.heap B s'.heap/\E cls none H'
def zAW(CX:CXT)(X:Cx)(E:St->XK):Prop:= ∀(pins:List (Addr×Obj)) (σ:St) (H:Hp) (s:Shared) (e:Value) (s':Shared),Inv X pins σ H s->CX X.stack H s (E σ) e s'->X.xe e s'
def zEd(X:Cx)(E:St->XK):Prop:= ∀(pins:List (Addr×Obj)) (σ:St) (H:Hp) (s:Shared) (h1:Heap) (ea:Addr) (cls:Value) (args:List Value),Inv X pins σ H s->Heap.MadeExcOf s.heap h1 ea cls args->E σ cls none H->X.xe (.ref ea) {s with heap:=h1}
section
variable {P:Program}{w:World}{K:zVK}{mg:Str->Option Value}{base:Heap}{N:List Str}{qual:Str}{scope:Scope}{f:Addr}{cd:Value}{A:Around}{outer:List Env}{s₀:Shared}{H₀:Hp}{E:XK}
theorem zBA(h:b∈yW l):b∈yW (env::l):=by
 obtain ⟨e,he,q⟩:=List.mem_filterMap.mp h;exact List.mem_filterMap.mpr ⟨e,.tail _ he,q⟩
theorem zFP:zAW (Fly P w) (zAx (Fly P w) P w K mg base N qual scope f cd A outer s₀ H₀ E) (fun _=>E):=by
 intro pins σ H s e s' I h;obtain ⟨ea,cls,a0,H',B,he,hos,hb,hfl,hok,U,q⟩:=h;subst he;show wpAny (model P w) (A.deeper (envOfC qual scope s₀.heap.objs.size f cd)) (leaving (envOfC qual scope s₀.heap.objs.size f cd) (.ref ea)) (fun _ s''=>Fly P w outer H₀ s₀ E (.ref ea) s'') (fun e' s''=>Fly P w outer H₀ s₀ E e' s'') s';have hfr:(A.deeper (envOfC qual scope s₀.heap.objs.size f cd)).frames=some (envOfC qual scope s₀.heap.objs.size f cd::outer):=I.ok.frames;have nx: ∀b:Addr,b∉([] :List Addr):=fun b=>by simp
 have nst: ∀b o,s₀.heap.get? b=some o->b∉yW outer->b∉yW (envOfC qual scope s₀.heap.objs.size f cd::outer):=fun b o e hb z=>by
  rcases zVL.mp (I.stkSub b z) with y | y
  ·exact zUS (zUT (zUU e) I.ok.above) y
  ·exact hb y
 refine wpAny_leaves_onW hfr rfl hfl fun h' x1 x2=>?_;refine ⟨ea,cls,a0,H',B,rfl,hos.trans I.os,hb,x1,hok,⟨fun b o e n hb=>?_,fun b o e n hb=>?_,fun b o e hb=>?_,fun b o e n=>?_,fun b xs e=>U.tups b xs (I.base.tups b xs e),fun b o u e=>U.frzs b o u (I.base.frzs b o u e),fun b ps e=>?_⟩,q⟩
 ·exact U.keep b o (I.base.keep b o e n hb (nx b)) (I.base.free b o e n (nx b)) (nst b o e hb)
 ·obtain ⟨sl,e1⟩:=I.base.slot b o e n hb (nx b);obtain ⟨sl2,e2⟩:=U.slot b _ e1 (I.base.free b o e n (nx b)) (zBA hb);obtain ⟨_,o',e3,hd⟩:=hfl.2.2.1.mem (zBA hb);rw [e2] at e3;cases e3;obtain ⟨sl3,z3⟩:=x2 b _ e2 hd;exact ⟨sl3,z3⟩
 ·obtain ⟨o1,e1⟩:=I.base.there b o e (nx b);exact U.inB b o1 e1 (nst b o e hb)
 ·obtain ⟨o1,e1⟩:=I.base.there b o e (nx b);exact U.free b o1 e1 (I.base.free b o e n (nx b))
 ·obtain ⟨m1,e1⟩:=I.base.tbls b ps e;obtain ⟨m2,e2⟩:=U.tbls b _ e1;exact ⟨m1++m2,by rw [e2,Array.append_assoc]⟩
theorem zAe:zEd (zAx (Fly P w) P w K mg base N qual scope f cd A outer s₀ H₀ E) (fun _=>E):=by
 intro pins σ H s h1 ea cls args I hx q;show wpAny (model P w) (A.deeper (envOfC qual scope s₀.heap.objs.size f cd)) (leaving (envOfC qual scope s₀.heap.objs.size f cd) (.ref ea)) (fun _ s''=>Fly P w outer H₀ s₀ E (.ref ea) s'') (fun e' s''=>Fly P w outer H₀ s₀ E e' s'') {s with heap:=h1};have hfr:(A.deeper (envOfC qual scope s₀.heap.objs.size f cd)).frames=some (envOfC qual scope s₀.heap.objs.size f cd::outer):=I.ok.frames;have nx: ∀b:Addr,b∉([] :List Addr):=fun b=>by simp
 have nst: ∀b o,s₀.heap.get? b=some o->b∉yW outer->b∉yW (envOfC qual scope s₀.heap.objs.size f cd::outer):=fun b o e hb z=>by
  rcases zVL.mp (I.stkSub b z) with y | y
  ·exact zUS (zUT (zUU e) I.ok.above) y
  ·exact hb y
 have ff:s.heap.FunFrames base (envOfC qual scope s₀.heap.objs.size f cd::outer):=I.stack;have hin: ∀env∈(envOfC qual scope s₀.heap.objs.size f cd::outer),∀b,env.frame=some b->b∈yW (envOfC qual scope s₀.heap.objs.size f cd::outer):=fun env he b hb=>List.mem_filterMap.mpr ⟨env,he,hb⟩;have hokB:HOk P w H (PySem.W.hideAll s.heap (yW (envOfC qual scope s₀.heap.objs.size f cd::outer))):=fun a o e=>(I.hok a o e).stay (fun b u hb e1=>zUu _ e1 fun hm=>by
   have z:=I.stkFree b hm;rcases hb with y | y
   ·rw [y,e] at z;cases z
   ·rw [y] at z;cases z) (fun _ q=>q) fun _ _ q=>q
 refine wpAny_leaves_madeW (base:=PySem.W.hideAll s.heap (yW (envOfC qual scope s₀.heap.objs.size f cd::outer))) (h:=s.heap) hfr rfl (fun b o q=>zVJ _ q) (PySem.W.funFrames_hide ff hin) hx fun h' t x1 x2 x3 x4=>?_;refine ⟨ea,cls,.ref t,H,_,rfl,I.os,I.bare,x1,hokB,⟨fun b o e n hb=>?_,fun b o e n hb=>?_,fun b o e hb=>?_,fun b o e n=>I.base.free b o e n (nx b),I.base.tups,I.base.frzs,I.base.tbls⟩,q⟩
 ·exact zUu _ (I.base.keep b o e n hb (nx b)) (nst b o e hb)
 ·obtain ⟨sl,e1⟩:=I.base.slot b o e n hb (nx b);obtain ⟨_,o',e3,hd⟩:=ff.mem (zBA hb);rw [e1] at e3;cases e3;obtain ⟨sl3,z3⟩:=x4 b _ (hx.keeps b _ e1) hd;exact ⟨sl3,z3⟩
 ·obtain ⟨o1,e1⟩:=I.base.there b o e (nx b);exact ⟨o1,zUu _ e1 (nst b o e hb)⟩
end
section
variable {X:Cx}{CX:CXT}{k:Nat}{f C:Addr}{fd:FuncData}{ps:List Str}{sp:Sp}{dvs:List V}{ds:List Value}{E:St->XK}{x:Str}{p pos:Pos}{e:Expr}{es:List Expr}{t:TA}
def zLp(sp:Sp)(dvs:List V)(E:St->XK)(t:TA):TE:=fun σ H Q=>t σ H fun vs H1=>sp (vs++dvs) H1 Q (E σ)
theorem zJl(F:FnOk X.prog X.w X.K X.mg X.base CX k f fd ps sp)(hr:Room k X.A)(hb:zL X.K fd ps ds)(hd:zS dvs ds)(hx:zAW CX X E)
  (I:Inv X pins σ H s) (r:zS vs us) (h:sp (vs++dvs) H Q (E σ)):wpAny (model X.prog X.w) X.A (call (.ref f) us) (EP X pins σ Q) X.xe s:=by
 have r2:zS (vs++dvs) (us++ds):=r.append hd;have hl:(us++ds).length=ps.length:=by rw [<-r2.length];exact F.len _ _ _ _ h
 refine wpAny_call (zVI (F.run X.A X.stack s H ⟨us,[]⟩ (us++ds) (vs++dvs) Q (E σ) hr I.env0 (hb s us I.kIn hl) r2 h) fun r s' hq=>?_);cases r with
 | error e=>exact hx pins σ H s e s' I hq
 | ok fl=>
  cases fl with
  | ret u=>exact I.after hq
  | next=>exact False.elim hq
  | brk=>exact False.elim hq
  | cont=>exact False.elim hq
theorem zIX(F:FnOk X.prog X.w X.K X.mg X.base CX k f fd ps sp)(hr:Room k X.A)(hg:Gl X x)(hm:X.mg x=some (.ref f))(hk:PySem.W.keepIn X.K (.ref f)=true)(hb:zL X.K fd ps ds)(hd:zS dvs ds)(hx:zAW CX X E)
  (ha:PA X (e::es) t) (hdb:(x==("__debug__" :Str))=false:=by decide) (he:starEach (e::es) X.env=(false,eval e X.env)::starEach es X.env:=by rfl) (hpl:(backTo pos (starEach es X.env)).any (·.1)=false:=by rfl):
  PE X (.Call (.Name x p) (e::es) [] pos) (zLp sp dvs E t):=by
 intro pins s σ H Q I h;refine zVH (zBY I hg hm ?_ hdb);refine PySem.W.callWith_K (h₀:=X.base) I.ok.mod.kin hk (zV (ha pos pins s σ H _ I h) fun us s1 ⟨vs,H1,I1,r,q⟩=>⟨I1.kIn,?_⟩) he hpl;exact zJl F hr hb hd hx I1 r q
end
theorem zQs{K:zVK}{h:Heap}{C:Addr}{bmB:List Value}{newId:String}(X:K.In h)(q:PySem.W.excIn K C bmB newId=true):
  ∃bm N nm qn bs hdct sn sub ab col dd k0 k1 k2 k3 k5 mN,h.get? C=some (excClassObj nm qn C N bs bm hdct sn sub ab col dd k0 k1 k2 k3 k5 newId)/\h.Ns N mN/\mN "__init__" =none/\OwnTail h bmB bm:=by
 unfold PySem.W.excIn at q;split at q
 ·rename_i dd cd sl ho
  split at q
  ·rename_i C' bm k0 k1 k2 k3 n k5 hm hs
   simp only [zVM,beq_iff_eq,zVa] at q;obtain ⟨⟨⟨⟨⟨z1,z2⟩,hdel⟩,ht⟩,hok⟩,hni⟩:=q;subst z1 z2;obtain ⟨nm,bs,mro,ns,qn,hd,sn,sub,ab,col,del⟩:=cd;dsimp only at hm hdel hok hni;subst hm hdel;have hsl:sl= #[k0,k1,k2,k3,some (.builtin n),k5] :=by
    obtain ⟨l⟩:=sl;simp only at hs;rw [hs]
   subst hsl;exact ⟨bm,ns,nm,qn,bs,hd,sn,sub,ab,col,dd,k0,k1,k2,k3,k5,_,X _ _ ho,.of_isNs (PySem.W.isNs_of_in X hok),PySem.W.nsMap_none_of_in X hok hni,PySem.W.tail_of_in X ht⟩
  ·cases q
 ·cases q
def zMJ(C:Addr)(E:St->XK)(t:TA):TS:=fun _ σ H=>t σ H fun vs H1=>vs.length<=sizeLine/\E σ (.ref C) none H1
theorem zCQ{X:Cx}{x:Str}{C:Addr}{e₀:Expr}{rest:List Expr}{t:TA}{E:St->XK}{B newId initId:String}{bmB:List Value}{np cpos pos:Pos}
  (FB:ExcBaseFacts B newId initId bmB) (q:PySem.W.excIn X.K C bmB newId=true) (hr:zEd X E) (hc:X.calm=true) (hg:Gl X x) (hm:X.mg x=some (.ref C)) (ha:PA X (e₀::rest) t)
  (hdb:(x==("__debug__" :Str))=false:=by decide) (he:starEach (e₀::rest) X.env=(false,eval e₀ X.env)::starEach rest X.env:=by rfl)
  (hpl:(backTo cpos (starEach rest X.env)).any (·.1)=false:=by rfl):PS X (.Raise (some (.Call (.Name x np) (e₀::rest) [] cpos)) none pos) (zMJ C E t):=by
 intro pins s σ H D I h;obtain ⟨tl,N,nm,qn,bs,hdct,sn,sub,ab,col,dd,k0,k1,k2,k3,k5,mN,hC,hN,hni,T⟩:=zQs I.ok.mod.kin q;refine wpAny_Raise_call_subT (C:=C) (nm:=nm) (q:=qn) (N:=N) (bs:=bs) (bm:=tl) (hdct:=hdct) (sn:=sn) (sub:=sub) (ab:=ab) (col:=col) (dd:=dd) (k0:=k0) (k1:=k1) (k2:=k2) (k3:=k3) (k5:=k5)
  FB (mN:=mN) (T.hasType FB.hasBase) (I.ok.hd hc) (by rw [he];show (false ||(backTo cpos (starEach rest X.env)).any (·.1))=false;rw [hpl];rfl) hni (zBY I hg hm ⟨rfl,?_⟩ hdb)
 have h2:=ha cpos pins s σ H _ I h;rw [he] at h2⊢;exact Calls.evalArgs_plain (zV h2 fun us s2 ⟨vs,H2,I2,r2,hl,q2⟩=>⟨rfl,by rw [<-r2.length];exact hl,I2.bk _ _ hC,hN.keeps I2.bk,T.keeps I2.bk,fun h' ea hm=>hr pins σ H2 s2 h' ea _ _ I2 hm q2⟩)
def KAt(a:Addr)(C:Value)(h:Heap):Prop:= ∃o,h.get? a=some o/\o.cls=C
def zQl(a:Addr)(C:Value):HO:= .ext (KAt a C)
theorem zPx(x:KAt a C h):zj P w H h a (zQl a C):=by
 obtain ⟨o,e,c⟩:=x;exact ⟨⟨o,e,c⟩,⟨o,e⟩,fun h1 h2 ⟨o1,e1,c1⟩ k=>⟨o1,k o1 e1,c1⟩⟩
abbrev Cx.inExc(X:Cx)(e:Addr):Cx:={X with A:=X.A.mark (some (.ref e)),calm:=false,xe:=fun _ _=>False}
theorem Cx.Ok.inExc{X:Cx}(ok:X.Ok)(e:Addr):(X.inExc e).Ok:=
 ⟨ok.mod,ok.kind,ok.glob,ok.blt,ok.above,ok.inj,ok.has,ok.cab,(fun z=>Bool.noConfusion z),ok.frames,ok.stk,ok.exf,ok.bs,ok.bsz,ok.noex,ok.exfs,ok.funs,ok.frf⟩
theorem Inv.inExc{X:Cx}(I:Inv X pins σ H s)(e:Addr):Inv (X.inExc e) pins σ H s:=⟨I.ok.inExc e,I.os,I.bare,I.base,I.loc,I.cell,I.free,I.freeC,I.pin,I.hok,I.len⟩
theorem Inv.outExc{X:Cx}(ok:X.Ok)(I:Inv (X.inExc e) pins σ H s):Inv X pins σ H s:=⟨ok,I.os,I.bare,I.base,I.loc,I.cell,I.free,I.freeC,I.pin,I.hok,I.len⟩
abbrev Cx.tryB(X:Cx)(pins:List (Addr×Obj))(E:Value->Shared->Prop):Cx:={X with xe:=E,pn:=X.pn++pins}
theorem Cx.Ok.tryB{X:Cx}(ok:X.Ok)(pins:List (Addr×Obj))(E:Value->Shared->Prop):(X.tryB pins E).Ok:=
 ⟨ok.mod,ok.kind,ok.glob,ok.blt,ok.above,ok.inj,ok.has,ok.cab,ok.hd,ok.frames,ok.stk,ok.exf,ok.bs,ok.bsz,ok.noex,ok.exfs,ok.funs,ok.frf⟩
theorem Inv.tryB{X:Cx}(I:Inv X pins σ H s)(E:Value->Shared->Prop):Inv (X.tryB pins E) [] σ H s:=
 ⟨I.ok.tryB pins E,I.os,I.bare,I.base,I.loc,I.cell,I.free,I.freeC,fun p hp=>I.pin p (by simpa using hp),I.hok,I.len⟩
theorem Inv.untry{X:Cx}{E:Value->Shared->Prop}(ok:X.Ok)(I:Inv (X.tryB pins E) ps σ H s):Inv X pins σ H s:=
 ⟨ok,I.os,I.bare,I.base,I.loc,I.cell,I.free,I.freeC,fun p hp=>I.pin p (List.mem_append_left _ hp),I.hok,I.len⟩
theorem SP.untry{X:Cx}{E:Value->Shared->Prop}{f:Flow}(ok:X.Ok)(h:SP (X.tryB pins E) ps D f s'):SP X pins D f s':=by
 cases f with
 | next=>obtain ⟨σ',H',I,q⟩:=h;exact ⟨σ',H',I.untry ok,q⟩
 | brk=>obtain ⟨σ',H',I,q⟩:=h;exact ⟨σ',H',I.untry ok,q⟩
 | cont=>obtain ⟨σ',H',I,q⟩:=h;exact ⟨σ',H',I.untry ok,q⟩
 | ret u=>obtain ⟨v,σ',H',I,r,q⟩:=h;exact ⟨v,σ',H',I.untry ok,r,q⟩
theorem zCb{X:Cx}{E:Value->Shared->Prop}{Q:Unit->Shared->Prop}(I:Inv X pins σ H s)(hN:X.N.Nodup)(hi:X.N[i]?=some n)(hx:X.env.scope.names.lookup n=some .local)
  (h: ∀s',Inv X pins (σ.set i none) H s'->Q () s'):wpAny (model X.prog X.w) A (do bindName X.env n .none;unbindBehindTheSuite X.env n pos) Q E s:=by
 obtain ⟨m,hn,hl⟩:=id I.loc;have hcls:(X.env.scope.kind== .class ||(X.env.scope.kind== .module&&X.env.locals !=X.env.globals))=false:=by rw [I.ok.kind];rfl
 have hiσ:i<σ.length:=by rw [I.len];exact (zVX.mp hi).1
 obtain ⟨oL,_,_,hoL,_⟩:=id hn;refine wpAny_nameGoes_keeps hx hn hcls fun h' v hn' hs=>h _ ?_;refine ⟨I.ok,I.os,I.bare,⟨fun b o e n hb hx=>?_,fun b o e n hb hx=>?_,I.base.free,fun b o e hx=>?_,I.base.tups,I.base.frzs,I.base.tbls⟩,⟨_,hn',fun j y v' e1 e2 e3=>?_⟩,fun y c e=>?_,I.free,I.freeC,fun p hp=>?_,fun b ob e=>?_,by simpa using I.len⟩
 ·exact (hs.2 b (zUS (zUT (zUU e) I.ok.above))).trans (I.base.keep b o e n hb hx)
 ·obtain ⟨sl,e1⟩:=I.base.slot b o e n hb hx;exact ⟨sl,(hs.2 b (zUS (zUT (zUU e) I.ok.above))).trans e1⟩
 ·obtain ⟨o',e1⟩:=I.base.there b o e hx;exact ⟨o',(hs.2 b (zUS (zUT (zUU e) I.ok.above))).trans e1⟩
 ·by_cases hj:j=i
  ·subst hj;rw [List.getElem?_set_self hiσ] at e2;cases e2
  ·rw [List.getElem?_set_ne (Ne.symm hj)] at e2;obtain ⟨u',r',q⟩:=hl j y v' e1 e2 e3;refine ⟨u',r',?_⟩;rcases q with ⟨k,e⟩|⟨k,c,e,z⟩
   ·refine .inl ⟨k,?_⟩;have hne:y≠n:=fun e=>hj (zFc hN e1 (e▸hi));simp [hne,e]
   ·exact .inr ⟨k,c,e,z.sameBut hs (I.cne y c e)⟩
 ·obtain ⟨w',z⟩:=I.cell y c e;exact ⟨w',z.sameBut hs (I.cne y c e)⟩
 ·obtain ⟨e,n,ne,nf,d⟩:=I.pin p hp;exact ⟨(hs.2 p.1 ne).trans e,n,ne,nf,d⟩
 ·refine (I.hok b ob e).stay (fun c w' hc q=>(hs.2 c ?_).trans q) (fun _ q=>q) fun _ _ q=>q;intro z;subst z;rcases hc with y | y
  ·rw [<-y,I.free] at e;cases e
  ·rw [I.free] at y;cases y
open FrM
theorem zCw(h:Sz n a):Builtin.Int.intBits a<=n:=by
 unfold Builtin.Int.intBits;split
 ·exact zUZ _
 ·rcases Nat.eq_zero_or_pos a.natAbs with h0 | hp
  ·have hn:0<n:=by
    cases n with
    | zero=>exact absurd (show a=0 by omega) (by rename_i q;simpa using q)
    | succ n=>exact Nat.succ_pos n
   have:a.natAbs.log2=0:=by rw [h0];rfl
   omega
  ·have:a.natAbs.log2<n:=(Nat.log2_lt (zUz hp)).mpr h;omega
theorem zRp(h:Sz n a)(hn:0<n):a.natAbs.log2<n:=by
 rcases Nat.eq_zero_or_pos a.natAbs with h0 | hp
 ·rw [h0];exact hn
 ·exact (Nat.log2_lt (zUz hp)).mpr h
section
variable {X:Cx}{pos:Pos}
theorem zDM:OpR X (binaryOp .Mult) (rI (fun i j=>Sz 4000 i/\Sz 4000 j) fun i j=> .int (i*j)):=
 opI fun _ _ _ _ _ _ _ hc q=>mul_int q (IntMulOk.of_bits (zUY (zCw hc.1) (by decide)) (zUY (zCw hc.2) (by decide)))
theorem zFJ:OpR X (binaryOp .FloorDiv) (rI (fun _ j=>0<j/\Sz 4000 j) fun i j=> .int (i/j)):=opI fun i j _ _ _ _ _ hc q=>by
 have h1:(0:Int)<j:=hc.1;have e:i.fdiv j=i/j:=Int.fdiv_eq_ediv_of_nonneg i (Int.le_of_lt h1);refine floordiv_int (by omega) ?_ (.inl (PyProof.noPylong_of_log2 (zUT (zRp hc.2 (by decide)) (by decide))));rw [e];exact q
def zLU:V->Value->Prop
 | .ref a,c=>c= .ref a
 | .ty n,c=>c= .type n
 | _,_=>False
theorem zLU.eq(h:zLU cv c)(r:zU cv v):v=c:=by
 cases cv<;>first | exact h.elim |(cases (show v=_ from r);cases (show c=_ from h);rfl)
def zSS(K:zVK):List V->Hp->VK->Prop:=fun xs H Q=> ∃x cv t c b,xs= [x,cv] /\zLU cv c/\TyOf K H x t/\PySem.W.kitOne K t c=some b/\Q (.bl b) H
theorem zDl:yU X (.builtin "isinstance") (zSS X.K):=by
 intro pins s σ H xs us Q I r h;obtain ⟨x,cv,t,c,b,rfl,rc,ty,e,q⟩:=h;obtain ⟨u,v,rfl,ru,rv⟩:=zS.two r;have ec:v=c:=rc.eq rv;subst ec;exact zMD I ru ty e fun tk=>⟨.bl b,H,I.tok tk,rfl,q⟩
theorem zJP(hu:X.A.units<cLine):OpR X (compareOp .Eq) (fun x y H Q=> ∃a b xs,x= .ref a/\y= .ref b/\SqL X.K H a xs/\SqL X.K H b [] /\Q (.bl xs.isEmpty) H):=by
 intro pins s σ H x y v u Q I rx ry h;obtain ⟨a,b,xs,rfl,rfl,ha,hb,q⟩:=h;cases rx;cases ry;obtain ⟨its,r,pl,_⟩:=I.list ha;obtain ⟨its',r',pl',_⟩:=I.list hb;cases r';cases r with
 | nil=>exact SeqAt.eq_listAt (e:=fun _=>true) pl.isList pl'.isList rfl hu (fun j h1 _=>absurd h1 (by simp)) ⟨.bl true,H,I,rfl,q⟩
 | cons r1 r2=>exact SeqAt.eq_list_lengthsAt pl.isList pl'.isList (by simp) hu ⟨.bl false,H,I,rfl,q⟩
theorem zFN(hu:X.A.units<cLine):OpR X (compareOp .NotEq) (fun x y H Q=> ∃a b xs,x= .ref a/\y= .ref b/\SqL X.K H a xs/\SqL X.K H b [] /\Q (.bl (!xs.isEmpty)) H):=by
 intro pins s σ H x y v u Q I rx ry h;obtain ⟨a,b,xs,rfl,rfl,ha,hb,q⟩:=h;cases rx;cases ry;obtain ⟨its,r,pl,_⟩:=I.list ha;obtain ⟨its',r',pl',_⟩:=I.list hb;cases r';cases r with
 | nil=>exact SeqAt.RcNeAt.lists (e:=fun _=>true) pl.isList pl'.isList rfl hu (fun j h1 _=>absurd h1 (by simp)) _ _ _ _ ⟨.bl false,H,I,rfl,q⟩
 | cons r1 r2=>exact SeqAt.RcNeAt.lists_lengths pl.isList pl'.isList (by simp) hu _ _ _ _ ⟨.bl true,H,I,rfl,q⟩
theorem Inv.tupl(I:Inv X pins σ H s)(h:H p=some (.tup xs)): ∃its:List Value,zS xs its/\s.heap.IsTuple p its.toArray:=by
 obtain ⟨its,r,pl,_⟩:=I.tuple (SqT.of (K:=X.K) h);exact ⟨its,r,pl⟩
theorem zNx(n:Nat):(List.range n).all (fun _=>true)=true:=by
 rw [List.all_eq_true];intro _ _;rfl
end
theorem zAE{h:Heap}{b:Addr}{o:Obj}(e:h.get? b=some o): @LT.lt Nat _ b h.objs.size:=zUU e
abbrev Cx.comp(X:Cx)(scope:Scope)(cl:List (Str×Addr))(C:Addr)(N:List Str)(s₂:Shared)(H₂:Hp)(fp:List Addr):Cx:=
 {X with N:=N,s₀:=s₂,H₀:=H₂,env:=compEnvC scope cl C X.env,outer:=X.stack,ex:=fp,fn:=fun _=>false,pn:= [],xe:=fun _ _=>False}
def yQ(fr:List Nat)(σ:St):St:=fr.map fun i=>(σ[i]?).getD none
end L2
namespace PySem
open PySem.Spec
section
variable {prog:Program}{w:World}{A:Around}{E:Value->Shared->Prop}{h:Heap}{g:Array GenState}{d:Drawn}{t:Nat}{os:OsState}
variable {nm q:Str}{C N:Addr}{bs bm bmB:List Value}{hdct:Bool}{sn:List Str}{sub:List Value}{ab:Bool}{col:Option Bool}{dd:Option Addr}{k0 k1 k2 k3 k5:Option Value}{B newId initId:String}
theorem zJE(F:ExcBaseFacts B newId initId bmB)(T:OwnTail h bmB bm){mN:Str->Option Value}{rest:List Value}{fI:Addr}{oI:Obj}{Q:Fin->Shared->Prop}
  (hC:h.get? C=some (excClassObj nm q C N bs bm hdct sn sub ab col dd k0 k1 k2 k3 k5 newId)) (hn:h.Ns N mN) (hi:mN "__init__" =some (.ref fI))
  (hfI:h.get? fI=some oI) (hfc:oI.cls= .type "function")
  (hq: ∀h' e,h.objs.size<=e->Heap.MadeExcOf h h' e (.ref C) rest->
   wpAny (model prog w) A (call (.ref fI) (.ref e::rest)) (fun r s'=>r= .none/\Q (.done (.ret (.ref e))) s') E ⟨h',g,d,t,os⟩) (hrest:rest.length<=sizeLine):
  wpAny (model prog w) A (Builtin.«type.__call__» ⟨.ref C::rest,[]⟩) Q E ⟨h,g,d,t,os⟩:=by
 repeat (first | with_reducible refine wpAny_loadPart_at hC ?_ | with_reducible refine wpAny_madeBy_exc hC ?_ | wp_step)
 refine codeAny_call_builtin_code (Code.quiet_builtin _ F.quiet) (wpAny_check_new_subT F T hC ?_);refine codeAny_exc_new_subT F T hC ?_ hrest;show wpAny _ _ _ _ _ _;have hC₁:=zUM {cls:= .ref C,data:= .fields #[.ref h.objs.size,.none,.none,.none,.bool false,.none]}
  (zUM {cls:= .type "tuple",data:= .seq rest.toArray} hC)
 have hfI₁:=zUM {cls:= .ref C,data:= .fields #[.ref h.objs.size,.none,.none,.none,.bool false,.none]}
  (zUM {cls:= .type "tuple",data:= .seq rest.toArray} hfI)
 have hn₁:((h.push {cls:= .type "tuple",data:= .seq rest.toArray}).push {cls:= .ref C,data:= .fields #[.ref h.objs.size,.none,.none,.none,.bool false,.none]}).Ns N mN:=
  let ⟨o,es,ep,e,r⟩:=hn;⟨o,es,ep,zUM _ (zUM _ e),r⟩
 have hget:((h.push {cls:= .type "tuple",data:= .seq rest.toArray}).push
   {cls:= .ref C,data:= .fields #[.ref h.objs.size,.none,.none,.none,.bool false,.none]}).get? (h.objs.size+1)=some
   {cls:= .ref C,data:= .fields #[.ref h.objs.size,.none,.none,.none,.bool false,.none]}:=by heap_get
 have hcC:(Value.ref C::bm).contains (.ref C)=true:=by simp
 have T₁:=T.keeps (h':=(h.push {cls:= .type "tuple",data:= .seq rest.toArray}).push {cls:= .ref C,data:= .fields #[.ref h.objs.size,.none,.none,.none,.bool false,.none]})
  fun b o e=>zUM _ (zUM _ e)
 unfold isInstance
 repeat (first | with_reducible refine wpAny_loadPart_at hget ?_ |(with_reducible refine wpAny_isSubtype_exc hC₁ ?_;rw [hcC])| wp_step)
 show wpAny _ _ (typeLookup (.ref C) _) _ _ _;refine wpAny_typeLookup_tail hC₁ hn₁ T₁ F.mroIs F.init.lookup ?_;rw [hi];refine zVB (zUL ?_);unfold bindSpecial;refine zUL (wpAny_typeOf (T:= "function") ⟨_,hfI₁,hfc⟩ ?_);rw [if_pos (by decide)];refine zUQ (zUL (zUf (hq _ (h.objs.size+1) (Nat.le_succ _) ⟨fun b o hb=>zUM _ (zUM _ hb),Heap.get?_none_of_le (Nat.le_succ _),h.objs.size,hget,Heap.get?_none_of_le (zUO _),?_⟩) (fun r s' hr=>?_) fun _ _ x=>x))
 ·exact zUM _ (Heap.get?_push_at rfl rfl)
 ·obtain ⟨rfl,hQ⟩:=hr
  wp_walk
  exact hQ
theorem zQN(F:ExcBaseFacts B newId initId bmB)(T:OwnTail h bmB bm){mN:Str->Option Value}{rest:List Value}{fI:Addr}{oI:Obj}{Q:Value->Shared->Prop}
  (hC:h.get? C=some (excClassObj nm q C N bs bm hdct sn sub ab col dd k0 k1 k2 k3 k5 newId)) (hn:h.Ns N mN) (hi:mN "__init__" =some (.ref fI))
  (hfI:h.get? fI=some oI) (hfc:oI.cls= .type "function")
  (hq: ∀h' e,h.objs.size<=e->Heap.MadeExcOf h h' e (.ref C) rest->
   wpAny (model prog w) (A.under (.builtin "type.__call__" ⟨.ref C::rest,[]⟩)) (call (.ref fI) (.ref e::rest)) (fun r s'=>r= .none/\Q (.ref e) s') E ⟨h',g,d,t,os⟩) (hrest:rest.length<=sizeLine):
  wpAny (model prog w) A (call (.ref C) rest) Q E ⟨h,g,d,t,os⟩:=by
 have f1:=tc_lookup;have f2:=tc_bind (.ref C);have hT:(⟨h,g,d,t,os⟩:Shared).TypeIs (.ref C) "type" :=⟨_,hC,rfl⟩;refine wpAny_call (codeAny_of_tree ?_);show wpAny _ _ (callAny (.ref C) _) _ _ _
 repeat (any_goals (first | assumption | with_reducible refine wpAny_loadPart_at hC ?_ | wp_step))
 refine ⟨rfl,?_⟩;refine codeAny_call_builtin_at (Code.quiet_builtin _ (by decide+kernel)) entry_typeCall (wpAny_check_type_call_sub hC (zJE (hrest:=hrest) F T hC hn hi hfI hfc fun h' e hl hm=>?_));exact hq h' e hl hm
end
end PySem
namespace PySem.W
open PySem PySem.Calls PyProof.Rows Builtin Builtin.ObjectAttr Builtin.Getset_descriptor
def excMro:List Value->Bool
 | .ref _::r=>excMro r
 | l=>l== [.type "ValueError",.type "Exception",.type "BaseException",.type "object"]
theorem zLF{l:List Value}(h:excMro l=true):(∃c r,l= .ref c::r/\excMro r=true)\/l= [.type "ValueError",.type "Exception",.type "BaseException",.type "object"] :=by
 unfold excMro at h;split at h
 ·exact .inl ⟨_,_,rfl,h⟩
 ·exact .inr (beq_iff_eq.mp h)
theorem zGW(self:Value): ∀{l:List Value},excMro l=true->refuseLoop self "__setattr__" l=pure ()
 | [],e=>by cases e
 | v::r,e=>by
  rcases zLF e with ⟨c,r',z,e'⟩| z
  ·cases z;rw [refuseLoop_ref];exact zGW self e'
  ·rw [z];exact PySem.F.store_ValueError.passes self
section
variable {prog:Program}{w:World}{A:Around}{E:Value->Shared->Prop}{s:Shared}{K:Frag}{x C:Addr}{ox:Obj}{od:Option Obj}{name:Str}{R:Result->Shared->Prop}
theorem zIT{tk:Tok}{v:Value}(X:K.In s.heap)(I:InstAt s.heap x ox C od)(hp:(clsIn K C).any (fun cd=>excMro cd.mro)=true)(hob:mroIn K C (.type "object")=some true)(ht:takerIn K C name=some none)
  (h: ∀b,wpAny (model prog w) A.in1 (storeInOwnDict (.ref x) (.ref C) (.str name tk) name v b)
   (fun fin s'=>match fin with | .done f=>R (.ok f) s' | .again c'=>c'.quiet=true/\codeAny (model prog w) A c' R s') (fun e s'=>R (.error e) s') s):
  codeAny (model prog w) A (.call (.builtin "object.__setattr__") ⟨[.ref x,.str name tk,v],[]⟩) R s:=by
 have SF:=PySem.F.store_object;obtain ⟨cd,hc,ho⟩:=any_some hp;have sub:Looks (model prog w) s.heap (isInstance (.ref x) (.type "object")) true:=I.type.andThen (looks_mroIn X hob);refine codeAny_call_builtin SF.slot.plain SF.entry (@check_slot (model prog w) _ _ s "object.__setattr__" "object" "__setattr__" (.ref x) [.str name tk,v] [] _ SF.kind SF.split sub (SF.args (.ref x) (.str name tk) v) ?_);obtain ⟨attr,ha,hr⟩:=Option.bind_eq_some_iff.mp ht;have hm:Looks (model prog w) s.heap (mroOf (.ref C)) cd.mro:=(looks_clsIn X hc).andThen .now;have L3:Looks (model prog w) s.heap (storeTaker? attr) none:=by
  cases attr with
  | none=>cases hr;exact .now
  | some a=>
   obtain ⟨b,hb,hb2⟩:=Option.map_eq_some_iff.mp hr;refine (looks_takesIn X hb).andThen ?_;cases b with
   | true=>cases hb2
   | false=>exact .now
 rw [osa_eq,refuse_eq];refine zUL (zUL (I.type.here (zUL (hm.here ?_))));rw [zGW _ ho];refine zUQ (zUL (I.type.here (zUL ((looks_findIn X ha).here (zUL (L3.here ?_))))));exact h _
theorem zJx{tk:Tok}{fill expr:Bool}{Q:Value->Shared->Prop}(X:K.In s.heap)(L0:Looks (model prog w) s.heap (typeOf (.ref x)) (.ref C))(hga:findIn K (.ref C) "__getattribute__" =some (some (.builtin "BaseException.__getattribute__")))
  (hgn:findIn K (.ref C) "__getattr__" =some none) (hbe:mroIn K C (.type "BaseException")=some true)
  (h:wpAny (model prog w) A.in1 (Builtin.«object.__getattribute__» ⟨[.ref x,.str name tk],[]⟩) (fun fin s'=>match fin with | .done (.ret v)=>wpAny (model prog w) A (handedOut v) Q E s' | _=>False) (fun _ _=>False) s):
  wpAny (model prog w) A (getAttrBy (.ref x) (.str name tk) fill expr) Q E s:=by
 have L1:=looks_findIn (M:=model prog w) X hga;have L2:=looks_findIn (M:=model prog w) X hgn;have sub:Looks (model prog w) s.heap (isInstance (.ref x) (.type "BaseException")) true:=L0.andThen (looks_mroIn X hbe);have hx2:(Value.builtin "BaseException.__getattribute__" ==Value.builtin "object.__getattribute__")=false:=by decide+kernel
 have FB:=PySem.F.attr_ValueError;unfold getAttrBy;refine zVB (zUL (L0.here (zUL (L1.here ?_))));dsimp only;rw [hx2,Bool.and_false,if_neg (by decide)];unfold getAttrByItsOwn hookBefore;rw [if_pos (show onTheHeap (.ref C)=true from rfl)];refine zUL (L2.here (zUL (wpAny_attempt (zVB ?_))));unfold callGetattribute;rw [if_neg (by cases expr<;>decide)];unfold boundAndCalled;rw [FB.ga.bind (.ref x)];refine zUL (zUQ (wpAny_call (codeAny_call_builtin FB.ga.plain PySem.F.entry_bexc_ga (@check_slot (model prog w) _ _ s "BaseException.__getattribute__" "BaseException" "__getattribute__" (.ref x) [.str name tk] [] _ (by decide+kernel) (by decide+kernel) sub (PySem.F.args_bexc_ga (.ref x) (.str name tk)) ?_))));refine zUf h (fun fin s' z=>?_) fun _ _ z=>z.elim;rcases fin with (_ | _ | _ | _)| _<;>first | exact z | exact z.elim
theorem xset0{v:Value}{o:Obj}{Q:Unit->Shared->Prop}(X:K.In s.heap)(hs:findIn K (.ref C) "__setattr__" =some (some (.builtin "object.__setattr__")))(hp:(clsIn K C).any (fun cd=>excMro cd.mro)=true)
  (hob:mroIn K C (.type "object")=some true) (ht:takerIn K C name=some none) (hh:hasDictIn K C=true) (hx:s.heap.get? x=some o) (hc:o.cls= .ref C) (hno:notCls o=true) (hdn:o.dict=none)
  (h: ∀h' tk,h'.get? x=some {o with dict:=some s.heap.objs.size}->h'.Ns1 s.heap.objs.size (fun y=>if y=name then some v else none)->
   (∀b ob,b≠x->s.heap.get? b=some ob->h'.get? b=some ob)->Q () {s with heap:=h',toks:=tk}):wpAny (model prog w) A (setAttr (.ref x) name v) Q E s:=by
 obtain ⟨hp0,g,d,t,os⟩:=s;dsimp only at X hx h;obtain ⟨oc,odi,oda,osl⟩:=o;dsimp only at hc hdn;subst hc hdn;have I:InstAt hp0 x ⟨.ref C,none,oda,osl⟩ C none:=⟨hx,rfl,hno,trivial⟩;refine set_plain (s:=⟨hp0,g,d,t,os⟩) X I hs (zIT (s:=⟨hp0,g,d,t+1,os⟩) X I hp hob ht fun b=>?_);obtain ⟨cd,hc,hd'⟩:=any_some hh;refine zUL (zUQ (zUL (zUL (wpAny_loadPart hx (zUL (Looks.here (s:=⟨hp0,g,d,t+1,os⟩) (looks_clsIn X hc) ?_))))));rw [hd'];have hxs:x≠hp0.objs.size:=zUS (zUU hx);have hx₁:(hp0.push {cls:= .type "dict",data:= .dict #[]}).get? x=some ⟨.ref C,none,oda,osl⟩:=zUM _ hx;have hgd:((hp0.push {cls:= .type "dict",data:= .dict #[]}).update x fun o=>{cls:=o.cls,dict:=some hp0.objs.size,data:=o.data,slots:=o.slots}).get? hp0.objs.size
   =some {cls:= .type "dict",data:= .dict #[]}:=
  (Heap.get?_update_ne _ _ _ _ hxs.symm).trans (Heap.get?_push_at rfl rfl)
 have hnd:((hp0.push {cls:= .type "dict",data:= .dict #[]}).update x fun o=>{cls:=o.cls,dict:=some hp0.objs.size,data:=o.data,slots:=o.slots}).Ns hp0.objs.size (fun _=>none):=
  ⟨_,#[],_,hgd,rfl,fun e he=>absurd he (by simp),fun _=>rfl⟩
 have hnc: ∀c,oda≠ .cls c:=fun c z=>by subst z;cases hno
 rw [if_neg (by decide)];dsimp only;rw [if_neg (by simp [typeHasDict])];split
 ·exact absurd (by first | assumption | rfl) (hnc _)
 ·refine zUL (wpAny_alloc' ?_);refine zUL (wpAny_update' hx₁ ?_);refine zUQ ?_;show wpAny _ _ (storeInDict hp0.objs.size (.str name _) name v) _ _ _;unfold storeInDict newKeyGuard;refine zUL (zUQ (zUL (wpAny_nsSet1 (Heap.Ns1.of_empty hnd) fun h' hn' hs=>?_)));obtain ⟨oD,esD,epD,hoD,hdD,hcD⟩:=hn'.count (PySem.Within.cons name v PySem.Within.nil);refine zUL (wpAny_lookBehind hoD (by rw [hdD];exact pastItsLine_dict (zUY hcD (by rw [zVT,List.length_nil,zUV];omega))) ?_);refine zUQ ?_;refine h h' _ ?_ hn' fun b ob hbx hb=>(hs.2 b (zUS (zUU hb))).trans ((Heap.get?_update_ne _ _ _ _ hbx).trans (zUM _ hb));refine (hs.2 x hxs).trans (zUx _ hx₁ ?_);have hfr:=(Heap.get?_some_iff.mp hx).2;cases oda<;>first | rfl | exact hfr
theorem xset1{v:Value}{o:Obj}{dx:Addr}{mA:Str->Option Value}{ns:List Str}{Q:Unit->Shared->Prop}(X:K.In s.heap)(hs:findIn K (.ref C) "__setattr__" =some (some (.builtin "object.__setattr__")))(hp:(clsIn K C).any (fun cd=>excMro cd.mro)=true)
  (hob:mroIn K C (.type "object")=some true) (ht:takerIn K C name=some none) (hh:hasDictIn K C=true) (hx:s.heap.get? x=some o) (hc:o.cls= .ref C) (hno:notCls o=true) (hdx:o.dict=some dx) (hns:s.heap.Ns1 dx mA)
  (hw:PySem.Within mA ns) (hsz:ns.length+1<=sizeLine)
  (h: ∀h' tk,h'.Ns1 dx (fun y=>if y=name then some v else mA y)->(∀b ob,b≠dx->s.heap.get? b=some ob->h'.get? b=some ob)->Q () {s with heap:=h',toks:=tk}):wpAny (model prog w) A (setAttr (.ref x) name v) Q E s:=by
 obtain ⟨hp0,g,d,t,os⟩:=s;dsimp only at X hx h hns;obtain ⟨oc,odi,oda,osl⟩:=o;dsimp only at hc hdx;subst hc hdx;obtain ⟨oD,esD,epD,hoD,_⟩:=id hns;have I:InstAt hp0 x ⟨.ref C,some dx,oda,osl⟩ C (some oD):=⟨hx,rfl,hno,hoD⟩;refine set_plain (s:=⟨hp0,g,d,t,os⟩) X I hs (zIT (s:=⟨hp0,g,d,t+1,os⟩) X I hp hob ht fun b=>?_);obtain ⟨cd,hc,hd'⟩:=any_some hh;refine zUL (zUQ (zUL (zUL (wpAny_loadPart hx (zUL (Looks.here (s:=⟨hp0,g,d,t+1,os⟩) (looks_clsIn X hc) ?_))))));rw [hd'];refine zUQ (a:=some dx) (zUL (zUQ (zUL ?_)));refine wpAny_nsSet1 (s:=⟨hp0,g,d,t+1,os⟩) hns fun h' hn2 hs2=>?_;obtain ⟨oD,esD,epD,hoD,hdD,hcD⟩:=hn2.count (PySem.Within.cons name v hw);refine zUL (wpAny_lookBehind hoD (by rw [hdD];exact pastItsLine_dict (zUY hcD (by rw [zVT];omega))) ?_);refine zUQ ?_;exact h h' _ hn2 fun b ob hb e=>(hs2.2 b hb).trans e
theorem xget_value{v:Value}{expr:Bool}{Q:Value->Shared->Prop}(X:K.In s.heap)(I:InstAt s.heap x ox C od)(hga:findIn K (.ref C) "__getattribute__" =some (some (.builtin "BaseException.__getattribute__")))
  (hgn:findIn K (.ref C) "__getattr__" =some none) (hbe:mroIn K C (.type "BaseException")=some true) (hf:findObj K C od name=some (.value v)) (hh:handedIn v=true) (h:Q v {s with toks:=s.toks+1}):
  wpAny (model prog w) A (getAttr (.ref x) name expr) Q E s:=by
 obtain ⟨hp0,g,d,t,os⟩:=s;have L0:=I.type (M:=model prog w);have L1:=looks_find (M:=model prog w) X I hf;unfold getAttr;refine zUL (wpAny_mkText (zJx (s:=⟨hp0,g,d,t+1,os⟩) X L0 hga hgn hbe ?_));refine zUL (zUQ (zUL (zUQ (zUL (L0.at (zUL (L1.at ?_)))))));refine zUQ ?_;show wpAny _ _ (handedOut v) _ _ _;rw [handedOut_of hh];exact zUQ h
theorem zLC{tp:Value}(X:K.In s.heap)(L0: ∀M,Looks M s.heap (typeOf (.ref x)) (.ref C))(hm:mroIn K C (.type "object")=some true)
  (h:R (.ok (.ret (.ref C))) s):codeAny (model prog w) A (.call (.builtin "getset_descriptor.__get__") ⟨[.builtin "object.__class__",.ref x,tp],[]⟩) R s:=by
 obtain ⟨hh,g,dr,t,os⟩:=s;have L0:=L0 (model prog w);have L1:=looks_mroIn (M:=model prog w) X hm;refine codeAny_call_builtin KF.slot_gs.plain KF.entry_gs (KF.slot_gs.check _ _ _ _ _ _ _ _ KF.type_class (KF.args_gs _ _ _) ?_);unfold Builtin.«getset_descriptor.__get__» descrGet;rw [dga_obj];refine zUL (zUQ ?_);unfold descrGetter descrCheckInstance descrNameAndClass isInstance;simp only [KF.owner_class]
 repeat lk
 refine ⟨Code.quiet_builtin _ (by decide+kernel),codeAny_builtin KF.entry_class ?_⟩;unfold Builtin.«object.__class__» shownTypeOf
 repeat lk
 exact h
theorem zJY(X:K.In s.heap)(ha:findIn K (.ref C) "__class__" =some (some (.builtin "object.__class__")))
  (hn:specialIn K (.builtin "object.__class__") "__get__" =some (some (.builtin "getset_descriptor.__get__"))) (htk:takesIn K (.builtin "object.__class__")=some true) (M:Model):
  Looks M s.heap (find (.ref x) (.ref C) "__class__") (.bind (.builtin "getset_descriptor.__get__") (.builtin "object.__class__")):=by
 have L1:=looks_findIn (M:=M) X ha;have L2:Looks M s.heap (getOf (some (.builtin "object.__class__"))) (some (.builtin "getset_descriptor.__get__")):=looks_specialIn X hn;have L3:=looks_takesIn (M:=M) X htk;refine L1.andThen (L2.andThen ?_);refine Looks.andThen (L3.andThen .now) ?_;exact Looks.tag .now
theorem xclass{Q:Option Value->Shared->Prop}(X:K.In s.heap)(L0: ∀M,Looks M s.heap (typeOf (.ref x)) (.ref C))(hga:findIn K (.ref C) "__getattribute__" =some (some (.builtin "BaseException.__getattribute__")))
  (hgn:findIn K (.ref C) "__getattr__" =some none) (hbe:mroIn K C (.type "BaseException")=some true) (hob:mroIn K C (.type "object")=some true)
  (ha:findIn K (.ref C) "__class__" =some (some (.builtin "object.__class__"))) (hn:specialIn K (.builtin "object.__class__") "__get__" =some (some (.builtin "getset_descriptor.__get__"))) (htk:takesIn K (.builtin "object.__class__")=some true)
  (h:Q (some (.ref C)) {s with toks:=s.toks+1}):wpAny (model prog w) A (getAttr? (.ref x) "__class__") Q E s:=by
 have L1:=zJY (x:=x) X ha hn htk (model prog w);obtain ⟨hp0,g,d,t,os⟩:=s;unfold getAttr? getAttrBy?;refine zUL (wpAny_mkText (zUL (wpAny_attempt (zJx (s:=⟨hp0,g,d,t+1,os⟩) X (L0 _) hga hgn hbe ?_))));refine zUL (zUQ (zUL (zUQ (zUL ((L0 _).at (zUL (L1.at ?_)))))));show wpAny _ _ (bindTo _ _ _ _) _ _ _;unfold bindTo;refine zUL (zVB (wpAny_call (zLC (s:=⟨hp0,g,d,t+1,os⟩) X L0 hob ?_)));refine zUQ ?_;show wpAny _ _ (handedOut (.ref C)) _ _ _;rw [handedOut_of rfl];exact zUQ (zUQ h)
end
end PySem.W
namespace L2
open PySem PySem.Spec PyProof.Rows
structure XCls(K:zVK)(C:Addr):Prop where
 ga:PySem.W.findIn K (.ref C) "__getattribute__" =some (some (.builtin "BaseException.__getattribute__"))
 gn:PySem.W.findIn K (.ref C) "__getattr__" =some none
 sa:PySem.W.findIn K (.ref C) "__setattr__" =some (some (.builtin "object.__setattr__"))
 be:PySem.W.mroIn K C (.type "BaseException")=some true
 ob:PySem.W.mroIn K C (.type "object")=some true
 mro:(PySem.W.clsIn K C).any (fun cd=>PySem.W.excMro cd.mro)=true
 hd:PySem.W.hasDictIn K C=true
 ca:PySem.W.findIn K (.ref C) "__class__" =some (some (.builtin "object.__class__"))
 cg:PySem.W.specialIn K (.builtin "object.__class__") "__get__" =some (some (.builtin "getset_descriptor.__get__"))
 ct:PySem.W.takesIn K (.builtin "object.__class__")=some true
theorem zHX(k:KAt a (.ref C) h)(M:Model):PySem.W.Looks M h (typeOf (.ref a)) (.ref C):=by
 obtain ⟨o,h1,h2⟩:=k;exact h2▸(PySem.W.Looks.ld h1).andThen .now
theorem zNf{K:zVK}{a C:Addr}(c:XCls K C):PySem.W.KitX K (.ref a) (.ref C) (KAt a (.ref C)) where
 ty:=fun M h _ p=>zHX p M
 it:=fun _ _ X _=>by
  obtain ⟨cdD,hcD,_⟩:=PySem.W.any_some c.hd;unfold PySem.W.clsIn at hcD;split at hcD
  ·rename_i c' d' cd' sl' ho
   intro A' Q' E' s' k q;unfold isType loadHead;exact zUL (wpAny_loadPart (k _ _ (X _ _ ho)) (zUQ q))
  ·cases hcD
 ne:=fun h tp dd its n sl X htp=>by
  obtain ⟨cdD,hcD,_⟩:=PySem.W.any_some c.hd;refine Bool.eq_false_iff.mpr fun q=>?_;have e:C=tp:=Value.ref.inj (beq_iff_eq.mp q);subst e;unfold PySem.W.clsIn at hcD;split at hcD
  ·rename_i c' d' cd' sl' ho
   have z:=(X _ _ ho).symm.trans htp;cases z
  ·cases hcD
 ca:=fun X p k=>PySem.W.xclass X (zHX p) c.ga c.gn c.be c.ob c.ca c.cg c.ct k
def zOt(K:zVK):List V->Hp->VK->Prop:=fun xs H Q=> ∃ea C cv c b φ,xs= [.ref ea,cv] /\zLU cv c/\H ea=some (.ext φ)/\(∀h,φ h->KAt ea (.ref C) h)/\XCls K C/\PySem.W.kitOne K (.ref C) c=some b/\Q (.bl b) H
theorem zLk{X:Cx}:yU X (.builtin "isinstance") (zOt X.K):=by
 intro pins s σ H xs us Q I r h;obtain ⟨ea,C,cv,c,b,φ,rfl,rc,hH,hφ,xc,e,q⟩:=h;obtain ⟨u,v,rfl,ru,rv⟩:=zS.two r;cases (show u=_ from ru);have ec:v=c:=rc.eq rv;subst ec;obtain ⟨p,_⟩:=(show zj X.prog X.w H s.heap ea (.ext φ) from I.hok ea _ hH);exact zVA (zNf xc) I.kIn (hφ _ p) e (fun z=>nomatch z) fun tk=>⟨.bl b,H,I.tok tk,rfl,q⟩
theorem zBu{X:Cx}{K:zVK}(h:X.K=K):yU X (.builtin "isinstance") (zSS K):=by
 subst h;exact zDl
theorem yP{X:Cx}{K:zVK}(h:X.K=K):yU X (.builtin "isinstance") (zOt K):=by
 subst h;exact zLk
theorem PE.imp{X:Cx}(h:PE X e t)(f: ∀σ H Q,t' σ H Q->t σ H Q):PE X e t':=fun pins s σ H Q I q=>h pins s σ H Q I (f σ H Q q)
def XOf(a C:Addr)(dx:Option Addr)(h:Heap):Prop:= ∃o,h.get? a=some o/\o.cls= .ref C/\PySem.W.notCls o=true/\o.dict=dx/\ ∃t,o.data= .fields #[.ref t,.none,.none,.none,.bool false,.none]
def XO(a C:Addr)(dx:Option Addr):HO:= .ext (XOf a C dx)
def XDf(a:Addr)(fs:List (Str×V))(h:Heap):Prop:= ∃mA,h.Ns1 a mA/\(∀f,zAC (fs.lookup f) (mA f))/\PySem.Within mA (fs.map (·.1))
def XD(a:Addr)(fs:List (Str×V)):HO:= .ext (XDf a fs)
theorem zPC{dx:Option Addr}(x:XOf a C dx h):zj P w H h a (XO a C dx):=by
 obtain ⟨o,e,r⟩:=x;exact ⟨⟨o,e,r⟩,⟨o,e⟩,fun h1 h2 ⟨o1,e1,r1⟩ k=>⟨o1,k o1 e1,r1⟩⟩
theorem zOU{fs:List (Str×V)}(x:XDf a fs h):zj P w H h a (XD a fs):=by
 obtain ⟨mA,⟨o,es,ep,ho,q⟩,r⟩:=x;exact ⟨⟨mA,⟨o,es,ep,ho,q⟩,r⟩,⟨o,ho⟩,fun h1 h2 ⟨m1,⟨o1,es1,ep1,ho1,q1⟩,r1⟩ k=>⟨m1,⟨o1,es1,ep1,k o1 ho1,q1⟩,r1⟩⟩
theorem zSQ(ry:zU y u)(g:Str):zAC ((([(f,y)] :List (Str×V))).lookup g) (if g=f then some u else none):=by
 by_cases q:g=f
 ·subst q;simp only [List.lookup_cons,beq_self_eq_true,if_true];exact ry
 ·have:(g==f)=false:=by simpa using q
  simp only [List.lookup_cons,this,List.lookup_nil,if_neg q];exact True.intro
section
variable {X:Cx}{o e value:Expr}{f:Str}{pos pos':Pos}{ta tv:TE}
def sX0(K:zVK)(ta tv:TE)(f:Str):TS:=fun D σ H=>tv σ H fun y H1=>ta σ H1 fun x H2=> ∃a C,x= .ref a/\H2 a=some (XO a C none)/\XCls K C/\yR K C f/\ ∀dx,H2 dx=none->dx≠a->D.nx σ (upd (upd H2 dx (XD dx [(f,y)])) a (XO a C (some dx)))
theorem zFa(ha:PE X o ta)(hv:PE X value tv)(hs:swapsWith value (some (.Attribute o f pos')) pos.line X.env=pure false):PS X (.Assign [.Attribute o f pos'] value pos) (sX0 X.K ta tv f):=by
 intro pins s σ H D I h;refine plainObj_wpAny_Assign_Attribute (zV (hv pins s σ H _ I h) fun u s1 ⟨y,H1,I1,ry,q⟩=>zV (ha pins s1 σ H1 _ I1 q) fun ov s2 ⟨x,H2,I2,rx,a,C,ex,ea,c,n,q2⟩=>?_) hs;subst ex;obtain rfl:ov=Value.ref a:=rx;obtain ⟨⟨o,ho,hc,hn,hd,td,hdt⟩,_⟩:=(show zj X.prog X.w H2 s2.heap a (XO a C none) from I2.hok a _ ea);have hlt:=zUU ho;have hf:H2 s2.heap.objs.size=none:=I2.hok.fresh (zUO _);have hne:s2.heap.objs.size≠a:=zUz hlt;refine PySem.W.xset0 I2.kIn c.sa c.mro c.ob n.taker c.hd ho hc hn hd fun h' tk hx' hns hk=>⟨σ,_,?_,q2 s2.heap.objs.size hf hne⟩;have nb: ∀b ob,s2.heap.get? b=some ob->b≠s2.heap.objs.size:=fun b ob e=>zUS (zUU e);have un:Un X.fs [] H2 (upd (upd H2 s2.heap.objs.size (XD s2.heap.objs.size [(f,y)])) a (XO a C (some s2.heap.objs.size))) s2.heap h':=by
  refine ⟨fun b ob e n hb _=>hk b ob (fun z=>by rw [z,ea] at n;cases n) e,fun b ob e n hb _=>⟨ob.slots,hk b ob (fun z=>by rw [z,ea] at n;cases n) e⟩,fun b ob e n _=>?_,fun b ob e _=>?_,fun b xs e=>?_,fun b ob u e=>?_,fun b ps e=>?_⟩
  ·rw [zG (fun z=>by rw [z,ea] at n;cases n),zG (nb b ob e)];exact n
  ·by_cases z:b=a
   ·subst z;exact ⟨_,hx'⟩
   ·exact ⟨ob,hk b ob z e⟩
  ·rw [zG (zDf e ea (by intro z;cases z)),zG (zI e hf)];exact e
  ·rw [zG (zDf e ea (by intro z;cases z)),zG (zI e hf)];exact e
  ·exact ⟨#[],by rw [zG (zDf e ea (by intro z;cases z)),zG (zI e hf),Array.append_empty];exact e⟩
 refine I2.un un fun b u e=>?_;by_cases z:b=a
 ·subst z;rw [zC] at e;cases e;exact zPC ⟨_,hx',hc,by cases o;exact hn,rfl,td,hdt⟩
 ·rw [zG z] at e;by_cases z2:b=s2.heap.objs.size
  ·subst z2;rw [zC] at e;cases e;refine zOU ⟨_,hns,fun g=>zSQ ry g,?_⟩;exact PySem.Within.cons f u PySem.Within.nil
  ·rw [zG z2] at e;refine (I2.hok b u e).stay (fun c' w' hc' e'=>hk c' w' ?_ e') (fun c' e'=>?_) fun c' xs e'=>?_
   ·rcases hc' with rfl | y'
    ·exact z
    ·intro zz;rw [zz,ea] at y';cases y'
   ·rw [zG (zDf e' ea (by intro zz;cases zz)),zG (zI e' hf)];exact e'
   ·rw [zG (zDf e' ea (by intro zz;cases zz)),zG (zI e' hf)];exact e'
def sX1(K:zVK)(ta tv:TE)(f:Str):TS:=fun D σ H=>tv σ H fun y H1=>ta σ H1 fun x H2=> ∃a C dx fs,x= .ref a/\H2 a=some (XO a C (some dx))/\H2 dx=some (XD dx fs)/\XCls K C/\yR K C f/\fs.length<1000/\D.nx σ (upd H2 dx (XD dx (ym f y fs)))
theorem zFM(ha:PE X o ta)(hv:PE X value tv)(hs:swapsWith value (some (.Attribute o f pos')) pos.line X.env=pure false):PS X (.Assign [.Attribute o f pos'] value pos) (sX1 X.K ta tv f):=by
 intro pins s σ H D I h;refine plainObj_wpAny_Assign_Attribute (zV (hv pins s σ H _ I h) fun u s1 ⟨y,H1,I1,ry,q⟩=>zV (ha pins s1 σ H1 _ I1 q) fun ov s2 ⟨x,H2,I2,rx,a,C,dx,fs,ex,ea,ed,c,n,hl,q2⟩=>?_) hs;subst ex;obtain rfl:ov=Value.ref a:=rx;obtain ⟨⟨o,ho,hc,hn,hd,td,hdt⟩,_⟩:=(show zj X.prog X.w H2 s2.heap a (XO a C (some dx)) from I2.hok a _ ea);obtain ⟨⟨mA,ns,r,wi⟩,_⟩:=(show zj X.prog X.w H2 s2.heap dx (XD dx fs) from I2.hok dx _ ed);refine PySem.W.xset1 I2.kIn c.sa c.mro c.ob n.taker c.hd ho hc hn hd ns wi (by rw [zUR,zUV];omega) fun h' tk hns hk=>⟨σ,_,?_,q2⟩;have heo: ∃u,h'.get? dx=some u:=let ⟨o,_,_,e',_⟩:=hns;⟨o,e'⟩;refine I2.write (x:=dx) (e:=dx) (by rw [ed];exact True.intro) (.inl rfl) (fun b w hb e=>hk b w hb e) heo (zOU ⟨_,hns,fun g=>?_,fun g hg=>?_⟩)
 ·show zAC ((ym f y fs).lookup g) (if g=f then some u else mA g);rw [zBH];by_cases q:g=f
  ·rw [if_pos q,if_pos q];exact ry
  ·rw [if_neg q,if_neg q];exact r g
 ·by_cases q:g=f
  ·rw [q];exact (zBv f y fs).1
  ·refine (zBv f y fs).2 g (wi g fun z=>hg ?_);show (if g=f then some u else mA g)=none;rw [if_neg q];exact z
end
def zGf(K:zVK)(C f:Addr):Bool:=match K.lookup C with
 | some ⟨.type "type",_,.cls cd,sl⟩=>(match cd.mro,sl.toList with
  | .ref C'::bm,[_,_,_,_,some (.builtin n),_] =>C'==C&&n== "ValueError.__new__" &&!cd.hasDel&&PySem.W.tailIn K [.type "ValueError",.type "Exception",.type "BaseException",.type "object"] bm&&PySem.W.nsOkIn K cd.ns&&PySem.W.nsIn K cd.ns "__init__" ==some (some (.ref f))
  | _,_=>false)
 | _=>false
structure MkX(K:zVK)(C f:Addr):Prop where
 ex:zGf K C f=true
 fn:PySem.W.isFn K (.ref f)=true
 kp:PySem.W.keepIn K (.ref C)=true
theorem zMk{K:zVK}{N:Addr}{h:Heap}{mg:Str->Option Value}{n:Str}{v:Value}(X:K.In h)(G:h.Ns N mg)(e:PySem.W.nsIn K N n=some (some v)):mg n=some v:=by
 obtain ⟨o,es,ep,ho,hd,_,hf⟩:=G;unfold PySem.W.nsIn at e;split at e
 ·rename_i c d es' n' sl q
  have:=X _ _ q;rw [ho] at this;cases this;cases hd;split at e
  ·rename_i en he
   cases e;rw [<-hf];unfold nsFind findBy;rw [<-Array.find?_toList,he];rfl
  ·split at e<;>cases e
 ·cases e
theorem zJq{K:zVK}{h:Heap}{C f:Addr}(X:K.In h)(q:zGf K C f=true):
  ∃bm N nm qn bs hdct sn sub ab col dd k0 k1 k2 k3 k5 mN,h.get? C=some (excClassObj nm qn C N bs bm hdct sn sub ab col dd k0 k1 k2 k3 k5 "ValueError.__new__")/\h.Ns N mN/\mN "__init__" =some (.ref f)/\OwnTail h [.type "ValueError",.type "Exception",.type "BaseException",.type "object"] bm:=by
 unfold zGf at q;split at q
 ·rename_i dd cd sl ho
  split at q
  ·rename_i C' bm k0 k1 k2 k3 n k5 hm hs
   simp only [zVM,beq_iff_eq,zVa] at q;obtain ⟨⟨⟨⟨⟨z1,z2⟩,hdel⟩,ht⟩,hok⟩,hni⟩:=q;subst z1 z2;obtain ⟨nm,bs,mro,ns,qn,hd,sn,sub,ab,col,del⟩:=cd;dsimp only at hm hdel hok hni;subst hm hdel;have hsl:sl= #[k0,k1,k2,k3,some (.builtin "ValueError.__new__"),k5] :=by
    obtain ⟨l⟩:=sl;simp only at hs;rw [hs]
   subst hsl;have hns:=PySem.W.isNs_of_in X hok;exact ⟨bm,ns,nm,qn,bs,hd,sn,sub,ab,col,dd,k0,k1,k2,k3,k5,_,X _ _ ho,.of_isNs hns,zMk X (.of_isNs hns) hni,PySem.W.tail_of_in X ht⟩
  ·cases q
 ·cases q
section
variable {X:Cx}{CX:CXT}{k:Nat}{f C:Addr}{fd:FuncData}{ps:List Str}{sp:Sp}{E:XK}{x:Str}{p pos:Pos}{e:Expr}{es:List Expr}{t:TA}
end
def yV:Expr->Bool
 | .Starred ..=>false
 | _=>true
theorem zh(h:yV e=true):starEach (e::es) env=(false,eval e env)::starEach es env:=by
 cases e<;>first | rfl | cases h
structure QE(X:Cx)(e:Expr)(t:TE):Prop where
 out:PE X e t
structure QA(X:Cx)(es:List Expr)(t:TA):Prop where
 out:PA X es t
section
variable {X:Cx}{a:Expr}{es:List Expr}{ta:TE}{t:TA}{j:Nat}{pos:Pos}
theorem qc(ha:QE X a ta)(hr:QA X es t)(h:yV a=true):QA X (a::es) (zDj ta t):=⟨zf ha.out hr.out (zh h)⟩
theorem zD:QA X [] zCT:=⟨yG⟩
theorem zF:QE X (.Constant (.int i) j pos) (tC (.int i)):=⟨zt⟩
theorem yw:QE X (.Constant (.bool b) j pos) (tC (.bl b)):=⟨zLd⟩
theorem zN:QE X (.Constant (.str x) j pos) (tC (.str x)):=⟨zEB⟩
theorem zBE:QE X (.Constant .none j pos) (tC .non):=⟨zRa⟩
theorem zQ(h:QA X es t):QE X (.Tuple es j pos) (zRk t):=⟨zGb h.out⟩
theorem zy(h:QA X es t):QE X (.List es pos) (zQn t):=⟨zLl h.out⟩
theorem zCd(h:QE X a ta):QE X (.UnaryOp .USub a pos) (tUn (rU fun i=> .int (-i)) ta):=⟨zLH zIR h.out⟩
end
open FrM
structure QT(X:Cx)(e:Expr)(t:TT):Prop where
 out:PT X e t
structure QW(X:Cx)(e:Expr)(t:TT):Prop where
 out:PW X e t
structure QS(X:Cx)(st:Stmt)(t:TS):Prop where
 out:PS X st t
structure QB(X:Cx)(b:List Stmt)(t:TS):Prop where
 out:PSs X b t
structure QI(X:Cx)(tg iter:Expr)(t:TI):Prop where
 out:PI X tg iter t
structure QG(X:Cx)(tg:Expr)(t:TG):Prop where
 out:PG X tg t
structure QGs(X:Cx)(tg:List Expr)(t:TGs):Prop where
 out:PGs X tg t
def yl:List Expr->Bool
 | [] =>true
 | e::es=>yV e&&yl es
theorem yx: ∀{es:List Expr},yl es=true->(backTo pos (starEach es env)).any (·.1)=false
 | [],_=>rfl
 | e::es,h=>by
  have h2:yV e=true/\yl es=true:=by simpa [yl] using h
  rw [zh h2.1];show (false ||(backTo pos (starEach es env)).any (·.1))=false;rw [yx h2.2];rfl
section
variable {X:Cx}{K:zVK}{a b c e o:Expr}{es rest:List Expr}{ta tb tc te to:TE}{tA tB':TT}{t:TA}{x:Str}{p pos pos' apos cpos:Pos}{j i:Nat}
def okV(X:Cx)(i:Nat)(x:Str)(k:NameKind):Bool:=X.N[i]?==some x&&(X.env.scope.names.lookup x==some k&&(!(x==("__debug__" :Str))&&!(x==("__classdict__" :Str))))
theorem zJk{k:NameKind}(h:okV X i x k=true):X.N[i]?=some x/\X.env.scope.names.lookup x=some k/\(x==("__debug__" :Str))=false/\(x==("__classdict__" :Str))=false:=by
 unfold okV at h;rw [zVM,zVM,zVM,beq_iff_eq,beq_iff_eq,zVa,zVa] at h;exact h
theorem qw(i:Nat)(h:okV X i x .local=true):QE X (.Name x pos) (zLe i):=let ⟨a,b,c,d⟩:=zJk h;⟨zIq a (.inl b) c d⟩
theorem qx(i:Nat)(h:okV X i x .cell=true):QE X (.Name x pos) (zLe i):=let ⟨a,b,c,d⟩:=zJk h;⟨zIq a (.inr (.inl b)) c d⟩
def okB(x:Str)(e:Expr)(es:List Expr):Bool:=!(x==("__name__" :Str))&&(!(x==("__debug__" :Str))&&(yV e&&yl es))
theorem zJy(h:okB x e es=true):x≠ "__name__" /\(x==("__debug__" :Str))=false/\yV e=true/\yl es=true:=by
 unfold okB at h;rw [zVM,zVM,zVM,zVa,zVa,beq_eq_false_iff_ne] at h;exact h
theorem yg(hg:Gl X x)(hm:X.mg x=some u)(r:zU v u)(hd:(x==("__debug__" :Str))=false):QE X (.Name x pos) (tC v):=⟨zQH hg hm r hd⟩
theorem zCv(hg:Gl X x)(hm:X.mg x=none)(hv:bootBuiltins x=some u)(r:zU v u)(hn:x≠ "__name__")(hd:(x==("__debug__" :Str))=false):QE X (.Name x pos) (tC v):=⟨zEb hg hm hv r hn hd⟩
theorem zBP{op:Operator}(ho:OpR X (binaryOp op) r)(ha:QE X a ta)(hb:QE X b tb):QE X (.BinOp a op b pos) (tOp r ta tb):=⟨yf ho ha.out hb.out⟩
theorem zBD(ha:QE X a ta)(hb:QE X b tb):QE X (.BinOp a .Add b pos) (tOp (rI0 fun i j=> .int (i+j)) ta tb):=zBP zFv ha hb
theorem zKu(ha:QE X a ta)(hb:QE X b tb):QE X (.BinOp a .Sub b pos) (tOp (rI0 fun i j=> .int (i - j)) ta tb):=zBP zSl ha hb
theorem zKf(ha:QE X a ta)(hb:QE X b tb):QE X (.BinOp a .Mult b pos) (tOp (rI zKi fun i j=> .int (i*j)) ta tb):=zBP zCR ha hb
theorem zRZ(ha:QE X a ta)(hb:QE X b tb):QE X (.BinOp a .Mult b pos) (tOp (rI (fun i j=>Sz 4000 i/\Sz 4000 j) fun i j=> .int (i*j)) ta tb):=zBP zDM ha hb
theorem yS(ha:QE X a ta)(hb:QE X b tb):QE X (.BinOp a .FloorDiv b pos) (tOp (rI zKz fun i j=> .int (i/j)) ta tb):=zBP zJj ha hb
theorem zKR(ha:QE X a ta)(hb:QE X b tb):QE X (.BinOp a .FloorDiv b pos) (tOp (rI (fun _ j=>0<j/\Sz 4000 j) fun i j=> .int (i/j)) ta tb):=zBP zFJ ha hb
theorem yJ(ha:QE X a ta)(hb:QE X b tb):QE X (.BinOp a .Mod b pos) (tOp (rI (fun _ j=>0<j) fun i j=> .int (i % j)) ta tb):=zBP zBw ha hb
theorem zIA(ha:QE X a ta)(hb:QE X b tb):QE X (.BinOp a .Pow b pos) (tOp (rI zSd fun i j=> .int (i^j.toNat)) ta tb):=zBP zRr ha hb
theorem zHs(ha:QE X a ta)(hb:QE X b tb):QE X (.BinOp a .Add b pos) (tOp zSc ta tb):=zBP zSF ha hb
theorem zOW{op:BoolOp}(h:QE X a ta):QE X (.BoolOp op [a] pos) ta:=⟨zLt h.out⟩
theorem zOi(ha:QE X a ta)(hb:QE X (.BoolOp .And (b::rest) pos) tb):QE X (.BoolOp .And (a::b::rest) pos) (zOh ta tb):=⟨zMf ha.out hb.out⟩
theorem zBf{op:CmpOp}(ho:OpR X (compareOp op) r)(ha:QE X a ta)(hb:QE X b tb)(hm:behindInMarks op b=false):QE X (.Compare a [op] [b] pos) (tOp r ta tb):=⟨zKS ho ha.out hb.out hm⟩
theorem zY{op:CmpOp}(ho:OpR X (compareOp op) r)(ha:QE X a ta)(hb:QE X b tb)(hm:behindInMarks op b=false):QT X (.Compare a [op] [b] pos) (zHq (tOp r ta tb)):=⟨zAT ho ha.out hb.out hm⟩
theorem zLM(ha:QE X a ta)(h:behindInMarks .Is (.Constant .none j pos')=false):QT X (.Compare a [.Is] [.Constant .none j pos'] pos) (tB (zSM ta)):=⟨zDx (zSH ha.out) h⟩
theorem zRi(ha:QE X a ta)(h:behindInMarks .IsNot (.Constant .none j pos')=false):QT X (.Compare a [.IsNot] [.Constant .none j pos'] pos) (tB (zOj ta)):=⟨zDx (zJw ha.out) h⟩
theorem zPT{op op':CmpOp}(ho:OpR X (compareOp op) r)(ho':OpR X (compareOp op') r')(ha:QE X a ta)(hb:QE X b tb)(hc:QE X c tc)(hm:lastMarks [op,op'] [b,c] =false):QE X (.Compare a [op,op'] [b,c] pos) (zGA r r' ta tb tc):=⟨zNn ho ho' ha.out hb.out hc.out hm⟩
theorem zPi{op op':CmpOp}(ho:OpR X (compareOp op) r)(ho':OpR X (compareOp op') r')(ha:QE X a ta)(hb:QE X b tb)(hc:QE X c tc)(hm:lastMarks [op,op'] [b,c] =false):QT X (.Compare a [op,op'] [b,c] pos) (zHq (zGA r r' ta tb tc)):=⟨zOL ho ho' ha.out hb.out hc.out hm⟩
theorem yb(h:QE X e te)(he: ∀whole,isTrue e X.env whole=(do let v<-whole;standAt e.pos;holding [v] (truthy v))):QT X e (tB te):=⟨zDI h.out he⟩
theorem yq(h:QT X a tA):QT X (.UnaryOp .Not a pos) (zQr tA):=⟨zCx h.out⟩
theorem zCU(h:QT X a tA):QW X (.BoolOp .And [a] pos) tA:=⟨zKM h.out⟩
theorem zAu(h:QT X a tA):QW X (.BoolOp .Or [a] pos) tA:=⟨zJB h.out⟩
theorem zDg(ha:QT X a tA)(hb:QW X (.BoolOp .And (b::rest) pos) tB'):QW X (.BoolOp .And (a::b::rest) pos) (zRD tA tB'):=⟨zMV ha.out hb.out⟩
theorem zAr(ha:QT X a tA)(hb:QW X (.BoolOp .Or (b::rest) pos) tB'):QW X (.BoolOp .Or (a::b::rest) pos) (tOr tA tB'):=⟨zHv ha.out hb.out⟩
theorem t_w(h:QW X e tA):QT X e tA:=⟨h.out.pt⟩
theorem yH(hK:X.K=K)(ha:QE X a ta)(hb:QE X b tb)(hs:zEj b):QE X (.Subscript a b pos) (tOp (zSi K) ta tb):=by
 subst hK;exact ⟨zAF zKF ha.out hb.out hs⟩
theorem zR(hK:X.K=K)(ha:QE X a ta)(hb:QE X b tb)(hs:zEj b):QE X (.Subscript a b pos) (tOp (zSV K) ta tb):=by
 subst hK;exact ⟨zAF yz ha.out hb.out hs⟩
theorem zOz(ha:QE X a ta)(hb:QE X b tb)(hs:zEj b):QE X (.Subscript a b pos) (tOp zST ta tb):=⟨zAF zRf ha.out hb.out hs⟩
section
variable {CX:CXT}{k:Nat}{f C:Addr}{fd:FuncData}{ps:List Str}{sp:Sp}{dvs:List V}{ds:List Value}{E:XK}{ES:St->XK}{id T:String}{r:List V->Hp->VK->Prop}
theorem zP(F:FnOk X.prog X.w X.K X.mg X.base CX k f fd ps sp)(hr:Room k X.A)(hg:Gl X x)(hm:X.mg x=some (.ref f))(hk:PySem.W.keepIn X.K (.ref f)=true)(hb:zL X.K fd ps ds)(hd:zS dvs ds)(hx:zAK CX X E)
  (ha:QA X (e::es) t) (h1:(x==("__debug__" :Str))=false) (h2:yV e=true) (h3:yl es=true):QE X (.Call (.Name x p) (e::es) [] pos) (zKZ sp dvs E t):=⟨zAo F hr hg hm hk hb hd hx ha.out h1 (zh h2) (yx h3)⟩
theorem zCO(F:FnOk X.prog X.w X.K X.mg X.base CX k f fd ps sp)(hr:Room k X.A)(hg:Gl X x)(hm:X.mg x=some (.ref f))(hk:PySem.W.keepIn X.K (.ref f)=true)(hb:zL X.K fd ps ds)(hd:zS dvs ds)(hx:zAW CX X ES)
  (ha:QA X (e::es) t) (h1:(x==("__debug__" :Str))=false) (h2:yV e=true) (h3:yl es=true):QE X (.Call (.Name x p) (e::es) [] pos) (zLp sp dvs ES t):=⟨zIX F hr hg hm hk hb hd hx ha.out h1 (zh h2) (yx h3)⟩
theorem zPm(hc:yU X (.builtin id) r)(hg:Gl X x)(hm:X.mg x=none)(hv:bootBuiltins x=some (.builtin id))(ha:QA X (e::es) t)(h0:x≠ "__name__")(h1:(x==("__debug__" :Str))=false)(h2:yV e=true)(h3:yl es=true):
  QE X (.Call (.Name x p) (e::es) [] pos) (tCB r t):=⟨zBq hc hg hm hv ha.out h0 h1 (zh h2) (yx h3)⟩
theorem zOP(hc:yU X (.type T) r)(hg:Gl X x)(hm:X.mg x=none)(hv:bootBuiltins x=some (.type T))(ha:QA X (e::es) t)(h0:x≠ "__name__")(h1:(x==("__debug__" :Str))=false)(h2:yV e=true)(h3:yl es=true):
  QE X (.Call (.Name x p) (e::es) [] pos) (tCB r t):=⟨zNA hc hg hm hv ha.out h0 h1 (zh h2) (yx h3)⟩
theorem yE(hc:yU X (.builtin id) r)(hg:Gl X x)(hm:X.mg x=none)(hv:bootBuiltins x=some (.builtin id))(ha:QA X (e::es) t)(h:okB x e es=true):QE X (.Call (.Name x p) (e::es) [] pos) (tCB r t):=let ⟨a,b,c,d⟩:=zJy h;zPm hc hg hm hv ha a b c d
theorem zCu(hc:yU X (.type T) r)(hg:Gl X x)(hm:X.mg x=none)(hv:bootBuiltins x=some (.type T))(ha:QA X (e::es) t)(h:okB x e es=true):QE X (.Call (.Name x p) (e::es) [] pos) (tCB r t):=let ⟨a,b,c,d⟩:=zJy h;zOP hc hg hm hv ha a b c d
end
theorem zAy(hK:X.K=K):yU X (.builtin "len") (fun xs H Q=> ∃p ys,xs= [.ref p] /\(SqL K H p ys\/SqT K H p ys)/\Q (.int ys.length) H):=by
 subst hK;exact zCY
theorem zBT(hK:X.K=K)(ho:QE X o to)(ha:QE X e te)(hb:attributeBase o "append" X.env (eval o X.env)=eval o X.env)(h2:yV e=true)(hl:(apos.endLine==cpos.line)=true):
  QE X (.Call (.Attribute o "append" apos) [e] [] cpos) (tBM K "list" zKD to (zDj te zCT)):=by
 subst hK;exact ⟨zGH PySem.F.plainAttrs_list PySem.F.slot_list_append PySem.F.type_list_append zEA ho.out (zf ha.out yG (zh h2)) hb (by rw [zh h2];rfl) hl (zh h2) rfl⟩
theorem zSy(h:QE X e te)(f: ∀σ H Q,t' σ H Q->te σ H Q):QE X e t':=⟨PE.imp h.out f⟩
section
variable {st:Stmt}{sts b1 b2:List Stmt}{u v:TS}{g:TG}{gs:TGs}{wi:TI}{tg iter:Expr}
theorem zn:QB X [] zOe:=⟨zAV⟩
theorem zJ(h:QS X st u):QB X [st] u:=⟨yC h.out⟩
theorem zH(h:QS X st u)(h2:QB X sts v):QB X (st::sts) (zCn u v):=⟨zv h.out h2.out⟩
theorem zW(h:QE X e te):QS X (.Return (some e) pos) (zLP te):=⟨zAA h.out⟩
theorem yn(h:QE X e te)(hs:swapsWith e none pos.line X.env=pure false):QS X (.Expr e pos) (zOa te):=⟨zKJ h.out hs⟩
theorem zq(hc:QT X c tA)(ha:QB X b1 u)(hb:QB X b2 v):QS X (.If c b1 b2 pos) (zRj tA u v):=⟨zBc hc.out ha.out hb.out⟩
theorem zCk(i:Nat)(hN:X.N.Nodup)(hi:X.N[i]?=some x)(hx:Loc X.env.scope x)(he:QE X e te)(hs:swapsWith e (some (.Name x pos')) pos.line X.env=pure false)(hf:X.fn x=true\/X.env.scope.names.lookup x=some .local):
  QS X (.Assign [.Name x pos'] e pos) (zDz te (zBM i)):=⟨zAM hN hi hx he.out hs hf⟩
theorem zT(i:Nat)(hN:X.N.Nodup)(h:(X.N[i]?==some x&&X.env.scope.names.lookup x==some .local)=true)(he:QE X e te)(hs:swapsWith e (some (.Name x pos')) pos.line X.env=pure false):QS X (.Assign [.Name x pos'] e pos) (zDz te (zBM i)):=by
 rw [zVM,beq_iff_eq,beq_iff_eq] at h;exact zCk i hN h.1 (.inl h.2) he hs (.inr h.2)
theorem zm(i:Nat)(hN:X.N.Nodup)(hi:X.N[i]?=some x)(hx:Loc X.env.scope x)(hf:X.fn x=true\/X.env.scope.names.lookup x=some .local):QG X (.Name x pos) (zBM i):=⟨zPz hN hi hx hf⟩
theorem zEh:QGs X [] zRo:=⟨zPX⟩
theorem zAj(h1:QG X e g)(h2:QGs X es gs)(hs:(assignEach (e::es) X.env).map (·.2)=assign e X.env::(assignEach es X.env).map (·.2)):QGs X (e::es) (zOp g gs):=⟨zNh h1.out h2.out hs⟩
theorem zEo(hK:X.K=K)(hc:X.calm=true)(h:QGs X es gs)(hn:(assignEach es X.env).length=n)(hst:(assignEach es X.env).findIdx? (·.1)=none):QG X (.Tuple es j pos) (zSG K n gs):=by
 subst hK;exact ⟨zRd hc h.out hn hst⟩
theorem zKP(hp:PassesOwn (model X.prog X.w) X.A X.env X.xe)(hc:QT X c tA)(hb:QB X b1 u):QS X (.While c b1 [] pos) (zIc tA u):=⟨zFW hp hc.out hb.out⟩
theorem zAZ(hK:X.K=K)(h:QE X e te):QI X tg e (zOu K te):=by
 subst hK;exact ⟨zPy h.out⟩
theorem zBt(hK:X.K=K)(h:QE X e te):QI X tg e (zRm K te):=by
 subst hK;exact ⟨zSo h.out⟩
theorem zCA(hg:Gl X "range")(hm:X.mg "range" =none)(h:QA X [a] t)(h2:yV a=true):QI X tg (.Call (.Name "range" p) [a] [] pos) (zOn t):=⟨zLo hg hm h.out (by rw [zh h2];rfl)⟩
theorem zSY(hg:Gl X "range")(hm:X.mg "range" =none)(h:QA X [a,b] t)(h2:yV a=true)(h3:yV b=true):QI X tg (.Call (.Name "range" p) [a,b] [] pos) (zOy t):=
 ⟨zMS hg hm h.out (by rw [zh h2,zh h3];rfl) (by rw [zh h3];rfl)⟩
theorem zTD(hp:PassesOwn (model X.prog X.w) X.A X.env X.xe)(hc:X.calm=true)(hi:QI X tg iter wi)(hg:QG X tg g)(hb:QB X b1 u)(hs: ∀x,foldedSetIterable iter X.env x=pure x):QS X (.For tg iter b1 [] pos) (zRX wi g u):=⟨zRx hp hc hi.out hg.out hb.out hs⟩
end
end
theorem yT{t u:TS}{D:Ends}{σ:St}{H:Hp}(h: ∀{U:St->Hp->Prop},(∀{σ' H'},u D σ' H'->U σ' H')->t {D with nx:=U} σ H):zCn t u D σ H:=h (U:=u D) fun z=>z
theorem fs{N P:List Str}{sc:Scope}(a:sc.kind= .function:=by rfl)(b:sc.isCoroutine=false:=by rfl)(c:sc.isGenerator=false:=by rfl)(d:N.Nodup:=by decide+kernel)(e:N.take P.length=P:=by rfl)
  (f: ∀x∈P,sc.names.lookup x=some .local\/sc.names.lookup x=some .cell:=by decide+kernel) (g: ∀y∈sc.names,y.2≠ .free:=by decide+kernel):FnScope N P sc:=⟨a,b,c,d,e,f,g⟩
abbrev zCh(ifs:List Expr)(env:Env):Sem Bool:=forIn ifs true fun c r=>if r=true then do let ok<-isTrue c env (eval c env);pure (ForInStep.yield ok) else pure (ForInStep.yield r)
theorem yX{E:Value->Shared->Prop}{α:Type}{t:Sem α}{Q:α->Shared->Prop}(h:wpAny (model P w) A t Q (fun _ _=>False) s):wpAny (model P w) A t Q (notedBy (model P w) A env E) s:=zUf h (fun _ _ z=>z) fun _ _ z=>z.elim
theorem zLY{R:Result->Shared->Prop}(J:Nat->Shared->Prop)
  (turn: ∀n s,J n s->wpAny (model P w) A (pyNext it) (fun r s1=>match r with
   | none=>R (.ok .next) s1
   | some v=>wpAny (model P w) A (letOwnedTupleGo target it v) (fun _ s1'=>wpAny (model P w) A (assign target env v) (fun _ s2=>wpAny (model P w) A (zCh ifs env) (fun ok s3=>
     if ok=true then wpAny (model P w) A (eval elt env) (fun x s4=>wpAny (model P w) A (call (.builtin "list.append") [acc,x]) (fun _ s5=> ∃m,m<n/\J m s5) (fun _ _=>False) s4) (fun _ _=>False) s3
     else∃m,m<n/\J m s3) (fun _ _=>False) s2) (fun _ _=>False) s1') (fun _ _=>False) s1) (fun _ _=>False) s)
  (n:Nat) (h:J n s):codeAny (model P w) A (.compLoop (.ListComp elt [⟨target,iter,ifs,0⟩] scope pos) 0 it acc env) R s:=by
 refine codeAny_loop rfl J (fun n s hJ=>?_) n h;show wpAny _ A ((compTurn (.ListComp elt [⟨target,iter,ifs,0⟩] scope pos) 0 it acc env).onRaise _) _ _ s;refine wpAny_noted ?_;rw [compTurn_list];refine zUL (wpAny_standAt (zUL (zUf (yX (turn n s hJ)) (fun r s1 h1=>?_) fun _ _ z=>z)));cases r with
 | none=>exact zUQ h1
 | some v=>
  refine zUL (zUf (yX h1) (fun _ s2 h3=>zUL (zUf (yX h3) (fun _ s3 h4=>zUL (zUf (yX h4) (fun ok s4 h5=>?_) fun _ _ z=>z)) fun _ _ z=>z)) fun _ _ z=>z);cases ok with
  | false=>exact zUQ ⟨rfl,h5⟩
  | true=>exact zUL (zUL (zUf (yX h5) (fun x s5 h6=>zUL (zUf (yX h6) (fun _ s6 h7=>zUQ (zUQ ⟨rfl,h7⟩)) fun _ _ z=>z)) fun _ _ z=>z))
def PTs(X:Cx)(ifs:List Expr)(t:TT):Prop:=(ifs= [] /\t=fun _ H Q=>Q true H)\/ ∃c,ifs= [c] /\PT X c t
def zFy(wi:TI)(g:TG)(tt:TT)(te:TE)(n:Nat)(fr:List Nat):TE:=fun σ H Q=>wi σ H fun J H1=> ∀D,H1 D=none-> ∃W:Nat->Nat->List V->Hp->Prop,(∃m,W 0 m [] (upd H1 D (.lst [])))/\ ∀i m ys H,W i m ys H->
 H D=some (.lst ys)/\((J.stop i H/\Q (.ref D) H)\/(J.go i H/\ys.length<sizeLine/\ ∃N:List V->Hp->Prop,(∀ys' H',N ys' H'-> ∃m',m'<m/\W (i+1) m' ys' H')/\
  ∀x H',J.yld i H x H'-> ∀pre:St,pre.length=n->g x (pre++yQ fr σ) H' fun σ2 H2=>(∃yj:St,yj.length=n/\σ2=yj++yQ fr σ)/\
   tt σ2 H2 fun b H3=>if b=true then te σ2 H3 fun y H4=>H4 D=some (.lst ys)/\N (ys++ [y]) (upd H4 D (.lst (ys++ [y]))) else N ys H3))
theorem zNT{X:Cx}(hcm:X.calm=true)
  (hi:PI X tg iter wi) (hclos:closureFor scope X.env=pure cl) (hcell: ∀y∈scope.names,y.2≠ .cell) (hkind:scope.kind= .function) (hnames: ∀y∈scope.names,y.2= .local->scope.names.lookup y.1=some .local)
  (hcl: ∀y a,cl.lookup y=some a->X.env.cells.lookup y=some a)
  (hlen:ys.length=fr.length) (hfr: ∀(j:Nat) y i,ys[j]?=some y->fr[j]?=some i->X.N[i]?=some y/\X.env.kindOf y=some .cell/\(relabel scope X.env).names.lookup y=some .cell/\ ∃a,cl.lookup y=some a/\X.env.cells.lookup y=some a)
  (hhas: ∀y,((relabel scope X.env).names.lookup y=some .cell\/(relabel scope X.env).names.lookup y=some .free)-> ∃a,cl.lookup y=some a)
  (hg: ∀C s₂ H₂ fp,PG (X.comp scope cl C (zs++ys) s₂ H₂ fp) tg g) (hc: ∀C s₂ H₂ fp,PTs (X.comp scope cl C (zs++ys) s₂ H₂ fp) ifs tt) (he: ∀C s₂ H₂ fp,PE (X.comp scope cl C (zs++ys) s₂ H₂ fp) elt te) (hs: ∀v,foldedSetIterable iter X.env v=pure v:=by intro _;rfl):
  PE X (.ListComp elt [⟨tg,iter,ifs,0⟩] scope pos) (zFy wi g tt te zs.length fr):=by
 intro pins s σ H Q I h;rw [eval_ListComp];refine wpAny_comprehension_free (use:=none) rfl hs hclos hkind hnames (zV (hi pins s σ H _ I h) fun v s1 h1=>zV h1 fun itv s2 h2=>?_);obtain ⟨it,fp,tn,J,H2,e,I2,T,st2,f2,h2⟩:=h2;subst e;have hD:H2 s2.heap.objs.size=none:=I2.hok.fresh (zUO _);obtain ⟨W,⟨m0,w0⟩,turn⟩:=h2 s2.heap.objs.size hD;refine wpAny_newObj_type (wpAny_newFunctionEnv hcell (by intro y hy;simp at hy) (fun h₁ hns₁ hsb₁=>?_) hkind);dsimp only at hns₁ hsb₁⊢;generalize hH3:s2.heap.push {cls:= .type "list",dict:=none,data:= .seq ([] :List Value).toArray}=H3 at hns₁ hsb₁⊢;have hCs:H3.objs.size=s2.heap.objs.size+1:=by rw [<-hH3,Heap.size_push]
 have old: ∀b o,s2.heap.get? b=some o->h₁.get? b=some o:=fun b o e=>
  hsb₁.extBut b o (zUS (by have:=zAE e;omega)) (zUM _ (hH3▸zUM _ e))
 have hacc:h₁.get? s2.heap.objs.size=some {cls:= .type "list",dict:=none,data:= .seq ([] :List Value).toArray}:=
  hsb₁.extBut _ _ (zUS (by omega)) (zUM _ (hH3▸zUd _ rfl))
 have fplt: ∀b∈fp,@LT.lt Nat _ b s2.heap.objs.size:=fun b hb=>by
  obtain ⟨o,e,_⟩:=T.obj _ _ st2 b hb;exact zAE e
 have okC:(X.comp scope cl H3.objs.size (zs++ys) s2 H2 fp).Ok:=by
  refine ⟨I2.ok.mod,hkind,I2.ok.glob,I2.ok.blt,?_,fun y z a h1 h2=>I2.ok.inj y z a (hcl y a h1) (hcl z a h2),fun y hy=>hhas y hy,fun y a z _=>(nomatch z),I2.ok.hd,I2.ok.frames,.inl rfl,fun b hb=>⟨?_,fun y a e z=>?_⟩,I2.bs,zUY I2.ok.bsz I2.sz,fun b o e hb=>?_,fun b hb z=>?_,I2.stack,I2.stkFree⟩
  ·show s2.heap.objs.size<=H3.objs.size;omega
  ·show b≠H3.objs.size;have:=fplt b hb;exact zUS (by omega)
  ·exact (f2 b hb).2.2.2.2.1 y a (hcl y a e) z
  ·rcases (f2 b hb).2.2.2.1 with z | z
   ·exact I2.ok.noex b o e z
   ·have z': @LE.le Nat _ X.s₀.heap.objs.size b:=z;have: @LT.lt Nat _ b X.base.objs.size:=zAE e;have:=I2.ok.bsz;omega
  ·rcases zVL.mp (I2.stkSub b z) with y | y
   ·exact (f2 b hb).2.1 y
   ·exact (f2 b hb).2.2.1 y
 have fpok: ∀{H':Hp},(∀b∈fp,H' b=none)-> ∀b∈fp,zDh (X.comp scope cl H3.objs.size (zs++ys) s2 H2 fp) [] H' b:=fun hn b hb=>
  ⟨hn b hb,(okC.exf b hb).1,okC.exfs b hb,.inl hb,(okC.exf b hb).2,fun p hp=>absurd hp (by simp)⟩
 have cellC: ∀y a,cl.lookup y=some a-> ∃v,s2.heap.IsCell a v:=fun y a e=>I2.cell y a (hcl y a e);have start:Inv (X.comp scope cl H3.objs.size (zs++ys) s2 H2 fp) [] (List.replicate zs.length none++yQ fr σ) (upd H2 s2.heap.objs.size (.lst [])) {s2 with heap:=h₁,toks:=s2.toks+([] :List (Str×Value)).length}:=by
  refine ⟨okC,rfl,I2.bare,Un.laid old (zUO _) hD,⟨_,hns₁,fun j y v e1 e2 e3=>?_⟩,fun y a e=>?_,?_,fun y a e=>?_,fun p hp=>absurd hp (by simp),I2.hok.laid old (zUO _) ⟨zUZ _,[],_,.nil,hacc⟩,?_⟩
  ·by_cases hj:j<zs.length
   ·rw [List.getElem?_append_left (by simpa using hj),List.getElem?_replicate] at e2;rw [if_pos hj] at e2;cases e2
   ·obtain ⟨j,rfl⟩: ∃k,j=zs.length+k:=⟨j - zs.length,by omega⟩;have e1':ys[j]?=some y:=by
     have z:=e1;simp only [Cx.comp] at z;rw [List.getElem?_append_right (by omega)] at z;simpa using z
    have e2':(yQ fr σ)[j]?=some (some v):=by
     rw [List.getElem?_append_right (by simp)] at e2;simpa using e2
    unfold yQ at e2';rw [zUP] at e2';cases q:fr[j]? with
    | none=>rw [q] at e2';cases e2'
    | some i=>
     rw [q] at e2';have e4:(σ[i]?).getD none=some v:=Option.some.inj e2';have e5:σ[i]?=some (some v):=by
      cases q2:σ[i]? with
      | none=>rw [q2] at e4;cases e4
      | some z=>rw [q2] at e4;exact congrArg some e4
     obtain ⟨hN,hk,hl,a,ha,ha'⟩:=hfr j y i e1' q;obtain ⟨m,_,hl2⟩:=I2.loc;obtain ⟨u,r,l⟩:=hl2 i y v hN e5 (.inr (.inl hk));refine ⟨u,r,.inr ⟨.inl hl,a,ha,?_⟩⟩;rcases l with ⟨k,_⟩|⟨_,a2,ea,z⟩
     ·rw [hk] at k;cases k
     ·rw [ha'] at ea;cases ea;obtain ⟨o,ho,hd⟩:=z;exact ⟨o,old _ _ ho,hd⟩
  ·obtain ⟨v,o,ho,hd⟩:=cellC y a e;exact ⟨v,o,old _ _ ho,hd⟩
  ·show upd H2 s2.heap.objs.size (.lst []) H3.objs.size=none;rw [zG (by first | exact zUS (by omega)| exact zUz (by omega))];exact I2.hok.fresh (by omega)
  ·obtain ⟨v,o,ho,hd⟩:=cellC y a e;have:=zAE ho;rw [zG (by first | exact zUS (by omega)| exact zUz (by omega))];exact I2.freeC y a (hcl y a e)
  ·show (List.replicate zs.length none++yQ fr σ).length=(zs++ys).length;unfold yQ;simp [hlen]
 have loop: ∀s₃:Shared,s₃={s2 with heap:=h₁,toks:=s2.toks+([] :List (Str×Value)).length}->
   codeAny (model X.prog X.w) X.A (.compLoop (.ListComp elt [⟨tg,iter,ifs,0⟩] scope pos) 0 (.ref it) (.ref s2.heap.objs.size) (compEnvC scope cl H3.objs.size X.env)) (compPost (model X.prog X.w) X.A X.xe none (EP X pins σ Q) (.ref s2.heap.objs.size) H3.objs.size) s₃:=by
  rintro s₃ rfl;refine zLY (fun n s'=> ∃i pre ys' H',pre.length=zs.length/\Inv (X.comp scope cl H3.objs.size (zs++ys) s2 H2 fp) [] (pre++yQ fr σ) H' s'/\tn i s'.heap/\(∀b∈fp,H' b=none)/\W i n ys' H') ?_ m0
   ⟨0,List.replicate zs.length none,[],_,by simp,start,T.keep _ _ _ st2 fun b hb o e=>old b o e,fun b hb=>by
    have:=fplt b hb;rw [zG (by first | exact zUS (by omega)| exact zUz (by omega))];exact (f2 b hb).1,w0⟩
  rintro n s3 ⟨i,pre,ys3,H',hpl,I3,st3,fr3,w3⟩;obtain ⟨hl3,alt⟩:=turn i n ys3 H' w3;rcases alt with ⟨stop,qn⟩|⟨go,hz,N,hN,step⟩
  ·refine zUf (T.done (X.comp scope cl H3.objs.size (zs++ys) s2 H2 fp) rfl rfl rfl hcm i [] s3 _ H' (fun _ _=>False) I3 (fpok fr3) st3 stop) (fun r s4 h4=>?_) fun _ _ z=>z.elim;obtain ⟨hr,I4⟩:=h4;subst hr;obtain ⟨m4,hn4,_⟩:=id I4.loc;refine ⟨m4,hn4,fun h'' hs''=>?_⟩;have hb: ∀b o,b≠H3.objs.size->s4.heap.get? b=some o->h''.get? b=some o:=fun b o hb e=>(hs''.2 b hb).trans e;have I5:Inv X pins σ H' {s4 with heap:=h''}:=by
    refine I2.call' (s':={s4 with heap:=h''}) (ch:=fp) I4.os ⟨fun b o e n hb' hx'=>?_,fun b o e n hb' hx'=>?_,fun b o e n hx'=>I4.base.free b o e n hx',fun b o e hx'=>?_,I4.base.tups,I4.base.frzs,I4.base.tbls⟩ (fun b u e=>?_) I4.bare fun b hb'=>⟨(f2 b hb').2.2.2.1,(f2 b hb').2.1,(f2 b hb').2.2.2.2.1,(f2 b hb').2.2.2.2.2⟩
    ·exact hb b o (zUS (by have:=zAE e;omega)) (I4.base.keep b o e n hb' hx')
    ·obtain ⟨sl,q⟩:=I4.base.slot b o e n hb' hx';exact ⟨sl,hb b _ (zUS (by have:=zAE e;omega)) q⟩
    ·obtain ⟨o',q⟩:=I4.base.there b o e hx';exact ⟨o',hb b _ (zUS (by have:=zAE e;omega)) q⟩
    ·refine (I4.hok b u e).stay (fun c' w' hc' q=>hb c' w' ?_ q) (fun _ q=>q) fun _ _ q=>q;intro z;have fz:H' H3.objs.size=none:=I4.free;rcases hc' with y | y
     ·rw [<-y,z,fz] at e;cases e
     ·rw [z,fz] at y;cases y
   exact ⟨.ref s2.heap.objs.size,H',I5,rfl,qn⟩
  ·refine zUf (T.item (X.comp scope cl H3.objs.size (zs++ys) s2 H2 fp) rfl rfl rfl hcm i [] s3 _ H' (fun _ _=>False) I3 (fpok fr3) st3 go) (fun r s4 h4=>?_) fun _ _ z=>z.elim;obtain ⟨u,hr,h4⟩:=h4;subst hr;dsimp only;have asg:wpAny (model X.prog X.w) X.A (letOwnedTupleGo tg (.ref it) u) (fun _ s5=>wpAny (model X.prog X.w) X.A (assign tg (compEnvC scope cl H3.objs.size X.env) u)
     (fun _ s6=> ∃σ5 H6,(∃pn5,Inv (X.comp scope cl H3.objs.size (zs++ys) s2 H2 fp) pn5 σ5 H6 s6/\(∀b∈fp,∃o,(b,o)∈pn5))/\((∃yj:St,yj.length=zs.length/\σ5=yj++yQ fr σ)/\
      tt σ5 H6 fun b H3'=>if b=true then te σ5 H3' fun y H4=>H4 s2.heap.objs.size=some (.lst ys3)/\N (ys3++ [y]) (upd H4 s2.heap.objs.size (.lst (ys3++ [y]))) else N ys3 H3')/\tn (i+1) s6.heap/\ ∀b∈fp,H6 b=none) (fun _ _=>False) s5) (fun _ _=>False) s4:=by
    refine (zV h4 fun _ s5 ⟨x5,H5,I5,r5,y5,st5,fr5⟩=>?_);have I5':=I5.pinned (fpok fr5) (T.obj _ _ st5);refine zUf (hg _ _ _ _ _ s5 _ H5 x5 u _ I5' r5 (step x5 H5 y5 pre hpl)) (fun _ s6 ⟨σ6,H6,I6,q6⟩=>?_) fun _ _ z=>z.elim;exact ⟨σ6,H6,⟨_,I6,fun b hb=>by
     obtain ⟨o,e,_⟩:=T.obj _ _ st5 b hb;exact ⟨o,zUa _ (zAL hb e)⟩⟩,q6,T.keep _ _ _ st5 fun b hb o e=>(I6.pin (b,o) (zUa _ (zUa _ (zAL hb e)))).1,fun b hb=>by
     obtain ⟨o,e,_⟩:=T.obj _ _ st5 b hb;exact (I6.pin (b,o) (zUa _ (zUa _ (zAL hb e)))).2.1⟩
   refine zUf asg (fun _ s5 h5=>zUf h5 (fun _ s6 h6=>?_) fun _ _ z=>z.elim) fun _ _ z=>z.elim;obtain ⟨σ5,H5,⟨pn5,I6,hp6⟩,⟨⟨yj,hl2,rfl⟩,q6⟩,st6,fr5⟩:=h6;have keepTurn: ∀{σ7:St} {H7:Hp} {s7:Shared},Inv (X.comp scope cl H3.objs.size (zs++ys) s2 H2 fp) pn5 σ7 H7 s7->tn (i+1) s7.heap/\ ∀b∈fp,H7 b=none:=fun {σ7 H7 s7} I7=>by
    refine ⟨T.keep _ _ _ st6 fun b hb o e=>?_,fun b hb=>?_⟩
    ·obtain ⟨o',hm⟩:=hp6 b hb;have a1:=(I6.pin (b,o') (zUa _ hm)).1;rw [e] at a1;cases a1;exact (I7.pin (b,_) (zUa _ hm)).1
    ·obtain ⟨o',hm⟩:=hp6 b hb;exact (I7.pin (b,o') (zUa _ hm)).2.1
   have drop: ∀{σ7:St} {H7:Hp} {s7:Shared},Inv (X.comp scope cl H3.objs.size (zs++ys) s2 H2 fp) pn5 σ7 H7 s7->Inv (X.comp scope cl H3.objs.size (zs++ys) s2 H2 fp) [] σ7 H7 s7:=fun I7=>I7.pins_of fun p hp=>absurd hp (by simp);have tests:wpAny (model X.prog X.w) X.A (zCh ifs (compEnvC scope cl H3.objs.size X.env)) (fun b s7=> ∃H7,Inv (X.comp scope cl H3.objs.size (zs++ys) s2 H2 fp) pn5 (yj++yQ fr σ) H7 s7/\
     (if b=true then te (yj++yQ fr σ) H7 fun y H4=>H4 s2.heap.objs.size=some (.lst ys3)/\N (ys3++ [y]) (upd H4 s2.heap.objs.size (.lst (ys3++ [y]))) else N ys3 H7)) (fun _ _=>False) s6:=by
    rcases hc H3.objs.size s2 H2 fp with ⟨rfl,rfl⟩|⟨c,rfl,hc2⟩
    ·exact wpAny_tests_nil ⟨H5,I6,q6⟩
    ·exact wpAny_tests_one (zUf (hc2 pn5 s6 _ H5 _ I6 q6) (fun b s7 ⟨H7,I7,q7⟩=>⟨H7,I7,q7⟩) fun _ _ z=>z.elim)
   refine zUf tests (fun b s7 h7=>?_) fun _ _ z=>z.elim;obtain ⟨H7,I7,q7⟩:=h7;cases b with
   | false=>
    obtain ⟨m',hm,w'⟩:=hN _ _ q7;obtain ⟨k1,k2⟩:=keepTurn I7;exact ⟨m',hm,i+1,yj,ys3,H7,hl2,drop I7,k1,k2,w'⟩
   | true=>
    refine zUf (he _ _ _ _ pn5 s7 _ H7 _ I7 q7) (fun y s8 h8=>?_) fun _ _ z=>z.elim;obtain ⟨yv,H8,I8,r8,hl8,n8⟩:=h8;refine zUf (zEA (X:=X.comp scope cl H3.objs.size (zs++ys) s2 H2 fp) pn5 s8 _ H8 (.ref s2.heap.objs.size) [yv] (.ref s2.heap.objs.size) [y] (fun z H9=>N (ys3++ [yv]) H9) I8 rfl (.cons r8 .nil) ⟨s2.heap.objs.size,ys3,yv,rfl,rfl,hl8,hz,n8⟩) (fun _ s9 h9=>?_) fun _ _ z=>z.elim;obtain ⟨_,H9,I9,_,n9⟩:=h9;obtain ⟨m',hm,w'⟩:=hN _ _ n9;obtain ⟨k1,k2⟩:=keepTurn I9;exact ⟨m',hm,i+1,yj,ys3++ [yv],H9,hl2,drop I9,k1,k2,w'⟩
 exact codeAny_compStart_list (loop _ rfl) (T.self X.A 0 _ _ _ (T.keep _ _ _ st2 fun b hb o e=>old b o e) (loop _ rfl))
structure QTs(X:Cx)(ifs:List Expr)(t:TT):Prop where
 out:PTs X ifs t
theorem zBh{X:Cx}:QTs X [] (fun _ H Q=>Q true H):=⟨.inl ⟨rfl,rfl⟩⟩
theorem zBJ{X:Cx}(h:QT X c t):QTs X [c] t:=⟨.inr ⟨c,rfl,h.out⟩⟩
theorem zQO{X:Cx}(zs:List Str)(ys:List Str)(fr:List Nat)(hcm:X.calm=true)
  (hi:QI X tg iter wi) (hclos:closureFor scope X.env=pure cl) (hcell: ∀y∈scope.names,y.2≠ .cell) (hkind:scope.kind= .function) (hnames: ∀y∈scope.names,y.2= .local->scope.names.lookup y.1=some .local)
  (hcl: ∀y a,cl.lookup y=some a->X.env.cells.lookup y=some a)
  (hlen:ys.length=fr.length) (hfr: ∀(j:Nat) y i,ys[j]?=some y->fr[j]?=some i->X.N[i]?=some y/\X.env.kindOf y=some .cell/\(relabel scope X.env).names.lookup y=some .cell/\ ∃a,cl.lookup y=some a/\X.env.cells.lookup y=some a)
  (hhas: ∀y,((relabel scope X.env).names.lookup y=some .cell\/(relabel scope X.env).names.lookup y=some .free)-> ∃a,cl.lookup y=some a)
  (hg: ∀C s₂ H₂ fp,QG (X.comp scope cl C (zs++ys) s₂ H₂ fp) tg g) (hc: ∀C s₂ H₂ fp,QTs (X.comp scope cl C (zs++ys) s₂ H₂ fp) ifs tt) (he: ∀C s₂ H₂ fp,QE (X.comp scope cl C (zs++ys) s₂ H₂ fp) elt te) (hs: ∀v,foldedSetIterable iter X.env v=pure v):
  QE X (.ListComp elt [⟨tg,iter,ifs,0⟩] scope pos) (zFy wi g tt te zs.length fr):=
 ⟨zNT hcm hi.out hclos hcell hkind hnames hcl hlen hfr hhas (fun C s H f=>(hg C s H f).out) (fun C s H f=>(hc C s H f).out) (fun C s H f=>(he C s H f).out) hs⟩
section
variable {K:zVK}{g:TG}{tt:TT}{te:TE}{n:Nat}{fr:List Nat}{σ:St}{H:Hp}{Q:VK}
def zFQ(g:TG)(tt:TT)(te:TE)(n:Nat)(suf:St)(D:Addr)(x:V)(ys:List V)(H:Hp)(N:List V->Hp->Prop):Prop:=
 ∀pre:St,pre.length=n->g x (pre++suf) H fun σ2 H2=>(∃yj:St,yj.length=n/\σ2=yj++suf)/\tt σ2 H2 fun b H3=>if b=true then te σ2 H3 fun y H4=>H4 D=some (.lst ys)/\N (ys++ [y]) (upd H4 D (.lst (ys++ [y]))) else N ys H3
end
theorem zAa{X:Cx}{x:Str}{C:Addr}{e₀:Expr}{rest:List Expr}{t:TA}{E:St->XK}{np cpos pos:Pos}
  (q:PySem.W.excIn X.K C [.type "ValueError",.type "Exception",.type "BaseException",.type "object"] "ValueError.__new__" =true) (hr:zEd X E) (hc:X.calm=true) (hg:Gl X x) (hm:X.mg x=some (.ref C)) (ha:QA X (e₀::rest) t)
  (hdb:(x==("__debug__" :Str))=false) (h2:yV e₀=true) (h3:yl rest=true):QS X (.Raise (some (.Call (.Name x np) (e₀::rest) [] cpos)) none pos) (zMJ C E t):=
 ⟨zCQ PySem.F.excBase_ValueError q hr hc hg hm ha.out hdb (zh h2) (yx h3)⟩
section
variable {κ:Type}[DecidableEq κ]
def yI(kvs:List (κ×V))(k:κ):Option V:=(kvs.find? fun kv=>decide (kv.1=k)).map (·.2)
def zAP(kvs:List (κ×V))(k:κ)(v:V):List (κ×V):=
 if (kvs.any fun kv=>decide (kv.1=k))=true then kvs.map (fun kv=>if kv.1=k then (kv.1,v) else kv) else kvs++ [(k,v)]
def zAf(kvs:List (κ×V))(k:κ):List (κ×V):=kvs.filter fun kv=>decide (kv.1≠k)
theorem zNU{k:κ}:yI ([] :List (κ×V)) k=none:=rfl
theorem zAb{p:κ×V}{r:List (κ×V)}{k:κ}(e:p.1=k):yI (p::r) k=some p.2:=by simp [yI,zVb,e]
theorem zAd{p:κ×V}{r:List (κ×V)}{k:κ}(e: ¬p.1=k):yI (p::r) k=yI r k:=by simp [yI,zVb,e]
theorem zCV(k:κ): ∀kvs:List (κ×V),(kvs.any fun kv=>decide (kv.1=k))=(yI kvs k).isSome
 | [] =>rfl
 | p::r=>by
  rw [List.any_cons];by_cases e:p.1=k
  ·simp only [zAb e,zUi e,Bool.true_or,Option.isSome_some]
  ·rw [zAd e,zUl e,Bool.false_or];exact zCV k r
theorem zCq(kvs:List (κ×V))(k:κ)(v:V):(zAP kvs k v).length<=kvs.length+1:=by
 unfold zAP;split
 ·rw [zUR];omega
 ·rw [zUn,zVT,List.length_nil];omega
theorem zDe{kvs:List (κ×V)}{k:κ}(v:V)(h:yI kvs k=none):zAP kvs k v=kvs++ [(k,v)] :=by
 unfold zAP;rw [zCV,h];exact if_neg (by decide)
theorem zAC.isSome_eq{o:Option V}{u:Option Value}(r:zAC o u):o.isSome=u.isSome:=by
 cases o with
 | none=>cases u with
  | none=>rfl
  | some _=>exact (show False from r).elim
 | some _=>cases u with
  | none=>exact (show False from r).elim
  | some _=>rfl
theorem zAC.getD{o:Option V}{u:Option Value}{d:V}{d':Value}(r:zAC o u)(rd:zU d d'):zU (o.getD d) (u.getD d'):=by
 cases o with
 | none=>cases u with
  | none=>exact rd
  | some _=>exact (show False from r).elim
 | some _=>cases u with
  | none=>exact (show False from r).elim
  | some _=>exact r
theorem KV.val{kvs:List (κ×V)}{vs:List (κ×Value)}(r:KV kvs vs)(k:κ):zAC (yI kvs k) (valueAt vs k):=by
 unfold KV at r
 induction r with
 | nil=>exact True.intro
 | @cons p q ps qs h t ih=>
  obtain ⟨h1,h2⟩:=h;by_cases e:p.1=k
  ·have e':q.1=k:=h1.symm.trans e;have b:valueAt (q::qs) k=some q.2:=by simp [valueAt,zVb,e']
   rw [zAb e,b];exact h2
  ·have e': ¬q.1=k:=fun z=>e (h1.trans z);have b:valueAt (q::qs) k=valueAt qs k:=by simp [valueAt,zVb,e']
   rw [zAd e,b];exact ih
theorem KV.any{kvs:List (κ×V)}{vs:List (κ×Value)}(r:KV kvs vs)(k:κ):(kvs.any fun kv=>decide (kv.1=k))=vs.any fun kv=>decide (kv.1=k):=by
 unfold KV at r
 induction r with
 | nil=>rfl
 | cons h t ih=>rw [List.any_cons,List.any_cons,ih,h.1]
theorem KV.repl{kvs:List (κ×V)}{vs:List (κ×Value)}(r:KV kvs vs)(k:κ){y:V}{u:Value}(ry:zU y u):
  KV (kvs.map fun kv=>if kv.1=k then (kv.1,y) else kv) (vs.map fun kv=>if kv.1=k then (kv.1,u) else kv):=by
 unfold KV at r⊢
 induction r with
 | nil=>exact .nil
 | @cons p q ps qs h t ih=>
  rw [zVP,zVP];refine .cons ?_ ih;obtain ⟨h1,h2⟩:=h;by_cases e:p.1=k
  ·rw [if_pos e,if_pos (h1.symm.trans e)];exact ⟨h1,ry⟩
  ·rw [if_neg e,if_neg (fun z=>e (h1.trans z))];exact ⟨h1,h2⟩
theorem KV.put{kvs:List (κ×V)}{vs:List (κ×Value)}(r:KV kvs vs)(k:κ){y:V}{u:Value}(ry:zU y u):KV (zAP kvs k y) (stored vs k u):=by
 unfold zAP stored;rw [r.any k];by_cases e:(vs.any fun kv=>decide (kv.1=k))=true
 ·rw [if_pos e,if_pos e];exact r.repl k ry
 ·rw [if_neg e,if_neg e];exact Paired.snoc r ⟨rfl,ry⟩
theorem KV.drop{kvs:List (κ×V)}{vs:List (κ×Value)}(r:KV kvs vs)(k:κ):KV (zAf kvs k) (without vs k):=by
 unfold KV at r⊢;unfold zAf without
 induction r with
 | nil=>exact .nil
 | @cons p q ps qs h t ih=>
  obtain ⟨h1,h2⟩:=h;rw [List.filter_cons,List.filter_cons];by_cases e:p.1=k
  ·have a: ¬decide (p.1≠k)=true:=by simp [e]
   have b: ¬decide (q.1≠k)=true:=by simp [h1.symm.trans e]
   rw [if_neg a,if_neg b];exact ih
  ·have e': ¬q.1=k:=fun z=>e (h1.trans z);have a:decide (p.1≠k)=true:=by simp [e]
   have b:decide (q.1≠k)=true:=by simp [e']
   rw [if_pos a,if_pos b];exact .cons ⟨h1,h2⟩ ih
theorem KV.keys{kvs:List (κ×V)}{vs:List (κ×Value)}(r:KV kvs vs):kvs.map (·.1)=vs.map (·.1):=by
 unfold KV at r
 induction r with
 | nil=>rfl
 | cons h t ih=>rw [zVP,zVP,ih,h.1]
theorem KV.length{kvs:List (κ×V)}{vs:List (κ×Value)}(r:KV kvs vs):kvs.length=vs.length:=Paired.length r
theorem zOI(kvs:List (κ×V))(k:κ):(zAf kvs k).length<=kvs.length:=zVc _ _
end
theorem zCK{P:Program}{w:World}{k:Key}{u:Value}(r:zU (kV k) u):(zu P w).is k u=true:=by
 cases k with
 | inl i=>obtain ⟨t,e⟩:=(show∃t,u=Value.int i t from r);subst e;exact zJa P w i t
 | inr x=>obtain ⟨t,e⟩:=(show∃t,u=Value.str x t from r);subst e;exact zJh P w x t
theorem zHf{P:Program}{w:World}: ∀{ks:List Key} {us:List Value},zS (ks.map kV) us->ItemsAre (zu P w) ks us
 | [],_,r=>by rw [List.map_nil] at r;cases r;exact .nil
 | k::ks,_,r=>by
  rw [zVP] at r;cases r with
  | cons h t=>exact .cons (zCK h) (zHf t)
abbrev KT(H:Hp):List (List Key×V)->List (List Key×Addr×Value)->Prop:=Paired fun p q=>p.1=q.1/\H q.2.1=some (.tup (p.1.map kV))/\zU p.2 q.2.2
theorem KT.val{H:Hp}{kvs:List (List Key×V)}{xs:List (List Key×Addr×Value)}(r:KT H kvs xs)(k:List Key):zAC (yI kvs k) ((atKey xs k).map (·.2)):=by
 induction r with
 | nil=>exact True.intro
 | @cons p q ps qs h t ih=>
  obtain ⟨h1,_,h2⟩:=h;by_cases e:p.1=k
  ·have e':q.1=k:=h1.symm.trans e;have b:atKey (q::qs) k=some q.2:=by simp [atKey,zVb,e']
   rw [zAb e,b];exact h2
  ·have e': ¬q.1=k:=fun z=>e (h1.trans z);have b:atKey (q::qs) k=atKey qs k:=by simp [atKey,zVb,e']
   rw [zAd e,b];exact ih
theorem KT.repl{H:Hp}{kvs:List (List Key×V)}{xs:List (List Key×Addr×Value)}(r:KT H kvs xs)(k:List Key){y:V}{u:Value}(ry:zU y u):
  KT H (kvs.map fun kv=>if kv.1=k then (kv.1,y) else kv) (xs.map (putAt k u)):=by
 induction r with
 | nil=>exact .nil
 | @cons p q ps qs h t ih=>
  rw [zVP,zVP];refine .cons ?_ ih;obtain ⟨h1,h2,h3⟩:=h;unfold putAt;by_cases e:p.1=k
  ·rw [if_pos e,if_pos (h1.symm.trans e)];exact ⟨h1,h2,ry⟩
  ·rw [if_neg e,if_neg (fun z=>e (h1.trans z))];exact ⟨h1,h2,h3⟩
theorem KT.put{H:Hp}{kvs:List (List Key×V)}{xs:List (List Key×Addr×Value)}(r:KT H kvs xs)(k:List Key){b:Addr}{y:V}{u:Value}(hb:H b=some (.tup (k.map kV)))(ry:zU y u):
  KT H (zAP kvs k y) (storedH xs k b u):=by
 have e:(kvs.any fun kv=>decide (kv.1=k))=(atKey xs k).isSome:=by
  rw [zCV,(r.val k).isSome_eq,Option.isSome_map]
 unfold zAP storedH;rw [e];by_cases q:(atKey xs k).isSome=true
 ·rw [if_pos q,if_pos q];exact r.repl k ry
 ·rw [if_neg q,if_neg q];exact Paired.snoc r ⟨rfl,hb,ry⟩
theorem KT.keeps{H H':Hp}{kvs:List (List Key×V)}{xs:List (List Key×Addr×Value)}(r:KT H kvs xs)(ht: ∀b ys,H b=some (.tup ys)->H' b=some (.tup ys)):KT H' kvs xs:=
 Paired.mapP r fun _ _ z=>⟨z.1,ht _ _ z.2.1,z.2.2⟩
section
variable {P:Program}{w:World}{H:Hp}{h:Heap}{a:Addr}
theorem zOT{u:HO}(ok:HOk P w H h)(e:Rd H a u):zj P w H h a u:=e.ok ok
theorem zAs{kvs:List (Key×V)}(ok:HOk P w H h)(e:Rd H a (.dK kvs)):kvs.length<=sizeLine/\(a==sysModules)=false/\ ∃vs,KV kvs vs/\h.DictOf (zu P w) a vs:=
 show zj P w H h a (.dK kvs) from zOT ok e
theorem zKj{kvs:List (Key×V)}(ok:HOk P w H h)(e:H a=some (.dK kvs)):kvs.length<=sizeLine/\(a==sysModules)=false/\ ∃vs,KV kvs vs/\h.DictOf (zu P w) a vs:=zAs ok (.inl e)
theorem zDB{ks:List Key}(ok:HOk P w H h)(e:H a=some (.tup (ks.map kV))):(tupleKind (zu P w)).is h ks a:=by
 obtain ⟨_,its,r,o,h1,h2,⟨n,h3⟩,_⟩:=(show zj P w H h a (.tup (ks.map kV)) from ok a _ e);exact ⟨o,its.toArray,n,h1,h2,h3,by simpa using zHf r⟩
theorem zDb{kvs:List (List Key×V)}(ok:HOk P w H h)(e:Rd H a (.dT kvs)):kvs.length<=sizeLine/\(a==sysModules)=false/\
  ∃xs,KT H kvs xs/\h.DictOfH (tupleKind (zu P w)) a xs:=by
 obtain ⟨z,y,xs,r,o,es,ep,h1,h2,h3,h4,h5⟩:=(show zj P w H h a (.dT kvs) from zOT ok e);refine ⟨z,y,xs,r,o,es,ep,h1,h2,h3,h4,fun x hx=>?_,h5⟩;have all: ∀{l:List (List Key×V)} {m:List (List Key×Addr×Value)},KT H l m-> ∀x∈m,(tupleKind (zu P w)).is h x.1 x.2.1:=by
  intro l m q
  induction q with
  | nil=>intro x hx;exact nomatch hx
  | @cons p q ps qs hq t ih=>
   intro x hx;rcases zVL.mp hx with e | hx
   ·subst e;exact zDB ok (by rw [<-hq.1];exact hq.2.1)
   ·exact ih x hx
 exact all r x hx
theorem zSv{kvs:List (List Key×V)}(ok:HOk P w H h)(e:H a=some (.dT kvs)):kvs.length<=sizeLine/\(a==sysModules)=false/\
  ∃xs,KT H kvs xs/\h.DictOfH (tupleKind (zu P w)) a xs:=zDb ok (.inl e)
end
def yr(H:Hp)(a:Addr)(y:V)(r:Option V):Prop:=
 (∃kvs k,Rd H a (.dK kvs)/\y=kV k/\r=yI kvs k)\/ ∃kvs k b,Rd H a (.dT kvs)/\y= .ref b/\H b=some (.tup (k.map kV))/\r=yI kvs k
def zCH(H:Hp)(a:Addr)(y v:V)(H':Hp):Prop:=
 (∃kvs k,H a=some (.dK kvs)/\y=kV k/\kvs.length<sizeLine/\H'=upd H a (.dK (zAP kvs k v)))\/
 ∃kvs k b,H a=some (.dT kvs)/\y= .ref b/\H b=some (.tup (k.map kV))/\kvs.length<sizeLine/\H'=upd H a (.dT (zAP kvs k v))
theorem yr.k{H:Hp}{a:Addr}{kvs:List (Key×V)}{k:Key}(e:H a=some (.dK kvs)):yr H a (kV k) (yI kvs k):= .inl ⟨kvs,k,.inl e,rfl,rfl⟩
theorem zCH.k{H:Hp}{a:Addr}{kvs:List (Key×V)}{k:Key}{v:V}(e:H a=some (.dK kvs))(hl:kvs.length<sizeLine):zCH H a (kV k) v (upd H a (.dK (zAP kvs k v))):= .inl ⟨kvs,k,e,rfl,hl,rfl⟩
section
variable {X:Cx}{pins:List (Addr×Obj)}{σ:St}{H:Hp}{s:Shared}{a:Addr}{y v:V}{u r:Value}{o:Option V}{A:Around}{E:Value->Shared->Prop}
theorem Inv.big(I:Inv X pins σ H s):sysModules<s.heap.objs.size:=by
 have h:mainGlobals<s.heap.objs.size:=(I.mod.glob.keeps I.bk).lt;exact Nat.lt_trans (by decide) h
theorem zMU{Q:Value->Shared->Prop}(hu:A.units+1<cLine)(I:Inv X pins σ H s)(g:yr H a y (some v))(ry:zU y u)(h: ∀w' s',Inv X pins σ H s'->zU v w'->Q w' s'):
  wpAny (model X.prog X.w) A (getItem (.ref a) u) Q E s:=by
 rcases g with ⟨kvs,k,e,ey,l⟩|⟨kvs,k,b,e,ey,eb,l⟩
 ·subst ey;obtain ⟨z,hd,vs,rel,dd⟩:=zAs I.hok e;obtain ⟨w',hw,rw'⟩:=zAC.some_of (v:=v) (o:=valueAt vs k) (by rw [l];exact rel.val k);exact wpAny_getItem_of (zCK ry) dd.mapOf hw (h w' _ (I.tok _) rw')
 ·subst ey;cases (show u=Value.ref b from ry);obtain ⟨z,hd,xs,rel,dd⟩:=zDb I.hok e;obtain ⟨w',hw,rw'⟩:=zAC.some_of (v:=v) (o:=(atKey xs k).map (·.2)) (by rw [l];exact rel.val k);obtain ⟨p,hp,hp2⟩:=Option.map_eq_some_iff.mp hw;refine wpAny_getItem_heap (tupleKind_room_in1 hu) (zDB I.hok eb) dd hp ?_;rw [hp2];exact h w' _ (I.tok _) rw'
theorem zTy{Q:Value->Shared->Prop}(hu:A.units+1<cLine)(I:Inv X pins σ H s)(g:yr H a y o)(ry:zU y u)(h: ∀s',Inv X pins σ H s'->Q (.bool o.isSome) s'):
  wpAny (model X.prog X.w) A (compareOp .In u (.ref a)) Q E s:=by
 rcases g with ⟨kvs,k,e,ey,l⟩|⟨kvs,k,b,e,ey,eb,l⟩
 ·subst ey;obtain ⟨z,hd,vs,rel,dd⟩:=zAs I.hok e;refine wpAny_in_of (zCK ry) hd dd.mapOf ?_;rw [<-(rel.val k).isSome_eq,<-l];exact h _ (I.tok _)
 ·subst ey;cases (show u=Value.ref b from ry);obtain ⟨z,hd,xs,rel,dd⟩:=zDb I.hok e;refine wpAny_in_heap (tupleKind_room_in1 hu) (zDB I.hok eb) hd dd ?_;have q:=(rel.val k).isSome_eq;rw [Option.isSome_map] at q;rw [<-q,<-l];exact h _ (I.tok _)
theorem zPg{Q:Value->Shared->Prop}(hu:A.units+1<cLine)(I:Inv X pins σ H s)(g:yr H a y o)(ry:zU y u)(h: ∀s',Inv X pins σ H s'->Q (.bool (!o.isSome)) s'):
  wpAny (model X.prog X.w) A (compareOp .NotIn u (.ref a)) Q E s:=by
 rcases g with ⟨kvs,k,e,ey,l⟩|⟨kvs,k,b,e,ey,eb,l⟩
 ·subst ey;obtain ⟨z,hd,vs,rel,dd⟩:=zAs I.hok e;refine wpAny_notIn_of (zCK ry) hd dd.mapOf ?_;rw [<-(rel.val k).isSome_eq,<-l];exact h _ (I.tok _)
 ·subst ey;cases (show u=Value.ref b from ry);obtain ⟨z,hd,xs,rel,dd⟩:=zDb I.hok e;refine wpAny_notIn_heap (tupleKind_room_in1 hu) (zDB I.hok eb) hd dd ?_;have q:=(rel.val k).isSome_eq;rw [Option.isSome_map] at q;rw [<-q,<-l];exact h _ (I.tok _)
theorem zEr{h':Heap}{t':Nat}{ob:HO}(I:Inv X pins σ H s)(mu:Mut (H a))(hs:Heap.SameBut a s.heap h')(he: ∃q,h'.get? a=some q)(new:zj X.prog X.w (upd H a ob) h' a ob):
  Inv X pins σ (upd H a ob) {s with heap:=h',toks:=t'}:=
 I.write (x:=a) (e:=a) mu (.inl rfl) (fun b q hb z=>(hs.2 b hb).trans z) he new
theorem zGP{P:Program}{w:World}{H':Hp}{h':Heap}{kvs:List (Key×V)}{vs:List (Key×Value)}(z:kvs.length<=sizeLine)(hd:(a==sysModules)=false)(rel:KV kvs vs)(dd:h'.DictOf (zu P w) a vs):
  zj P w H' h' a (.dK kvs):=⟨z,hd,vs,rel,dd⟩
theorem zMX{H':Hp}{Q:Unit->Shared->Prop}(hu:A.units+1<cLine)(I:Inv X pins σ H s)(g:zCH H a y v H')(ry:zU y u)(rv:zU v r)(h: ∀s',Inv X pins σ H' s'->Q () s'):
  wpAny (model X.prog X.w) A (setItem (.ref a) u r) Q E s:=by
 rcases g with ⟨kvs,k,e,ey,l,eH⟩|⟨kvs,k,b,e,ey,eb,l,eH⟩
 ·subst ey eH;obtain ⟨z,hd,vs,rel,dd⟩:=zKj I.hok e;have hz:vs.length<=sizeLine:=by rw [<-rel.length];exact z
  have hl:(zAP kvs k v).length<=sizeLine:=by have:=zCq kvs k v;omega
  refine wpAny_setItem_pairs (hsz:=hz) (zCK ry) dd fun h' dd' hs=>h _ ?_;have he: ∃q,h'.get? a=some q:=let ⟨q,_,_,hq,_⟩:=dd';⟨q,hq⟩;exact zEr I (by rw [e];exact True.intro) hs he (zGP hl hd (rel.put k rv) dd')
 ·subst ey eH;cases (show u=Value.ref b from ry);obtain ⟨z,hd,xs,rel,dd⟩:=zSv I.hok e;have hz:xs.length<=sizeLine:=by rw [<-Paired.length rel];exact z
  have hl:(zAP kvs k v).length<=sizeLine:=by have:=zCq kvs k v;omega
  refine wpAny_setItem_heap (hsz:=hz) (tupleKind_room_in1 hu) (zDB I.hok eb) dd fun h' dd' hs=>h _ ?_;obtain ⟨q,es,ep,hq,h2,h3,h4,_,h5⟩:=dd';refine zEr I (by rw [e];exact True.intro) hs ⟨q,hq⟩ ⟨hl,hd,_,(rel.put k eb rv).keeps fun c ys ec=>?_,q,es,ep,hq,h2,h3,h4,h5⟩;rw [zG (zDf ec e (fun z=>nomatch z))];exact ec
end
section
variable {X:Cx}{pins:List (Addr×Obj)}{σ:St}{H:Hp}{s:Shared}{a:Addr}{kvs:List (Key×V)}{k:Key}{u:Value}{A:Around}{E:Value->Shared->Prop}
theorem zTS{v:V}{more:List Value}{Q:Value->Shared->Prop}(I:Inv X pins σ H s)(e:H a=some (.dK kvs))(ry:zU (kV k) u)(l:yI kvs k=some v)(hm:more= [] \/ ∃x,more= [x])
  (h: ∀w' s',Inv X pins σ (upd H a (.dK (zAf kvs k))) s'->zU v w'->Q w' s'):wpAny (model X.prog X.w) A (call (.builtin "dict.pop") (.ref a::u::more)) Q E s:=by
 obtain ⟨z,hd,vs,rel,dd⟩:=zKj I.hok e;obtain ⟨w',hw,rw'⟩:=zAC.some_of (v:=v) (o:=valueAt vs k) (by rw [<-l];exact rel.val k);have hp:(keyPart u).isSome=true:=by
  cases k with
  | inl i=>obtain ⟨t,q⟩:=(show∃t,u=Value.int i t from ry);subst q;rfl
  | inr x=>obtain ⟨t,q⟩:=(show∃t,u=Value.str x t from ry);subst q;rfl
 have ha:argsOk "dict.pop" ⟨.ref a::u::more,[]⟩:=by
  rcases hm with q |⟨x,q⟩
  ·subst q;exact PySem.F.args_dict_pop_2 _ _
  ·subst q;exact PySem.F.args_dict_pop_3 _ _ _
 refine call_meetsIn PySem.F.slot_dict_pop dd.typeIs PySem.F.entry_dict_pop ha (meets_dict_pop_there (zu X.prog X.w) a (zCK ry) more hm hp)
  ⟨vs,w',dd,by rw [<-rel.length];exact z,hw,fun h' dd' hs=>h w' _ ?_ rw'⟩
 have he: ∃q,h'.get? a=some q:=let ⟨q,_,_,hq,_⟩:=dd';⟨q,hq⟩;exact zEr I (by rw [e];exact True.intro) hs he (zGP (zUY (zOI kvs k) z) hd (rel.drop k) dd')
theorem zTK{Q:Value->Shared->Prop}(I:Inv X pins σ H s)(e:Rd H a (.dK kvs))(h: ∀t s',Inv X pins σ H s'->Q (.int kvs.length t) s'):wpAny (model X.prog X.w) A (call (.builtin "len") [.ref a]) Q E s:=by
 obtain ⟨z,hd,vs,rel,dd⟩:=zAs I.hok e;refine call_len_dict hd dd (by rw [<-rel.length];rw [zUV] at z;omega) ?_;rw [<-rel.length];exact h _ _ (I.tok _)
end
def zNa(i:Expr):Prop:= ∀ov iv,subscripted i false ov iv=operate [ov,iv] (getItem ov iv)
theorem zPn{prog:Program}{w:World}{A:Around}{E:Value->Shared->Prop}{s:Shared}{env:Env}{value slice:Expr}{pos:Pos}{T id:String}{Q:Value->Shared->Prop}
  (hl:typeLookup (.type T) "__getitem__" =pure (some (.builtin id))) (hs:zNa slice)
  (h:wpAny (model prog w) A (eval value env) (fun o s₁=>wpAny (model prog w) A (eval slice env) (fun i s₂=>s₂.TypeIs o T/\wpAny (model prog w) A (getItem o i) Q E s₂) E s₁) E s):
  wpAny (model prog w) A (eval (.Subscript value slice pos) env) Q E s:=by
 refine Subscript_ (zUf h (fun o s₁ h₁=>zUf h₁ (fun i s₂ h₂=>?_) fun _ _ x=>x) fun _ _ x=>x);obtain ⟨hT,h₂⟩:=h₂;unfold subscriptTail;refine zUL ?_;rw [getitemInPython_of_ne hT.not_modules];refine zUL (wpAny_specialOf hT hl ?_);have fin:wpAny (model prog w) A (subscripted slice false o i) (fun r s₃=>wpAny (model prog w) A (letTemporaryGo value o r>>=fun _=>pure r) Q E s₃) E s₂:=by
  rw [hs o i];exact wpAny_operating (zUf h₂ (fun r s₃ h₃=>zUL (wpAny_letTemporaryGo (zUQ h₃))) fun _ _ x=>x)
 first
  | exact zUQ (zUL fin)
  | exact zUL (zUQ (zUL fin))
  | exact zUL fin
theorem zJf{X:Cx}{pins:List (Addr×Obj)}{σ:St}{H:Hp}{s:Shared}{a:Addr}{y:V}{o:Option V}(I:Inv X pins σ H s)(g:yr H a y o):s.TypeIs (.ref a) "dict" :=by
 rcases g with ⟨kvs,k,e,_,_⟩|⟨kvs,k,b,e,_,_,_⟩
 ·obtain ⟨_,_,vs,_,dd⟩:=zAs I.hok e;exact dd.typeIs
 ·obtain ⟨_,_,xs,_,dd⟩:=zDb I.hok e;exact dd.typeIs
def zOr(td ty:TE):TE:=fun σ H Q=>td σ H fun x H1=>ty σ H1 fun y H2=> ∃a v,x= .ref a/\yr H2 a y (some v)/\Q v H2
def zOG(ty td:TE):TE:=fun σ H Q=>ty σ H fun y H1=>td σ H1 fun x H2=> ∃a o,x= .ref a/\yr H2 a y o/\Q (.bl o.isSome) H2
def zJm(ty td:TE):TE:=fun σ H Q=>ty σ H fun y H1=>td σ H1 fun x H2=> ∃a o,x= .ref a/\yr H2 a y o/\Q (.bl (!o.isSome)) H2
def zOY(td ty tv:TE):TS:=fun D σ H=>tv σ H fun v H1=>td σ H1 fun x H2=>ty σ H2 fun y H3=> ∃a H4,x= .ref a/\zCH H3 a y v H4/\D.nx σ H4
section
variable {X:Cx}{o i e value:Expr}{pos pos' tpos:Pos}{td ty tv:TE}
theorem zQD(hu:X.A.units+1<cLine)(ho:PE X o td)(hi:PE X i ty)(hs:zNa i):PE X (.Subscript o i pos) (zOr td ty):=by
 intro pins s σ H Q I h;refine zPn PySem.F.slot_dict_getitem.lookup hs (zV (ho pins s σ H _ I h) fun u s1 ⟨x,H1,I1,rx,q1⟩=>zV (hi pins s1 σ H1 _ I1 q1) fun iv s2 ⟨y,H2,I2,ry,a,v,ex,g,q2⟩=>?_);subst ex;obtain rfl:u=Value.ref a:=rx;exact ⟨zJf I2 g,zMU hu I2 g ry fun w' s3 I3 rw'=>⟨v,H2,I3,rw',q2⟩⟩
theorem zMs(hu:X.A.units+1<cLine)(hi:PE X i ty)(ho:PE X o td):PC X .In i o (zOG ty td):=by
 intro pins s σ H Q I h;refine zV (hi pins s σ H _ I h) fun iv s1 ⟨y,H1,I1,ry,q1⟩=>zV (ho pins s1 σ H1 _ I1 q1) fun u s2 ⟨x,H2,I2,rx,a,ov,ex,g,q2⟩=>?_;subst ex;obtain rfl:u=Value.ref a:=rx;exact zTy hu I2 g ry fun s3 I3=>⟨.bl ov.isSome,H2,I3,rfl,q2⟩
theorem zLn(hu:X.A.units+1<cLine)(hi:PE X i ty)(ho:PE X o td):PC X .NotIn i o (zJm ty td):=by
 intro pins s σ H Q I h;refine zV (hi pins s σ H _ I h) fun iv s1 ⟨y,H1,I1,ry,q1⟩=>zV (ho pins s1 σ H1 _ I1 q1) fun u s2 ⟨x,H2,I2,rx,a,ov,ex,g,q2⟩=>?_;subst ex;obtain rfl:u=Value.ref a:=rx;exact zPg hu I2 g ry fun s3 I3=>⟨.bl (!ov.isSome),H2,I3,rfl,q2⟩
theorem zQF(hu:X.A.units+1<cLine)(ho:PE X o td)(hi:PE X i ty)(hv:PE X value tv)(hs:swapsWith value (some (.Subscript o i pos')) pos.line X.env=pure false):
  PS X (.Assign [.Subscript o i pos'] value pos) (zOY td ty tv):=by
 intro pins s σ H D I h;refine wpAny_Assign_Subscript (zV (hv pins s σ H _ I h) fun r s1 ⟨v,H1,I1,rv,q1⟩=>zV (ho pins s1 σ H1 _ I1 q1) fun u s2 ⟨x,H2,I2,rx,q2⟩=>zV (hi pins s2 σ H2 _ I2 q2) fun iv s3 ⟨y,H3,I3,ry,a,H4,ex,g,q3⟩=>?_) hs;subst ex;obtain rfl:u=Value.ref a:=rx;exact zMX hu I3 g ry rv fun s4 I4=>⟨σ,H4,I4,q3⟩
end
theorem zJD{P:Program}{w:World}{H:Hp}(h:Heap)(hb:sysModules<h.objs.size):zj P w H (h.push {cls:= .type "dict",data:= .dict #[]}) h.objs.size (.dK []):=
 ⟨zUZ _,beq_eq_false_iff_ne.mpr (Ne.symm (zUS hb)),[],.nil,Heap.DictOf.new h⟩
def zLm:TE:=fun _ H Q=> ∀p,H p=none->Q (.ref p) (upd H p (.dK []))
section
variable {X:Cx}{pos:Pos}
theorem zNo:PE X (.Dict [] [] pos) zLm:=fun pins s σ H Q I h=>
 wpAny_Dict_empty ⟨.ref s.heap.objs.size,_,I.laid (a:=s.heap.objs.size) (o:= .dK []) (t':=s.toks) (fun _ _ q=>zUM _ q) (zUO _) (zJD s.heap I.big),rfl,h _ (I.hok.fresh (zUO _))⟩
end
def zIg:List (TE×TE)->St->Hp->(List (V×V)->Hp->Prop)->Prop
 | [],_,H,Q=>Q [] H
 |(tk,tv)::r,σ,H,Q=>tk σ H fun x H1=>tv σ H1 fun y H2=>zIg r σ H2 fun ps H3=>Q ((x,y)::ps) H3
abbrev VV:List (V×V)->List (Value×Value)->Prop:=Paired fun p q=>zU p.1 q.1/\zU p.2 q.2
def PPs(X:Cx)(pos:Pos)(keys:List (Option Expr))(values:List Expr)(trs:List (TE×TE)):Prop:=
 ∀(pins:List (Addr×Obj)) (s:Shared) (σ:St) (H:Hp) (Q:List (V×V)->Hp->Prop),Inv X pins σ H s->zIg trs σ H Q->
  wpAny (model X.prog X.w) X.A (evalPairs (pairTrees keys values X.env pos)) (fun vs s'=> ∃ps H',Inv X pins σ H' s'/\VV ps vs/\Q ps H') X.xe s
theorem zPY{X:Cx}{pos:Pos}:PPs X pos [] [] [] :=fun pins s σ H Q I h=>pairTrees_nil_walk ⟨[],H,I,.nil,h⟩
theorem zNg{X:Cx}{pos:Pos}{k v:Expr}{ks:List (Option Expr)}{vs:List Expr}{tk tv:TE}{trs:List (TE×TE)}(hk:PE X k tk)(hv:PE X v tv)(hr:PPs X pos ks vs trs):
  PPs X pos (some k::ks) (v::vs) ((tk,tv)::trs):=fun pins s σ H Q I h=>
 pairTrees_cons_walk (zV (hk pins s σ H _ I h) fun u s1 ⟨x,H1,I1,rx,q1⟩=>zV (hv pins s1 σ H1 _ I1 q1) fun w2 s2 ⟨y,H2,I2,ry,q2⟩=>
  zV (hr pins s2 σ H2 _ I2 q2) fun ws s3 ⟨ps,H3,I3,rel,q3⟩=>⟨(x,y)::ps,H3,I3,.cons ⟨rx,ry⟩ rel,q3⟩)
def zCy(kvs more:List (Key×V)):List (Key×V):=more.foldl (fun acc kv=>zAP acc kv.1 kv.2) kvs
theorem KV.merge: ∀{more:List (Key×V)} {rs:List (Key×Value)} {kvs:List (Key×V)} {vs:List (Key×Value)},KV more rs->KV kvs vs->KV (zCy kvs more) (merged vs rs):=by
 intro more rs kvs vs r;unfold KV at r
 induction r generalizing kvs vs with
 | nil=>intro q;exact q
 | @cons p q ps qs h t ih=>
  intro r0;have e:KV (zAP kvs p.1 p.2) (stored vs q.1 q.2):=by
   have:=r0.put p.1 h.2;rw [<-h.1];exact this
  exact ih e
theorem zDp: ∀(more kvs:List (Key×V)),(zCy kvs more).length<=kvs.length+more.length
 | [],kvs=>by show kvs.length<=kvs.length+0;omega
 | p::r,kvs=>by
  have h1:=zDp r (zAP kvs p.1 p.2);have h2:=zCq kvs p.1 p.2;show (zCy (zAP kvs p.1 p.2) r).length<=_;rw [zVT];omega
theorem zFs{P:Program}{w:World}: ∀{kvs:List (Key×V)} {ws:List (Value×Value)},VV (kvs.map fun kv=>(kV kv.1,kv.2)) ws-> ∃rs,Carries (zu P w) ws rs/\KV kvs rs
 | [],_,r=>by rw [List.map_nil] at r;cases r;exact ⟨[],True.intro,.nil⟩
 | p::kvs,_,r=>by
  rw [zVP] at r;cases r with
  | @cons a b as bs h t=>
   obtain ⟨rs,c,q⟩:=zFs (P:=P) (w:=w) t;obtain ⟨b1,b2⟩:=b;exact ⟨(p.1,b2)::rs,⟨zCK h.1,rfl,c⟩,.cons ⟨rfl,h.2⟩ q⟩
def zPD(trs:List (TE×TE)):TE:=fun σ H Q=> ∀p,H p=none->zIg trs σ (upd H p (.dK [])) fun ps H2=>H2 p=some (.dK [])/\ ∃kvs:List (Key×V),ps=kvs.map (fun kv=>(kV kv.1,kv.2))/\kvs.length<=15/\Q (.ref p) (upd H2 p (.dK (zCy [] kvs)))
theorem zPP{X:Cx}{pos:Pos}{keys:List (Option Expr)}{values:List Expr}{trs:List (TE×TE)}(h:PPs X pos keys values trs)(hall:keys.all (·.isSome)=true)(hl:keys.length=values.length)(h0:keys≠ [])
  (h15:keys.length<=15):PE X (.Dict keys values pos) (zPD trs):=by
 intro pins s σ H Q I q;have hn:=I.hok.fresh (zUO s.heap.objs.size);have I1:=I.laid (a:=s.heap.objs.size) (o:= .dK []) (h':=s.heap.push {cls:= .type "dict",data:= .dict #[]}) (t':=s.toks) (fun _ _ q=>zUM _ q) (zUO _) (zJD s.heap I.big);refine wpAny_Dict_walk (knd:=zu X.prog X.w) hall hl h0 h15 (zV (h pins _ σ _ _ I1 (q _ hn)) fun ws s2 ⟨ps,H2,I2,rel,e,kvs,ep,lk,q2⟩=>?_);subst ep;obtain ⟨rs,c,rk⟩:=zFs (P:=X.prog) (w:=X.w) rel;obtain ⟨z,hd,vs0,r0,dd⟩:=zKj I2.hok e;cases r0;refine ⟨rs,c,dd,fun h' dd' hs=>⟨.ref s.heap.objs.size,_,?_,rfl,q2⟩⟩;have hz:(zCy [] kvs).length<=sizeLine:=by
  have h1:=zDp kvs [];rw [List.length_nil] at h1;rw [zUV];omega
 have he: ∃q,h'.get? s.heap.objs.size=some q:=let ⟨q,_,_,hq,_⟩:=dd';⟨q,hq⟩;exact zEr I2 (by rw [e];exact True.intro) hs he (zGP hz hd (rk.merge .nil) dd')
structure M1(X:Cx)(o:Expr)(m:Str)(apos:Pos)(e:Expr)(cpos:Pos):Prop where
 base:attributeBase o m X.env (eval o X.env)=eval o X.env
 few:((backTo cpos (starEach [e] X.env)).all (fun x=>!x.1)&&(backToKw cpos (keywordEach [] X.env)).all (fun x=>x.1.isSome)
  &&decide (([e] :List Expr).length+([] :List Keyword).length+(if ([] :List Keyword).isEmpty then 0 else 1)<30))=true
 line:(apos.endLine==cpos.line)=true
 trees:backTo cpos (starEach [e] X.env)= [(false,eval e X.env)]
structure M2(X:Cx)(o:Expr)(m:Str)(apos:Pos)(e f:Expr)(cpos:Pos):Prop where
 base:attributeBase o m X.env (eval o X.env)=eval o X.env
 few:((backTo cpos (starEach [e,f] X.env)).all (fun x=>!x.1)&&(backToKw cpos (keywordEach [] X.env)).all (fun x=>x.1.isSome)
  &&decide (([e,f] :List Expr).length+([] :List Keyword).length+(if ([] :List Keyword).isEmpty then 0 else 1)<30))=true
 line:(apos.endLine==cpos.line)=true
 trees:backTo cpos (starEach [e,f] X.env)= [(false,eval e X.env),(false,eval f X.env)]
def IsD(H:Hp)(a:Addr):Prop:=(∃kvs,Rd H a (.dK kvs))\/ ∃kvs,Rd H a (.dT kvs)
theorem zMx{X:Cx}{pins:List (Addr×Obj)}{σ:St}{H:Hp}{s:Shared}{a:Addr}(I:Inv X pins σ H s)(d:IsD H a):
  s.TypeIs (.ref a) "dict" /\(∀b,Value.ref a= .ref b-> ∃ob,s.heap.get? b=some ob/\ob.dict=none)/\(a==sysModules)=false:=by
 rcases d with ⟨kvs,e⟩|⟨kvs,e⟩
 ·obtain ⟨_,hd,vs,_,dd⟩:=zAs I.hok e;refine ⟨dd.typeIs,fun b q=>?_,hd⟩;cases q;obtain ⟨ob,_,_,h1,h2,_⟩:=dd;exact ⟨ob,h1,h2.2.1⟩
 ·obtain ⟨_,hd,xs,_,dd⟩:=zDb I.hok e;refine ⟨dd.typeIs,fun b q=>?_,hd⟩;cases q;obtain ⟨ob,_,_,h1,h2,_⟩:=dd;exact ⟨ob,h1,h2.2.1⟩
section
variable {X:Cx}{pins:List (Addr×Obj)}{σ:St}{H:Hp}{s:Shared}{a:Addr}{y d:V}{u r:Value}{o:Option V}{A:Around}{E:Value->Shared->Prop}
theorem zSe{Q:Value->Shared->Prop}(hu:A.units+1<cLine)(I:Inv X pins σ H s)(g:yr H a y o)(ry:zU y u)(rd:zU d r)(h: ∀w' s',Inv X pins σ H s'->zU (o.getD d) w'->Q w' s'):
  wpAny (model X.prog X.w) A (call (.builtin "dict.get") [.ref a,u,r]) Q E s:=by
 rcases g with ⟨kvs,k,e,ey,l⟩|⟨kvs,k,b,e,ey,eb,l⟩
 ·subst ey;obtain ⟨z,hd,vs,rel,dd⟩:=zAs I.hok e;refine call_meetsIn PySem.F.slot_dict_get dd.typeIs PySem.F.entry_dict_get (PySem.F.args_dict_get_3 _ _ _) (meets_dict_get_default (zu X.prog X.w) a (zCK ry) hd r) ⟨_,dd.mapOf,h _ _ (I.tok _) ?_⟩;rw [l];exact (rel.val k).getD rd
 ·subst ey;cases (show u=Value.ref b from ry);obtain ⟨z,hd,xs,rel,dd⟩:=zDb I.hok e;refine call_meetsIn PySem.F.slot_dict_get dd.typeIs PySem.F.entry_dict_get (PySem.F.args_dict_get_3 _ _ _) (meetsH_dict_get_default (tupleKind (zu X.prog X.w)) a b hd r) ⟨tupleKind_room_in1 hu,k,xs,zDB I.hok eb,dd,h _ _ (I.tok _) ?_⟩;rw [l];exact (rel.val k).getD rd
end
def zMY(td ty tx:TE):TE:=fun σ H Q=>td σ H fun x H1=> ∃a,x= .ref a/\IsD H1 a/\ty σ H1 fun y H2=>tx σ H2 fun z H3=> ∃o,yr H3 a y o/\Q (o.getD z) H3
def zMI(td ty:TE):TE:=fun σ H Q=>td σ H fun x H1=> ∃a,x= .ref a/\IsD H1 a/\ty σ H1 fun y H2=> ∃kvs k v,H2 a=some (.dK kvs)/\y=kV k/\yI kvs k=some v/\Q v (upd H2 a (.dK (zAf kvs k)))
section
variable {X:Cx}{o e f:Expr}{apos cpos:Pos}{td ty tx:TE}
theorem zNc(hu:X.A.units+1<cLine)(ho:PE X o td)(he:PE X e ty)(hf:PE X f tx)(m:M2 X o "get" apos e f cpos):PE X (.Call (.Attribute o "get" apos) [e,f] [] cpos) (zMY td ty tx):=by
 intro pins s σ H Q I h;refine wpAny_Call_method m.base m.few m.line PySem.F.plainAttrs_dict PySem.F.slot_dict_get PySem.F.type_dict_get (zV (ho pins s σ H _ I h) fun u s1 ⟨x,H1,I1,rx,a,ex,d,q1⟩=>?_);subst ex;obtain rfl:u=Value.ref a:=rx;obtain ⟨t1,t2,_⟩:=zMx I1 d;refine ⟨t1,t2,?_⟩;rw [m.trees];refine Calls.callWith_builtin rfl (Calls.evalArgs_plain (Calls.spliced_cons (zV (he pins s1 σ H1 _ I1 q1) fun iv s2 ⟨y,H2,I2,ry,q2⟩=>
  Calls.spliced_cons (zV (hf pins s2 σ H2 _ I2 q2) fun fv s3 ⟨z,H3,I3,rz,ov,g,q3⟩=>Calls.spliced_nil ?_))))
 exact zSe hu I3 g ry rz fun w' s4 I4 rw'=>⟨_,H3,I4,rw',q3⟩
theorem zOQ(ho:PE X o td)(he:PE X e ty)(m:M1 X o "pop" apos e cpos):PE X (.Call (.Attribute o "pop" apos) [e] [] cpos) (zMI td ty):=by
 intro pins s σ H Q I h;refine wpAny_Call_method m.base m.few m.line PySem.F.plainAttrs_dict PySem.F.slot_dict_pop PySem.F.type_dict_pop (zV (ho pins s σ H _ I h) fun u s1 ⟨x,H1,I1,rx,a,ex,d,q1⟩=>?_);subst ex;obtain rfl:u=Value.ref a:=rx;obtain ⟨t1,t2,_⟩:=zMx I1 d;refine ⟨t1,t2,?_⟩;rw [m.trees];refine Calls.callWith_builtin rfl (Calls.evalArgs_plain (Calls.spliced_cons (zV (he pins s1 σ H1 _ I1 q1) fun iv s2 ⟨y,H2,I2,ry,kvs,k,v,ea,ey,l,q2⟩=>Calls.spliced_nil ?_)));subst ey;exact zTS I2 ea ry l (.inl rfl) fun w' s3 I3 rw'=>⟨v,_,I3,rw',q2⟩
end
section
variable {X:Cx}{pins:List (Addr×Obj)}{σ:St}{H:Hp}{s:Shared}{a:Addr}{kvs:List (Key×V)}{A:Around}{E:Value->Shared->Prop}
end
section
variable {X:Cx}{pins:List (Addr×Obj)}{σ:St}{H:Hp}{s:Shared}{a:Addr}{y:V}{u:Value}{A:Around}{E:Value->Shared->Prop}
end
def Its(x:Str):It:=⟨fun i _=>i<x.cps.size,fun i H v H'=>H'=H/\ ∃c,x.cps[i]?=some c/\v= .str ⟨#[c]⟩,fun i _=>x.cps.size<=i⟩
theorem zKr{P:Program}{w:World}{K:zVK}{tg:Expr}(x:Str)(t:Tok)(it:Addr):Turn P w K tg (Its x) [it] it (fun i h=>h.IsStrIter it "str_ascii_iterator" x t i) where
 mem:=by simp
 obj:=fun i h st b hb=>by
  have e:b=it:=by simpa using hb
  subst e;obtain ⟨o,e,c,d⟩:=st;exact ⟨o,e,fun v z=>by rw [d] at z;cases z⟩
 keep:=fun i h h' st k=>let ⟨o,ho,r⟩:=st;⟨o,k it (by simp) o ho,r⟩
 item:=by
  intro X hP hw hK hc i pins s σ H E I hf st hg;subst hP hw hK;have hi:i<x.cps.size:=hg;obtain ⟨f0,f1,f2,f3,f4,f5⟩:=hf it (by simp);refine wpAny_pyNext_ascii_item st (c:=x.cps[i]) (by simp [hi]) fun h' st' sb=>?_;have I1:Inv X pins σ H {s with heap:=h',toks:=s.toks+1}:=I.turned (fun b o hb e=>(sb.2 b hb).trans e) f0 f1 f3 f4 f5;obtain ⟨o,e,c,d⟩:=id st';exact ⟨_,rfl,zDn (s:={s with heap:=h',toks:=s.toks+1}) e c d (by decide) ⟨.str ⟨#[x.cps[i]]⟩,H,I1,⟨_,rfl⟩,⟨rfl,_,by simp [hi],rfl⟩,st',fun b hb=>(hf b hb).1⟩⟩
 done:=by
  intro X hP hw hK hc i pins s σ H E I hf st hg;subst hP hw hK;have hi:x.cps.size<=i:=hg;obtain ⟨f0,f1,f2,f3,f4,f5⟩:=hf it (by simp);exact wpAny_pyNext_ascii_end (I.ok.hd hc) st (by simp;omega) fun h' eb=>⟨rfl,I.turned (t':=s.toks) (fun b o hb e=>eb b o hb e) f0 f1 f3 f4 f5⟩
 self:=fun _ _ _ _ _ st h=>wpAny_pyIter_striter_ascii st h
theorem zMh{P:Program}{w:World}{K:zVK}{tg:Expr}(x:Str)(t:Tok)(it:Addr):Turn P w K tg (Its x) [it] it (fun i h=>h.IsStrIter it "str_iterator" x t i) where
 mem:=by simp
 obj:=fun i h st b hb=>by
  have e:b=it:=by simpa using hb
  subst e;obtain ⟨o,e,c,d⟩:=st;exact ⟨o,e,fun v z=>by rw [d] at z;cases z⟩
 keep:=fun i h h' st k=>let ⟨o,ho,r⟩:=st;⟨o,k it (by simp) o ho,r⟩
 item:=by
  intro X hP hw hK hc i pins s σ H E I hf st hg;subst hP hw hK;have hi:i<x.cps.size:=hg;obtain ⟨f0,f1,f2,f3,f4,f5⟩:=hf it (by simp);refine wpAny_pyNext_wide_item st (c:=x.cps[i]) (by simp [hi]) fun h' st' sb=>?_;have I1:Inv X pins σ H {s with heap:=h',toks:=s.toks+1}:=I.turned (fun b o hb e=>(sb.2 b hb).trans e) f0 f1 f3 f4 f5;obtain ⟨o,e,c,d⟩:=id st';exact ⟨_,rfl,zDn (s:={s with heap:=h',toks:=s.toks+1}) e c d (by decide) ⟨.str ⟨#[x.cps[i]]⟩,H,I1,⟨_,rfl⟩,⟨rfl,_,by simp [hi],rfl⟩,st',fun b hb=>(hf b hb).1⟩⟩
 done:=by
  intro X hP hw hK hc i pins s σ H E I hf st hg;subst hP hw hK;have hi:x.cps.size<=i:=hg;obtain ⟨f0,f1,f2,f3,f4,f5⟩:=hf it (by simp);exact wpAny_pyNext_wide_end (I.ok.hd hc) st (by simp;omega) fun h' eb=>⟨rfl,I.turned (t':=s.toks) (fun b o hb e=>eb b o hb e) f0 f1 f3 f4 f5⟩
 self:=fun _ _ _ _ _ st h=>wpAny_pyIter_striter_wide st h
def zSO(tl:TE):TI:=fun σ H R=>tl σ H fun v H1=> ∃x,v= .str x/\R (Its x) H1
theorem zQq{X:Cx}{tg l:Expr}{tl:TE}(hl:PE X l tl):PI X tg l (zSO tl):=by
 intro pins s σ H R I h;refine zV (hl pins s σ H _ I h) fun v s1 ⟨y,H1,I1,r1,q1⟩=>?_;obtain ⟨x,e,q⟩:=q1;subst e;obtain ⟨t,rfl⟩:=r1;have fp: ∀(o:Obj),∀b∈ [s1.heap.objs.size],zDh X pins H1 b:=fun o b hb=>by
  have e:b=s1.heap.objs.size:=by simpa using hb
  subst e;exact I1.fpOk (zUO _) (I1.hok.fresh (zUO _))
 cases ha:x.cps.all (· <128)
 ·refine wpAny_pyIter_wide ha ?_;exact ⟨s1.heap.objs.size,[s1.heap.objs.size],_,_,H1,rfl,I1.kept (t':=s1.toks) fun b o e=>zUM _ e,zMh x t _,⟨_,zUd _ rfl,rfl,rfl⟩,fp default,q⟩
 ·refine wpAny_pyIter_ascii ha ?_;exact ⟨s1.heap.objs.size,[s1.heap.objs.size],_,_,H1,rfl,I1.kept (t':=s1.toks) fun b o e=>zUM _ e,zKr x t _,⟨_,zUd _ rfl,rfl,rfl⟩,fp default,q⟩
theorem zTM{X:Cx}(h:QE X e te):QI X tg e (zSO te):=⟨zQq h.out⟩
theorem KV.get{kvs:List (Key×V)}{vs:List (Key×Value)}(r:KV kvs vs){i:Nat}{k:Key}{v:V}(e:kvs[i]?=some (k,v)): ∃u,vs[i]?=some (k,u)/\zU v u:=by
 unfold KV at r
 induction r generalizing i with
 | nil=>simp at e
 | @cons p q ps qs h t ih=>
  cases i with
  | zero=>
   simp at e;subst e;obtain ⟨q1,q2⟩:=q;obtain ⟨h1,h2⟩:=h;cases h1;exact ⟨q2,rfl,h2⟩
  | succ j=>exact ih (by simpa using e)
theorem zMq{k:Key}(h:(zu P w).is k u=true):zU (kV k) u:=by
 rcases ya (k:=k) (v:=u) h with ⟨i,t,rfl,rfl⟩|⟨x,t,rfl,rfl⟩
 ·exact ⟨t,rfl⟩
 ·exact ⟨t,rfl⟩
theorem zBa{X:Cx}{es:Array DictEntry}{kvs:List (Key×V)}(I:Inv X pins σ H s)(e:H a=some (.frz o (.dK kvs)))(he:o.data= .dict es ep):
  ∃vs,KV kvs vs/\s.heap.DictAt (zu X.prog X.w) a vs ep:=by
 obtain ⟨ho,_,_,vs,rel,o',es',ep',ho',hc,hd,r⟩:=(show zj X.prog X.w H s.heap a (.frz o (.dK kvs)) from I.hok a _ e);rw [ho] at ho';cases ho';rw [he] at hd;cases hd;exact ⟨vs,rel,o,es,ho,hc,he,r⟩
theorem Inv.freeze{X:Cx}{kvs:List (Key×V)}(I:Inv X pins σ H s)(e:Rd H a (.dK kvs)):
  ∃(o:Obj) (es:Array DictEntry) (ep:Nat),o.data= .dict es ep/\(∀o0 u,H a=some (.frz o0 u)->o=o0)/\Inv X pins σ (upd H a (.frz o (.dK kvs))) s:=by
 rcases e with e |⟨o,e⟩
 ·obtain ⟨z,hs,vs,rel,o,es,ep,ho,hc,hd,r⟩:=(show zj X.prog X.w H s.heap a (.dK kvs) from I.hok a _ e);have ok:zj X.prog X.w (upd H a (.frz o (.dK kvs))) s.heap a (.frz o (.dK kvs)):=⟨ho,z,hs,vs,rel,o,es,ep,ho,hc,hd,r⟩;exact ⟨o,es,ep,hd,(fun o0 u z=>by rw [e] at z;cases z),I.write (t':=s.toks) (e:=a) (h':=s.heap) (by rw [e];exact True.intro) (.inl rfl) (fun _ _ _ q=>q) ⟨o,ho⟩ ok⟩
 ·obtain ⟨ho,z,hs,vs,rel,o',es,ep,ho',hc,hd,r⟩:=(show zj X.prog X.w H s.heap a (.frz o (.dK kvs)) from I.hok a _ e);rw [ho] at ho';cases ho';refine ⟨o,es,ep,hd,(fun o0 u z=>by rw [e] at z;cases z;rfl),?_⟩;have z:upd H a (.frz o (.dK kvs))=H:=by
   funext b
   unfold upd;split
   ·rename_i q;rw [q,e]
   ·rfl
  rw [z];exact I
theorem Inv.thaw{X:Cx}{kvs:List (Key×V)}(I:Inv X pins σ H s)(e:H a=some (.frz o (.dK kvs)))(h0: ∀o u,X.H₀ a≠some (.frz o u)):
  Inv X pins σ (upd H a (.dK kvs)) s:=by
 have ok:zj X.prog X.w H s.heap a (.dK kvs):=(show zj X.prog X.w H s.heap a (.frz o (.dK kvs)) from I.hok a _ e).2;have ne: ∀b,H b=none->b≠a:=fun b n z=>by rw [z,e] at n;cases n
 refine ⟨I.ok,I.os,I.bare,⟨I.base.keep,I.base.slot,fun b q e1 n hx=>?_,I.base.there,fun b xs q=>?_,fun b q u z=>?_,fun b ps q=>?_⟩,I.loc,I.cell,?_,fun x c q=>?_,fun p hp=>?_,?_,I.len⟩
 ·have z:=I.base.free b q e1 n hx;rw [zG (ne b z)];exact z
 ·have z:=I.base.tups b xs q;rw [zG (fun y=>by rw [y,e] at z;cases z)];exact z
 ·have y:=I.base.frzs b q u z;rw [zG (fun y'=>h0 q u (by rw [<-y'];exact z))];exact y
 ·obtain ⟨m,z⟩:=I.base.tbls b ps q;exact ⟨m,by rw [zG (fun y=>by rw [y,e] at z;cases z)];exact z⟩
 ·rw [zG (ne _ I.free)];exact I.free
 ·rw [zG (ne _ (I.freeC x c q))];exact I.freeC x c q
 ·obtain ⟨a1,a2,a3⟩:=I.pin p hp;exact ⟨a1,by rw [zG (ne _ a2)];exact a2,a3⟩
 ·intro b u q;by_cases hb:b=a
  ·subst hb;rw [zC] at q;cases q;exact ok.stay (fun _ _ _ z=>z) (fun c z=>by rw [zG (fun y=>by rw [y,e] at z;cases z)];exact z) fun c xs z=>by rw [zG (fun y=>by rw [y,e] at z;cases z)];exact z
  ·rw [zG hb] at q;exact (I.hok b u q).stay (fun _ _ _ z=>z) (fun c z=>by rw [zG (fun y=>by rw [y,e] at z;cases z)];exact z) fun c xs z=>by rw [zG (fun y=>by rw [y,e] at z;cases z)];exact z
section
variable {X:Cx}
theorem zEK:OpR X (compareOp .LtE) (fun x y H Q=> ∃i j,x= .str i/\y= .str j/\Q (.bl (!decide (j.cps.toList<i.cps.toList))) H):=by
 intro pins s σ H x y v u Q I rx ry h;obtain ⟨i,j,rfl,rfl,q⟩:=h;obtain ⟨t,rfl⟩:=rx;obtain ⟨t',rfl⟩:=ry;exact PySem.P.le_str (yA I q rfl)
theorem zGl: ∀{bs:List Bool} {us:List Value},zS (bs.map V.bl) us->us=bs.map Value.bool
 | [],_,r=>by cases r;rfl
 | b::bs,_,r=>by
  cases r with
  | cons h t=>
   cases h;rw [zGl t];rfl
theorem zMw{bs:List Bool}:(List.range bs.length).all (fun i=>bs.getD i false)=bs.all id:=by
 rw [zVU,List.all_eq_true,List.all_eq_true];constructor
 ·intro h b hb;obtain ⟨i,hi,e⟩:=List.getElem_of_mem hb;have:=h i (List.mem_range.mpr hi);rw [zVS,zUK hi] at this;rw [<-e];exact this
 ·intro h i hi;have hi':=List.mem_range.mp hi;rw [zVS,zUK hi'];exact h _ (zUs hi')
theorem zNS(hc:X.calm=true):yU X (.builtin "all") (fun xs H Q=> ∃(a:Addr) (bs:List Bool),xs= [.ref a] /\SqL X.K H a (bs.map V.bl)/\Q (.bl (bs.all id)) H):=by
 intro pins s σ H xs us Q I r h;obtain ⟨a,bs,rfl,hq,q⟩:=h;obtain ⟨u,rfl,ru⟩:=zAR r;cases ru;obtain ⟨its,rv,p,hz⟩:=I.list hq;have e:=zGl rv;subst e;have hlt:a<s.heap.objs.size:=by
  obtain ⟨o,ho,_⟩:=p.isList;exact zUU ho
 refine call_all_walk (wpAny_pyIter_list p.isList ⟨s.heap.objs.size,_,_,_,_,_,fun i=>bs.getD i false,rfl,Walks.list (show X.A.in1.handled=none from I.ok.hd hc) s.heap.objs.size a (zUS hlt) (bs.map Value.bool).toArray,
  ⟨⟨_,zUd _ rfl,rfl,rfl⟩,p.isList.at fun o z=>zUM _ z⟩,fun i v s' Q' E' hP hQ=>?_,fun h' tk hk=>?_⟩)
 ·have e:v= .bool (bs.getD i false):=by
   have hP':((bs.map Value.bool).toArray)[i]?=some v:=hP;rw [List.getElem?_toArray,zUP] at hP';cases q2:bs[i]? with
   | none=>rw [q2] at hP';cases hP'
   | some b=>
    rw [q2] at hP';rw [zVS,q2];exact (Option.some.inj hP').symm
  subst e;exact zUQ hQ
 ·have ez:((bs.map Value.bool).toArray).size=bs.length:=by simp
  refine ⟨.bl (bs.all id),H,?_,?_,q⟩
  ·refine I.kept fun b o z=>hk b o (fun y=>?_) (zUM _ z);have y':b=s.heap.objs.size:=by simpa using y
   exact absurd (y'▸zUU z) (Nat.lt_irrefl _)
  ·show Value.bool _=Value.bool _;rw [ez,zMw]
end
end L2
namespace PySem
end PySem
namespace L2
open PySem PySem.Spec PyProof.Rows
def Dat(H:Hp):Nat->V->PyData->Prop
 | _,.non,d=>d= .none
 | _,.bl b,d=>d= .bool b
 | _,.int i,d=>d= .int i
 | _,.str x,d=>d= .str x
 | n+1,.ref a,d=>(∃xs ds,d= .list ds/\Rd H a (.lst xs)/\Paired (Dat H n) xs ds)\/ ∃xs ds,d= .tuple ds/\H a=some (.tup xs)/\Paired (Dat H n) xs ds
 | _,_,_=>False
section
variable {X:Cx}{pins:List (Addr×Obj)}{σ:St}{H:Hp}{s:Shared}
theorem zEM{n:Nat}(ih: ∀{x:V} {d:PyData} {u:Value},Dat H n x d->zU x u-> ∃as,Reads s.heap u d as): ∀{xs:List V} {ds:List PyData} {us:List Value},Paired (Dat H n) xs ds->zS xs us-> ∃as,ReadsAll s.heap us ds as
 | [],_,_,h,r=>by
  cases h;cases r;exact ⟨[],.nil⟩
 | x::xs,_,_,h,r=>by
  cases h with
  | cons h1 h2=>
   cases r with
   | cons r1 r2=>
    obtain ⟨a1,q1⟩:=ih h1 r1;obtain ⟨a2,q2⟩:=zEM ih h2 r2;exact ⟨a1++a2,.cons q1 q2⟩
theorem zBX(I:Inv X pins σ H s): ∀(n:Nat) {x:V} {d:PyData} {u:Value},Dat H n x d->zU x u-> ∃as,Reads s.heap u d as
 | n,.non,d,u,h,r=>by
  have h':d= .none:=by cases n<;>exact h
  cases h';cases r;exact ⟨[],.none⟩
 | n,.bl b,d,u,h,r=>by
  have h':d= .bool b:=by cases n<;>exact h
  cases h';cases r;exact ⟨[],.bool b⟩
 | n,.int i,d,u,h,r=>by
  have h':d= .int i:=by cases n<;>exact h
  obtain ⟨t,rfl⟩:=r;cases h';exact ⟨[],.int i t⟩
 | n,.str x,d,u,h,r=>by
  have h':d= .str x:=by cases n<;>exact h
  obtain ⟨t,rfl⟩:=r;cases h';exact ⟨[],.str x t⟩
 | 0,.ref a,d,u,h,r=>h.elim
 | n+1,.ref a,d,u,h,r=>by
  cases r;rcases h with ⟨xs,ds,rfl,e,p⟩|⟨xs,ds,rfl,e,p⟩
  ·obtain ⟨_,its,k,rv,ho⟩:=e.ok I.hok;obtain ⟨as,q⟩:=zEM (fun h r=>zBX I n h r) p rv;exact ⟨_,.list ho rfl rfl (by simpa using q)⟩
  ·obtain ⟨_,its,rv,o,ho,hc,⟨k,hd⟩,_⟩:=(show zj X.prog X.w H s.heap a (.tup xs) from I.hok a _ e);obtain ⟨as,q⟩:=zEM (fun h r=>zBX I n h r) p rv;exact ⟨_,.tuple ho hc hd (by simpa using q)⟩
 | n,.byt _,d,u,h,r=>by cases n<;>exact h.elim
 | n,.flt _,d,u,h,r=>by cases n<;>exact h.elim
 | n,.ty _,d,u,h,r=>by cases n<;>exact h.elim
end
end L2
namespace PySem
open PyProof.Rows
section
variable {prog:Program}{w:World}{K:Type}[DecidableEq K]{knd:KeyKind prog w K}{A:Around}{E:Value->Shared->Prop}{s:Shared}
theorem zIt{Q:List Value->Shared->Prop}{kvs:List (K×Value)}(hh:A.handled=none)(hd:(d==sysModules)=false)(hm:s.heap.DictAt knd d kvs ep)(hn:kvs.length<=sizeLine)
  (hQ: ∀h' tk acc,(∀b o,s.heap.get? b=some o->h'.get? b=some o)->ItemsOf (fun i v=> ∃k x,kvs[i]?=some (k,x)/\knd.is k v=true) acc kvs.length->Q acc.toList {s with heap:=h',toks:=tk}):
  wpAny (model prog w) A (collect (.ref d)) Q E s:=by
 have hlt:d<s.heap.objs.size:=hm.lt_size;unfold collect;refine zUL (wpAny_runValue (codeAny_builtin F.entry_proto_collect ?_));rw [Around.under_plainId F.plain_proto_collect _];show wpAny _ A.in1 (newList [] >>=fun l=>again (.builtin "list.__iadd__" ⟨[l,.ref d],[]⟩)) _ _ s;refine zUL (wpAny_newObj_type ?_);refine zUQ ⟨plainId_quiet F.plain_list_iadd _,codeAny_builtin F.entry_list_iadd ?_⟩;rw [Around.under_plainId F.plain_list_iadd _];have hm1:(s.heap.push {cls:= .type "list",data:= .seq ([] :List Value).toArray}).DictAt knd d kvs ep:=hm.push _;have hS₁:(s.heap.push {cls:= .type "list",data:= .seq ([] :List Value).toArray}).get? s.heap.objs.size=some {cls:= .type "list",data:= .seq ([] :List Value).toArray}:=zUd _ rfl;have hz1:(s.heap.push {cls:= .type "list",data:= .seq ([] :List Value).toArray}).objs.size=s.heap.objs.size+1:=Heap.size_push ..;have h1:Builtin.List.listSameRef (.ref s.heap.objs.size) (.ref d)=false:=by
  simp only [Builtin.List.listSameRef,beq_eq_false_iff_ne];exact zUz hlt
 show wpAny _ A.in1 (Builtin.List.listExtendWith (.ref s.heap.objs.size) (.ref d) (.ref s.heap.objs.size)) _ _ {s with heap:=s.heap.push {cls:= .type "list",data:= .seq ([] :List Value).toArray}};have hT:Shared.TypeIs {s with heap:=s.heap.push {cls:= .type "list",data:= .seq ([] :List Value).toArray}} (.ref d) "dict" :=hm1.dictOf.typeIs;unfold Builtin.List.listExtendWith;refine zUL (wpAny_typeOf hT ?_);rw [if_neg (by rw [h1];decide)];refine zUL (wpAny_pyIter_dict hd hm1 ?_);have hit:((s.heap.push {cls:= .type "list",data:= .seq ([] :List Value).toArray}).push {cls:= .type "dict_keyiterator",data:= .fields #[.ref d,.int 0 0,.int kvs.length 0,.int ep 0]}).get? (s.heap.objs.size+1)
   =some {cls:= .type "dict_keyiterator",data:= .fields #[.ref d,.int 0 0,.int kvs.length 0,.int ep 0]}:=by
  rw [<-hz1];exact zUd _ rfl
 have hm2:=hm1.push {cls:= .type "dict_keyiterator",data:= .fields #[.ref d,.int 0 0,.int kvs.length 0,.int ep 0]};have hS₂:((s.heap.push {cls:= .type "list",data:= .seq ([] :List Value).toArray}).push {cls:= .type "dict_keyiterator",data:= .fields #[.ref d,.int 0 0,.int kvs.length 0,.int ep 0]}).get? s.heap.objs.size=some {cls:= .type "list",data:= .seq ([] :List Value).toArray}:=
  zUM _ hS₁
 have old2: ∀b o,s.heap.get? b=some o->((s.heap.push {cls:= .type "list",data:= .seq ([] :List Value).toArray}).push {cls:= .type "dict_keyiterator",data:= .fields #[.ref d,.int 0 0,.int kvs.length 0,.int ep 0]}).get? b=some o:=
  fun b o e=>zUM _ (zUM _ e)
 rw [hz1];generalize (s.heap.push {cls:= .type "list",data:= .seq ([] :List Value).toArray}).push {cls:= .type "dict_keyiterator",data:= .fields #[.ref d,.int 0 0,.int kvs.length 0,.int ep 0]}=h2 at hit hm2 hS₂ old2⊢;have hT2:Shared.TypeIs {s with heap:=h2} (.ref d) "dict" :=hm2.dictOf.typeIs;refine zUL (zVB ?_);unfold Builtin.List.listLengthHint;refine zUL (wpAny_specialOf hT2 F.slot_dict_len.lookup ?_);generalize yT:("dict.__len__" :String)=id0
 wp_delta
 rw [show splitId id0=some ("dict","__len__") from by subst yT;decide+kernel];subst yT;refine zUL (wpAny_isInstance (b:=true) hT2 isSubtype_dict_dict ?_);rw [if_neg (by decide)];dsimp only;rw [if_pos (by decide+kernel)];refine zUL (wpAny_typeOf hT2 ?_);refine zUQ ?_;show wpAny _ A.in1 (rule "list.extend.makes-room" >>=fun _=>Builtin.List.listTouch (.ref s.heap.objs.size)>>=fun _=>
  again (.builtin "list.extend.loop" ⟨[.ref s.heap.objs.size,.ref (s.heap.objs.size+1),.ref s.heap.objs.size],[]⟩)) _ _ _
 refine zUL (wpAny_rule ?_);refine zUL ?_;show wpAny _ A.in1 (updateSeq s.heap.objs.size (·.push .none)>>=fun _=>updateSeq s.heap.objs.size (·.pop)) _ _ _;refine zUL (wpAny_updateSeq hS₂ rfl ?_);have hS₃:=zUx (Obj.mapSeq (·.push Value.none)) hS₂ rfl;refine wpAny_updateSeq hS₃ rfl ?_;have hS₄:=zUx (Obj.mapSeq (·.pop)) hS₃ rfl;have oth: ∀b o,b≠s.heap.objs.size->h2.get? b=some o->((h2.update s.heap.objs.size (Obj.mapSeq (·.push Value.none))).update s.heap.objs.size (Obj.mapSeq (·.pop))).get? b=some o:=
  fun b o hb e=>(zUw _ _ (Ne.symm hb)).trans ((zUw _ _ (Ne.symm hb)).trans e)
 have ne1:s.heap.objs.size+1≠s.heap.objs.size:=Nat.succ_ne_self _;have hit4:=oth _ _ ne1 hit;have hm4:=hm2.at' fun o e=>oth d o (zUS hlt) e;have old4: ∀b o,s.heap.get? b=some o->((h2.update s.heap.objs.size (Obj.mapSeq (·.push Value.none))).update s.heap.objs.size (Obj.mapSeq (·.pop))).get? b=some o:=
  fun b o e=>oth b o (zUS (zUU e)) (old2 b o e)
 refine zUQ ⟨plainId_quiet F.plain_extend_loop _,codeAny_extend_loopS (Walks.dictKeys (knd:=knd) (A:=A.in1) hh (s.heap.objs.size+1) d (zUS (Nat.lt_succ_of_lt hlt)) kvs ep).toS hn _ ?_ _ kvs.length 0 _ _ _ rfl (zUZ _)
  ⟨⟨_,hit4,rfl,rfl⟩,hm4⟩ hS₄ (ItemsOf.nil _) fun s' acc' c' hmv hS' hacc=>?_⟩
 ·intro z;rcases zVL.mp z with y | y
  ·exact ne1 y.symm
  ·have y':s.heap.objs.size=d:=by simpa using y
   exact zUz hlt y'
 ·show wpAny _ A (load s.heap.objs.size>>=_) _ _ s';refine zUL (wpAny_load hS' ?_);obtain ⟨hp',g',dr',tk',os'⟩:=s';obtain ⟨m1,m2,m3,m4,m5⟩:=hmv;cases m2;cases m3;cases m4;refine zUQ (hQ hp' tk' acc' (fun b o e=>m1 b o (fun z=>?_) (old4 b o e)) hacc);have hb:=zUU e;rcases zVL.mp z with y | y
  ·exact zUS hb y
  ·have y':b=s.heap.objs.size+1:=by simpa using y
   exact zUS (Nat.lt_succ_of_lt hb) y'
theorem zFT{Q:Value->Shared->Prop}{kvs:List (K×Value)}(hh:A.handled=none)(hd:(d==sysModules)=false)(hm:s.heap.DictAt knd d kvs ep)(h64:kvs.length<64)
  (hs:ss.length=kvs.length) (hS: ∀(i:Nat) k x v,kvs[i]?=some (k,x)->knd.is k v=true-> ∃y t,ss[i]?=some y/\v= .str y t)
  (h: ∀(h1 h':Heap) tk out ss' e,(∀b o,s.heap.get? b=some o->h1.get? b=some o)->(∀b o,h1.get? b=some o->h'.get? b=some o)->h'.get? h1.objs.size=some (seqObj "list" out e)->StrsAre out.toList ss'->ss'.Perm ss->sortedS ss'=true->Q (.ref h1.objs.size) {s with heap:=h',toks:=tk}):
  wpAny (model prog w) A (call (.builtin "sorted") [.ref d]) Q E s:=by
 refine Calls.call_function_entry kind_sorted plain_sorted entry_sorted (args_sorted1 _) ?_;unfold Builtin.«sorted»;refine zUL (m:=checkCount "sorted" 1 1 _) (zUQ ?_);refine zUL (zIt (knd:=knd) hh hd hm (by rw [zUV];omega) fun h1 tk1 acc k1 items=>?_);refine zUL (wpAny_newList ?_ (by have e:=items.1;simp only [Array.length_toList,e];rw [zUV];omega));have hoL:(h1.push (seqObj "list" acc.toList.toArray 0)).get? h1.objs.size=some (seqObj "list" acc.toList.toArray 0):=zUd _ rfl;have hSt:StrsAre acc.toList ss:=by
  have gen: ∀(vs:List Value) (ys:List Str),vs.length=ys.length->(∀(j:Nat) v,vs[j]?=some v-> ∃y t,ys[j]?=some y/\v= .str y t)->StrsAre vs ys:=by
   intro vs
   induction vs with
   | nil=>
    intro ys hl _;cases ys with
    | nil=>exact .nil
    | cons y ys=>simp at hl
   | cons v vs ih=>
    intro ys hl hv;cases ys with
    | nil=>simp at hl
    | cons y ys=>
     obtain ⟨y',t,e1,e2⟩:=hv 0 v rfl;simp at e1;subst e1 e2;exact .cons y t (ih ys (by simpa using hl) fun j v' e=>by
      obtain ⟨y',t',e1,e2⟩:=hv (j+1) v' (by simpa using e);exact ⟨y',t',by simpa using e1,e2⟩)
  refine gen _ _ (by have e:=items.1;simp only [Array.length_toList,e,hs]) fun j v e=>?_;obtain ⟨k,x,e1,e2⟩:=items.2 j v (by simpa using e);exact hS j k x v e1 e2
 have hl2:acc.toList.length<64:=by have e:=items.1;simp only [Array.length_toList,e];exact h64
 show wpAny _ _ _ _ _ {s with heap:=h1.push (seqObj "list" acc.toList.toArray 0),toks:=tk1};refine zUL (zVB (wpAny_call_entry slot_list_sort ⟨_,hoL,rfl⟩ entry_list_sort (list_sort_treeK strKind_oneLt hoL hSt.keysOf (fun v₁ v₂ rest e=>keyKind_strs (by rw [<-e];exact hSt)) hl2 fun st' a1 a2=>⟨_,rfl,?_⟩) (args_list_sort _)));obtain ⟨ss',b1,b2,b3⟩:=sorted_out_str hSt a1 a2;obtain ⟨e,he⟩:=sortedHeap_at (out:=((arrOf st').map (·.2))) hoL;refine zUQ ⟨_,rfl,h h1 _ _ _ ss' e k1 (fun b o q1=>?_) he b1 b2 b3⟩;have lt1:=zUU q1;rw [sortedHeap_old (zUS lt1) (by rw [size_push'];exact Nat.lt_succ_of_lt lt1)];exact zUM _ q1
end
end PySem
namespace L2
open PySem PySem.Spec PyProof.Rows
theorem zHT: ∀{vs:List Value} {ss:List Str},StrsAre vs ss->zS (ss.map V.str) vs
 | _,_,.nil=> .nil
 | _,_,.cons y t h=> .cons ⟨t,rfl⟩ (zHT h)
section
variable {X:Cx}
theorem zBi(hc:X.calm=true):yU X (.builtin "sorted") (fun xs H Q=> ∃(a:Addr) (kvs:List (Key×V)) (ks:List Str),xs= [.ref a] /\Rd H a (.dK kvs)/\kvs.map (·.1)=ks.map Sum.inr/\kvs.length<64/\
  ∀(l:Addr) (ks':List Str),H l=none->ks'.Perm ks->sortedS ks'=true->Q (.ref l) (upd H l (.lst (ks'.map V.str)))):=by
 intro pins s σ H xs us Q I r h;obtain ⟨a,kvs,ks,rfl,e,ek,h64,q⟩:=h;obtain ⟨u,rfl,ru⟩:=zAR r;cases ru;obtain ⟨z,hs,vs,rel,dd⟩:=zAs I.hok e;obtain ⟨ep,da⟩:=dd.dictAt;have lv:=KV.length rel;have lk:ks.length=kvs.length:=by
  have:=congrArg List.length ek;simpa using this.symm
 refine zFT (knd:=zu X.prog X.w) (ss:=ks) (I.ok.hd hc) hs da (by omega) (by omega) (fun i k x v e1 e2=>?_) fun h1 h' tk out ss' ep' k1 k2 ho hS hp hsd=>?_
 ·have e3:(vs.map (·.1))[i]?=some k:=by rw [zUP,e1];rfl
  rw [<-KV.keys rel,ek,zUP] at e3;cases q3:ks[i]? with
  | none=>rw [q3] at e3;cases e3
  | some y=>
   rw [q3] at e3;have e4:(Sum.inr y:Key)=k:=Option.some.inj e3;subst e4;rcases ya (k:=Sum.inr y) (v:=v) e2 with ⟨j,t,e5,_⟩|⟨y',t,e5,e6⟩
   ·cases e5
   ·cases e5;exact ⟨y,t,rfl,e6⟩
 ·have I1:Inv X pins σ H {s with heap:=h1,toks:=tk}:=I.kept k1;have lo:ss'.length<=sizeLine:=by
   have:=hp.length_eq;rw [zUV];omega
  have I2:=Inv.laid (h':=h') (t':=tk) (a:=h1.objs.size) (o:= .lst (ss'.map V.str)) I1 k2 (zUO _) ⟨by simpa using lo,out.toList,ep',zHT hS,by simpa using ho⟩;exact ⟨.ref h1.objs.size,_,I2,rfl,q _ ss' (I1.hok.fresh (zUO _)) hp hsd⟩
def zJC:V->Bool
 | .int _=>true
 | .str _=>true
 | _=>false
theorem zMj(f:zJC x=true)(ru:zU x u)(rv:zU x v):SeqAt.EqAt A s u v true:=by
 cases x with
 | int i=>
  obtain ⟨t,rfl⟩:=ru;obtain ⟨t',rfl⟩:=rv;have z:=SeqAt.EqAt.int_int (A:=A) (s:=s) i t i t';simpa using z
 | str i=>
  obtain ⟨t,rfl⟩:=ru;obtain ⟨t',rfl⟩:=rv;have z:=SeqAt.EqAt.str_str (A:=A) (s:=s) i t i t';simpa using z
 | _=>cases f
theorem zLS(f: ∀x∈xs,zJC x=true)(ru:zS xs us)(rv:zS xs vs):
  ∀j (h1:j<us.toArray.size) (h2:j<vs.toArray.size),SeqAt.EqAt A s us.toArray[j] vs.toArray[j] true:=by
 intro j h1 h2;have j1:j<us.length:=by simpa using h1
 have j2:j<vs.length:=by simpa using h2
 have l1:=ru.length;have a1:xs[j]?=some xs[j] :=zUK (by omega);obtain ⟨u1,b1,c1⟩:=ru.get a1;obtain ⟨u2,b2,c2⟩:=rv.get a1;have d1:us[j] =u1:=by rw [zUK j1] at b1;exact Option.some.inj b1
 have d2:vs[j] =u2:=by rw [zUK j2] at b2;exact Option.some.inj b2
 have w:=zMj (A:=A) (s:=s) (f _ (zUs (by omega))) c1 c2;simpa [d1,d2] using w
end
end L2
namespace PySem
open PyProof.Rows
section
variable {prog:Program}{w:World}{K:Type}[DecidableEq K]{knd:KeyKind prog w K}{A:Around}{E:Value->Shared->Prop}{s:Shared}
theorem zQf{es:Array DictEntry}{kvs:List (K×Value)}(hp:Pairs knd es.toList kvs)(hn:(kvs.map (·.1)).Nodup){k:K}(h:kvs[i]?=some (k,v)):es.findIdx? (fun e=>knd.is k e.key)=some i/\ ∃e,es[i]?=some e/\e.val=v:=by
 have hl:i<kvs.length:=(zVX.mp h).1;have hsz:es.size=kvs.length:=by rw [<-hp.length];simp
 have hi:i<es.size:=by omega
 obtain ⟨hk,hv⟩:=hp.get? (i:=i) (e:=es[i]) (by simp [hi]) h;refine ⟨?_,es[i],by simp [hi],hv⟩;have e1:(es.findIdx? fun e=>knd.is k e.key)=kvs.findIdx? fun kv=>decide (kv.1=k):=by
  rw [<-hp.findIdx k];obtain ⟨l⟩:=es;simp
 rw [e1,List.findIdx?_eq_some_iff_getElem];refine ⟨hl,?_,fun j hj=>?_⟩
 ·have:kvs[i] =(k,v):=by rw [zUK hl] at h;exact Option.some.inj h
  simp [this]
 ·have e2:kvs[i] =(k,v):=by rw [zUK hl] at h;exact Option.some.inj h
  have e3:=List.pairwise_iff_getElem.mp hn j i (by simp;omega) (by simp;omega) hj;simp only [List.getElem_map,e2] at e3;simpa using e3
theorem zLB{id:String}{Q:Bool->Shared->Prop}{kvs:List (K×Value)}(ha:(a==sysModules)=false)(hb:(b==sysModules)=false)(ma:s.heap.DictOf knd a kvs)(mb:s.heap.DictOf knd b kvs)(h:Q true s):
  wpAny (model prog w) A (Builtin.Dict.samePairs id a b) Q E s:=by
 obtain ⟨oa,ea,pa,hoa,hca,hda,hka,hpa,hna⟩:=ma;obtain ⟨ob,eb,pb,hob,hcb,hdb,hkb,hpb,hnb⟩:=mb;have sa:ea.size=kvs.length:=by rw [<-hpa.length];simp
 have sb:eb.size=kvs.length:=by rw [<-hpb.length];simp
 unfold Builtin.Dict.samePairs Builtin.Dict.showsAll;rw [if_neg (by rw [ha];exact zUX),if_neg (by rw [hb];exact zUX)];refine zUL (zUQ (zUL (zUQ (zUL (wpAny_dictEntries hoa hda (zUL (wpAny_dictEntries hob hdb ?_)))))));rw [if_neg (by simp [sa,sb])];refine zUL (wpAny_dictEpoch hoa hda ?_);refine zUL ?_;rw [Std.Legacy.Range.forIn_eq_forIn_range'];simp only [Std.Legacy.Range.size,Nat.sub_zero,Nat.add_sub_cancel,Nat.div_one];refine wpAny_forIn_list _ (fun rest r s'=>s'=s/\r=(none,())/\ ∃i,rest=List.range' i (ea.size - i)/\i<=ea.size) _ ?_ ?_ _ _ ⟨rfl,rfl,0,by simp,zUZ _⟩
 ·rintro x rest r s' ⟨rfl,rfl,i,hr,hi⟩;have hlt:i<ea.size:=by
   rcases Nat.lt_or_ge i ea.size with h | h
   ·exact h
   ·rw [Nat.sub_eq_zero_of_le h] at hr;simp at hr
  obtain ⟨rfl,hrest⟩:x=i/\rest=List.range' (i+1) (ea.size -(i+1)):=by
   have e:ea.size - i=(ea.size -(i+1))+1:=by omega
   rw [e,List.range'_succ] at hr;injection hr with h1 h2;exact ⟨h1,h2⟩
  obtain ⟨⟨k,v⟩,hkv⟩: ∃p,kvs[x]?=some p:=⟨kvs[x]'(by omega),by simp [show x<kvs.length by omega]⟩;obtain ⟨hkey,hval⟩:=hpa.get? (i:=x) (e:=ea[x]) (by simp [hlt]) hkv;obtain ⟨f1,e2,f2,f3⟩:=zQf hpb hnb hkv;have hh:ea[x].hash=knd.hash k:=by
   obtain ⟨k',hk',hhash⟩:=hka ea[x] (Array.getElem_mem hlt);have e:k=k':=knd.inj _ _ _ hkey hk';rw [hhash,e]
  refine zUL (wpAny_dictEntries hoa hda ?_);rw [Array.getElem?_eq_getElem hlt];refine zUL (zVB ?_);rw [hh];refine zUL (wpAny_dictFind_of hkey hob hdb hkb ?_);rw [f1];refine zUL (wpAny_dictEntries hob hdb ?_);rw [f2];refine zVB ?_;rw [f3,hval];refine SeqAt.EqAt.same v prog w _ _ ?_;rw [if_neg (by decide)];refine zUL (wpAny_dictEpoch hoa hda ?_);rw [if_neg (by simp)];refine zUQ ⟨rfl,rfl,x+1,hrest,hlt⟩
 ·rintro r s' ⟨rfl,rfl,_⟩;exact zUQ h
end
theorem zCI:entryFor table "dict.update.loop" =some Builtin.«dict.update.loop»:=entryFor_of_tree (by kernel_rfl)
theorem zAS:plainId "dict.update.loop" =true:=by decide+kernel
section
variable {prog:Program}{w:World}{K:Type}[DecidableEq K]{knd:KeyKind prog w K}{A:Around}{R:Result->Shared->Prop}{d it l:Addr}{items:Array Value}{ps:List (K×Value)}
end
section
variable {prog:Program}{w:World}{K:Type}[DecidableEq K]{knd:KeyKind prog w K}{A:Around}{E:Value->Shared->Prop}{s:Shared}
theorem zID{Q:Value->Shared->Prop}{kvs:List (K×Value)}(hs1:(a==sysModules)=false)(hs2:(b==sysModules)=false)(d1:s.heap.DictOf knd a kvs)(d2:s.heap.DictOf knd b kvs)(h:Q (.bool false) s):
  wpAny (model prog w) A (call (.builtin "dict.__ne__") [.ref a,.ref b]) Q E s:=by
 refine wpAny_call_entry F.slot_dict_ne d1.typeIs F.entry_dict_ne ?_ (F.args_dict_ne_2 _ _);show wpAny _ _ (Builtin.Dict.dictSlotArgs "__ne__" ⟨[.ref a,.ref b],[]⟩>>=_) _ _ s;refine zUL ?_;unfold Builtin.Dict.dictSlotArgs;refine zUL (wpAny_notOrdered_dict d1.typeIs ?_);show wpAny _ _ (pure (Value.ref a,Value.ref b)) _ _ s;refine zUQ ?_;refine zUL (wpAny_isInstance d2.typeIs isSubtype_dict_dict ?_);rw [if_neg (by decide)];refine zUL (zUQ ?_);refine zUL (zUQ ?_);refine zUL (zLB hs1 hs2 d1 d2 ?_);exact zUQ ⟨_,rfl,h⟩
end
end PySem
namespace L2
open PySem PySem.Spec PyProof.Rows
section
variable {X:Cx}
end
section
variable {X:Cx}{K:zVK}{o i e f value:Expr}{td ty tx tv:TE}{pos pos' apos cpos:Pos}
theorem zo(hu:X.A.units+1<cLine)(ho:QE X o td)(hi:QE X i ty)(hs:zNa i):QE X (.Subscript o i pos) (zOr td ty):=⟨zQD hu ho.out hi.out hs⟩
theorem zIx(hu:X.A.units+1<cLine)(hi:QE X i ty)(ho:QE X o td)(h:behindInMarks .NotIn o=false):QT X (.Compare i [.NotIn] [o] pos) (tB (zJm ty td)):=⟨zDx (zLn hu hi.out ho.out) h⟩
theorem zCC(hu:X.A.units+1<cLine)(ho:QE X o td)(hi:QE X i ty)(hv:QE X value tv)(hs:swapsWith value (some (.Subscript o i pos')) pos.line X.env=pure false):
  QS X (.Assign [.Subscript o i pos'] value pos) (zOY td ty tv):=⟨zQF hu ho.out hi.out hv.out hs⟩
theorem zCE:QE X (.Dict [] [] pos) zLm:=⟨zNo⟩
theorem zEf(hu:X.A.units+1<cLine)(ho:QE X o td)(he:QE X e ty)(hf:QE X f tx)(m:M2 X o "get" apos e f cpos):QE X (.Call (.Attribute o "get" apos) [e,f] [] cpos) (zMY td ty tx):=⟨zNc hu ho.out he.out hf.out m⟩
theorem zEQ(ho:QE X o td)(he:QE X e ty)(m:M1 X o "pop" apos e cpos):QE X (.Call (.Attribute o "pop" apos) [e] [] cpos) (zMI td ty):=⟨zOQ ho.out he.out m⟩
theorem zHZ(hK:X.K=K)(hc:X.calm=true):yU X (.builtin "all") (fun xs H Q=> ∃(a:Addr) (bs:List Bool),xs= [.ref a] /\SqL K H a (bs.map V.bl)/\Q (.bl (bs.all id)) H):=by
 subst hK;exact zNS hc
theorem zMT(hK:X.K=K):OpR X (compareOp .NotIn) (rIn K true):=by
 subst hK;exact zIi
theorem zKc(hK:X.K=K):yU X (.type "list") (fun xs H Q=> ∃p ys,xs= [.ref p] /\(SqL K H p ys\/SqT K H p ys)/\ ∀l,H l=none->Q (.ref l) (upd H l (.lst ys))):=by
 subst hK;exact zJM
theorem zCr(hK:X.K=K):yU X (.type "tuple") (fun xs H Q=> ∃p ys,xs= [.ref p] /\((SqL K H p ys/\ ∀l,H l=none->Q (.ref l) (upd H l (.tup ys)))\/(SqT K H p ys/\Q (.ref p) H))):=by
 subst hK;exact zHk
end
def zOs(ns:List (Str×NameKind))(cl:List (Str×Addr)):Bool:=ns.all fun p=>match p.2 with
 | .cell=>(cl.lookup p.1).isSome
 | .free=>(cl.lookup p.1).isSome
 | _=>true
theorem zDS{κ β:Type}[BEq κ][LawfulBEq κ]{y:κ}{b:β}: ∀{l:List (κ×β)},l.lookup y=some b->(y,b)∈l
 | [],h=>by cases h
 |(z,c)::l,h=>by
  rw [List.lookup_cons] at h;split at h
  ·rename_i q
   have:y=z:=by simpa using q
   cases h;rw [this];exact List.mem_cons_self
  ·exact zUv _ (zDS h)
theorem yL{ns:List (Str×NameKind)}(h:zOs ns cl=true): ∀y,(ns.lookup y=some .cell\/ns.lookup y=some .free)-> ∃a,cl.lookup y=some a:=by
 intro y hy;unfold zOs at h;rw [List.all_eq_true] at h;rcases hy with e | e
 ·exact Option.isSome_iff_exists.mp (h (y,.cell) (zDS e))
 ·exact Option.isSome_iff_exists.mp (h (y,.free) (zDS e))
theorem fr1{Pp:Str->Nat->Prop}(h:Pp y i): ∀(j:Nat) (y':Str) (i':Nat),[y][j]?=some y'-> [i][j]?=some i'->Pp y' i':=by
 intro j y' i' h1 h2;cases j with
 | zero=>cases h1;cases h2;exact h
 | succ j=>simp at h1
section
variable {g:TG}{tt:TT}{te:TE}{n:Nat}{fr:List Nat}{σ:St}{H:Hp}{Q:VK}{J:It}
theorem zIS(D:Addr)(len:Nat)(Pv:Nat->List V->Hp->Prop)(h0:Pv 0 [] (upd H D (.lst [])))(hb:len<=sizeLine)
  (hk: ∀i ys H',i<=len->Pv i ys H'->ys.length<=i/\H' D=some (.lst ys)/\(i<len->J.go i H')/\(i=len->J.stop i H'))
  (hs: ∀i ys H' x H'',i<len->Pv i ys H'->J.yld i H' x H''->zFQ g tt te n (yQ fr σ) D x ys H'' (Pv (i+1))) (hd: ∀ys H',Pv len ys H'->Q (.ref D) H'):
  ∃W:Nat->Nat->List V->Hp->Prop,(∃m,W 0 m [] (upd H D (.lst [])))/\ ∀i m ys H',W i m ys H'->H' D=some (.lst ys)/\((J.stop i H'/\Q (.ref D) H')\/(J.go i H'/\ys.length<sizeLine/\ ∃N:List V->Hp->Prop,(∀ys' H',N ys' H'-> ∃m',m'<m/\W (i+1) m' ys' H')/\
   ∀x H'',J.yld i H' x H''-> ∀pre:St,pre.length=n->g x (pre++yQ fr σ) H'' fun σ2 H2=>(∃yj:St,yj.length=n/\σ2=yj++yQ fr σ)/\
    tt σ2 H2 fun b H3=>if b=true then te σ2 H3 fun y H4=>H4 D=some (.lst ys)/\N (ys++ [y]) (upd H4 D (.lst (ys++ [y]))) else N ys H3)):=by
 refine ⟨fun i m ys H'=>i<=len/\m=len - i/\Pv i ys H',⟨_,zUZ _,rfl,h0⟩,?_⟩;rintro i m ys H' ⟨hi,rfl,p⟩;obtain ⟨hl,hD,hgo,hst⟩:=hk i ys H' hi p;refine ⟨hD,?_⟩;by_cases hlt:i<len
 ·refine .inr ⟨hgo hlt,by omega,Pv (i+1),fun ys' H'' q=>⟨len -(i+1),by omega,hlt,rfl,q⟩,?_⟩;intro x H'' hy;exact hs i ys H' x H'' hlt p hy
 ·have e:i=len:=by omega
  subst e;exact .inl ⟨hst rfl,hd ys H' p⟩
theorem zPs{tb:TS}{D:Ends}(len:Nat)(Pv:Nat->St->Hp->Prop)(h0:Pv 0 σ H)(hgo: ∀i σ H,i<len->Pv i σ H->J.go i H)(hst: ∀σ H,Pv len σ H->J.stop len H)
  (hs: ∀i σ H x H',i<len->Pv i σ H->J.yld i H x H'->g x σ H' fun σ2 H2=>tb {D with nx:=Pv (i+1),ct:=Pv (i+1),bk:=D.nx} σ2 H2) (hd: ∀σ H,Pv len σ H->D.nx σ H):
  ∃W:Nat->Nat->St->Hp->Prop,(∃m,W 0 m σ H)/\ ∀i m σ H,W i m σ H->
   (J.stop i H/\D.nx σ H)\/(J.go i H/\ ∃N:St->Hp->Prop,(∀σ' H',N σ' H'-> ∃m',m'<m/\W (i+1) m' σ' H')/\ ∀x H',J.yld i H x H'->g x σ H' fun σ2 H2=>tb {D with nx:=N,ct:=N,bk:=D.nx} σ2 H2):=by
 refine ⟨fun i m σ H=>i<=len/\m=len - i/\Pv i σ H,⟨_,zUZ _,rfl,h0⟩,?_⟩;rintro i m σ H ⟨hi,rfl,p⟩;by_cases hlt:i<len
 ·exact .inr ⟨hgo i σ H hlt p,Pv (i+1),fun σ' H' q=>⟨len -(i+1),by omega,hlt,rfl,q⟩,fun x H' hy=>hs i σ H x H' hlt p hy⟩
 ·have e:i=len:=by omega
  subst e;exact .inl ⟨hst σ H p,hd σ H p⟩
end
def zTg(wi:TI):TI:=fun σ H R=> ∃Rs:It->Hp->Prop,wi σ H Rs/\ ∀J H1,Rs J H1->R J H1
theorem zLX{X:Cx}(h:QI X tg iter wi):QI X tg iter (zTg wi):=by
 refine ⟨fun pins s σ H R I ⟨Rs,h1,h2⟩=>?_⟩;refine zV (h.out pins s σ H Rs I h1) fun v s1 q=>zV q fun itv s2 q2=>?_;obtain ⟨it,fp,tn,J,H',a1,a2,a3,a4,a5,a6⟩:=q2;exact ⟨it,fp,tn,J,H',a1,a2,a3,a4,a5,h2 J H' a6⟩
structure CompInv(J:It)(g:TG)(tt:TT)(te:TE)(n:Nat)(suf:St)(H:Hp)(D:Addr)(Q:VK):Prop where
 ex: ∃(len:Nat) (Pv:Nat->List V->Hp->Prop),Pv 0 [] (upd H D (.lst []))/\len<=sizeLine/\(∀i ys H',i<=len->Pv i ys H'->ys.length<=i/\H' D=some (.lst ys)/\(i<len->J.go i H')/\(i=len->J.stop i H'))/\
  (∀i ys H' x H'',i<len->Pv i ys H'->J.yld i H' x H''->zFQ g tt te n suf D x ys H'' (Pv (i+1)))/\ ∀ys H',Pv len ys H'->Q (.ref D) H'
theorem yK(len:Nat)(Pv:Nat->List V->Hp->Prop)(h0:Pv 0 [] (upd H D (.lst [])))(hb:len<=sizeLine)
  (hk: ∀i ys H',i<=len->Pv i ys H'->ys.length<=i/\H' D=some (.lst ys)/\(i<len->J.go i H')/\(i=len->J.stop i H'))
  (hs: ∀i ys H' x H'',i<len->Pv i ys H'->J.yld i H' x H''->zFQ g tt te n suf D x ys H'' (Pv (i+1))) (hd: ∀ys H',Pv len ys H'->Q (.ref D) H'):CompInv J g tt te n suf H D Q:=⟨len,Pv,h0,hb,hk,hs,hd⟩
def zLi(wi:TI)(g:TG)(tt:TT)(te:TE)(n:Nat)(fr:List Nat):TE:=fun σ H Q=>wi σ H fun J H1=> ∀D,H1 D=none->CompInv J g tt te n (yQ fr σ) H1 D Q
theorem ye{X:Cx}(zs:List Str)(ys:List Str)(fr:List Nat)(hcm:X.calm=true)
  (hi:QI X tg iter wi) (hclos:closureFor scope X.env=pure cl) (hcell: ∀y∈scope.names,y.2≠ .cell) (hkind:scope.kind= .function) (hnames: ∀y∈scope.names,y.2= .local->scope.names.lookup y.1=some .local)
  (hcl: ∀y a,cl.lookup y=some a->X.env.cells.lookup y=some a)
  (hlen:ys.length=fr.length) (hfr: ∀(j:Nat) y i,ys[j]?=some y->fr[j]?=some i->X.N[i]?=some y/\X.env.kindOf y=some .cell/\(relabel scope X.env).names.lookup y=some .cell/\ ∃a,cl.lookup y=some a/\X.env.cells.lookup y=some a)
  (hhas: ∀y,((relabel scope X.env).names.lookup y=some .cell\/(relabel scope X.env).names.lookup y=some .free)-> ∃a,cl.lookup y=some a)
  (hg: ∀C s₂ H₂ fp,QG (X.comp scope cl C (zs++ys) s₂ H₂ fp) tg g) (hc: ∀C s₂ H₂ fp,QTs (X.comp scope cl C (zs++ys) s₂ H₂ fp) ifs tt) (he: ∀C s₂ H₂ fp,QE (X.comp scope cl C (zs++ys) s₂ H₂ fp) elt te) (hs: ∀v,foldedSetIterable iter X.env v=pure v):
  QE X (.ListComp elt [⟨tg,iter,ifs,0⟩] scope pos) (zLi wi g tt te zs.length fr):=
 zSy (zQO zs ys fr hcm (zLX hi) hclos hcell hkind hnames hcl hlen hfr hhas hg hc he hs) fun σ H Q h=>⟨_,h,fun J H1 h1 D hD=>by
  obtain ⟨len,Pv,a0,a1,a2,a3,a4⟩:=(h1 D hD).ex;exact zIS D len Pv a0 a1 a2 a3 a4⟩
structure ForInv(J:It)(g:TG)(tb:TS)(D:Ends)(σ:St)(H:Hp):Prop where
 ex: ∃(len:Nat) (Pv:Nat->St->Hp->Prop),Pv 0 σ H/\(∀i σ H,i<len->Pv i σ H->J.go i H)/\(∀σ H,Pv len σ H->J.stop len H)/\
  (∀i σ H x H',i<len->Pv i σ H->J.yld i H x H'->g x σ H' fun σ2 H2=>tb {D with nx:=Pv (i+1),ct:=Pv (i+1),bk:=D.nx} σ2 H2)/\ ∀σ H,Pv len σ H->D.nx σ H
theorem yk(len:Nat)(Pv:Nat->St->Hp->Prop)(h0:Pv 0 σ H)(hgo: ∀i σ H,i<len->Pv i σ H->J.go i H)(hst: ∀σ H,Pv len σ H->J.stop len H)
  (hs: ∀i σ H x H',i<len->Pv i σ H->J.yld i H x H'->g x σ H' fun σ2 H2=>tb {D with nx:=Pv (i+1),ct:=Pv (i+1),bk:=D.nx} σ2 H2) (hd: ∀σ H,Pv len σ H->D.nx σ H):ForInv J g tb D σ H:=⟨len,Pv,h0,hgo,hst,hs,hd⟩
def zOb(wi:TI)(g:TG)(tb:TS):TS:=fun D σ H=>wi σ H fun J H1=>ForInv J g tb D σ H1
theorem yt{X:Cx}(hp:PassesOwn (model X.prog X.w) X.A X.env X.xe)(hc:X.calm=true)(hi:QI X tg iter wi)(hg:QG X tg g)(hb:QB X b1 u)(hs: ∀x,foldedSetIterable iter X.env x=pure x):QS X (.For tg iter b1 [] pos) (zOb wi g u):=by
 have h:=zTD (pos:=pos) hp hc (zLX hi) hg hb hs;refine ⟨fun pins s σ H D I ht=>h.out pins s σ H D I ⟨_,ht,fun J H1 h1=>?_⟩⟩;obtain ⟨len,Pv,a0,a1,a2,a3,a4⟩:=h1.ex;exact zPs len Pv a0 a1 a2 a3 a4
section
variable {X:Cx}
end
section
variable {H H':Hp}{d:Addr}{kvs:List (Key×V)}
end
theorem zEF{X:Cx}:yU X (.builtin "len") (fun xs H Q=> ∃a kvs,xs= [.ref a] /\Rd H a (.dK kvs)/\Q (.int (kvs.length:Nat)) H):=by
 intro pins s σ H xs us Q I r h;obtain ⟨a,kvs,rfl,e,q⟩:=h;obtain ⟨u,rfl,ru⟩:=zAR r;cases ru;exact zTK I e fun t s' I'=>⟨.int _,H,I',⟨t,rfl⟩,q⟩
section
variable {X:Cx}
def zQu:V->Option Int->Option Int->Hp->VK->Prop:=fun x lo hi H Q=> ∃z,x= .str z/\z.length<=sizeLine/\Q (.str (Txt.slice z lo hi)) H
theorem zRC:SlR X zQu:=by
 intro pins s σ H x v vl vu lo hi sl Q I rx hs pl pu h;obtain ⟨z,rfl,hz,q⟩:=h;obtain ⟨t,rfl⟩:=rx;refine ⟨"str",_,PySem.F.slot_str_getitem.lookup,typeIs_str _ _ _,?_⟩;obtain ⟨o,e1,e2,e3⟩:=hs;cases pl with
 | none=>
  cases pu with
  | none=>exact wpAny_getItem_str_slice (l:=none) (u:=none) (st:=none) ⟨o,e1,e2,e3⟩ rfl (post_val_or_str ⟨zUY (Txt.slice_le z _ _) hz,fun t' k=>⟨.str _,H,I.tok _,⟨_,rfl⟩,q⟩⟩)
  | int j uj=>exact wpAny_getItem_str_slice (l:=none) (u:=some (j,uj)) (st:=none) ⟨o,e1,e2,e3⟩ rfl (post_val_or_str ⟨zUY (Txt.slice_le z _ _) hz,fun t' k=>⟨.str _,H,I.tok _,⟨_,rfl⟩,q⟩⟩)
 | int i ui=>
  cases pu with
  | none=>exact wpAny_getItem_str_slice (l:=some (i,ui)) (u:=none) (st:=none) ⟨o,e1,e2,e3⟩ rfl (post_val_or_str ⟨zUY (Txt.slice_le z _ _) hz,fun t' k=>⟨.str _,H,I.tok _,⟨_,rfl⟩,q⟩⟩)
  | int j uj=>exact wpAny_getItem_str_slice (l:=some (i,ui)) (u:=some (j,uj)) (st:=none) ⟨o,e1,e2,e3⟩ rfl (post_val_or_str ⟨zUY (Txt.slice_le z _ _) hz,fun t' k=>⟨.str _,H,I.tok _,⟨_,rfl⟩,q⟩⟩)
structure QO(X:Cx)(e:Option Expr)(t:TO):Prop where
 out:PO X e t
theorem zMW:QO X none zKB:=⟨zPK⟩
theorem zGd(h:QE X e te):QO X (some e) (zOd te):=⟨zQB h.out⟩
theorem zLW{e:Expr}{te:TE}{lo hi:Option Expr}{tl th:TO}{pos p2:Pos}(he:QE X e te)(hl:QO X lo tl)(hu:QO X hi th):QE X (.Subscript e (.Slice lo hi none p2) pos) (tSl zQu te tl th):=⟨zOF zRC he.out hl.out hu.out⟩
theorem zHb: ∀{xs:List V} {us:List Value},zS xs us->xs.all zAQ=true->us.countP (eqU x)=xs.countP fun y=>eqV y x
 | _,_,.nil,_=>rfl
 | y::xs,u::us,.cons r t,f=>by
  rw [List.all_cons,zVM] at f;rw [List.countP_cons,List.countP_cons,zGB r f.1,zHb t f.2]
theorem zId: ∀{xs:List V} {us:List Value},zS xs us->xs.all zAQ=true-> ∀(j:Nat) (h1:j<us.length) (h2:j<xs.length),eqU x us[j] =eqV xs[j] x
 | _,_,.nil,_,j,h1,_=>absurd h1 (Nat.not_lt_zero j)
 | y::xs,u::us,.cons r t,f,j,h1,h2=>by
  rw [List.all_cons,zVM] at f;cases j with
  | zero=>exact zGB r f.1
  | succ j=>exact zId t f.2 j (Nat.lt_of_succ_lt_succ h1) (Nat.lt_of_succ_lt_succ h2)
def zME(K:zVK):V->List V->Hp->VK->Prop:=fun x xs H Q=> ∃p ys y,x= .ref p/\xs= [y] /\SqL K H p ys/\zAQ y=true/\ys.all zAQ=true/\Q (.int (ys.countP fun z=>eqV z y:Nat)) H
theorem zOM:MtR X "list.count" (zME X.K):=by
 intro pins s σ H x xs v us Q I rx rv h;obtain ⟨p,ys,y,rfl,rfl,hq,fy,fs,q⟩:=h;cases rx;obtain ⟨u,rfl,ru⟩:=zAR rv;obtain ⟨its,r,pl,hz⟩:=I.list hq;obtain ⟨⟨cls,dd,data,sl⟩,ho,hc,n,hd⟩:=id pl.isList;simp only at hc hd;subst hc hd;refine call_meets PySem.F.slot_list_count ⟨_,ho,rfl⟩ PySem.F.entry_list_count (PySem.F.args_list_count_2 _ _) (SeqAt.list_countAt p its.toArray n dd sl u (eqU y)) ⟨ho,fun w hw=>zBQ ru fy r fs w (by simpa using hw),?_⟩;rw [show its.toArray.toList=its from rfl,zHb r fs];exact ⟨.int _,H,I.tok _,⟨_,rfl⟩,q⟩
def zMR(K:zVK):V->List V->Hp->VK->Prop:=fun x xs H Q=> ∃p ys y,∃j:Nat,x= .ref p/\xs= [y] /\SqL K H p ys/\zAQ y=true/\ys.all zAQ=true/\(∃h:j<ys.length,eqV ys[j] y=true)/\(∀m (h:m<ys.length),m<j->eqV ys[m] y=false)/\Q (.int j) H
theorem zNw:MtR X "list.index" (zMR X.K):=by
 intro pins s σ H x xs v us Q I rx rv h;obtain ⟨p,ys,y,j,rfl,rfl,hq,fy,fs,⟨hj,hit⟩,hno,q⟩:=h;cases rx;obtain ⟨u,rfl,ru⟩:=zAR rv;obtain ⟨its,r,pl,hz⟩:=I.list hq;have hl:=r.length;have hn:=zCa;obtain ⟨⟨cls,dd,data,sl⟩,ho,hc,n,hd⟩:=id pl.isList;simp only at hc hd;subst hc hd;refine call_meets PySem.F.slot_list_index ⟨_,ho,rfl⟩ PySem.F.entry_list_index (PySem.F.args_list_index_2 _ _) (SeqAt.list_indexAt p its.toArray n dd sl u (eqU y) j (by rw [zUe];omega) (by omega) ?_ ?_) ⟨ho,fun w hw=>zBQ ru fy r fs w (by simpa using hw),?_⟩
 ·show eqU y its[j] =true;rw [zId r fs j (by omega) hj];exact hit
 ·intro m hm hlt;show eqU y its[m] =false;rw [zUe] at hm;rw [zId r fs m hm (by omega)];exact hno m (by omega) hlt
 ·exact ⟨.int _,H,I.tok _,⟨_,rfl⟩,q⟩
section
variable {K:zVK}{o e:Expr}{to te:TE}{apos cpos:Pos}
theorem zQc(hK:X.K=K)(ho:QE X o to)(ha:QE X e te)(hb:attributeBase o "count" X.env (eval o X.env)=eval o X.env)(h2:yV e=true)(hl:(apos.endLine==cpos.line)=true):
  QE X (.Call (.Attribute o "count" apos) [e] [] cpos) (tBM K "list" (zME K) to (zDj te zCT)):=by
 subst hK;exact ⟨zGH PySem.F.plainAttrs_list PySem.F.slot_list_count PySem.F.type_list_count zOM ho.out (zf ha.out yG (zh h2)) hb (by rw [zh h2];rfl) hl (zh h2) rfl⟩
theorem zPZ(hK:X.K=K)(ho:QE X o to)(ha:QE X e te)(hb:attributeBase o "index" X.env (eval o X.env)=eval o X.env)(h2:yV e=true)(hl:(apos.endLine==cpos.line)=true):
  QE X (.Call (.Attribute o "index" apos) [e] [] cpos) (tBM K "list" (zMR K) to (zDj te zCT)):=by
 subst hK;exact ⟨zGH PySem.F.plainAttrs_list PySem.F.slot_list_index PySem.F.type_list_index zNw ho.out (zf ha.out yG (zh h2)) hb (by rw [zh h2];rfl) hl (zh h2) rfl⟩
theorem zEC(hK:X.K=K):OpR X (compareOp .In) (rIn K false):=by
 subst hK;exact zNE
def zRT(K:zVK)(b:Bool):R2:=fun x y H Q=> ∃p q xs,x= .ref p/\y= .ref q/\SqL K H p xs/\SqL K H q xs/\(∀x∈xs,zJC x=true)/\Q (.bl b) H
theorem zKU(hK:X.K=K)(hu:X.A.units<cLine):OpR X (compareOp .NotEq) (zRT K false):=by
 subst hK;intro pins s σ H x y v u Q I rx ry h;obtain ⟨p,q,xs,rfl,rfl,h1,h2,f,hq⟩:=h;cases rx;cases ry;obtain ⟨us,r1,t1,_⟩:=I.list h1;obtain ⟨vs,r2,t2,_⟩:=I.list h2;have l1:=r1.length;have l2:=r2.length;have es:us.toArray.size=vs.toArray.size:=by simp;omega
 have z:=SeqAt.RcNeAt.lists (A:=X.A) (e:=fun _=>true) t1.isList t2.isList es hu (zLS f r1 r2);rw [zNx] at z;refine z _ _ _ _ ?_;exact ⟨.bl false,H,I,rfl,hq⟩
end
section
variable {CX:CXT}{k:Nat}{f C:Addr}{fd:FuncData}{ps:List Str}{sp:Sp}{dvs:List V}{ds:List Value}{E:XK}{Es:St->XK}{x m:Str}{p pos apos:Pos}{e o:Expr}{es:List Expr}{ta:TE}{t:TA}{pl:Sem Bool}
theorem zIZ(he:QE X o ta)(c:Cls X.K C)(hm:Meth X.K C m f)(F:FnOk X.prog X.w X.K X.mg X.base CX k f fd ps sp)(hr:Room k X.A)(hb:zL X.K fd ps ds)(hd:zS dvs ds)(hx:zAK CX X E)(ha:QA X (e::es) t)
  (h2:yV e=true) (h3:yl es=true)
  (ht:eval (.Call (.Attribute o m apos) (e::es) [] pos) X.env=(do
   let ov<-eval o X.env
   standAt apos.atName
   let (f,first)<-holding [ov] (getMethod ov m pl)
   callWith pos f first (backTo pos (starEach (e::es) X.env)) (backToKw pos (keywordEach [] X.env)))):
  QE X (.Call (.Attribute o m apos) (e::es) [] pos) (zHx C m sp dvs E ta t):=⟨zQK he.out c hm F hr hb hd hx ha.out (zh h2) (yx h3) ht⟩
def zNJ(C:Addr)(m:Str)(sp:Sp)(dvs:List V)(E:St->XK)(ta:TE)(t:TA):TE:=fun σ H Q=>ta σ H fun x H1=> ∃a dx fs,x= .ref a/\H1 a=some (.ins C dx fs)/\fs.lookup m=none/\
 t σ H1 fun vs H2=>sp (x::(vs++dvs)) H2 Q (E σ)
theorem zNm(he:PE X o ta)(c:Cls X.K C)(hm:Meth X.K C m f)(F:FnOk X.prog X.w X.K X.mg X.base CX k f fd ps sp)(hr:Room k X.A)(hb:zL X.K fd ps ds)(hd:zS dvs ds)(hx:zAW CX X Es)(ha:PA X (e::es) t)
  (hst:starEach (e::es) X.env=(false,eval e X.env)::starEach es X.env) (hpl:(backTo pos (starEach es X.env)).any (·.1)=false)
  (ht:eval (.Call (.Attribute o m apos) (e::es) [] pos) X.env=(do
   let ov<-eval o X.env
   standAt apos.atName
   let (f,first)<-holding [ov] (getMethod ov m pl)
   callWith pos f first (backTo pos (starEach (e::es) X.env)) (backToKw pos (keywordEach [] X.env)))):
  PE X (.Call (.Attribute o m apos) (e::es) [] pos) (zNJ C m sp dvs Es ta t):=by
 intro pins s σ H Q I h;refine PySem.W.methodCall_KW (pl:=pl) (zV (he pins s σ H _ I h) fun u s1 ⟨x,H1,I1,rx,a,dx,fs,ex,ea,l,q⟩=>?_) ht;subst ex;obtain rfl:u=Value.ref a:=rx;refine zDa I1 ea c hm l ?_;refine PySem.W.callWith_K (first:= [.ref a]) (h₀:=X.base) I.ok.mod.kin hm.kp (zV (ha pos pins s1 σ H1 _ I1 q) fun us s2 ⟨vs,H2,I2,r,q2⟩=>⟨I2.kIn,?_⟩) hst hpl;exact zJl (us:= .ref a::us) (vs:= .ref a::vs) F hr hb hd hx I2 (.cons rfl r) q2
theorem zAl(he:QE X o ta)(c:Cls X.K C)(hm:Meth X.K C m f)(F:FnOk X.prog X.w X.K X.mg X.base CX k f fd ps sp)(hr:Room k X.A)(hb:zL X.K fd ps ds)(hd:zS dvs ds)(hx:zAW CX X Es)(ha:QA X (e::es) t)
  (h2:yV e=true) (h3:yl es=true)
  (ht:eval (.Call (.Attribute o m apos) (e::es) [] pos) X.env=(do
   let ov<-eval o X.env
   standAt apos.atName
   let (f,first)<-holding [ov] (getMethod ov m pl)
   callWith pos f first (backTo pos (starEach (e::es) X.env)) (backToKw pos (keywordEach [] X.env)))):
  QE X (.Call (.Attribute o m apos) (e::es) [] pos) (zNJ C m sp dvs Es ta t):=⟨zNm he.out c hm F hr hb hd hx ha.out (zh h2) (yx h3) ht⟩
end
section
variable {pos:Pos}
structure QP(X:Cx)(pos:Pos)(keys:List (Option Expr))(values:List Expr)(trs:List (TE×TE)):Prop where
 out:PPs X pos keys values trs
theorem zQp:QP X pos [] [] [] :=⟨zPY⟩
theorem zHC{ks:List (Option Expr)}{trs:List (TE×TE)}(hk:QE X k tk)(hv:QE X v tv)(hr:QP X pos ks vs trs):QP X pos (some k::ks) (v::vs) ((tk,tv)::trs):=⟨zNg hk.out hv.out hr.out⟩
theorem zRH{keys:List (Option Expr)}{trs:List (TE×TE)}(h:QP X pos keys values trs)(hall:keys.all (·.isSome)=true)(hl:keys.length=values.length)(h0:keys≠ [])(h15:keys.length<=15):
  QE X (.Dict keys values pos) (zPD trs):=⟨zPP h.out hall hl h0 h15⟩
end
end
structure RoomH(k:Nat)(A:Around):Prop where
 dp:A.depth+3*k+5<recursionLimit
 un:A.units+16*k+200<cLine
 gd:A.guards=some []
theorem Room.mark{v:Option Value}(r:Room k A):RoomH k (A.mark v):=⟨r.dp,r.un,r.gd⟩
theorem RoomH.deeper(r:RoomH (k+1) A)(env:Env):RoomH k (A.deeper env):=
 ⟨by have:=r.dp;show A.depth+1+3*k+5<_;omega,by have:=r.un;show A.units+3+16*k+200<_;omega,r.gd⟩
theorem RoomH.depth(r:RoomH k A):A.depth<recursionLimit:=by have:=r.dp;omega
structure FnOkH(P:Program)(w:World)(K:zVK)(mg:Str->Option Value)(base:Heap)(k:Nat)(f:Addr)(fd:FuncData)(ps:List Str)(sp:Sp):Prop where
 len: ∀vs H Q E,sp vs H Q E->vs.length=ps.length
 run: ∀(A:Around) (outer:List Env) (s:Shared) (H:Hp) (args:Args) (us:List Value) (vs:List V) (Q:VK) (E:XK),RoomH k A->Env0 P w K mg base A outer s H->BindsTo s fd args (ps.zip us)->zS vs us->sp vs H Q E->
  codeAny (model P w) A (.call (.ref f) args) (CR CX0 outer P w H s Q E) s
def cxH(P:Program)(w:World)(K:zVK)(mg:Str->Option Value)(base:Heap)(N:List Str)(qual:Str)(scope:Scope)(f:Addr)(cd:Value)(A:Around)(outer:List Env)(s:Shared)(H:Hp)(E:XK):Cx:=
 {(zAx CX0 P w K mg base N qual scope f cd A outer s H E) with calm:=false}
theorem zKe{P:Program}{w:World}{K:zVK}{mg:Str->Option Value}{base:Heap}{N ps:List Str}{qual:Str}{scope:Scope}{f:Addr}{cd:Value}{A:Around}{outer:List Env}{s s1:Shared}{H:Hp}{E:XK}{us:List Value}{vs:List V}
  (S:FnScope N ps scope) (e0:Env0 P w K mg base A outer s H) (hl:vs.length=ps.length) (r:zS vs us)
  (x:InCallC s s.heap.objs.size (bindL (envOfC qual scope s.heap.objs.size f cd).kindOf (ps.zip us) fun _=>none) (cellsFrom (s.heap.objs.size+1) scope.names []) (bindC (envOfC qual scope s.heap.objs.size f cd).kindOf (ps.zip us) fun _=>none) s1):
  Inv (cxH P w K mg base N qual scope f cd A outer s H E) [] (start N vs) H s1:=by
 have I:=zHY (CX:=CX0) (E:=E) (A:={A with handled:=none}) S rfl ⟨e0.frames,e0.mod,e0.bs,e0.bsz,e0.funs,e0.frf,e0.hok,e0.bare⟩ hl r x;obtain ⟨ok,os,bare,base',loc,cell,free,freeC,pin,hok,len⟩:=I;refine ⟨⟨ok.mod,ok.kind,ok.glob,ok.blt,ok.above,ok.inj,ok.has,ok.cab,fun z=>(nomatch z),?_,ok.stk,ok.exf,ok.bs,ok.bsz,ok.noex,ok.exfs,ok.funs,ok.frf⟩,os,bare,base',loc,cell,free,freeC,pin,hok,len⟩;have:=ok.frames;exact this
theorem zRy{P:Program}{w:World}{K:zVK}{mg:Str->Option Value}{base:Heap}{k:Nat}{f:Addr}{name qual:Str}{params:Arguments}{body:List Stmt}{scope:Scope}{dV kV doc pm cdv ct oc:Value}{an od:Option Addr}
  {osl:Array (Option Value)} {N ps:List Str} {sp:Sp} (lk:K.lookup f=some ⟨oc,od,.func (PySem.W.fnOf name qual params body scope dV kV doc pm an cdv ct),osl⟩) (hcd:PySem.W.codeIn K cdv qual=true) (S:FnScope N ps scope)
  (len: ∀vs H Q E,sp vs H Q E->vs.length=ps.length)
  (hbody: ∀(A:Around) (outer:List Env) (s:Shared) (H:Hp) (vs:List V) (Q:VK) (E:XK),RoomH k (A.deeper (envOfC qual scope s.heap.objs.size f cdv))->sp vs H Q E->
   ∃t,PSs (cxH P w K mg base N qual scope f cdv A outer s H E) body t/\t {nx:=fun _ H'=>Q .non H',rt:=Q} (start N vs) H):
  FnOkH P w K mg base (k+1) f (PySem.W.fnOf name qual params body scope dV kV doc pm an cdv ct) ps sp:=by
 refine ⟨len,fun A outer s H args us vs Q E hr e0 hb r hsp=>?_⟩;have hl:=len _ _ _ _ hsp;have KX:K.In s.heap:=e0.mod.kin.keeps fun b o e=>(e0.bs b o e).1;have lim:s.heap.NoLimit:=e0.mod.nolimit.keeps fun b o e=>(e0.bs b o e).1;have hkind: ∀y∈ps.zip us,scope.names.lookup y.1=some .local\/(scope.names.lookup y.1=some .cell/\((cellsFrom (s.heap.objs.size+1) scope.names []).lookup y.1).isSome=true):=fun ⟨n,v⟩ hy=>
  (S.par n (List.of_mem_zip hy).1).imp id fun q=>⟨q,PySem.W.cellsFrom_some _ _ _ (.inl q)⟩
 refine codeAny_call_function hr.depth (KX _ _ lk) rfl S.co S.gen rfl (PySem.W.codeRec_of KX hcd) (hb _ _ _ _ ?_);refine wpAny_newFunctionEnv_cells S.kind hkind fun env he s1 x=>?_;subst he;refine ⟨lim.keeps x.toInCall.keep,codeAny_func ?_⟩;obtain ⟨t,ht,hq⟩:=hbody A outer s H vs Q E (hr.deeper _) hsp;have I:=zKe (P:=P) (w:=w) (E:=E) S e0 hl r x;refine zUf (ht [] s1 (start N vs) H _ I hq) (fun fl s' hs=>?_) fun e s' hs=>hs;cases fl with
 | ret u=>exact let ⟨v,σ',H',J,rv,q⟩:=hs;⟨v,H',J.os,J.bare,J.base,J.hok,rv,q⟩
 | next=>exact let ⟨σ',H',J,q⟩:=hs;⟨V.non,H',J.os,J.bare,J.base,J.hok,rfl,q⟩
 | brk=>exact (let ⟨_,_,_,q⟩:=hs;q:False).elim
 | cont=>exact (let ⟨_,_,_,q⟩:=hs;q:False).elim
section
variable {P:Program}{w:World}{K:zVK}{mg:Str->Option Value}{base:Heap}
theorem Fun.okH{x qual:Str}{st:Stmt}{f:Addr}{fd:FuncData}{N ps:List Str}{k:Nat}{sp:Sp}(F:Fun K x qual st f fd)(S:FnScope N ps (zK st))(len: ∀vs H Q E,sp vs H Q E->vs.length=ps.length)
  (hbody: ∀(cdv:Value) (A:Around) (outer:List Env) (s:Shared) (H:Hp) (vs:List V) (Q:VK) (E:XK),RoomH k (A.deeper (envOfC qual (zK st) s.heap.objs.size f cdv))->sp vs H Q E->
   ∃t,PSs (cxH P w K mg base N qual (zK st) f cdv A outer s H E).nox (yd st) t/\t {nx:=fun _ H'=>Q .non H',rt:=Q} (start N vs) H):FnOkH P w K mg base (k+1) f fd ps sp:=by
 obtain ⟨oc,od,kV,doc,pm,an,cdv,ct,osl,rfl,lk,hcd⟩:=F.ex;refine zRy lk hcd S len fun A outer s H vs Q E hr hsp=>?_;obtain ⟨t,h,q⟩:=hbody cdv A outer s H vs Q E hr hsp;exact ⟨t,h.nox,q⟩
end
section
variable {X:Cx}{k:Nat}{f:Addr}{fd:FuncData}{ps:List Str}{sp:Sp}{x:Str}{p pos:Pos}{e:Expr}{es:List Expr}{t:TA}
theorem zPq(F:FnOkH X.prog X.w X.K X.mg X.base k f fd ps sp)(hr:RoomH k X.A)(hg:Gl X x)(hm:X.mg x=some (.ref f))(hk:PySem.W.keepIn X.K (.ref f)=true)(hb:zL X.K fd ps [])
  (ha:QA X (e::es) t) (hdb:(x==("__debug__" :Str))=false) (h2:yV e=true) (h3:yl es=true):QE X (.Call (.Name x p) (e::es) [] pos) (zKZ sp [] E0 t):=by
 refine ⟨fun pins s σ H Q I h=>?_⟩;refine zVH (zBY I hg hm ?_ hdb);refine PySem.W.callWith_K (h₀:=X.base) I.ok.mod.kin hk (zV (ha.out pos pins s σ H _ I h) fun us s1 ⟨vs,H1,I1,r,q⟩=>⟨I1.kIn,?_⟩) (zh h2) (yx h3);replace q:sp (vs++ []) H1 Q E0:=q;rw [zUm] at q;have hl:(us++ []).length=ps.length:=by rw [zUm,<-r.length];exact F.len _ _ _ _ q
 have hb':=hb s1 us I1.kIn hl;rw [zUm] at hb';rw [List.nil_append];refine wpAny_call (zVI (F.run X.A X.stack s1 H1 ⟨us,[]⟩ us vs Q E0 hr I1.env0 hb' r q) fun r s' hq=>?_);cases r with
 | error e=>exact hq.elim
 | ok fl=>
  cases fl with
  | ret u=>exact I1.after hq
  | next=>exact False.elim hq
  | brk=>exact False.elim hq
  | cont=>exact False.elim hq
end
end L2
namespace PySem
open PyProof.Rows
section
variable {prog:Program}{w:World}{A:Around}{E:Value->Shared->Prop}{s:Shared}
end
end PySem
namespace PySem
open PyProof.Rows
section
variable {prog:Program}{w:World}{A:Around}{R:Result->Shared->Prop}{I:Addr}{fp wr:List Addr}{G:Array GenState->Array GenState->Prop}{n:Nat}{P:Nat->Value->Prop}{St:Nat->Shared->Prop}
end
section
variable {prog:Program}{w:World}{A:Around}{E:Value->Shared->Prop}{s:Shared}
end
end PySem
namespace PySem.F
end PySem.F
namespace PySem
open PyProof.Rows
section
variable {prog:Program}{w:World}{A:Around}{E:Value->Shared->Prop}{s:Shared}
end
end PySem
namespace PySem
open PyProof.Rows
section
variable {prog:Program}{w:World}{A:Around}{E:Value->Shared->Prop}{s:Shared}{it a tp:Addr}{es:Array (Int×Value)}{ep:Nat}{t:SetTable}{order:List Nat}{vals:List Value}{i:Nat}
end
end PySem
namespace PySem
open PyProof.Rows
section
variable {prog:Program}{w:World}{A:Around}{E:Value->Shared->Prop}{s:Shared}{it a tp:Addr}{es:Array (Int×Value)}{ep:Nat}{t:SetTable}{order:List Nat}{vals:List Value}{i:Nat}
end
end PySem
namespace PySem
open PyProof.Rows
section
variable {prog:Program}{w:World}{A:Around}{E:Value->Shared->Prop}{s:Shared}
end
end PySem
namespace L2
open PySem PySem.Spec PyProof.Rows
section
variable {X:Cx}
theorem zEI: ∀{ks:List Str} {its:List Value},zS (ks.map V.str) its->StrsAre its ks
 | [],_,.nil=> .nil
 | k::ks,_,.cons r t=>by
  obtain ⟨u,e⟩:=r;subst e;exact .cons k u (zEI t)
def zPF(K:zVK):V->List V->Hp->VK->Prop:=fun x xs H Q=> ∃sep p ys,x= .str sep/\xs= [.ref p] /\SqL K H p (ys.map V.str)/\(ys.map (·.length)).sum+ys.length*sep.length<=16777216/\Q (.str (Txt.join sep ys)) H
theorem zPf:MtR X "str.join" (zPF X.K):=by
 intro pins s σ H x xs v us Q I rx rv h;obtain ⟨sep,p,ys,rfl,rfl,hq,hz,q⟩:=h;obtain ⟨t,rfl⟩:=rx;obtain ⟨u,rfl,ru⟩:=zAR rv;cases ru;obtain ⟨its,r,pl,_⟩:=I.list hq;exact join_list pl.isList (ys:=ys) (by simpa using zEI r) hz fun t' k=>⟨.str _,H,I.tok _,⟨_,rfl⟩,q⟩
open PySem.Builtin PySem.Builtin.Str in
open PySem.Builtin PySem.Builtin.Str in
section
variable {K:zVK}{o e:Expr}{to te:TE}{apos cpos:Pos}
theorem zRs(hK:X.K=K)(ho:QE X o to)(ha:QE X e te)(hb:attributeBase o "join" X.env (eval o X.env)=eval o X.env)(h2:yV e=true)(hl:(apos.endLine==cpos.line)=true):
  QE X (.Call (.Attribute o "join" apos) [e] [] cpos) (tBM K "str" (zPF K) to (zDj te zCT)):=by
 subst hK;exact ⟨zGH PySem.F.plainAttrs_str PySem.F.slot_str_join PySem.F.type_str_join zPf ho.out (zf ha.out yG (zh h2)) hb (by rw [zh h2];rfl) hl (zh h2) rfl⟩
end
end
section
variable {X:Cx}{pos:Pos}
end
section
variable {M:Model}{A:Around}{E:Value->Shared->Prop}{s:Shared}
end
theorem zDt{h h' B B':Heap}(k: ∀b o,B.get? b=none->h.get? b=some o->(∀vs,o.data≠ .fields vs)->h'.get? b=some o)(kb: ∀b,B.get? b=none->B'.get? b=none): ∀{l:List Env},h.FunFrames B l->h'.FunFrames B' l
 | [],_=>trivial
 | _::_,⟨hk,⟨L,o,hf,hn,ho,hd⟩,hr⟩=>⟨hk,⟨L,o,hf,kb L hn,k L o hn ho hd,hd⟩,zDt k kb hr⟩
def zTs(X:Cx)(E:XK)(e:Value)(s':Shared):Prop:=
 ∃(ea:Addr) (cls a0:Value) (H':Hp) (B:Heap) (fl:Value),e= .ref ea/\s'.os=X.s₀.os/\AllBare s'.gens/\B.StaysIn s'.heap/\B.get? ea=none/\s'.heap.FunFrames B X.stack/\s'.heap.TracedAtW B ea cls a0 fl/\
  HOk X.prog X.w H' B/\FlyU X.fs X.H₀ H' X.s₀.heap B s'.heap/\E cls none H'
def zET(X:Cx)(E:St->XK):Prop:=X.ex= [] /\X.stack=X.env::X.outer/\X.env.frame=some X.env.locals/\ ∀(σ:St) (e:Value) (s':Shared),X.Ok->zTs X (E σ) e s'->X.xe e s'
section
variable {P:Program}{w:World}{K:zVK}{mg:Str->Option Value}{base:Heap}{N:List Str}{qual:Str}{scope:Scope}{f:Addr}{cd:Value}{A:Around}{outer:List Env}{s₀:Shared}{H₀:Hp}{E:XK}
end
section
variable {X:Cx}{scope:Scope}{cl:List (Str×Addr)}{C:Addr}{N:List Str}{s2:Shared}{H2:Hp}{fp:List Addr}{pins pn:List (Addr×Obj)}{σ σ':St}{H:Hp}{s s':Shared}{e acc:Value}{E:St->XK}{Q:Value->Shared->Prop}
theorem zKn(hp:zET X E)(I2:Inv X pins σ H2 s2)(f2: ∀b∈fp,@LE.le Nat _ X.s₀.heap.objs.size b)(hC: @LE.le Nat _ s2.heap.objs.size C)(I:Inv (X.comp scope cl C N s2 H2 fp) pn σ' H s)(h:Fly X.prog X.w X.stack H s (E σ) e s'):
  notedBy (model X.prog X.w) X.A (compEnvC scope cl C X.env) (fun e s=>compPost (model X.prog X.w) X.A X.xe none Q acc C (.error e) s) e s':=by
 obtain ⟨hex,hst,hfr,hp⟩:=hp;obtain ⟨ea,cls,a0,H',B,rfl,hos,hb,hfl,hok,U,q⟩:=h;show wpAny _ X.A (noteFrame (.ref ea) X.env) _ _ s';have hfl':=hfl;rw [hst] at hfl';refine wpAny_looks_onW (by rw [I2.ok.frames,hst]) hfr hfl' fun h4 x4 u4=>?_;rw [<-hst] at x4;obtain ⟨m,hn,_⟩:=I.loc;obtain ⟨oC,es,ep,hoC,hdC,rC⟩:=hn;have hCfs:C∉yW X.stack:=fun z=>by
  rcases zVL.mp (I2.stkSub C z) with y | y
  ·have:=I2.lt;have y': @Eq Nat C X.env.locals:=y;have this': @LT.lt Nat _ X.env.locals s2.heap.objs.size:=this;omega
  ·obtain ⟨_,o,ho,_⟩:=I2.ok.funs.mem y;have a1: @LT.lt Nat _ C X.s₀.heap.objs.size:=zAE ho;have a2: @LE.le Nat _ X.s₀.heap.objs.size s2.heap.objs.size:=I2.sz;omega
 have hCH:H C=none:=I.free;have hCB:B.get? C=some oC:=U.keep C oC hoC hCH hCfs;obtain ⟨x41,x42,x43,oe,vs,T,oT,ts,he,hcls,hd,h1,hnT,hTe,hT,hdT,h3⟩:=x4;have neC: ∀b,B.get? b=none->b≠C:=fun b hb z=>by rw [z,hCB] at hb;cases hb
 have hC4:h4.get? C=some oC:=x41 C oC hCB;refine ⟨m,⟨oC,es,ep,hC4,hdC,rC⟩,fun h' sb cenv' _=>?_⟩;have kp: ∀b o,b≠C->h4.get? b=some o->h'.get? b=some o:=fun b o hb e=>(sb.2 b hb).trans e;have he':=kp ea oe (neC ea x42) he;have hT':=kp T oT (neC T hnT) hT;have hsz3:3<ts.size:=(Array.getElem?_eq_some_iff.mp h3).1;unfold PySem.passOn;refine zUL (wpAny_field he' hd h1 ?_);rw [if_neg (show¬((Value.ref T==Value.none)=true) from by simp)];unfold setFlight;refine zUL (zUL (wpAny_field he' hd h1 ?_));rw [if_pos (show (Value.ref T !=Value.none)=true from by simp)];refine wpAny_setField hT' hdT hsz3 (wpAny_throw ?_);have other: ∀b,b≠T->(h'.update T (Obj.mapFields (·.setIfInBounds 3 (cenv'.frame.elim Value.none fun f=>rawInt f)))).get? b=h'.get? b:=fun b hb=>zUw _ _ (Ne.symm hb);have noT: ∀b o,B.get? b=some o->b≠T:=fun b o hb z=>by rw [z,hnT] at hb;cases hb
 have frT: ∀b o,h4.get? b=some o->(∀vs,o.data≠ .fields vs)->b≠T:=fun b o hb hnf z=>by
  rw [z,hT] at hb;injection hb with hb;subst hb;exact hnf ts hdT
 have hH'C:H' C=none:=U.free C oC hoC hCH;have exn: ∀b,b∉X.ex:=fun b=>by rw [hex];simp
 have hlt: ∀b o,X.s₀.heap.get? b=some o->b∉fp/\b≠C:=fun b o e=>by
  have a1: @LT.lt Nat _ b X.s₀.heap.objs.size:=zAE e;have a2: @LE.le Nat _ X.s₀.heap.objs.size s2.heap.objs.size:=I2.sz;refine ⟨fun z=>?_,fun z=>?_⟩
  ·have:=f2 b z;omega
  ·have z': @Eq Nat b C:=z;omega
 have nst: ∀b o,X.s₀.heap.get? b=some o->b∉X.fs->b∉yW X.stack:=fun b o e hb z=>by
  rcases zVL.mp (I2.stkSub b z) with y | y
  ·exact zUS (zUT (zUU e) I2.ok.above) y
  ·exact hb y
 have st1: ∀b,b∈X.fs->b∈yW X.stack:=fun b hb=>by rw [hst];exact zBA hb
 refine hp σ _ _ I2.ok ⟨ea,cls,a0,H',PySem.W.hideAll B [C],_,rfl,?_,hb,fun b o hbo=>?_,?_,zDt (B:=B) (h:=h4) (fun b o hbn hbo hnf=>?_) (fun b hbn=>?_) x43,
  ⟨oe,vs,T,_,_,(other ea (Ne.symm hTe)).trans he',hcls,hd,h1,?_,hTe,zUx _ hT' (Obj.isFreed_of_fields (Obj.data_mapFields hdT _)),Obj.data_mapFields hdT _,by simp [hsz3];rfl⟩,?_,⟨fun b o e n hbf=>?_,fun b o e n hbf=>?_,fun b o e hbf=>?_,fun b o e n=>?_,fun b xs e=>?_,fun b o u e=>?_,fun b ps e=>?_⟩,q⟩
 ·exact hos.trans (I.os.trans I2.os)
 ·have hne:b≠C:=fun z=>by rw [z,PySem.W.hideAll_none [C] (by simp)] at hbo;cases hbo
  have hB:=zVJ [C] hbo;rw [other b (noT b o hB)];exact kp b o hne (x41 b o hB)
 ·cases z:(PySem.W.hideAll B [C]).get? ea with
  | none=>rfl
  | some o=>have:=zVJ [C] z;rw [x42] at this;cases this
 ·rw [other b (frT b o hbo hnf)];exact kp b o (neC b hbn) hbo
 ·cases z:(PySem.W.hideAll B [C]).get? b with
  | none=>rfl
  | some o=>have:=zVJ [C] z;rw [hbn] at this;cases this
 ·cases z:(PySem.W.hideAll B [C]).get? T with
  | none=>rfl
  | some o=>have:=zVJ [C] z;rw [hnT] at this;cases this
 ·exact fun a o e=>(hok a o e).stay (fun b u hbb e1=>zUu _ e1 fun hm=>by
   have z:b=C:=by simpa using hm
   rcases hbb with y | y
   ·rw [<-y,z,hH'C] at e;cases e
   ·rw [z,hH'C] at y;cases y) (fun _ q=>q) fun _ _ q=>q
 ·obtain ⟨l1,l2⟩:=hlt b o e;have e1:=I2.base.keep b o e n hbf (exn b);have n1:=I2.base.free b o e n (exn b);have e2:=I.base.keep b o e1 n1 (nst b o e hbf) l1;have n2:=I.base.free b o e1 n1 l1;exact zUu _ (U.keep b o e2 n2 (nst b o e hbf)) (by simpa using l2)
 ·obtain ⟨l1,l2⟩:=hlt b o e;obtain ⟨sl1,e1⟩:=I2.base.slot b o e n hbf (exn b);have n1:=I2.base.free b o e n (exn b);obtain ⟨sl2,e2⟩:=I.base.slot b _ e1 n1 (st1 b hbf) l1;have n2:=I.base.free b _ e1 n1 l1;obtain ⟨sl3,e3⟩:=U.slot b _ e2 n2 (st1 b hbf);obtain ⟨_,o',e3',hd'⟩:=hfl.2.2.1.mem (st1 b hbf);rw [e3] at e3';cases e3';obtain ⟨sl4,e4⟩:=u4 b _ e3 hd';refine ⟨sl4,?_⟩;rw [other b (frT b _ e4 hd')];exact kp b _ l2 e4
 ·obtain ⟨l1,l2⟩:=hlt b o e;obtain ⟨o1,e1⟩:=I2.base.there b o e (exn b);obtain ⟨o2,e2⟩:=I.base.there b o1 e1 l1;obtain ⟨o3,e3⟩:=U.inB b o2 e2 (nst b o e hbf);exact ⟨o3,zUu _ e3 (by simpa using l2)⟩
 ·obtain ⟨l1,l2⟩:=hlt b o e;obtain ⟨o1,e1⟩:=I2.base.there b o e (exn b);obtain ⟨o2,e2⟩:=I.base.there b o1 e1 l1;exact U.free b o2 e2 (I.base.free b o1 e1 (I2.base.free b o e n (exn b)) l1)
 ·exact U.tups b xs (I.base.tups b xs (I2.base.tups b xs e))
 ·exact U.frzs b o u (I.base.frzs b o u (I2.base.frzs b o u e))
 ·obtain ⟨m1,e1⟩:=I2.base.tbls b ps e;obtain ⟨m2,e2⟩:=I.base.tbls b _ e1;obtain ⟨m3,e3⟩:=U.tbls b _ e2;exact ⟨m1++(m2++m3),by rw [e3,Array.append_assoc,Array.append_assoc]⟩
end
abbrev Cx.compX(X:Cx)(scope:Scope)(cl:List (Str×Addr))(C:Addr)(N:List Str)(s₂:Shared)(H₂:Hp)(fp:List Addr)(xe:Value->Shared->Prop):Cx:={X.comp scope cl C N s₂ H₂ fp with xe:=xe}
section
variable {X:Cx}{scope:Scope}{cl:List (Str×Addr)}{C:Addr}{N:List Str}{s₂:Shared}{H₂:Hp}{fp:List Addr}{xe:Value->Shared->Prop}{pins:List (Addr×Obj)}{σ:St}{H:Hp}{s:Shared}
theorem Inv.compX(I:Inv (X.comp scope cl C N s₂ H₂ fp) pins σ H s):Inv (X.compX scope cl C N s₂ H₂ fp xe) pins σ H s:=
 ⟨⟨I.ok.mod,I.ok.kind,I.ok.glob,I.ok.blt,I.ok.above,I.ok.inj,I.ok.has,I.ok.cab,I.ok.hd,I.ok.frames,I.ok.stk,I.ok.exf,I.ok.bs,I.ok.bsz,I.ok.noex,I.ok.exfs,I.ok.funs,I.ok.frf⟩,I.os,I.bare,I.base,I.loc,I.cell,I.free,I.freeC,I.pin,I.hok,I.len⟩
theorem Inv.comp(I:Inv (X.compX scope cl C N s₂ H₂ fp xe) pins σ H s):Inv (X.comp scope cl C N s₂ H₂ fp) pins σ H s:=
 ⟨⟨I.ok.mod,I.ok.kind,I.ok.glob,I.ok.blt,I.ok.above,I.ok.inj,I.ok.has,I.ok.cab,I.ok.hd,I.ok.frames,I.ok.stk,I.ok.exf,I.ok.bs,I.ok.bsz,I.ok.noex,I.ok.exfs,I.ok.funs,I.ok.frf⟩,I.os,I.bare,I.base,I.loc,I.cell,I.free,I.freeC,I.pin,I.hok,I.len⟩
end
theorem zJU{R:Result->Shared->Prop}{E0:Value->Shared->Prop}(hE: ∀e s,E0 e s->notedBy (model P w) A env (fun e s=>R (.error e) s) e s)(J:Nat->Shared->Prop)
  (turn: ∀n s,J n s->wpAny (model P w) A (pyNext it) (fun r s1=>match r with
   | none=>R (.ok .next) s1
   | some v=>wpAny (model P w) A (letOwnedTupleGo target it v) (fun _ s1'=>wpAny (model P w) A (assign target env v) (fun _ s2=>wpAny (model P w) A (zCh ifs env) (fun ok s3=>
     if ok=true then wpAny (model P w) A (eval elt env) (fun x s4=>wpAny (model P w) A (call (.builtin "list.append") [acc,x]) (fun _ s5=> ∃m,m<n/\J m s5) (fun _ _=>False) s4) E0 s3
     else∃m,m<n/\J m s3) (fun _ _=>False) s2) (fun _ _=>False) s1') (fun _ _=>False) s1) (fun _ _=>False) s)
  (n:Nat) (h:J n s):codeAny (model P w) A (.compLoop (.ListComp elt [⟨target,iter,ifs,0⟩] scope pos) 0 it acc env) R s:=by
 refine codeAny_loop rfl J (fun n s hJ=>?_) n h;show wpAny _ A ((compTurn (.ListComp elt [⟨target,iter,ifs,0⟩] scope pos) 0 it acc env).onRaise _) _ _ s;refine wpAny_noted ?_;rw [compTurn_list];refine zUL (wpAny_standAt (zUL (zUf (yX (turn n s hJ)) (fun r s1 h1=>?_) fun _ _ z=>z)));cases r with
 | none=>exact zUQ h1
 | some v=>
  refine zUL (zUf (yX h1) (fun _ s2 h3=>zUL (zUf (yX h3) (fun _ s3 h4=>zUL (zUf (yX h4) (fun ok s4 h5=>?_) fun _ _ z=>z)) fun _ _ z=>z)) fun _ _ z=>z);cases ok with
  | false=>exact zUQ ⟨rfl,h5⟩
  | true=>exact zUL (zUL (zUf h5 (fun x s5 h6=>zUL (zUf (yX h6) (fun _ s6 h7=>zUQ (zUQ ⟨rfl,h7⟩)) fun _ _ z=>z)) hE))
def zRB(wi:TI)(g:TG)(tt:TT)(te:(St->XK)->TE)(n:Nat)(fr:List Nat)(E:St->XK):TE:=fun σ H Q=>zFy wi g tt (te fun _=>E σ) n fr σ H Q
def zPj(wi:TI)(g:TG)(tt:TT)(te:(St->XK)->TE)(n:Nat)(fr:List Nat)(E:St->XK):TE:=fun σ H Q=>zLi wi g tt (te fun _=>E σ) n fr σ H Q
theorem fr2{Pp:Str->Nat->Prop}(h:Pp y i)(h':Pp z k): ∀(j:Nat) (y':Str) (i':Nat),[y,z][j]?=some y'-> [i,k][j]?=some i'->Pp y' i':=by
 intro j y' i' h1 h2
 match j with
 | 0=>cases h1;cases h2;exact h
 | 1=>cases h1;cases h2;exact h'
 | j+2=>simp at h1
theorem zNz{X:Cx}{te:(St->XK)->TE}{E:St->XK}(hcm:X.calm=true)(hp:zET X E)(hN:X.N.Nodup)(hi0:X.N[i0]?=some x)(hx0:Loc X.env.scope x)(hf0:X.fn x=true\/X.env.scope.names.lookup x=some .local)
  (hsw:swapsWith (.ListComp elt [⟨tg,iter,ifs,0⟩] scope pos) (some (.Name x pos')) spos.line X.env=pure true)
  (hi:PI X tg iter wi) (hclos:closureFor scope X.env=pure cl) (hcell: ∀y∈scope.names,y.2≠ .cell) (hkind:scope.kind= .function) (hnames: ∀y∈scope.names,y.2= .local->scope.names.lookup y.1=some .local)
  (hcl: ∀y a,cl.lookup y=some a->X.env.cells.lookup y=some a)
  (hlen:ys.length=fr.length) (hfr: ∀(j:Nat) y i,ys[j]?=some y->fr[j]?=some i->X.N[i]?=some y/\X.env.kindOf y=some .cell/\(relabel scope X.env).names.lookup y=some .cell/\ ∃a,cl.lookup y=some a/\X.env.cells.lookup y=some a)
  (hhas: ∀y,((relabel scope X.env).names.lookup y=some .cell\/(relabel scope X.env).names.lookup y=some .free)-> ∃a,cl.lookup y=some a)
  (hg: ∀C s₂ H₂ fp,PG (X.comp scope cl C (zs++ys) s₂ H₂ fp) tg g) (hc: ∀C s₂ H₂ fp,PTs (X.comp scope cl C (zs++ys) s₂ H₂ fp) ifs tt) (he: ∀C s₂ H₂ fp xe E',zAW (Fly X.prog X.w) (X.compX scope cl C (zs++ys) s₂ H₂ fp xe) E'->PE (X.compX scope cl C (zs++ys) s₂ H₂ fp xe) elt (te E')) (hs: ∀v,foldedSetIterable iter X.env v=pure v:=by intro _;rfl):
  PS X (.Assign [.Name x pos'] (.ListComp elt [⟨tg,iter,ifs,0⟩] scope pos) spos) (zDz (zRB wi g tt te zs.length fr E) (zBM i0)):=by
 intro pins s σ H Dn I h;change zFy wi g tt (te fun _=>E σ) zs.length fr σ H (fun v H1=>zBM i0 v σ H1 Dn.nx) at h;rw [exec_Assign_Name_used _ _ _ _ hsw];refine zUL (wpAny_standAt (zUL ?_));show wpAny _ X.A (do let _<-comprehension (.ListComp elt [⟨tg,iter,ifs,0⟩] scope pos) scope X.env _ (newList []) false (eval iter X.env) (some (assign (.Name x pos') X.env))) _ _ s;refine zUL (zUf (wpAny_comprehension_free (use:=some (assign (.Name x pos') X.env)) (Q:=fun _ s'=>SP X pins Dn .next s') rfl hs hclos hkind hnames (zV (hi pins s σ H _ I h) fun v s1 h1=>zV h1 fun itv s2 h2=>?_)) (fun _ s' hq=>zUQ (zUQ hq)) fun _ _ e=>e);obtain ⟨it,fp,tn,J,H2,e,I2,T,st2,f2,h2⟩:=h2;subst e;have hD:H2 s2.heap.objs.size=none:=I2.hok.fresh (zUO _);obtain ⟨W,⟨m0,w0⟩,turn⟩:=h2 s2.heap.objs.size hD;refine wpAny_newObj_type (wpAny_newFunctionEnv hcell (by intro y hy;simp at hy) (fun h₁ hns₁ hsb₁=>?_) hkind);dsimp only at hns₁ hsb₁⊢;generalize hH3:s2.heap.push {cls:= .type "list",dict:=none,data:= .seq ([] :List Value).toArray}=H3 at hns₁ hsb₁⊢;have hCs:H3.objs.size=s2.heap.objs.size+1:=by rw [<-hH3,Heap.size_push]
 have old: ∀b o,s2.heap.get? b=some o->h₁.get? b=some o:=fun b o e=>
  hsb₁.extBut b o (zUS (by have:=zAE e;omega)) (zUM _ (hH3▸zUM _ e))
 have hacc:h₁.get? s2.heap.objs.size=some {cls:= .type "list",dict:=none,data:= .seq ([] :List Value).toArray}:=
  hsb₁.extBut _ _ (zUS (by omega)) (zUM _ (hH3▸zUd _ rfl))
 have fplt: ∀b∈fp,@LT.lt Nat _ b s2.heap.objs.size:=fun b hb=>by
  obtain ⟨o,e,_⟩:=T.obj _ _ st2 b hb;exact zAE e
 have okC:(X.comp scope cl H3.objs.size (zs++ys) s2 H2 fp).Ok:=by
  refine ⟨I2.ok.mod,hkind,I2.ok.glob,I2.ok.blt,?_,fun y z a h1 h2=>I2.ok.inj y z a (hcl y a h1) (hcl z a h2),fun y hy=>hhas y hy,fun y a z _=>(nomatch z),I2.ok.hd,I2.ok.frames,.inl rfl,fun b hb=>⟨?_,fun y a e z=>?_⟩,I2.bs,zUY I2.ok.bsz I2.sz,fun b o e hb=>?_,fun b hb z=>?_,I2.stack,I2.stkFree⟩
  ·show s2.heap.objs.size<=H3.objs.size;omega
  ·show b≠H3.objs.size;have:=fplt b hb;exact zUS (by omega)
  ·exact (f2 b hb).2.2.2.2.1 y a (hcl y a e) z
  ·rcases (f2 b hb).2.2.2.1 with z | z
   ·exact I2.ok.noex b o e z
   ·have z': @LE.le Nat _ X.s₀.heap.objs.size b:=z;have: @LT.lt Nat _ b X.base.objs.size:=zAE e;have:=I2.ok.bsz;omega
  ·rcases zVL.mp (I2.stkSub b z) with y | y
   ·exact (f2 b hb).2.1 y
   ·exact (f2 b hb).2.2.1 y
 have fpok: ∀{H':Hp},(∀b∈fp,H' b=none)-> ∀b∈fp,zDh (X.comp scope cl H3.objs.size (zs++ys) s2 H2 fp) [] H' b:=fun hn b hb=>
  ⟨hn b hb,(okC.exf b hb).1,okC.exfs b hb,.inl hb,(okC.exf b hb).2,fun p hp=>absurd hp (by simp)⟩
 have cellC: ∀y a,cl.lookup y=some a-> ∃v,s2.heap.IsCell a v:=fun y a e=>I2.cell y a (hcl y a e);have start:Inv (X.comp scope cl H3.objs.size (zs++ys) s2 H2 fp) [] (List.replicate zs.length none++yQ fr σ) (upd H2 s2.heap.objs.size (.lst [])) {s2 with heap:=h₁,toks:=s2.toks+([] :List (Str×Value)).length}:=by
  refine ⟨okC,rfl,I2.bare,Un.laid old (zUO _) hD,⟨_,hns₁,fun j y v e1 e2 e3=>?_⟩,fun y a e=>?_,?_,fun y a e=>?_,fun p hp=>absurd hp (by simp),I2.hok.laid old (zUO _) ⟨zUZ _,[],_,.nil,hacc⟩,?_⟩
  ·by_cases hj:j<zs.length
   ·rw [List.getElem?_append_left (by simpa using hj),List.getElem?_replicate] at e2;rw [if_pos hj] at e2;cases e2
   ·obtain ⟨j,rfl⟩: ∃k,j=zs.length+k:=⟨j - zs.length,by omega⟩;have e1':ys[j]?=some y:=by
     have z:=e1;simp only [Cx.comp] at z;rw [List.getElem?_append_right (by omega)] at z;simpa using z
    have e2':(yQ fr σ)[j]?=some (some v):=by
     rw [List.getElem?_append_right (by simp)] at e2;simpa using e2
    unfold yQ at e2';rw [zUP] at e2';cases q:fr[j]? with
    | none=>rw [q] at e2';cases e2'
    | some i=>
     rw [q] at e2';have e4:(σ[i]?).getD none=some v:=Option.some.inj e2';have e5:σ[i]?=some (some v):=by
      cases q2:σ[i]? with
      | none=>rw [q2] at e4;cases e4
      | some z=>rw [q2] at e4;exact congrArg some e4
     obtain ⟨hN,hk,hl,a,ha,ha'⟩:=hfr j y i e1' q;obtain ⟨m,_,hl2⟩:=I2.loc;obtain ⟨u,r,l⟩:=hl2 i y v hN e5 (.inr (.inl hk));refine ⟨u,r,.inr ⟨.inl hl,a,ha,?_⟩⟩;rcases l with ⟨k,_⟩|⟨_,a2,ea,z⟩
     ·rw [hk] at k;cases k
     ·rw [ha'] at ea;cases ea;obtain ⟨o,ho,hd⟩:=z;exact ⟨o,old _ _ ho,hd⟩
  ·obtain ⟨v,o,ho,hd⟩:=cellC y a e;exact ⟨v,o,old _ _ ho,hd⟩
  ·show upd H2 s2.heap.objs.size (.lst []) H3.objs.size=none;rw [zG (by first | exact zUS (by omega)| exact zUz (by omega))];exact I2.hok.fresh (by omega)
  ·obtain ⟨v,o,ho,hd⟩:=cellC y a e;have:=zAE ho;rw [zG (by first | exact zUS (by omega)| exact zUz (by omega))];exact I2.freeC y a (hcl y a e)
  ·show (List.replicate zs.length none++yQ fr σ).length=(zs++ys).length;unfold yQ;simp [hlen]
 have loop: ∀s₃:Shared,s₃={s2 with heap:=h₁,toks:=s2.toks+([] :List (Str×Value)).length}->
   codeAny (model X.prog X.w) X.A (.compLoop (.ListComp elt [⟨tg,iter,ifs,0⟩] scope pos) 0 (.ref it) (.ref s2.heap.objs.size) (compEnvC scope cl H3.objs.size X.env)) (compPost (model X.prog X.w) X.A X.xe (some (assign (.Name x pos') X.env)) (fun _ s'=>SP X pins Dn .next s') (.ref s2.heap.objs.size) H3.objs.size) s₃:=by
  rintro s₃ rfl;have flown: ∀e s',(∃pn σ' Hx sx,Inv (X.comp scope cl H3.objs.size (zs++ys) s2 H2 fp) pn σ' Hx sx/\Fly X.prog X.w X.stack Hx sx (E σ) e s')->notedBy (model X.prog X.w) X.A (compEnvC scope cl H3.objs.size X.env) (fun e s=>compPost (model X.prog X.w) X.A X.xe (some (assign (.Name x pos') X.env)) (fun _ s'=>SP X pins Dn .next s') (.ref s2.heap.objs.size) H3.objs.size (.error e) s) e s':=by
   rintro e s' ⟨pn,σ',Hx,sx,Ix,hx⟩;refine zKn (Q:=fun _ s'=>SP X pins Dn .next s') (acc:= .ref s2.heap.objs.size) hp I2 (fun b hb=>?_) (by omega) Ix hx;rcases (f2 b hb).2.2.2.1 with z | z
   ·rw [hp.1] at z;cases z
   ·exact z
  refine zJU (E0:=fun e s'=> ∃pn σ' Hx sx,Inv (X.comp scope cl H3.objs.size (zs++ys) s2 H2 fp) pn σ' Hx sx/\Fly X.prog X.w X.stack Hx sx (E σ) e s') flown (fun n s'=> ∃i pre ys' H',pre.length=zs.length/\Inv (X.comp scope cl H3.objs.size (zs++ys) s2 H2 fp) [] (pre++yQ fr σ) H' s'/\tn i s'.heap/\(∀b∈fp,H' b=none)/\W i n ys' H') ?_ m0
   ⟨0,List.replicate zs.length none,[],_,by simp,start,T.keep _ _ _ st2 fun b hb o e=>old b o e,fun b hb=>by
    have:=fplt b hb;rw [zG (by first | exact zUS (by omega)| exact zUz (by omega))];exact (f2 b hb).1,w0⟩
  rintro n s3 ⟨i,pre,ys3,H',hpl,I3,st3,fr3,w3⟩;obtain ⟨hl3,alt⟩:=turn i n ys3 H' w3;rcases alt with ⟨stop,qn⟩|⟨go,hz,N,hN,step⟩
  ·refine zUf (T.done (X.comp scope cl H3.objs.size (zs++ys) s2 H2 fp) rfl rfl rfl hcm i [] s3 _ H' (fun _ _=>False) I3 (fpok fr3) st3 stop) (fun r s4 h4=>?_) fun _ _ z=>z.elim;obtain ⟨hr,I4⟩:=h4;subst hr;obtain ⟨m4,hn4,_⟩:=id I4.loc;have back: ∀h'',Heap.SameBut H3.objs.size s4.heap h''->Inv X pins σ H' {s4 with heap:=h''}:=by
    intro h'' hs'';have hb: ∀b o,b≠H3.objs.size->s4.heap.get? b=some o->h''.get? b=some o:=fun b o hb e=>(hs''.2 b hb).trans e;refine I2.call' (s':={s4 with heap:=h''}) (ch:=fp) I4.os ⟨fun b o e n hb' hx'=>?_,fun b o e n hb' hx'=>?_,fun b o e n hx'=>I4.base.free b o e n hx',fun b o e hx'=>?_,I4.base.tups,I4.base.frzs,I4.base.tbls⟩ (fun b u e=>?_) I4.bare fun b hb'=>⟨(f2 b hb').2.2.2.1,(f2 b hb').2.1,(f2 b hb').2.2.2.2.1,(f2 b hb').2.2.2.2.2⟩
    ·exact hb b o (zUS (by have:=zAE e;omega)) (I4.base.keep b o e n hb' hx')
    ·obtain ⟨sl,q⟩:=I4.base.slot b o e n hb' hx';exact ⟨sl,hb b _ (zUS (by have:=zAE e;omega)) q⟩
    ·obtain ⟨o',q⟩:=I4.base.there b o e hx';exact ⟨o',hb b _ (zUS (by have:=zAE e;omega)) q⟩
    ·refine (I4.hok b u e).stay (fun c' w' hc' q=>hb c' w' ?_ q) (fun _ q=>q) fun _ _ q=>q;intro z;have fz:H' H3.objs.size=none:=I4.free;rcases hc' with y | y
     ·rw [<-y,z,fz] at e;cases e
     ·rw [z,fz] at y;cases y
   have I5:Inv X pins σ H' s4:=back s4.heap (Heap.SameBut.refl _ _);have hCs2: @LE.le Nat _ s2.heap.objs.size H3.objs.size:=by omega
   have fz:H' H3.objs.size=none:=I4.free;have cneL:H3.objs.size≠X.env.locals:=fun z=>by
    have z1: @LT.lt Nat _ X.env.locals s2.heap.objs.size:=I2.lt;have z': @Eq Nat H3.objs.size X.env.locals:=z;omega
   have cneC: ∀y c,X.env.cells.lookup y=some c->c≠H3.objs.size:=fun y c e z=>by
    obtain ⟨v,o,ho,_⟩:=I2.cell y c e;have z1:=zAE ho;have z': @Eq Nat c H3.objs.size:=z;omega
   show wpAny _ X.A (assign (.Name x pos') X.env (.ref s2.heap.objs.size)) _ _ s4;refine wpAny_assign_Name (zHR I5 hN hi0 hx0 (v:= .ref s2.heap.objs.size) rfl (fun s5 I6 ⟨a,sba,ha⟩=>?_) hf0);have nea:H3.objs.size≠a:=by
    rcases ha with z | z
    ·rw [z];exact cneL
    ·exact fun y=>cneC x a z y.symm
   obtain ⟨oC,es,ep,hoC,rC⟩:=hn4;refine ⟨m4,⟨oC,es,ep,(sba.2 _ nea).trans hoC,rC⟩,fun h'' hs''=>?_⟩;have hb: ∀b o,b≠H3.objs.size->s5.heap.get? b=some o->h''.get? b=some o:=fun b o hb e=>(hs''.2 b hb).trans e;have neb: ∀b:Addr,b∉ [H3.objs.size] ->b≠H3.objs.size:=fun b hb z=>hb (by simp [z]);have I7:Inv X pins (σ.set i0 (some (.ref s2.heap.objs.size))) H' {s5 with heap:=h''}:=by
    refine I6.call' (s':={s5 with heap:=h''}) (ch:= [H3.objs.size]) rfl ⟨fun b o e n hb' hx'=>hb b o (neb b hx') e,fun b o e n hb' hx'=>⟨o.slots,hb b o (neb b hx') e⟩,fun b o e n hx'=>n,fun b o e hx'=>⟨o,hb b o (neb b hx') e⟩,fun b xs e=>e,fun b o u e=>e,fun b ps e=>⟨#[],by simpa using e⟩⟩ (fun b u e=>?_) I6.bare fun b hb'=>?_
    ·refine (I6.hok b u e).stay (fun c' w' hc' q=>hb c' w' ?_ q) (fun _ q=>q) fun _ _ q=>q;intro z;rcases hc' with y | y
     ·rw [<-y,z,fz] at e;cases e
     ·rw [z,fz] at y;cases y
    ·have eb:b=H3.objs.size:=by simpa using hb'
     subst eb;refine ⟨.inr ?_,cneL,cneC,fun p hp z=>?_⟩
     ·have z1: @LE.le Nat _ X.s₀.heap.objs.size s2.heap.objs.size:=I2.sz;show @LE.le Nat _ X.s₀.heap.objs.size H3.objs.size;omega
     ·have z1:=zAE (I2.pin p hp).1;have z': @Eq Nat p.1 H3.objs.size:=z;omega
   exact ⟨_,H',I7,qn⟩
  ·refine zUf (T.item (X.comp scope cl H3.objs.size (zs++ys) s2 H2 fp) rfl rfl rfl hcm i [] s3 _ H' (fun _ _=>False) I3 (fpok fr3) st3 go) (fun r s4 h4=>?_) fun _ _ z=>z.elim;obtain ⟨u,hr,h4⟩:=h4;subst hr;dsimp only;have asg:wpAny (model X.prog X.w) X.A (letOwnedTupleGo tg (.ref it) u) (fun _ s5=>wpAny (model X.prog X.w) X.A (assign tg (compEnvC scope cl H3.objs.size X.env) u)
     (fun _ s6=> ∃σ5 H6,(∃pn5,Inv (X.comp scope cl H3.objs.size (zs++ys) s2 H2 fp) pn5 σ5 H6 s6/\(∀b∈fp,∃o,(b,o)∈pn5))/\((∃yj:St,yj.length=zs.length/\σ5=yj++yQ fr σ)/\
      tt σ5 H6 fun b H3'=>if b=true then te (fun _=>E σ) σ5 H3' fun y H4=>H4 s2.heap.objs.size=some (.lst ys3)/\N (ys3++ [y]) (upd H4 s2.heap.objs.size (.lst (ys3++ [y]))) else N ys3 H3')/\tn (i+1) s6.heap/\ ∀b∈fp,H6 b=none) (fun _ _=>False) s5) (fun _ _=>False) s4:=by
    refine (zV h4 fun _ s5 ⟨x5,H5,I5,r5,y5,st5,fr5⟩=>?_);have I5':=I5.pinned (fpok fr5) (T.obj _ _ st5);refine zUf (hg _ _ _ _ _ s5 _ H5 x5 u _ I5' r5 (step x5 H5 y5 pre hpl)) (fun _ s6 ⟨σ6,H6,I6,q6⟩=>?_) fun _ _ z=>z.elim;exact ⟨σ6,H6,⟨_,I6,fun b hb=>by
     obtain ⟨o,e,_⟩:=T.obj _ _ st5 b hb;exact ⟨o,zUa _ (zAL hb e)⟩⟩,q6,T.keep _ _ _ st5 fun b hb o e=>(I6.pin (b,o) (zUa _ (zUa _ (zAL hb e)))).1,fun b hb=>by
     obtain ⟨o,e,_⟩:=T.obj _ _ st5 b hb;exact (I6.pin (b,o) (zUa _ (zUa _ (zAL hb e)))).2.1⟩
   refine zUf asg (fun _ s5 h5=>zUf h5 (fun _ s6 h6=>?_) fun _ _ z=>z.elim) fun _ _ z=>z.elim;obtain ⟨σ5,H5,⟨pn5,I6,hp6⟩,⟨⟨yj,hl2,rfl⟩,q6⟩,st6,fr5⟩:=h6;have keepTurn: ∀{σ7:St} {H7:Hp} {s7:Shared},Inv (X.comp scope cl H3.objs.size (zs++ys) s2 H2 fp) pn5 σ7 H7 s7->tn (i+1) s7.heap/\ ∀b∈fp,H7 b=none:=fun {σ7 H7 s7} I7=>by
    refine ⟨T.keep _ _ _ st6 fun b hb o e=>?_,fun b hb=>?_⟩
    ·obtain ⟨o',hm⟩:=hp6 b hb;have a1:=(I6.pin (b,o') (zUa _ hm)).1;rw [e] at a1;cases a1;exact (I7.pin (b,_) (zUa _ hm)).1
    ·obtain ⟨o',hm⟩:=hp6 b hb;exact (I7.pin (b,o') (zUa _ hm)).2.1
   have drop: ∀{σ7:St} {H7:Hp} {s7:Shared},Inv (X.comp scope cl H3.objs.size (zs++ys) s2 H2 fp) pn5 σ7 H7 s7->Inv (X.comp scope cl H3.objs.size (zs++ys) s2 H2 fp) [] σ7 H7 s7:=fun I7=>I7.pins_of fun p hp=>absurd hp (by simp);have tests:wpAny (model X.prog X.w) X.A (zCh ifs (compEnvC scope cl H3.objs.size X.env)) (fun b s7=> ∃H7,Inv (X.comp scope cl H3.objs.size (zs++ys) s2 H2 fp) pn5 (yj++yQ fr σ) H7 s7/\
     (if b=true then te (fun _=>E σ) (yj++yQ fr σ) H7 fun y H4=>H4 s2.heap.objs.size=some (.lst ys3)/\N (ys3++ [y]) (upd H4 s2.heap.objs.size (.lst (ys3++ [y]))) else N ys3 H7)) (fun _ _=>False) s6:=by
    rcases hc H3.objs.size s2 H2 fp with ⟨rfl,rfl⟩|⟨c,rfl,hc2⟩
    ·exact wpAny_tests_nil ⟨H5,I6,q6⟩
    ·exact wpAny_tests_one (zUf (hc2 pn5 s6 _ H5 _ I6 q6) (fun b s7 ⟨H7,I7,q7⟩=>⟨H7,I7,q7⟩) fun _ _ z=>z.elim)
   refine zUf tests (fun b s7 h7=>?_) fun _ _ z=>z.elim;obtain ⟨H7,I7,q7⟩:=h7;cases b with
   | false=>
    obtain ⟨m',hm,w'⟩:=hN _ _ q7;obtain ⟨k1,k2⟩:=keepTurn I7;exact ⟨m',hm,i+1,yj,ys3,H7,hl2,drop I7,k1,k2,w'⟩
   | true=>
    refine zUf (he _ _ _ _ (fun e s'=> ∃pn σ' Hx sx,Inv (X.comp scope cl H3.objs.size (zs++ys) s2 H2 fp) pn σ' Hx sx/\Fly X.prog X.w X.stack Hx sx (E σ) e s') (fun _=>E σ) (fun pn σ' Hx sx e s' Ix hx=>⟨pn,σ',Hx,sx,Ix.comp,hx⟩) pn5 s7 _ H7 _ I7.compX q7) (fun y s8 h8=>?_) fun _ _ z=>z;obtain ⟨yv,H8,I8',r8,hl8,n8⟩:=h8;have I8:=I8'.comp;refine zUf (zEA (X:=X.comp scope cl H3.objs.size (zs++ys) s2 H2 fp) pn5 s8 _ H8 (.ref s2.heap.objs.size) [yv] (.ref s2.heap.objs.size) [y] (fun z H9=>N (ys3++ [yv]) H9) I8 rfl (.cons r8 .nil) ⟨s2.heap.objs.size,ys3,yv,rfl,rfl,hl8,hz,n8⟩) (fun _ s9 h9=>?_) fun _ _ z=>z.elim;obtain ⟨_,H9,I9,_,n9⟩:=h9;obtain ⟨m',hm,w'⟩:=hN _ _ n9;obtain ⟨k1,k2⟩:=keepTurn I9;exact ⟨m',hm,i+1,yj,ys3++ [yv],H9,hl2,drop I9,k1,k2,w'⟩
 exact codeAny_compStart_list (loop _ rfl) (T.self X.A 0 _ _ _ (T.keep _ _ _ st2 fun b hb o e=>old b o e) (loop _ rfl))
theorem zKN{X:Cx}{E:St->XK}(hp:zET X E)(i0:Nat)(hN:X.N.Nodup)(hi0:X.N[i0]?=some x)(hx0:Loc X.env.scope x)(hf0:X.fn x=true\/X.env.scope.names.lookup x=some .local)
  (zs:List Str) {pos:Pos} {scope:Scope} {cl:List (Str×Addr)} (ys:List Str) (fr:List Nat) {wi:TI} {g:TG} {tt:TT} {te:(St->XK)->TE} (hcm:X.calm=true)
  (hi:QI X tg iter wi) (hclos:closureFor scope X.env=pure cl) (hcell: ∀y∈scope.names,y.2≠ .cell) (hkind:scope.kind= .function) (hnames: ∀y∈scope.names,y.2= .local->scope.names.lookup y.1=some .local)
  (hcl: ∀y a,cl.lookup y=some a->X.env.cells.lookup y=some a)
  (hlen:ys.length=fr.length) (hfr: ∀(j:Nat) y i,ys[j]?=some y->fr[j]?=some i->X.N[i]?=some y/\X.env.kindOf y=some .cell/\(relabel scope X.env).names.lookup y=some .cell/\ ∃a,cl.lookup y=some a/\X.env.cells.lookup y=some a)
  (hhas: ∀y,((relabel scope X.env).names.lookup y=some .cell\/(relabel scope X.env).names.lookup y=some .free)-> ∃a,cl.lookup y=some a)
  (hg: ∀C s₂ H₂ fp,QG (X.comp scope cl C (zs++ys) s₂ H₂ fp) tg g) (hc: ∀C s₂ H₂ fp,QTs (X.comp scope cl C (zs++ys) s₂ H₂ fp) ifs tt) (he: ∀C s₂ H₂ fp xe E',zAW (Fly X.prog X.w) (X.compX scope cl C (zs++ys) s₂ H₂ fp xe) E'->QE (X.compX scope cl C (zs++ys) s₂ H₂ fp xe) elt (te E')) (hs: ∀v,foldedSetIterable iter X.env v=pure v)
  (hsw:swapsWith (.ListComp elt [⟨tg,iter,ifs,0⟩] scope pos) (some (.Name x pos')) spos.line X.env=pure true):
  QS X (.Assign [.Name x pos'] (.ListComp elt [⟨tg,iter,ifs,0⟩] scope pos) spos) (zDz (zPj wi g tt te zs.length fr E) (zBM i0)):=
 ⟨fun pins s σ H D I h=>zNz hcm hp hN hi0 hx0 hf0 hsw (zLX hi).out hclos hcell hkind hnames hcl hlen hfr hhas (fun C s H f=>(hg C s H f).out) (fun C s H f=>(hc C s H f).out) (fun C s H f xe E' hx=>(he C s H f xe E' hx).out) hs pins s σ H D I ⟨_,h,fun J H1 h1 D' hD=>by
  obtain ⟨len,Pv,a0,a1,a2,a3,a4⟩:=(h1 D' hD).ex;exact zIS (Q:=fun v H1=>zBM i0 v σ H1 D.nx) D' len Pv a0 a1 a2 a3 a4⟩⟩
section
variable {cells:List (Str×Addr)}
theorem zAn(h:cells.lookup k=some a)(t: ∀y b,l.lookup y=some b->cells.lookup y=some b): ∀y b,((k,a)::l).lookup y=some b->cells.lookup y=some b:=by
 intro y b e;rw [List.lookup_cons] at e;cases q:(y==k) with
 | true=>
  rw [q] at e;have:y=k:=by simpa using q
  subst this;rw [h];exact e
 | false=>rw [q] at e;exact t y b e
theorem lk0: ∀(y:Str) (b:Addr),([] :List (Str×Addr)).lookup y=some b->cells.lookup y=some b:=fun _ _ h=>nomatch h
end
section
variable {X:Cx}{P:Program}{w:World}
end
end L2
namespace PySem
open PySem.Spec PyProof PyProof.Rows
theorem zGE(l:Addr)(items:Array Value)(n:Nat)(b:Addr)(items2:Array Value)(n2:Nat)(d2:Option Addr)(sl2:Array (Option Value))(hs0: ¬(!items.isEmpty&&Builtin.List.listTooLong (items.size+items2.size))=true)(hs1:items.size<=sizeLine)(hs2:items.size+items2.size<=sizeLine+1):
  Meets (Builtin.«list.extend» ⟨[.ref l,.ref b],[]⟩) (fun _ R s=>s.heap.get? l=some {cls:= .type "list",dict:=none,data:= .seq items n,slots:= #[]}/\s.heap.get? b=some {cls:= .type "tuple",dict:=d2,data:= .seq items2 n2,slots:=sl2}/\R (.ok (.ret Value.none)) {s with heap:=s.heap.update l (Obj.mapSeq fun x=>x++items2),toks:=s.toks}):=
 .of_wp fun prog w A R s h=>by
  obtain ⟨hp,g,d,tk,os⟩:=s;obtain ⟨hl,hb,h⟩:=h;have f1:=AutoSeq1.idx_int;have f2:=AutoSeq1.sub_tuple_tuple;have f3:=AutoSeq1.sub_list_list;have f4:=AutoSeq1.sub_tuple_list;have f5:=AutoSeq1.sub_list_tuple;have hz':(items++items2).size<=sizeLine+1:=by rw [Array.size_append];exact hs2
  wp_walk using (wpAny_updateSeq hl rfl (hz:=hs1) (_hz':=hz')),wpAny_loadPart' hl,wpAny_loadPart' hb;exact ⟨_,rfl,h⟩
end PySem
namespace L2
open PySem PySem.Spec PyProof.Rows
section
variable {X:Cx}{K:zVK}{o e:Expr}{to te:TE}{apos cpos:Pos}
theorem zRA(hK:X.K=K)(ho:QE X o to)(hb:attributeBase o "pop" X.env (eval o X.env)=eval o X.env)(hl:(apos.endLine==cpos.line)=true):QE X (.Call (.Attribute o "pop" apos) [] [] cpos) (zSI K "list" zRS to):=by
 subst hK;exact ⟨zSg PySem.F.plainAttrs_list PySem.F.slot_list_pop PySem.F.type_list_pop zRV ho.out hb hl⟩
def zIw:V->List V->Hp->VK->Prop:=fun x vs H Q=> ∃l b xs zs,x= .ref l/\vs= [.ref b] /\H l=some (.lst xs)/\(H b=some (.lst zs)\/H b=some (.tup zs))/\xs.length+zs.length<=sizeLine/\Q .non (upd H l (.lst (xs++zs)))
theorem zLf:MtM X "list.extend" zIw:=by
 intro pins s σ H x vs v us Q I rx rv h;obtain ⟨l,b,xs,zs,rfl,rfl,hH,hB | hB,hz,q⟩:=h
 ·exact zMO pins s σ H _ _ v us Q I rx rv ⟨l,b,xs,zs,rfl,rfl,hH,hB,hz,q⟩
 ·cases rx;obtain ⟨u,rfl,ru⟩:=rv.one;cases ru;obtain ⟨z,its,n,r,hl,e⟩:=I.lstM hH;obtain ⟨z2,its2,r2,o2,e2,c2,⟨n2,d2⟩,_⟩:=(show zj X.prog X.w H s.heap b (.tup zs) from I.hok b _ hB);have hl2:zs.length=its2.length:=zS.length r2;obtain ⟨cls,dct,dta,sl⟩:=o2;have c2':cls= .type "tuple" :=c2;have d2':dta= .seq its2.toArray n2:=d2;subst c2' d2';have hsz:its.toArray.size+its2.toArray.size<=sizeLine:=by rw [zUe,zUe];omega
  have hlong: ¬(!its.toArray.isEmpty&&Builtin.List.listTooLong (its.toArray.size+its2.toArray.size))=true:=by
   rw [zJJ hsz,Bool.and_false];exact zUX
  refine call_meets F.slot_list_extend ⟨_,e,rfl⟩ F.entry_list_extend (F.args_list_extend_2 _ _)
   (zGE l its.toArray n b its2.toArray n2 dct sl hlong (by rw [zUe];omega) (by omega)) ⟨e,e2,?_⟩
  refine ⟨.non,_,I.lset (its':=its++its2) hH e (by simp) (r.append r2) ?_,rfl,q⟩;rw [zUn];omega
theorem zIb(hK:X.K=K)(ho:QE X o to)(ha:QE X e te)(hb:attributeBase o "extend" X.env (eval o X.env)=eval o X.env)(h2:yV e=true)(hl:(apos.endLine==cpos.line)=true):
  QE X (.Call (.Attribute o "extend" apos) [e] [] cpos) (tBM K "list" zIw to (zDj te zCT)):=by
 subst hK;exact ⟨zGH PySem.F.plainAttrs_list PySem.F.slot_list_extend PySem.F.type_list_extend zLf ho.out (zf ha.out yG (zh h2)) hb (by rw [zh h2];rfl) hl (zh h2) rfl⟩
theorem zLv(bs:List Bool):(List.range bs.length).any (fun i=>bs.getD i false)=bs.any id:=by
 rw [zVU,List.any_eq_true,List.any_eq_true];constructor
 ·rintro ⟨i,hi,h⟩;have hi':i<bs.length:=by simpa using hi
  rw [zVS,zUK hi'] at h;exact ⟨bs[i],zUs hi',h⟩
 ·rintro ⟨b,hb,h⟩;obtain ⟨i,hi,rfl⟩:=List.mem_iff_getElem.mp hb;exact ⟨i,by simpa using hi,by rw [zVS,zUK hi];exact h⟩
theorem zOE(hc:X.calm=true):yU X (.builtin "any") (fun xs H Q=> ∃(a:Addr) (bs:List Bool),xs= [.ref a] /\SqL X.K H a (bs.map V.bl)/\Q (.bl (bs.any id)) H):=by
 intro pins s σ H xs us Q I r h;obtain ⟨a,bs,rfl,hq,q⟩:=h;obtain ⟨u,rfl,ru⟩:=zAR r;cases ru;obtain ⟨its,rv,p,hz⟩:=I.list hq;have e:=zGl rv;subst e;have hlt:a<s.heap.objs.size:=by
  obtain ⟨o,ho,_⟩:=p.isList;exact zUU ho
 refine call_any_walk (wpAny_pyIter_list p.isList ⟨s.heap.objs.size,_,_,_,_,_,fun i=>bs.getD i false,rfl,Walks.list (show X.A.in1.handled=none from I.ok.hd hc) s.heap.objs.size a (zUS hlt) (bs.map Value.bool).toArray,
  ⟨⟨_,zUd _ rfl,rfl,rfl⟩,p.isList.at fun o z=>zUM _ z⟩,fun i v s' Q' E' hP hQ=>?_,fun h' tk hk=>?_⟩)
 ·have e:v= .bool (bs.getD i false):=by
   have hP':((bs.map Value.bool).toArray)[i]?=some v:=hP;rw [List.getElem?_toArray,zUP] at hP';cases q2:bs[i]? with
   | none=>rw [q2] at hP';cases hP'
   | some b=>
    rw [q2] at hP';rw [zVS,q2];exact (Option.some.inj hP').symm
  subst e;exact zUQ hQ
 ·have ez:((bs.map Value.bool).toArray).size=bs.length:=by simp
  refine ⟨.bl (bs.any id),H,?_,?_,q⟩
  ·refine I.kept fun b o z=>hk b o (fun y=>?_) (zUM _ z);have y':b=s.heap.objs.size:=by simpa using y
   exact absurd (y'▸zUU z) (Nat.lt_irrefl _)
  ·show Value.bool _=Value.bool _;rw [ez,zLv]
theorem zHJ(hK:X.K=K)(hc:X.calm=true):yU X (.builtin "any") (fun xs H Q=> ∃(a:Addr) (bs:List Bool),xs= [.ref a] /\SqL K H a (bs.map V.bl)/\Q (.bl (bs.any id)) H):=by
 subst hK;exact zOE hc
def zTj(K:zVK):R2:=fun x y H Q=> ∃(p q:Addr) (xs ys:List Int),x= .ref p/\y= .ref q/\SqT K H p (xs.map V.int)/\SqT K H q (ys.map V.int)/\xs.length=ys.length/\Q (.bl (!decide (xs=ys))) H
theorem zLj: ∀(xs ys:List Int),xs.length=ys.length->(List.range xs.length).all (fun j=>decide (xs.getD j 0=ys.getD j 0))=decide (xs=ys):=by
 intro xs ys hl;rw [zVU,List.all_eq_true,decide_eq_true_eq];constructor
 ·intro h;refine List.ext_getElem hl fun j h1 h2=>?_;have z:=zUt (h j (by simpa using h1));rw [zVS,zVS,zUK h1,zUK h2] at z;exact z
 ·intro h j _;rw [h];exact zUi rfl
theorem zRG(hK:X.K=K)(hu:X.A.units<cLine):OpR X (compareOp .NotEq) (zTj K):=by
 subst hK;intro pins s σ H x y v u Q I rx ry h;obtain ⟨p,q,xs,ys,rfl,rfl,h1,h2,hl,hq⟩:=h;cases rx;cases ry;obtain ⟨us,r1,t1,_⟩:=I.tuple h1;obtain ⟨vs,r2,t2,_⟩:=I.tuple h2;have l1:=r1.length;have l2:=r2.length;rw [zUR] at l1 l2;have hit: ∀j (h1:j<us.toArray.size) (h2:j<vs.toArray.size),SeqAt.EqAt X.A.in1 s us.toArray[j] vs.toArray[j] (decide (xs.getD j 0=ys.getD j 0)):=by
  intro j h1 h2;have j1:j<us.length:=by simpa using h1
  have j2:j<vs.length:=by simpa using h2
  have a1:(xs.map V.int)[j]?=some (.int (xs.getD j 0)):=by rw [zUP,zVS,zUK (by omega)];rfl
  have a2:(ys.map V.int)[j]?=some (.int (ys.getD j 0)):=by rw [zUP,zVS,zUK (by omega)];rfl
  obtain ⟨u1,b1,t,rfl⟩:=r1.get a1;obtain ⟨u2,b2,t',rfl⟩:=r2.get a2;have d1:us[j] = .int (xs.getD j 0) t:=by rw [zUK j1] at b1;exact Option.some.inj b1
  have d2:vs[j] = .int (ys.getD j 0) t':=by rw [zUK j2] at b2;exact Option.some.inj b2
  have z:=SeqAt.EqAt.int_int (A:=X.A.in1) (s:=s) (xs.getD j 0) t (ys.getD j 0) t';rw [show us.toArray[j] =us[j] by simp,show vs.toArray[j] =vs[j] by simp,d1,d2];have e:(xs.getD j 0==ys.getD j 0)=decide (xs.getD j 0=ys.getD j 0):=by rw [zVU];simp
  rw [<-e];exact z
 have z:=SeqAt.RcNeAt.tuples (A:=X.A) (e:=fun j=>decide (xs.getD j 0=ys.getD j 0)) (show s.heap.IsTuple p us.toArray from t1) (show s.heap.IsTuple q vs.toArray from t2) hu hit;have es:us.toArray.size=vs.toArray.size:=by simp;omega
 have e1:us.toArray.size=xs.length:=by simp;omega
 rw [<-es,e1,Nat.min_self,zLj xs ys hl] at z;refine z _ _ _ _ ?_;refine ⟨.bl (!decide (xs=ys)),H,I,?_,hq⟩;simp only [beq_self_eq_true,Bool.true_and,Bool.and_true];rfl
end
end L2
namespace Fr
open PySem PySem.Spec PyProof.Rows L2
theorem zIK{P:Program}{w:World}{K:zVK}{mg:Str->Option Value}{base:Heap}{CX:CXT}{N:List Str}{qual:Str}{scope:Scope}{f:Addr}{cd:Value}{A:Around}{outer:List Env}{s₀:Shared}{H₀:Hp}{E:XK}:
  zET (zAx CX P w K mg base N qual scope f cd A outer s₀ H₀ E).nox (fun _ _ _ _=>False):=
 ⟨rfl,rfl,rfl,fun σ e s' ok h=>by obtain ⟨_,_,_,_,_,_,_,_,_,_,_,_,_,_,_,q⟩:=h;exact q.elim⟩
end Fr
namespace L2
open PySem PySem.Spec PyProof.Rows
def zEN(f:Obj->Obj):Prop:= ∀o:Obj,o.isFreed=false->(f o).dict=o.dict/\(f o).isFreed=false
def KD(h h':Heap):Prop:= ∀a o,h.get? a=some o-> ∃o',h'.get? a=some o'/\o'.dict=o.dict
theorem KD.refl(h:Heap):KD h h:=fun _ o e=>⟨o,e,rfl⟩
theorem KD.trans(x:KD h1 h2)(y:KD h2 h3):KD h1 h3:=fun a o e=>by
 obtain ⟨o1,e1,d1⟩:=x a o e;obtain ⟨o2,e2,d2⟩:=y a o1 e1;exact ⟨o2,e2,d2.trans d1⟩
theorem KD.update{f:Obj->Obj}(k:zEN f):KD h (h.update a f):=fun b o e=>by
 by_cases z:a=b
 ·subst z;have nf:o.isFreed=false:=(Heap.get?_some_iff.mp e).2;obtain ⟨d,n⟩:=k o nf;exact ⟨f o,zUx f e n,d⟩
 ·exact ⟨o,(zUw h f z).trans e,rfl⟩
theorem KD.push:KD h (h.push o):=fun b u e=>⟨u,zUM _ e,rfl⟩
def DK{α:Type}:Sem α->Prop
 | .pure _=>True
 | .raise _=>True
 | .unsupported _=>True
 | .finish _=>True
 | .rule _ k=>DK (k ())
 | .at _ k=>DK (k ())
 | .load _ _ k=> ∀o,DK (k o)
 | .update _ _ f k=>zEN f/\DK (k ())
 | .loadIfAlive _ k=> ∀o,DK (k o)
 | .point _ k=>DK (k ())
 | .alloc _ k=> ∀a,DK (k a)
 | .fresh k=> ∀t,DK (k t)
 | .ask k=> ∀x,DK (k x)
 | .handled _ k=> ∀x,DK (k x)
 | .stack k=> ∀x,DK (k x)
 | .thread k=> ∀x,DK (k x)
 | _=>False
theorem zTA{α:Type}{M:Model}{Γ:PySem.Ctx}(t:Sem α):DK t-> ∀(Q:α->Pos->Shared->Prop) (E:Value->Pos->Shared->Prop) (p:Pos) (s:Shared),KD h0 s.heap->Sem.wp M Γ t Q E p s->
  Sem.wp M Γ t (fun a p' s'=>Q a p' s'/\KD h0 s'.heap) (fun e p' s'=>E e p' s'/\KD h0 s'.heap) p s:=by
 induction t with
 | pure a=>intro _ Q E p s k h;exact ⟨h,k⟩
 | raise e=>intro _ Q E p s k h;exact ⟨h,k⟩
 | unsupported w=>intro _ Q E p s k h;exact h
 | finish e=>intro _ Q E p s k h;exact h
 | rule tag k ih=>intro d Q E p s kd h;exact ih () d Q E p s kd h
 | «at» p' k ih=>intro d Q E p s kd h;exact ih () d Q E p' s kd h
 | load a part k ih=>
  intro d Q E p s kd h;obtain ⟨o,e,h⟩:=h;exact ⟨o,e,ih o (d o) Q E p s kd h⟩
 | update a part f k ih=>
  intro d Q E p s kd h;exact ⟨h.1,ih () d.2 Q E p _ (kd.trans (KD.update d.1)) h.2⟩
 | loadIfAlive a k ih=>intro d Q E p s kd h;exact ih _ (d _) Q E p s kd h
 | point w k ih=>intro d Q E p s kd h;exact ih () d Q E p s kd h
 | alloc o k ih=>intro d Q E p s kd h;exact ih _ (d _) Q E p _ (kd.trans KD.push) h
 | fresh k ih=>intro d Q E p s kd h;exact ih _ (d _) Q E p _ kd h
 | ask k ih=>intro d Q E p s kd h;exact ih _ (d _) Q E p s kd h
 | handled own k ih=>intro d Q E p s kd h;exact ih _ (d _) Q E p s kd h
 | stack k ih=>intro d Q E p s kd h;exact ih _ (d _) Q E p s kd h
 | thread k ih=>intro d Q E p s kd h;exact ih _ (d _) Q E p s kd h
 | _=>intro d;exact d.elim
theorem zCS{α:Type}{M:Model}{t:Sem α}{Q:α->Shared->Prop}{E:Value->Shared->Prop}(d:DK t)(h:wpAny M A t Q E s):wpAny M A t (fun a s'=>Q a s'/\KD s.heap s'.heap) (fun e s'=>E e s'/\KD s.heap s'.heap) s:=
 fun Γ p hin=>zTA t d _ _ p s (KD.refl _) (h Γ p hin)
theorem DK.bind{α β:Type}{t:Sem α}{k:α->Sem β}(d:DK t)(dk: ∀a,DK (k a)):DK (t>>=k):=by
 show DK (Sem.bind t k)
 induction t with
 | pure a=>exact dk a
 | raise e=>exact True.intro
 | unsupported w=>exact True.intro
 | finish e=>exact True.intro
 | rule tag k ih=>exact ih () d
 | «at» p' k ih=>exact ih () d
 | load a part k ih=>exact fun o=>ih o (d o)
 | update a part f k ih=>exact ⟨d.1,ih () d.2⟩
 | loadIfAlive a k ih=>exact fun o=>ih o (d o)
 | point w k ih=>exact ih () d
 | alloc o k ih=>exact fun a=>ih a (d a)
 | fresh k ih=>exact fun a=>ih a (d a)
 | ask k ih=>exact fun a=>ih a (d a)
 | handled own k ih=>exact fun a=>ih a (d a)
 | stack k ih=>exact fun a=>ih a (d a)
 | thread k ih=>exact fun a=>ih a (d a)
 | _=>exact (show False from d).elim
theorem zJF{g:Array Value->Array Value}:zEN (Obj.mapFields g):=fun o n=>by
 obtain ⟨c,d,x,sl⟩:=o;unfold Obj.mapFields;cases x<;>first | exact ⟨rfl,rfl⟩| exact ⟨rfl,n⟩| cases n
theorem zJg{g:Obj->Array (Option Value)}:zEN (fun o=>{o with slots:=g o}):=fun o n=>by
 obtain ⟨c,d,x,sl⟩:=o;cases x<;>first | exact ⟨rfl,rfl⟩| cases n
theorem zGw:DK (load a):=fun _=>True.intro
theorem zHN{f:Obj->Obj}(k:zEN f):DK (PySem.update a f):=⟨k,True.intro⟩
theorem zFg:DK stack:=fun _=>True.intro
theorem zAB{α:Type}{w:String}:DK (unsupported w:Sem α):=True.intro
theorem yN{α:Type}{a:α}:DK (pure a:Sem α):=True.intro
theorem zJb:DK (fieldsOf v):=by
 unfold fieldsOf;split
 ·refine DK.bind zGw fun o=>?_;split
  ·exact yN
  ·exact zAB
 ·exact zAB
theorem zBU:DK (field v i):=by
 unfold field;refine DK.bind zJb fun vs=>?_;split
 ·exact yN
 ·exact zAB
theorem zAm:DK (setField v i x):=by
 unfold setField;split
 ·unfold updateField;refine DK.bind zGw fun o=>?_;split
  ·split
   ·exact zHN zJF
   ·exact zAB
  ·exact zAB
 ·exact zAB
theorem zIf:DK frameEnvs:=DK.bind zFg fun _=>yN
theorem zLs:DK underTheClaimsCaller:=DK.bind zFg fun _=>yN
theorem zLu:DK (behindIsImport env outer):=by
 unfold behindIsImport;split
 ·exact yN
 ·split
  ·exact yN
  ·exact DK.bind zBU fun _=>yN
theorem zPN:DK (keptBack env i outer):=by
 unfold keptBack;split
 ·split
  ·exact yN
  ·refine DK.bind zLs fun b=>?_;split<;>exact yN
 ·exact yN
theorem zIC: ∀l:List Env,DK (readyFrames l)
 | [] =>yN
 | env::outer=>by
  unfold readyFrames;split
  ·refine DK.bind zGw fun o=>?_;split
   ·exact yN
   ·exact DK.bind zLu fun _=>DK.bind zPN fun _=>DK.bind (zHN zJg) fun _=>zIC outer
  ·exact zAB
theorem zFm:DK (PySem.frameOf env):=by
 unfold PySem.frameOf;refine DK.bind zIf fun l=>?_;refine DK.bind ?_ fun r=>?_
 ·unfold frameObject;split
  ·exact yN
  ·exact DK.bind (zIC _) fun _=>yN
 ·split
  ·exact yN
  ·exact zAB
theorem zIO:DK (entryPlaceOf f b):=by
 unfold entryPlaceOf;refine DK.bind zFg fun l=>?_;split<;>exact yN
theorem zJO:DK (EntryCells.newEntry a b c d e l):=by
 unfold EntryCells.newEntry newFields newObj;generalize (_:List Value).toArray=vs;dsimp only;have asis: ∀vs:Array Value,DK (newObjAsIs (.type "traceback") (.fields vs)):=fun vs=>by
  unfold newObjAsIs;refine DK.bind (fun _=>True.intro) fun a=>?_;exact yN
 split
 ·exact DK.bind zAB fun _=>asis _
 ·exact asis _
theorem zGZ:DK (leaving env e):=by
 unfold leaving;refine DK.bind ?_ fun _=>?_
 ·unfold noteFrame;split
  ·rename_i f hf
   refine DK.bind zBU fun h=>?_;have rest:DK (do
     let x<-PySem.frameOf env
     let y<-entryPlaceOf f (h !=Value.none)
     let z<-EntryCells.newEntry h x Value.none (rawInt f) Value.none y
     setField e 1 z):=DK.bind zFm fun _=>DK.bind zIO fun _=>DK.bind zJO fun _=>zAm
   dsimp only;split
   ·refine DK.bind zBU fun g=>?_;split
    ·exact yN
    ·exact DK.bind zAm fun _=>rest
   ·exact rest
  ·exact zAB
 ·unfold setFlight;refine DK.bind zBU fun tb=>?_;split
  ·exact zAm
  ·exact yN
def yF(P:Program)(w:World):CXT:=fun outer H s E e s'=>
 ∃(ea:Addr) (cls a0:Value) (H':Hp) (B:Heap),e= .ref ea/\s'.os=s.os/\AllBare s'.gens/\Heap.FlyingW B outer ea cls a0 s'.heap/\HOk P w H' B/\FlyU (yW outer) H H' s.heap B s'.heap/\
  (E cls none H'\/ ∃oe dx,s'.heap.get? ea=some oe/\oe.dict=some dx/\E cls (some dx) H')
section
variable {P:Program}{w:World}{K:zVK}{mg:Str->Option Value}{base:Heap}{N:List Str}{qual:Str}{scope:Scope}{f:Addr}{cd:Value}{A:Around}{outer:List Env}{s₀:Shared}{H₀:Hp}{E:XK}
theorem zNY(h:Fly P w outer H s E e s'):yF P w outer H s E e s':=by
 obtain ⟨ea,cls,a0,H',B,h1,h2,h3,h4,h5,h6,q⟩:=h;exact ⟨ea,cls,a0,H',B,h1,h2,h3,h4,h5,h6,.inl q⟩
theorem FnOk.toD(G:FnOk P w K mg base (Fly P w) k f fd ps sp):FnOk P w K mg base (yF P w) k f fd ps sp:=
 ⟨G.len,fun A outer s H args us vs Q E hr he hb hv hs=>zVI (G.run A outer s H args us vs Q E hr he hb hv hs) fun r s' h=>by
  cases r with
  | ok fl=>cases fl<;>exact h
  | error e=>exact zNY h⟩
theorem zAN:zAW (yF P w) (zAx (yF P w) P w K mg base N qual scope f cd A outer s₀ H₀ E) (fun _=>E):=by
 intro pins σ H s e s' I h;obtain ⟨ea,cls,a0,H',B,he,hos,hb,hfl,hok,U,q⟩:=h;subst he;show wpAny (model P w) (A.deeper (envOfC qual scope s₀.heap.objs.size f cd)) (leaving (envOfC qual scope s₀.heap.objs.size f cd) (.ref ea)) (fun _ s''=>yF P w outer H₀ s₀ E (.ref ea) s'') (fun e' s''=>yF P w outer H₀ s₀ E e' s'') s';have hfr:(A.deeper (envOfC qual scope s₀.heap.objs.size f cd)).frames=some (envOfC qual scope s₀.heap.objs.size f cd::outer):=I.ok.frames;have nx: ∀b:Addr,b∉([] :List Addr):=fun b=>by simp
 have nst: ∀b o,s₀.heap.get? b=some o->b∉yW outer->b∉yW (envOfC qual scope s₀.heap.objs.size f cd::outer):=fun b o e hb z=>by
  rcases zVL.mp (I.stkSub b z) with y | y
  ·exact zUS (zUT (zUU e) I.ok.above) y
  ·exact hb y
 have base1:wpAny (model P w) (A.deeper (envOfC qual scope s₀.heap.objs.size f cd)) (leaving (envOfC qual scope s₀.heap.objs.size f cd) (.ref ea)) (fun _ s''=>s''.os=s'.os/\s''.gens=s'.gens/\Heap.FlyingW B outer ea cls a0 s''.heap/\s'.heap.UpToSlots s''.heap) (fun _ _=>False) s':=
  wpAny_leaves_onW hfr rfl hfl fun h' x1 x2=>⟨rfl,rfl,x1,x2⟩
 refine zUf (zCS zGZ base1) (fun _ s'' z=>?_) fun _ _ z=>z.1.elim;obtain ⟨⟨o1,o2,x1,x2⟩,kd⟩:=z;refine ⟨ea,cls,a0,H',B,rfl,o1.trans (hos.trans I.os),by rw [o2];exact hb,x1,hok,⟨fun b o e n hb=>?_,fun b o e n hb=>?_,fun b o e hb=>?_,fun b o e n=>?_,fun b xs e=>U.tups b xs (I.base.tups b xs e),fun b o u e=>U.frzs b o u (I.base.frzs b o u e),fun b ps e=>?_⟩,?_⟩
 ·exact U.keep b o (I.base.keep b o e n hb (nx b)) (I.base.free b o e n (nx b)) (nst b o e hb)
 ·obtain ⟨sl,e1⟩:=I.base.slot b o e n hb (nx b);obtain ⟨sl2,e2⟩:=U.slot b _ e1 (I.base.free b o e n (nx b)) (zBA hb);obtain ⟨_,o',e3,hd⟩:=hfl.2.2.1.mem (zBA hb);rw [e2] at e3;cases e3;obtain ⟨sl3,z3⟩:=x2 b _ e2 hd;exact ⟨sl3,z3⟩
 ·obtain ⟨o1,e1⟩:=I.base.there b o e (nx b);exact U.inB b o1 e1 (nst b o e hb)
 ·obtain ⟨o1,e1⟩:=I.base.there b o e (nx b);exact U.free b o1 e1 (I.base.free b o e n (nx b))
 ·obtain ⟨m1,e1⟩:=I.base.tbls b ps e;obtain ⟨m2,e2⟩:=U.tbls b _ e1;exact ⟨m1++m2,by rw [e2,Array.append_assoc]⟩
 ·rcases q with q |⟨oe,dx,e1,d1,q⟩
  ·exact .inl q
  ·obtain ⟨o',e2,d2⟩:=kd ea oe e1;exact .inr ⟨o',dx,e2,d2.trans d1,q⟩
end
end L2
namespace PySem
open PySem.Spec
section
variable {M:Model}{A:Around}{E:Value->Shared->Prop}{env:Env}{nm q:Str}{C N:Addr}{bs bm:List Value}{hdct:Bool}{sn:List Str}{sub:List Value}{ab:Bool}{col:Option Bool}{dd:Option Addr}{k0 k1 k2 k3 k5:Option Value}{newId:String}
theorem zIE{x:Sem Value}{Q:Flow->Shared->Prop}(base:bm.contains (.type "BaseException")=true)(calm:A.handled=none)
  (made:wpAny M A x (fun v s1=> ∃(e t:Addr) (dx:Option Addr) (sl:Array (Option Value)),v= .ref e/\s1.heap.get? C=some (excClassObj nm q C N bs bm hdct sn sub ab col dd k0 k1 k2 k3 k5 newId)/\
   s1.heap.get? e=some ⟨.ref C,dx,.fields #[.ref t,.none,.none,.none,.bool false,.none],sl⟩/\E (.ref e) s1) E s):wpAny M A (raiseStmt env (some x) none) Q E s:=by
 have top:(Value.ref C::bm).contains (.type "BaseException")=true:=by rw [List.contains_cons,base,Bool.or_true]
 unfold raiseStmt;refine zUL (zUf made (fun v s1 q1=>?_) fun _ _ z=>z);obtain ⟨e,t,dx,sl,rfl,cl,ob,fin⟩:=q1;obtain ⟨hp,gn,dr,tk,os⟩:=s1
 repeat (first | with_reducible refine wpAny_loadPart_at ob ?_ | with_reducible refine wpAny_loadPart_at cl ?_ |(with_reducible refine wpAny_isSubtype_exc cl ?_;rw [top])| wp_step)
 exact wpAny_raiseNew_none calm fin
end
end PySem
namespace L2
open PySem PySem.Spec PyProof.Rows
def off(H:Hp)(a:Addr):Hp:=fun b=>if b=a then none else H b
theorem zBj(h:b≠a):off H a b=H b:=by unfold off;rw [if_neg h]
theorem zRJ(H:Hp)(a:Addr):off H a a=none:=by unfold off;rw [if_pos rfl]
theorem zOO(h:off H a b=some o):b≠a/\H b=some o:=by
 by_cases z:b=a
 ·rw [z,zRJ] at h;cases h
 ·rw [zBj z] at h;exact ⟨z,h⟩
def zHD(X:Cx)(C:Addr)(E:St->XK):Prop:= ∀(pins:List (Addr×Obj)) (σ:St) (H:Hp) (s:Shared) (ea dx:Addr),Inv X pins σ H s->X.s₀.heap.objs.size<=ea->H ea=some (XO ea C (some dx))->E σ (.ref C) (some dx) (off H ea)->X.xe (.ref ea) s
section
variable {P:Program}{w:World}{K:zVK}{mg:Str->Option Value}{base:Heap}{N:List Str}{qual:Str}{scope:Scope}{f C:Addr}{cd:Value}{A:Around}{outer:List Env}{s₀:Shared}{H₀:Hp}{E:XK}
theorem zCX:zHD (zAx (yF P w) P w K mg base N qual scope f cd A outer s₀ H₀ E) C (fun _=>E):=by
 intro pins σ H s ea dx I hnew hea q;show wpAny (model P w) (A.deeper (envOfC qual scope s₀.heap.objs.size f cd)) (leaving (envOfC qual scope s₀.heap.objs.size f cd) (.ref ea)) (fun _ s''=>yF P w outer H₀ s₀ E (.ref ea) s'') (fun e' s''=>yF P w outer H₀ s₀ E e' s'') s;have hfr:(A.deeper (envOfC qual scope s₀.heap.objs.size f cd)).frames=some (envOfC qual scope s₀.heap.objs.size f cd::outer):=I.ok.frames;have nx: ∀b:Addr,b∉([] :List Addr):=fun b=>by simp
 have hnew': ∀b o,s₀.heap.get? b=some o->b≠ea:=fun b o e z=>by
  have h1:=zUU e;have h2:s₀.heap.objs.size<=ea:=hnew;rw [z] at h1;exact absurd h1 (Nat.not_lt.mpr h2)
 have nst: ∀b o,s₀.heap.get? b=some o->b∉yW outer->b∉ea::yW (envOfC qual scope s₀.heap.objs.size f cd::outer):=fun b o e hb z=>by
  rcases zVL.mp z with y | y
  ·exact hnew' b o e y
  ·rcases zVL.mp (I.stkSub b y) with y | y
   ·exact zUS (zUT (zUU e) I.ok.above) y
   ·exact hb y
 have ff:s.heap.FunFrames base (envOfC qual scope s₀.heap.objs.size f cd::outer):=I.stack;have hin: ∀env∈(envOfC qual scope s₀.heap.objs.size f cd::outer),∀b,env.frame=some b->b∈ea::yW (envOfC qual scope s₀.heap.objs.size f cd::outer):=fun env he b hb=>zUv _ (List.mem_filterMap.mpr ⟨env,he,hb⟩);obtain ⟨⟨o,ho,hc,hn,hd,t,hdt⟩,_⟩:=(show zj P w H s.heap ea (XO ea C (some dx)) from I.hok ea _ hea);have hokB:HOk P w (off H ea) (PySem.W.hideAll s.heap (ea::yW (envOfC qual scope s₀.heap.objs.size f cd::outer))):=fun a u e=>by
  obtain ⟨hne,e'⟩:=zOO e;refine (I.hok a u e').stay (fun b v hb e1=>zUu _ e1 fun hm=>?_) (fun b z=>?_) fun b z y=>?_
  ·rcases zVL.mp hm with y | y
   ·rcases hb with z | z
    ·exact hne (z.symm.trans y)
    ·rw [y,hea] at z;cases z
   ·have z:=I.stkFree b y;rcases hb with y2 | y2
    ·rw [y2,e'] at z;cases z
    ·rw [y2] at z;cases z
  ·rw [zBj fun y=>by rw [y,hea] at z;cases z];exact z
  ·rw [zBj fun x=>by rw [x,hea] at y;cases y];exact y
 have base1:wpAny (model P w) (A.deeper (envOfC qual scope s₀.heap.objs.size f cd)) (leaving (envOfC qual scope s₀.heap.objs.size f cd) (.ref ea)) (fun _ s''=>s''.os=s.os/\s''.gens=s.gens/\Heap.FlyingW (PySem.W.hideAll s.heap (ea::yW (envOfC qual scope s₀.heap.objs.size f cd::outer))) outer ea (.ref C) (.ref t) s''.heap/\s.heap.UpToSlots s''.heap) (fun _ _=>False) s:=by
  refine wpAny_leaving_firstW (base:=PySem.W.hideAll s.heap (ea::yW (envOfC qual scope s₀.heap.objs.size f cd::outer))) (a0:= .ref t) hfr (PySem.W.funFrames_hide ff hin) rfl ho (fun b o q=>zVJ _ q) (PySem.W.hideAll_none _ (by simp)) hdt rfl rfl fun h' hL=>?_;obtain ⟨k1,⟨_,_,k2⟩,k3,k4⟩:=hL;rw [hc] at k3;exact ⟨rfl,rfl,⟨k1,PySem.W.hideAll_none _ (by simp),k2,k3⟩,k4⟩
 refine zUf (zCS zGZ base1) (fun _ s'' z=>?_) fun _ _ z=>z.1.elim;obtain ⟨⟨o1,o2,x1,x4⟩,kd⟩:=z;refine ⟨ea,.ref C,.ref t,off H ea,_,rfl,o1.trans I.os,by rw [o2];exact I.bare,x1,hokB,⟨fun b o e n hb=>?_,fun b o e n hb=>?_,fun b o e hb=>?_,fun b o e n=>?_,fun b xs e=>?_,fun b o u e=>?_,fun b ps e=>?_⟩,?_⟩
 ·exact zUu _ (I.base.keep b o e n hb (nx b)) (nst b o e hb)
 ·obtain ⟨sl,e1⟩:=I.base.slot b o e n hb (nx b);obtain ⟨_,o',e3,hd⟩:=ff.mem (zBA hb);rw [e1] at e3;cases e3;obtain ⟨sl3,z3⟩:=x4 b _ e1 hd;exact ⟨sl3,z3⟩
 ·obtain ⟨o1,e1⟩:=I.base.there b o e (nx b);exact ⟨o1,zUu _ e1 (nst b o e hb)⟩
 ·rw [zBj (hnew' b o e)];exact I.base.free b o e n (nx b)
 ·have z:=I.base.tups b xs e;rw [zBj fun y=>by rw [y,hea] at z;cases z];exact z
 ·have z:=I.base.frzs b o u e;rw [zBj fun y=>by rw [y,hea] at z;cases z];exact z
 ·obtain ⟨m,z⟩:=I.base.tbls b ps e;exact ⟨m,by rw [zBj fun y=>by rw [y,hea] at z;cases z];exact z⟩
 ·obtain ⟨o',e2,d2⟩:=kd ea o ho;exact .inr ⟨o',dx,e2,d2.trans hd,q⟩
end
section
variable {X:Cx}{CX:CXT}{k:Nat}{f C:Addr}{fd:FuncData}{ps:List Str}{sp:Sp}{E0:XK}{E:St->XK}{x:Str}{np cpos pos:Pos}{e:Expr}{es:List Expr}{t:TA}
theorem zKw{pins:List (Addr×Obj)}{σ:St}{H:Hp}{s:Shared}{Q:VK}{us:List Value}{vs:List V}(M:MkX X.K C f)(F:FnOk X.prog X.w X.K X.mg X.base CX k f fd ps sp)(hr:Room (k+1) X.A)(hb:zL X.K fd ps [])
  (hx:zAK CX X E0) (I:Inv X pins σ H s) (r:zS vs us) (hz:vs.length<=sizeLine)
  (h: ∀ea,H ea=none->sp (.ref ea::vs) (upd H ea (XO ea C none)) (fun v H2=>v= .non/\Q (.ref ea) H2) E0):
  wpAny (model X.prog X.w) X.A (call (.ref C) us) (EP X pins σ fun v H2=>Q v H2/\ ∃ea,v= .ref ea/\s.heap.objs.size<=ea) X.xe s:=by
 obtain ⟨bm,N,nm,qn,bs,hdct,sn,sub,ab,col,dd,k0,k1,k2,k3,k5,mN,hC,hn,hi,T⟩:=zJq I.kIn M.ex;have hfn:PySem.W.typeIn X.K (.ref f)=some (.type "function"):=beq_iff_eq.mp M.fn;obtain ⟨oI,hl,hoc⟩:=Option.map_eq_some_iff.mp (show (X.K.lookup f).map (·.cls)=some (.type "function") from hfn);obtain ⟨hp0,g,d,tk,os⟩:=s;refine zQN PySem.F.excBase_ValueError T hC hn hi (I.kIn _ _ hl) hoc (fun h' ea hle hm=>?_) (by rw [<-r.length];exact hz);obtain ⟨ta,hta,_,_⟩:=hm.there;have hq:=h ea (I.hok.fresh hle);have I2:Inv X pins σ (upd H ea (XO ea C none)) ⟨h',g,d,tk,os⟩:=I.laid (t':=tk) hm.keeps hle (zPC ⟨_,hta,rfl,rfl,rfl,_,rfl⟩);have r2:zS (V.ref ea::vs) (Value.ref ea::us):= .cons rfl r;have hl2:(Value.ref ea::us++ []).length=ps.length:=by
  have e:=r2.length;rw [F.len _ _ _ _ hq] at e;rw [zUm];exact e.symm
 have hb2:=hb ⟨h',g,d,tk,os⟩ (Value.ref ea::us) I2.kIn hl2;rw [zUm] at hb2;refine wpAny_call (zVI (F.run _ X.stack _ _ ⟨Value.ref ea::us,[]⟩ (Value.ref ea::us) _ _ E0 (hr.make C us []) (I2.env0.make C us []) hb2 r2 hq) fun r s' hq'=>?_);cases r with
 | error e=>exact hx pins σ _ _ e s' I2 hq'
 | ok fl=>
  cases fl with
  | ret u=>
   obtain ⟨v,H',I3,rv,ev,q3⟩:=I2.after hq';subst ev;exact ⟨rv,⟨V.ref ea,H',I3,rfl,q3,ea,rfl,hle⟩⟩
  | next=>exact False.elim hq'
  | brk=>exact False.elim hq'
  | cont=>exact False.elim hq'
def zKV(C:Addr)(sp:Sp)(E0:XK)(E:St->XK)(t:TA):TS:=fun _ σ H=>t σ H fun vs H1=>vs.length<=sizeLine/\ ∀ea,H1 ea=none->
 sp (.ref ea::vs) (upd H1 ea (XO ea C none)) (fun r H2=>r= .non/\ ∃a dx,V.ref ea= .ref a/\H2 a=some (XO a C (some dx))/\E σ (.ref C) (some dx) (off H2 a)) E0
theorem zNN(M:MkX X.K C f)(F:FnOk X.prog X.w X.K X.mg X.base CX k f fd ps sp)(hr:Room (k+1) X.A)(hg:Gl X x)(hm:X.mg x=some (.ref C))(hb:zL X.K fd ps [])(hx:zAK CX X E0)(ho:zHD X C E)(hc:X.calm=true)
  (ha:PA X (e::es) t) (hdb:(x==("__debug__" :Str))=false) (he:starEach (e::es) X.env=(false,eval e X.env)::starEach es X.env) (hpl:(backTo cpos (starEach es X.env)).any (·.1)=false):
  PS X (.Raise (some (.Call (.Name x np) (e::es) [] cpos)) none pos) (zKV C sp E0 E t):=by
 intro pins s σ H D I h;obtain ⟨bm,N,nm,qn,bs,hdct,sn,sub,ab,col,dd,k0,k1,k2,k3,k5,mN,hC,hN,hi,T⟩:=zJq I.ok.mod.kin M.ex;have big:X.s₀.heap.objs.size<=s.heap.objs.size:=I.sz;have made:wpAny (model X.prog X.w) X.A (eval (.Call (.Name x np) (e::es) [] cpos) X.env) (EP X pins σ fun v H2=>(∃a dx,v= .ref a/\H2 a=some (XO a C (some dx))/\E σ (.ref C) (some dx) (off H2 a))/\ ∃ea,v= .ref ea/\X.s₀.heap.objs.size<=ea) X.xe s:=by
  refine zVH (zBY I hg hm ?_ hdb);refine PySem.W.callWith_K (h₀:=X.base) I.ok.mod.kin M.kp (zV (ha cpos pins s σ H _ I h) fun us s1 ⟨vs,H1,I1,r,q⟩=>⟨I1.kIn,?_⟩) he hpl;refine zV (zKw (Q:=fun v H2=> ∃a dx,v= .ref a/\H2 a=some (XO a C (some dx))/\E σ (.ref C) (some dx) (off H2 a)) M F hr hb hx I1 r q.1 q.2) fun v s2 ⟨y,H2,I2,rv,q2,ea,ey,hle⟩=>?_;exact ⟨y,H2,I2,rv,q2,ea,ey,zUY (show X.s₀.heap.objs.size<=s1.heap.objs.size from I1.sz) hle⟩
 rw [arm_exec_Raise];refine zUL (wpAny_standAt ?_);simp only [evalOpt,Option.map];refine zIE (C:=C) (nm:=nm) (q:=qn) (N:=N) (bs:=bs) (bm:=bm) (hdct:=hdct) (sn:=sn) (sub:=sub) (ab:=ab) (col:=col) (dd:=dd) (k0:=k0) (k1:=k1) (k2:=k2) (k3:=k3) (k5:=k5) (newId:= "ValueError.__new__") (T.hasType PySem.F.excBase_ValueError.hasBase) (I.ok.hd hc) (zUL (zV made fun v s1 ⟨y,H1,I1,rv,⟨a,dx,ey,ea,q⟩,a',ey',hle⟩=>zUL (wpAny_standAt (zUQ ?_))));subst ey;cases ey';obtain rfl:v=Value.ref a:=rv;obtain ⟨⟨o,h1,h2,h3,h4,td,h5⟩,_⟩:=(show zj X.prog X.w H1 s1.heap a (XO a C (some dx)) from I1.hok a _ ea);obtain ⟨c,d,u,sl⟩:=o;have h2':c= .ref C:=h2;have h5':u= .fields #[.ref td,.none,.none,.none,.bool false,.none] :=h5;subst h2' h5';exact ⟨a,td,d,sl,rfl,I1.bk _ _ hC,h1,ho pins σ H1 s1 a dx I1 hle ea q⟩
theorem zFH(M:MkX X.K C f)(F:FnOk X.prog X.w X.K X.mg X.base CX k f fd ps sp)(hr:Room (k+1) X.A)(hg:Gl X x)(hm:X.mg x=some (.ref C))(hb:zL X.K fd ps [])(hx:zAK CX X E0)(ho:zHD X C E)(hc:X.calm=true)
  (ha:QA X (e::es) t) (hdb:(x==("__debug__" :Str))=false) (h2:yV e=true) (h3:yl es=true):
  QS X (.Raise (some (.Call (.Name x np) (e::es) [] cpos)) none pos) (zKV C sp E0 E t):=⟨zNN M F hr hg hm hb hx ho hc ha.out hdb (zh h2) (yx h3)⟩
end
structure Deep(X:Cx):Prop where
 sk:X.stack=X.env::X.outer
 ge:X.env.scope.isGenerator=false
 co:X.env.scope.isCoroutine=false
 tr:X.prog.given.tree=none
 rm:X.A.depth+100<recursionLimit
theorem Deep.room{X:Cx}(D:Deep X)(I:Inv X pins σ H s):PylongRoom (model X.prog X.w) X.A s:=by
 have hn:s.heap.NoSeer:=I.ok.mod.seer.keeps fun b o e=>I.bk b o e;exact PylongRoom.of (I.ok.mod.nolimit.keeps fun b o e=>I.bk b o e) D.rm (SeerAt.of hn D.tr (by rw [I.ok.frames,D.sk]) D.ge D.co I.ok.blt I.ok.glob)
theorem zNl{X:Cx}(D:Deep X):OpR X (binaryOp .FloorDiv) (rI (fun _ j=>0<j) fun i j=> .int (i/j)):=by
 intro pins s σ H x y v u Q I rx ry h;obtain ⟨i,j,rfl,rfl,hc,q⟩:=h;obtain ⟨t,rfl⟩:=rx;obtain ⟨t',rfl⟩:=ry;have hj:(0:Int)<j:=hc;exact floordiv_int (by omega) (by rw [Int.fdiv_eq_ediv_of_nonneg i (by omega)];exact ⟨.int (i/j),H,I.tok _,⟨_,rfl⟩,q⟩) (.inr (D.room I))
theorem zAY{X:Cx}(D:Deep X)(ha:QE X a ta)(hb:QE X b tb):QE X (.BinOp a .FloorDiv b pos) (tOp (rI (fun _ j=>0<j) fun i j=> .int (i/j)) ta tb):=zBP (zNl D) ha hb
theorem zPh{X:Cx}:OpR X (binaryOp .Mult) (rI (fun i j=>FrM.Sz 1000000 i/\FrM.Sz 1000000 j) fun i j=> .int (i*j)):=
 opI fun _ _ _ _ _ _ _ hc q=>mul_int q (IntMulOk.of_bits (zUY (zCw hc.1) (by decide)) (zUY (zCw hc.2) (by decide)))
theorem zPI{X:Cx}:OpR X (binaryOp .Pow) (rI (fun i j=>FrM.Sz 4000 i/\0<=j/\j<=1000) fun i j=> .int (i^j.toNat)):=
 opI fun i j _ _ _ _ _ hc q=>pow_int hc.2.1 (by
  have h1:((Builtin.Int.intBits i:Nat):Int)<=4000:=by have:=zCw hc.1;omega
  have h2:((Builtin.Int.intBits i:Nat):Int)*j<=4000*1000:=Int.mul_le_mul h1 hc.2.2 hc.2.1 (by decide);exact Int.le_trans h2 (by decide)) q
theorem zCB{X:Cx}(ha:QE X a ta)(hb:QE X b tb):QE X (.BinOp a .Mult b pos) (tOp (rI (fun i j=>FrM.Sz 1000000 i/\FrM.Sz 1000000 j) fun i j=> .int (i*j)) ta tb):=zBP zPh ha hb
theorem zMb{X:Cx}(ha:QE X a ta)(hb:QE X b tb):QE X (.BinOp a .Pow b pos) (tOp (rI (fun i j=>FrM.Sz 4000 i/\0<=j/\j<=1000) fun i j=> .int (i^j.toNat)) ta tb):=zBP zPI ha hb
theorem zDG{CX:CXT}{P:Program}{w:World}{K:zVK}{mg:Str->Option Value}{base:Heap}{N:List Str}{qual:Str}{scope:Scope}{f:Addr}{cd:Value}{A:Around}{outer:List Env}{s:Shared}{H:Hp}{E:XK}{k:Nat}
  (hr:Room k (A.deeper (envOfC qual scope s.heap.objs.size f cd))) (hk:32<=k) (ht:P.given.tree=none) (hg:scope.isGenerator=false) (hc:scope.isCoroutine=false):
  Deep (zAx CX P w K mg base N qual scope f cd A outer s H E):=
 ⟨rfl,hg,hc,ht,by have:=hr.dp;show (A.deeper (envOfC qual scope s.heap.objs.size f cd)).depth+100<recursionLimit;omega⟩
section
variable {P:Program}{w:World}{K:zVK}{mg:Str->Option Value}{base:Heap}{N:List Str}{qual:Str}{scope:Scope}{f:Addr}{cd:Value}{A:Around}{outer:List Env}{s₀:Shared}{H₀:Hp}{E:XK}
theorem yy:zEd (zAx (yF P w) P w K mg base N qual scope f cd A outer s₀ H₀ E) (fun _=>E):=by
 intro pins σ H s h1 ea cls args I hx q;show wpAny (model P w) (A.deeper (envOfC qual scope s₀.heap.objs.size f cd)) (leaving (envOfC qual scope s₀.heap.objs.size f cd) (.ref ea)) (fun _ s''=>yF P w outer H₀ s₀ E (.ref ea) s'') (fun e' s''=>yF P w outer H₀ s₀ E e' s'') {s with heap:=h1};have hfr:(A.deeper (envOfC qual scope s₀.heap.objs.size f cd)).frames=some (envOfC qual scope s₀.heap.objs.size f cd::outer):=I.ok.frames;have nx: ∀b:Addr,b∉([] :List Addr):=fun b=>by simp
 have nst: ∀b o,s₀.heap.get? b=some o->b∉yW outer->b∉yW (envOfC qual scope s₀.heap.objs.size f cd::outer):=fun b o e hb z=>by
  rcases zVL.mp (I.stkSub b z) with y | y
  ·exact zUS (zUT (zUU e) I.ok.above) y
  ·exact hb y
 have ff:s.heap.FunFrames base (envOfC qual scope s₀.heap.objs.size f cd::outer):=I.stack;have hin: ∀env∈(envOfC qual scope s₀.heap.objs.size f cd::outer),∀b,env.frame=some b->b∈yW (envOfC qual scope s₀.heap.objs.size f cd::outer):=fun env he b hb=>List.mem_filterMap.mpr ⟨env,he,hb⟩;have hokB:HOk P w H (PySem.W.hideAll s.heap (yW (envOfC qual scope s₀.heap.objs.size f cd::outer))):=fun a o e=>(I.hok a o e).stay (fun b u hb e1=>zUu _ e1 fun hm=>by
   have z:=I.stkFree b hm;rcases hb with y | y
   ·rw [y,e] at z;cases z
   ·rw [y] at z;cases z) (fun _ q=>q) fun _ _ q=>q
 refine wpAny_leaves_madeW (base:=PySem.W.hideAll s.heap (yW (envOfC qual scope s₀.heap.objs.size f cd::outer))) (h:=s.heap) hfr rfl (fun b o q=>zVJ _ q) (PySem.W.funFrames_hide ff hin) hx fun h' t x1 x2 x3 x4=>?_;refine ⟨ea,cls,.ref t,H,_,rfl,I.os,I.bare,x1,hokB,⟨fun b o e n hb=>?_,fun b o e n hb=>?_,fun b o e hb=>?_,fun b o e n=>I.base.free b o e n (nx b),I.base.tups,I.base.frzs,I.base.tbls⟩,.inl q⟩
 ·exact zUu _ (I.base.keep b o e n hb (nx b)) (nst b o e hb)
 ·obtain ⟨sl,e1⟩:=I.base.slot b o e n hb (nx b);obtain ⟨_,o',e3,hd⟩:=ff.mem (zBA hb);rw [e1] at e3;cases e3;obtain ⟨sl3,z3⟩:=x4 b _ (hx.keeps b _ e1) hd;exact ⟨sl3,z3⟩
 ·obtain ⟨o1,e1⟩:=I.base.there b o e (nx b);exact ⟨o1,zUu _ e1 (nst b o e hb)⟩
end
theorem zIu:DK (noteFrame e env):=by
 unfold noteFrame;split
 ·rename_i f hf
  refine DK.bind zBU fun h=>?_;have rest:DK (do
    let x<-PySem.frameOf env
    let y<-entryPlaceOf f (h !=Value.none)
    let z<-EntryCells.newEntry h x Value.none (rawInt f) Value.none y
    setField e 1 z):=DK.bind zFm fun _=>DK.bind zIO fun _=>DK.bind zJO fun _=>zAm
  dsimp only;split
  ·refine DK.bind zBU fun g=>?_;split
   ·exact yN
   ·exact DK.bind zAm fun _=>rest
  ·exact rest
 ·exact zAB
theorem zDs{f:Option Addr}:DK (setFlight e f):=by
 unfold setFlight;refine DK.bind zBU fun tb=>?_;split
 ·exact zAm
 ·exact yN
def XCf(a:Addr)(C:Value)(dx:Addr)(h:Heap):Prop:= ∃o,h.get? a=some o/\o.cls=C/\PySem.W.notCls o=true/\o.dict=some dx
def zDv(a:Addr)(C:Value):Option Addr->HO
 | none=>zQl a C
 | some dx=> .ext (XCf a C dx)
theorem zIy(h:Heap)(x:XCf a C dx h):KAt a C h:=let ⟨o,e,c,_⟩:=x;⟨o,e,c⟩
theorem zPc{d:Option Addr}(x:KAt a C h)(n: ∃o,h.get? a=some o/\PySem.W.notCls o=true)(hd: ∀dx,d=some dx-> ∃o,h.get? a=some o/\o.dict=some dx):zj P w H h a (zDv a C d):=by
 cases d with
 | none=>exact zPx x
 | some dx=>
  obtain ⟨o,e,c⟩:=x;obtain ⟨o1,e1,n1⟩:=n;obtain ⟨o2,e2,d2⟩:=hd dx rfl;rw [e] at e1 e2;cases e1;cases e2;exact ⟨⟨o,e,c,n1,d2⟩,⟨o,e⟩,fun h1 h2 ⟨o1,e1,c1⟩ k=>⟨o1,k o1 e1,c1⟩⟩
def zGN(K:zVK)(Cv:Value)(i:Nat)(ts:TS)(D:Ends):St->XK:=fun σ cls d H=>PySem.W.exmOne K cls Cv=some true/\ ∀ea,H ea=none->
 ts {nx:=fun σ' H'=>D.nx (σ'.set i none) H',rt:=D.rt,bk:=fun σ' H'=>D.bk (σ'.set i none) H',ct:=fun σ' H'=>D.ct (σ'.set i none) H'} (σ.set i (some (.ref ea))) (upd H ea (zDv ea cls d))
def zLG(K:zVK)(Cv:Value)(i:Nat)(tb:(St->XK)->TS)(ts:TS):TS:=fun D σ H=>tb (zGN K Cv i ts D) D σ H
theorem zPk{X:Cx}{tb:(St->XK)->TS}(hst:X.stack=X.env::X.outer)(hfr:X.env.frame=some X.env.locals)(hN:X.N.Nodup)(hi:X.N[i]?=some n)(hn:X.env.scope.names.lookup n=some .local)
  (hg:Gl X xc) (hm:X.mg xc=some Cv\/(X.mg xc=none/\bootBuiltins xc=some Cv/\xc≠ "__name__"))
  (hb: ∀ps xe E,zAW (yF X.prog X.w) (X.tryB ps xe) E->PSs (X.tryB ps xe) body (tb E)) (hs: ∀e,PSs (X.inExc e) (b₀::suite) ts) (hdb:(xc==("__debug__" :Str))=false:=by decide):
  PS X (.Try body [.ExceptHandler (some (.Name xc np)) (some n) (b₀::suite) hpos] [] [] pos) (zLG X.K Cv i tb ts):=by
 intro pins s σ H D I h;have fall: ∀(σ1:St) (H1 H':Hp) (s1 s':Shared) (ea:Addr) (cls a0:Value) (B:Heap),Inv X pins σ1 H1 s1->s'.os=s1.os->AllBare s'.gens->Heap.FlyingW B X.stack ea cls a0 s'.heap->HOk X.prog X.w H' B->FlyU (yW X.stack) H1 H' s1.heap B s'.heap-> ∀d,(∀dx,d=some dx-> ∃oe,s'.heap.get? ea=some oe/\oe.dict=some dx)->zGN X.K Cv i ts D σ1 cls d H'->
   wpAny (model X.prog X.w) X.A (noteFrame (.ref ea) X.env) (fun _ s₂=>wpAny (model X.prog X.w) X.A (setFlight (.ref ea) none) (fun _ s₃=>wpAny (model X.prog X.w) X.A (handleBy (.ref ea) X.env [.ExceptHandler (some (.Name xc np)) (some n) (b₀::suite) hpos]) (SP X pins D) X.xe s₃) X.xe s₂) X.xe s':=by
  intro σ1 H1 H' s1 s' ea cls a0 B I1 hos hbare hfl hok U d hdx q;obtain ⟨he,q⟩:=q;have ff:=hfl.2.2.1;rw [hst] at hfl;have b4:wpAny (model X.prog X.w) X.A (noteFrame (.ref ea) X.env) (fun _ s₂=> ∃h4,s₂={s' with heap:=h4}/\Heap.HeldW B (X.env::X.outer) ea cls a0 X.env.locals h4/\s'.heap.UpToSlots h4) (fun _ _=>False) s':=
   wpAny_looks_onW (by rw [I1.ok.frames,hst]) hfr hfl fun h4 x4 u4=>⟨h4,rfl,x4,u4⟩
  refine zUf (zCS zIu b4) (fun _ s₂ z4=>?_) fun _ _ z=>z.1.elim;obtain ⟨⟨h4,e4,x4,u4⟩,kd4⟩:=z4;subst e4;have b5:wpAny (model X.prog X.w) X.A (setFlight (.ref ea) none) (fun _ s₂=> ∃h5,s₂={s' with heap:=h5}/\Heap.FlyingW B (X.env::X.outer) ea cls a0 h5/\h4.UpToSlots h5) (fun _ _=>False) {s' with heap:=h4}:=
   wpAny_landsW x4 fun h5 x5 u5=>⟨h5,rfl,x5,u5⟩
  refine zUf (zCS zDs b5) (fun _ s₂ z5=>?_) fun _ _ z=>z.1.elim;obtain ⟨⟨h5,e5,x5,u5⟩,kd5⟩:=z5;subst e5;have kd45:KD s'.heap h5:=kd4.trans kd5;have U5:FlyU (yW X.stack) H1 H' s1.heap B h5:=U.land ff (u4.trans u5);have hf1: ∀b∈yW X.stack,H1 b=none:=I1.stkFree;have I5:Inv X pins σ1 H' {s' with heap:=h5}:=I1.call' (s':={s' with heap:=h5}) hos (U5.un x5.1 hf1) (hok.kept x5.1) hbare fun b z=>nomatch z;have ty5:PySem.W.Looks (model X.prog X.w) h5 (typeOf (.ref ea)) cls:=by
   obtain ⟨ob,hob,hc⟩:=x5.there;subst hc;exact (PySem.W.Looks.ld hob).andThen .now
  have I5':=I5.inExc ea;refine wpAny_handleBy_cons (codeAny_handlers_test ?_) (by intro z;cases z);have go:wpAny (model X.prog X.w) (X.A.mark (some (.ref ea))) (eval (.Name xc np) X.env) (fun c s₁=>c=Cv/\s₁={s' with heap:=h5}) (notedBy (model X.prog X.w) (X.A.mark (some (.ref ea))) X.env (cameBackBy (model X.prog X.w) X.A X.env X.xe)) {s' with heap:=h5}:=by
   rcases hm with hm |⟨hm,hv,hnn⟩
   ·exact zBY (X:=X.inExc ea) I5' hg hm ⟨rfl,rfl⟩ hdb
   ·exact zDO (X:=X.inExc ea) I5' hg hm hv ⟨rfl,rfl⟩ hnn hdb
  refine zUf go (fun c s₁ hc=>?_) fun _ _ z=>z;obtain ⟨hc1,hc2⟩:=hc;subst hc1 hc2;refine (PySem.W.exm_one I5.kIn ty5 he).here ?_;show codeAny _ _ _ _ _;refine codeAny_handlers_suite_as ?_;have b6:wpAny (model X.prog X.w) (X.A.mark (some (.ref ea))) (setFlight (.ref ea) none) (fun _ s₂=> ∃h6,s₂={s' with heap:=h6}/\Heap.FlyingW B (X.env::X.outer) ea cls a0 h6/\h5.UpToSlots h6) (fun _ _=>False) {s' with heap:=h5}:=
   lands_againW x5 fun h6 x6 u6=>⟨h6,rfl,x6,u6⟩
  refine zUf (zCS zDs b6) (fun _ s₂ z6=>?_) fun _ _ z=>z.1.elim;obtain ⟨⟨h6,e6,x6,u6⟩,kd6⟩:=z6;subst e6;have kd56:KD s'.heap h6:=kd45.trans kd6;have ff5:=x5.2.2.1;rw [<-hst] at ff5;have U6:FlyU (yW X.stack) H1 H' s1.heap B h6:=U5.land ff5 u6;have hBe:B.get? ea=none:=x6.2.1;have he':H' ea=none:=hok.untracked hBe;obtain ⟨oe,hoe,hoc⟩:=x6.there;obtain ⟨oe',vs',hoe',_,hod',_⟩:=x6.first;have ns1:s1.heap.get? ea=none:=by
   cases z:s1.heap.get? ea with
   | none=>rfl
   | some o=>
    by_cases y:ea∈yW X.stack
    ·have y':=y;rw [hst] at y';obtain ⟨_,o2,e2,d2⟩:=x6.2.2.1.mem y';rw [hoe'] at e2;cases e2;exact absurd hod' (d2 vs')
    ·obtain ⟨o',e'⟩:=U6.inB ea o z y;rw [hBe] at e';cases e'
  have nu: ∀b o,s1.heap.get? b=some o->b≠ea:=fun b o e z=>by rw [z,ns1] at e;cases e
  have hok6:HOk X.prog X.w H' h6:=hok.kept x6.1;have hokE:HOk X.prog X.w (upd H' ea (zDv ea cls d)) h6:=fun b u e=>by
   by_cases y:b=ea
   ·subst y;rw [zC] at e;cases e;exact zPc ⟨oe,hoe,hoc⟩ ⟨oe',hoe',by unfold PySem.W.notCls;rw [hod']⟩ fun dx hd=>by
     obtain ⟨o1,e1,d1⟩:=hdx dx hd;obtain ⟨o2,e2,d2⟩:=kd56 _ o1 e1;exact ⟨o2,e2,d2.trans d1⟩
   ·rw [zG y] at e;exact (hok6 b u e).stay (fun _ _ _ z=>z) (fun c z=>by rw [zG (zI z he')];exact z) fun c xs z=>by rw [zG (zI z he')];exact z
  have un6:=U6.un x6.1 hf1;have unE:Un (yW X.stack) [] H1 (upd H' ea (zDv ea cls d)) s1.heap h6:=
   ⟨un6.keep,un6.slot,fun b o e n hx=>by rw [zG (nu b o e)];exact un6.free b o e n hx,un6.there,fun b xs e=>by
    have z:=un6.tups b xs e;rw [zG (zI z he')];exact z,fun b o u e=>by
    have z:=un6.frzs b o u e;rw [zG (zI z he')];exact z,fun b ps e=>by
    obtain ⟨m,z⟩:=un6.tbls b ps e;exact ⟨m,by rw [zG (zI z he')];exact z⟩⟩
  have I6:Inv X pins σ1 (upd H' ea (zDv ea cls d)) {s' with heap:=h6}:=I1.call' (s':={s' with heap:=h6}) hos unE hokE hbare fun b z=>nomatch z;refine zFf (X:=X.inExc ea) (I6.inExc ea) hN hi (.inl hn) (v:= .ref ea) rfl (fun s7 I7=>?_) (.inr hn);refine zUf (hs ea pins s7 _ _ _ I7 (q ea he')) (fun f s8 h8=>?_) fun _ _ z=>z.elim;cases f with
  | next=>
   obtain ⟨σ',H8,I8,q8⟩:=h8;exact zCb (I8.outExc I.ok) hN hi hn fun s9 I9=>⟨_,H8,I9,q8⟩
  | brk=>
   obtain ⟨σ',H8,I8,q8⟩:=h8;exact zCb (I8.outExc I.ok) hN hi hn fun s9 I9=>⟨_,H8,I9,q8⟩
  | cont=>
   obtain ⟨σ',H8,I8,q8⟩:=h8;exact zCb (I8.outExc I.ok) hN hi hn fun s9 I9=>⟨_,H8,I9,q8⟩
  | ret u=>
   obtain ⟨v,σ',H8,I8,r8,q8⟩:=h8;exact zCb (I8.outExc I.ok) hN hi hn fun s9 I9=>⟨v,_,H8,I9,r8,q8⟩
 refine wpAny_Try_except ?_;refine zUf (hb pins (fun e s₁=>wpAny (model X.prog X.w) X.A (noteFrame e X.env) (fun _ s₂=>wpAny (model X.prog X.w) X.A (setFlight e none) (fun _ s₃=>wpAny (model X.prog X.w) X.A (handleBy e X.env [.ExceptHandler (some (.Name xc np)) (some n) (b₀::suite) hpos]) (SP X pins D) X.xe s₃) X.xe s₂) X.xe s₁)
  (zGN X.K Cv i ts D) ?_ [] s σ H D (I.tryB _) h) (fun f s1 q=>?_) fun _ _ z=>z
 ·intro ps σ1 H1 s1 e s' I1 hfly;obtain ⟨ea,cls,a0,H',B,he,hos,hbare,hfl,hok,U,q⟩:=hfly;subst he;rcases q with q |⟨oe,dx,e1,d1,q⟩
  ·exact fall σ1 H1 H' s1 s' ea cls a0 B (I1.untry I.ok) hos hbare hfl hok U none (fun dx z=>nomatch z) q
  ·exact fall σ1 H1 H' s1 s' ea cls a0 B (I1.untry I.ok) hos hbare hfl hok U (some dx) (fun dx' z=>by cases z;exact ⟨oe,e1,d1⟩) q
 ·have q':=q.untry I.ok;cases f with
  | next=>exact wpAny_execs_nil q'
  | ret v=>exact q'
  | brk=>exact q'
  | cont=>exact q'
theorem zRI{X:Cx}{K:zVK}{body:List Stmt}{xc n:Str}{np hpos pos:Pos}{b₀:Stmt}{suite:List Stmt}{tb:(St->XK)->TS}{ts:TS}{Cv:Value}(i:Nat)(hK:X.K=K)(hst:X.stack=X.env::X.outer)(hfr:X.env.frame=some X.env.locals)(hN:X.N.Nodup)(hi:X.N[i]?=some n)(hn:X.env.scope.names.lookup n=some .local)
  (hg:Gl X xc) (hm:X.mg xc=some Cv\/(X.mg xc=none/\bootBuiltins xc=some Cv/\xc≠ "__name__"))
  (hb: ∀ps xe E,zAW (yF X.prog X.w) (X.tryB ps xe) E->QB (X.tryB ps xe) body (tb E)) (hs: ∀e,QB (X.inExc e) (b₀::suite) ts) (hdb:(xc==("__debug__" :Str))=false):
  QS X (.Try body [.ExceptHandler (some (.Name xc np)) (some n) (b₀::suite) hpos] [] [] pos) (zLG K Cv i tb ts):=by
 subst hK;exact ⟨zPk hst hfr hN hi hn hg hm (fun ps xe E hp=>(hb ps xe E hp).out) (fun e=>(hs e).out) hdb⟩
section
variable {X:Cx}{e:Expr}{f:Str}{pos:Pos}{ta:TE}
def tXc(K:zVK)(ta:TE)(f:Str):TE:=fun σ H Q=>ta σ H fun x H1=> ∃a C dx fs v,x= .ref a/\H1 a=some (zDv a (.ref C) (some dx))/\H1 dx=some (XD dx fs)/\XCls K C/\yR K C f/\fs.lookup f=some v/\Q v H1
theorem zTP{K:zVK}(hK:X.K=K)(he:PE X e ta)(hb:attributeBase e f X.env (eval e X.env)=eval e X.env):PE X (.Attribute e f pos) (tXc K ta f):=by
 subst hK;intro pins s σ H Q I h;refine zJi hb (zV (he pins s σ H _ I h) fun u s1 ⟨x,H1,I1,rx,a,C,dx,fs,v,ex,ea,ed,c,n,l,q⟩=>?_);subst ex;obtain rfl:u=Value.ref a:=rx;obtain ⟨⟨o,ho,hc,hn,hd⟩,_⟩:=(show zj X.prog X.w H1 s1.heap a (.ext (XCf a (.ref C) dx)) from I1.hok a _ ea);obtain ⟨⟨mA,ns,r,wi⟩,_⟩:=(show zj X.prog X.w H1 s1.heap dx (XD dx fs) from I1.hok dx _ ed);obtain ⟨od,hod,hl⟩:=zHQ ns;obtain ⟨uv,hu,ru⟩:=zAC.some_of (v:=v) (o:=mA f) (by rw [<-l];exact r f);have J:PySem.W.InstAt s1.heap a o C (some od):=⟨ho,hc,hn,by rw [hd];exact hod⟩;exact PySem.W.xget_value I1.kIn J c.ga c.gn c.be (PySem.W.findObj_own c.hd n rfl (by rw [hl,hu])) (zHP ru) ⟨v,H1,I1.tok _,ru,q⟩
theorem zKk{K:zVK}(hK:X.K=K)(he:QE X e ta)(hb:attributeBase e f X.env (eval e X.env)=eval e X.env):QE X (.Attribute e f pos) (tXc K ta f):=⟨zTP hK he.out hb⟩
end
end L2
namespace PySem
open PyProof.Rows
theorem zHi:typeLookup (.type "tuple") "keys" =pure none:=by rw [typeLookup_type,builtinLookup_eq_fast];kernel_rfl
theorem zDq{E:Value->Shared->Prop}{xs:Array Value}{Q:Option Value->Shared->Prop}
  (hx:s.heap.get? a=some o) (hc:o.cls= .type "tuple") (hdat:o.data= .seq xs k) (hd:o.dict=none) (hA:A.handled=none)
  (h: ∀h' tk,(∀b ob,s.heap.get? b=some ob->h'.get? b=some ob)->Q none {s with heap:=h',toks:=tk}):wpAny (model prog w) A (getAttr? (.ref a) "keys") Q E s:=by
 obtain ⟨c,dct,dat,sl⟩:=o;simp only at hc hdat hd;subst hc hdat hd;obtain ⟨hp,g,d,tk,os⟩:=s;have hT: ∀tk',(⟨hp,g,d,tk',os⟩:Shared).TypeIs (.ref a) "tuple" :=fun _=>⟨_,hx,rfl⟩;have f1:=sub_AttributeError;have f3:=F.slot_tuple_getattribute.lookup;have f4:=F.slot_tuple_getattribute.bind (.ref a);have f5:=am_tuple_getattr_none;have hname:(["__module__","__name__","__qualname__","__doc__","__annotations__"] :List Str).contains ("keys" :Str)=false:=by decide+kernel
 unfold getAttr? getAttrBy? getAttrBy
 repeat (any_goals (first | assumption | exact hT _ |((with_reducible show wpAny _ _ (call (Value.builtin "tuple.__getattribute__") _ _) _ _ _);refine call_meets F.slot_tuple_getattribute (hT _) am_entry_tuple_getattribute (F.args_tuple_getattribute_2 _ _) (meets_getattribute_miss_tuple a xs k sl ("keys" :Str) _ zHi hname (by rw [zUV];decide)) ⟨hx,hA,fun h' tk' e hx'=>?_⟩)| wp_step))
 obtain ⟨t',u',he⟩:=hx'.there;show wpAny _ _ (getattributeRaised _ _ _ _ _ _ _) _ _ _;unfold getattributeRaised
 repeat (any_goals (first | assumption | wp_step))
 exact h _ _ hx'.keeps
section
variable {prog:Program}{w:World}{K:Type}[DecidableEq K]{knd:KeyKind prog w K}{A:Around}{R:Result->Shared->Prop}{d it l:Addr}{items:Array Value}{ps:List (K×Value)}
theorem zIh(hh:A.handled=none)(hl:ps.length=items.size): ∀(n i:Nat) (s:Shared) (kvs:List (K×Value)),items.size - i=n->i<=items.size->s.heap.DictOf knd d kvs->s.heap.IsTupleIter it l i->s.heap.IsTuple l items->
  (∀(j:Nat) (v:Value),items[j]?=some v-> ∃t k key x,v= .ref t/\s.heap.IsTuple t #[key,x] /\knd.is k key=true/\ps[j]?=some (k,x))->kvs.length+n<=sizeLine->
  (∀h' tk,(∀b o,b≠d->b≠it->s.heap.get? b=some o->h'.get? b=some o)->h'.DictOf knd d (merged kvs (ps.drop i))->R (.ok (.ret .none)) {s with heap:=h',toks:=tk})->
  codeAny (model prog w) A (.builtin "dict.update.loop" ⟨[.ref d,.ref it,rawInt i,.none],[]⟩) R s:=by
 intro n
 induction n with
 | zero=>
  intro i s kvs hk hi hd hit hL hitem hz hR;refine codeAny_builtin zCI ?_;rw [Around.under_plainId zAS _];show wpAny _ A.in1 (pyNext (.ref it)>>=_) _ _ s;refine zUL (wpAny_pyNext_tuple_end hh hit hL (by simp;omega) fun h' eb=>?_);have hdi:d≠it:=by
   intro e;subst e;obtain ⟨o,ho,hc,_⟩:=hit;obtain ⟨o',_,_,ho',hc',_⟩:=hd;rw [ho] at ho';cases ho';have z:=hc'.1;rw [hc] at z;exact absurd z (by decide)
  have hd':h'.DictOf knd d kvs:=hd.extBut eb hdi;have e0:ps.drop i= [] :=by rw [List.drop_eq_nil_iff];omega
  have z:=hR h' s.toks (fun b o _ hb q=>eb b o hb q) (by rw [e0];exact hd');show wpAny _ A.in1 (Builtin.Dict.addKeywords d [] >>=_) _ _ _;exact zUL (zUQ (zUQ z))
 | succ n ih=>
  intro i s kvs hk hi hd hit hL hitem hz hR;have hlt:i<items.size:=by omega
  have hdi:d≠it:=by
   intro e;subst e;obtain ⟨o,ho,hc,_⟩:=hit;obtain ⟨o',_,_,ho',hc',_⟩:=hd;rw [ho] at ho';cases ho';have z:=hc'.1;rw [hc] at z;exact absurd z (by decide)
  have hli:l≠it:=by
   intro e;subst e;obtain ⟨o,ho,hc,_⟩:=hit;obtain ⟨o',ho',hc',_⟩:=hL;rw [ho] at ho';cases ho';rw [hc] at hc';exact absurd hc' (by decide)
  have hld:l≠d:=by
   intro e;subst e;obtain ⟨o',ho',hc',_⟩:=hL;obtain ⟨o,_,_,ho,hc,_⟩:=hd;rw [ho] at ho';cases ho';have z:=hc.1;rw [hc'] at z;exact absurd z (by decide)
  have tne: ∀{t:Addr} {xs:Array Value},s.heap.IsTuple t xs->t≠it/\t≠d:=by
   intro t xs ht;obtain ⟨o',ho',hc',_⟩:=ht;constructor
   ·intro e;subst e;obtain ⟨o,ho,hc,_⟩:=hit;rw [ho] at ho';cases ho';rw [hc] at hc';exact absurd hc' (by decide)
   ·intro e;subst e;obtain ⟨o,_,_,ho,hc,_⟩:=hd;rw [ho] at ho';cases ho';have z:=hc.1;rw [hc'] at z;exact absurd z (by decide)
  obtain ⟨t,k,key,x,hv,ht,hkey,hps⟩:=hitem i items[i] (by simp [hlt]);refine codeAny_builtin zCI ?_;rw [Around.under_plainId zAS _];show wpAny _ A.in1 (pyNext (.ref it)>>=_) _ _ s;refine zUL (wpAny_pyNext_tuple_item hit hL (x:=items[i]) (by simp [hlt]) fun h1 hit1 hs1=>?_);rw [hv];obtain ⟨ot,hot,hct,nt,hdt⟩:=id ht;have hot1:h1.get? t=some ot:=(hs1.2 t (tne ht).1).trans hot;refine zUL (zVB (zUL (wpAny_tryCatch ?_)));unfold Builtin.Dict.pairItems;refine zUL (wpAny_typeOf (s:={s with heap:=h1}) (T:= "tuple") ⟨ot,hot1,hct⟩ ?_);rw [if_pos (by decide)];refine zUL (wpAny_seqItems hot1 hdt (zUQ ?_));show wpAny _ A.in1 (holding [key,x] (dictSet d key x)) _ _ {s with heap:=h1};refine zVB (wpAny_dictSet_pairs (s:={s with heap:=h1}) hkey (hd.sameBut hs1 hdi) (fun h2 hd2 hs2=>?_) (by omega));replace hs2:Heap.SameBut d h1 h2:=hs2;have hc:((i:Int)+1)=((i+1:Nat):Int):=by omega
  show wpAny _ A.in1 (again (.builtin "dict.update.loop" ⟨[.ref d,.ref it,rawInt ((i:Int)+1),.none],[]⟩)) _ _ {s with heap:=h2,toks:=s.toks+1};rw [hc];have old: ∀b o,b≠d->b≠it->s.heap.get? b=some o->h2.get? b=some o:=fun b o b1 b2 q=>(hs2.2 b b1).trans ((hs1.2 b b2).trans q);refine zUQ ⟨plainId_quiet zAS _,ih (i+1) {s with heap:=h2,toks:=s.toks+1} (stored kvs k x) (by omega) hlt hd2 (hit1.at fun o q=>(hs2.2 it (Ne.symm hdi)).trans q) (hL.at fun o q=>old l o hld hli q)
   (fun j v e=>?_) (by have:=stored_length_le kvs k x;omega) fun h' tk hk' hd'=>?_⟩
  ·obtain ⟨t',k',key',x',a1,⟨o2,a2,a3,n2,a4⟩,a5,a6⟩:=hitem j v e;have hne:=tne ⟨o2,a2,a3,n2,a4⟩;exact ⟨t',k',key',x',a1,⟨o2,old t' o2 hne.2 hne.1 a2,a3,n2,a4⟩,a5,a6⟩
  ·refine hR h' tk (fun b o b1 b2 q=>hk' b o b1 b2 (old b o b1 b2 q)) ?_;have e:ps.drop i=(k,x)::ps.drop (i+1):=by
    have hi':i<ps.length:=by omega
    rw [List.drop_eq_getElem_cons hi'];rw [zUK hi'] at hps;rw [Option.some.inj hps]
   rw [e];exact hd'
end
section
variable {prog:Program}{w:World}{K:Type}[DecidableEq K]{knd:KeyKind prog w K}{A:Around}{E:Value->Shared->Prop}{s:Shared}
theorem zFI{items:Array Value}{ps:List (K×Value)}{Q:Value->Shared->Prop}(hh:A.handled=none)(ho:s.heap.get? l=some o)(hc:o.cls= .type "tuple")(hdat:o.data= .seq items n)(hdc:o.dict=none)
  (hl:ps.length=items.size) (hsz:items.size<=sizeLine)
  (hitem: ∀(j:Nat) (v:Value),items[j]?=some v-> ∃t k key x,v= .ref t/\s.heap.IsTuple t #[key,x] /\knd.is k key=true/\ps[j]?=some (k,x))
  (h: ∀h' tk,h'.DictOf knd s.heap.objs.size (merged [] ps)->(∀b q,s.heap.get? b=some q->h'.get? b=some q)->Q (.ref s.heap.objs.size) {s with heap:=h',toks:=tk}):
  wpAny (model prog w) A (call (.type "dict") [.ref l]) Q E s:=by
 refine callType_codes (Q₁:=fun obj s₁=>obj= .ref s.heap.objs.size/\s₁={s with heap:=s.heap.push {cls:= .type "dict",data:= .dict #[]}}) F.kt_called_dict (F.kt_typeCall_dict_1 _) F.entry_dict_init (kt_code_dict_new _ ⟨rfl,rfl⟩) ?_;rintro obj s₁ ⟨rfl,rfl⟩;have hnew:(s.heap.push {cls:= .type "dict",data:= .dict #[]}).DictOf knd s.heap.objs.size [] :=Heap.DictOf.new s.heap;have ho1:(s.heap.push {cls:= .type "dict",data:= .dict #[]}).get? l=some o:=zUM _ ho;refine ⟨hnew.typeIs,F.args_dict_init_2 _ _,?_⟩;unfold Builtin.«dict.__init__»;refine zUL ?_;unfold Builtin.Dict.selfAndRest;refine zUL (wpAny_notOrdered_dict hnew.typeIs ?_);show wpAny _ _ (pure (s.heap.objs.size,[Value.ref l])) _ _ _;refine zUQ ?_;show wpAny _ _ (Builtin.Dict.updateFrom "dict.__init__" s.heap.objs.size (.ref l) [] .none) _ _ _;unfold Builtin.Dict.updateFrom;refine zUL (wpAny_typeOf (T:= "tuple") ⟨o,ho1,hc⟩ ?_);rw [if_pos (by decide)];refine zUL (zDq ho1 hc hdat hdc (by first | exact hh | simpa using hh) fun h1 tk1 k1=>?_);replace k1: ∀(b:Addr) (ob:Obj),(s.heap.push {cls:= .type "dict",data:= .dict #[]}).get? b=some ob->h1.get? b=some ob:=k1;have hL1:h1.IsTuple l items:=⟨o,k1 l o ho1,hc,n,hdat⟩;rw [if_pos (by simp)];refine zUL (wpAny_rule (zUL (wpAny_pyIter_tuple (s:={s with heap:=h1,toks:=tk1}) hL1 ?_)));have hd1:h1.DictOf knd s.heap.objs.size [] :=hnew.keep k1;refine zUQ ⟨plainId_quiet zAS _,?_⟩;refine zIh (knd:=knd) (l:=l) (items:=items) (ps:=ps) (A:=A.in1) (by first | exact hh | simpa using hh) hl items.size 0 _ [] (by omega) (zUZ _) (hd1.push _) ⟨_,zUd _ rfl,rfl,rfl⟩ (hL1.at fun q z=>zUM _ z) (fun j v e=>?_) (by simpa using hsz) fun h' tk hk' hd'=>?_
 ·obtain ⟨t,k,key,x,a1,⟨o2,a2,a3,n2,a4⟩,a5,a6⟩:=hitem j v e;exact ⟨t,k,key,x,a1,⟨o2,zUM _ (k1 t o2 (zUM _ a2)),a3,n2,a4⟩,a5,a6⟩
 ·refine ⟨rfl,h h' tk (by simpa using hd') fun b q z=>?_⟩;have z1:=k1 b q (zUM _ z);exact hk' b q (zUS (zUU z)) (zUS (zUU z1)) (zUM _ z1)
end
end PySem
namespace L2
open PySem PySem.Spec PyProof.Rows
section
variable {X:Cx}
theorem zGV(hc:X.calm=true):yU X (.type "dict") (fun xs H Q=> ∃(l:Addr) (ts:List Addr) (kvs:List (Key×V)),xs= [.ref l] /\H l=some (.tup (ts.map V.ref))/\Paired (fun (t:Addr) (p:Key×V)=>H t=some (.tup [kV p.1,p.2])) ts kvs/\
  (kvs.map (·.1)).Nodup/\ ∀a,H a=none->Q (.ref a) (upd H a (.dK kvs))):=by
 intro pins s σ H xs us Q I r h;obtain ⟨l,ts,kvs,rfl,e,hp,nd,q⟩:=h;obtain ⟨u,rfl,ru⟩:=zAR r;cases ru;obtain ⟨z,its,rv,ol,ho,hcl,⟨nl,hdl⟩,hnd⟩:=(show zj X.prog X.w H s.heap l (.tup (ts.map V.ref)) from I.hok l _ e);have vals: ∀{ts:List Addr} {kvs:List (Key×V)},Paired (fun (t:Addr) (p:Key×V)=>H t=some (.tup [kV p.1,p.2])) ts kvs-> ∃vs:List (Key×Value),KV kvs vs/\vs.length=ts.length/\
   ∀(j:Nat) t,ts[j]?=some t-> ∃k key x,s.heap.IsTuple t #[key,x] /\(zu X.prog X.w).is k key=true/\vs[j]?=some (k,x):=by
  intro ts kvs hp
  induction hp with
  | nil=>exact ⟨[],.nil,rfl,fun j t e=>by simp at e⟩
  | @cons t p ts kvs h1 _ ih=>
   obtain ⟨vs,r1,r2,r3⟩:=ih;obtain ⟨its,rv,hi⟩:=I.tupl h1;cases rv with
   | @cons _ key _ _ q1 q2=>
    cases q2 with
    | @cons _ x _ _ q3 q4=>
     cases q4;refine ⟨(p.1,x)::vs,.cons ⟨rfl,q3⟩ r1,by simp [r2],fun j t' ej=>?_⟩;cases j with
     | zero=>
      simp at ej;subst ej;exact ⟨p.1,key,x,hi,zCK q1,rfl⟩
     | succ j=>exact r3 j t' (by simpa using ej)
 obtain ⟨vs,rel,lv,hv⟩:=vals hp;have li:=rv.length;rw [zUR] at li z;have ndv:(vs.map (·.1)).Nodup:=by rw [<-KV.keys rel];exact nd
 refine zFI (knd:=zu X.prog X.w) (ps:=vs) (I.ok.hd hc) ho hcl hdl hnd (by simp;omega) (by simp;omega) (fun j v ej=>?_) fun h' tk hd hk=>?_
 ·have ej':its[j]?=some v:=by simpa using ej
  have hj:j<its.length:=(zVX.mp ej').1;have et:ts[j]?=some ts[j] :=zUK (by omega);have er:(ts.map V.ref)[j]?=some (.ref ts[j]):=by rw [zUP,et];rfl
  obtain ⟨u,eu,ru⟩:=rv.get er;rw [ej'] at eu;cases eu;obtain ⟨k,key,x,a1,a2,a3⟩:=hv j ts[j] et;exact ⟨ts[j],k,key,x,ru,a1,a2,a3⟩
 ·rw [merged_nil_of_nodup vs ndv] at hd;have hz:kvs.length<=sizeLine:=by
   have:=KV.length rel;omega
  have I1:=Inv.laid (h':=h') (t':=tk) (a:=s.heap.objs.size) (o:= .dK kvs) I hk (zUO _) (zGP hz (beq_eq_false_iff_ne.mpr (Ne.symm (zUS I.big))) rel hd);exact ⟨.ref s.heap.objs.size,_,I1,rfl,q _ (I.hok.fresh (zUO _))⟩
end
end L2
namespace PySem
open PyProof.Rows
section
variable {prog:Program}{w:World}{K:Type}[DecidableEq K]{knd:KeyKind prog w K}{A:Around}{E:Value->Shared->Prop}{s:Shared}
theorem zJe{R:Result->Shared->Prop}{kvs:List (K×Value)}(hh:A.handled=none)(hd:(d==sysModules)=false)(hm:s.heap.DictAt knd d kvs ep)(hn:kvs.length<=sizeLine)
  (hS:s.heap.get? S=some {cls:= .type "list",data:= .seq #[] c₀})
  (hR: ∀h' tk acc' c',(∀b o,b≠S->s.heap.get? b=some o->h'.get? b=some o)->h'.get? S=some {cls:= .type "list",dict:=none,data:= .seq acc' c',slots:= #[]}->
   ItemsOf (fun i v=> ∃k x,kvs[i]?=some (k,x)/\knd.is k v=true) acc' kvs.length->R (.ok (.ret res)) {s with heap:=h',toks:=tk}):
  wpAny (model prog w) A.in1 (Builtin.List.listExtendWith (.ref S) (.ref d) res)
   (fun fin s'=>match fin with | .done f=>R (.ok f) s' | .again c'=>c'.quiet=true/\codeAny (model prog w) A c' R s') (fun e s'=>R (.error e) s') s:=by
 have hlt:d<s.heap.objs.size:=hm.lt_size;have hSlt:S<s.heap.objs.size:=zUU hS;have hSd:S≠d:=by
  intro e;subst e;obtain ⟨o,es,ho,hc,_⟩:=id hm;rw [hS] at ho;cases ho;have z:Value.type "list" =Value.type "dict" :=hc.1;exact absurd z (by decide)
 have h1:Builtin.List.listSameRef (.ref S) (.ref d)=false:=by
  simp only [Builtin.List.listSameRef,beq_eq_false_iff_ne];exact hSd
 have hT:s.TypeIs (.ref d) "dict" :=hm.dictOf.typeIs;unfold Builtin.List.listExtendWith;refine zUL (wpAny_typeOf hT ?_);rw [if_neg (by rw [h1];decide)];refine zUL (wpAny_pyIter_dict hd hm ?_);have hit:(s.heap.push {cls:= .type "dict_keyiterator",data:= .fields #[.ref d,.int 0 0,.int kvs.length 0,.int ep 0]}).get? s.heap.objs.size
   =some {cls:= .type "dict_keyiterator",data:= .fields #[.ref d,.int 0 0,.int kvs.length 0,.int ep 0]}:=zUd _ rfl
 have hm2:=hm.push {cls:= .type "dict_keyiterator",data:= .fields #[.ref d,.int 0 0,.int kvs.length 0,.int ep 0]};have hS₂:(s.heap.push {cls:= .type "dict_keyiterator",data:= .fields #[.ref d,.int 0 0,.int kvs.length 0,.int ep 0]}).get? S=some {cls:= .type "list",data:= .seq #[] c₀}:=zUM _ hS;have old2: ∀b o,s.heap.get? b=some o->(s.heap.push {cls:= .type "dict_keyiterator",data:= .fields #[.ref d,.int 0 0,.int kvs.length 0,.int ep 0]}).get? b=some o:=fun b o e=>zUM _ e;generalize s.heap.push {cls:= .type "dict_keyiterator",data:= .fields #[.ref d,.int 0 0,.int kvs.length 0,.int ep 0]}=h2 at hit hm2 hS₂ old2⊢;have hT2:Shared.TypeIs {s with heap:=h2} (.ref d) "dict" :=hm2.dictOf.typeIs;refine zUL (zVB ?_);unfold Builtin.List.listLengthHint;refine zUL (wpAny_specialOf hT2 F.slot_dict_len.lookup ?_);generalize yT:("dict.__len__" :String)=id0
 wp_delta
 rw [show splitId id0=some ("dict","__len__") from by subst yT;decide+kernel];subst yT;refine zUL (wpAny_isInstance (b:=true) hT2 isSubtype_dict_dict ?_);rw [if_neg (by decide)];dsimp only;rw [if_pos (by decide+kernel)];refine zUL (wpAny_typeOf hT2 ?_);refine zUQ ?_;show wpAny _ A.in1 (rule "list.extend.makes-room" >>=fun _=>Builtin.List.listTouch (.ref S)>>=fun _=>
  again (.builtin "list.extend.loop" ⟨[.ref S,.ref s.heap.objs.size,res],[]⟩)) _ _ _
 refine zUL (wpAny_rule ?_);refine zUL ?_;show wpAny _ A.in1 (updateSeq S (·.push .none)>>=fun _=>updateSeq S (·.pop)) _ _ _;refine zUL (wpAny_updateSeq hS₂ rfl ?_);have hS₃:=zUx (Obj.mapSeq (·.push Value.none)) hS₂ rfl;refine wpAny_updateSeq hS₃ rfl ?_;have hS₄:=zUx (Obj.mapSeq (·.pop)) hS₃ rfl;have oth: ∀b o,b≠S->h2.get? b=some o->((h2.update S (Obj.mapSeq (·.push Value.none))).update S (Obj.mapSeq (·.pop))).get? b=some o:=
  fun b o hb e=>(zUw _ _ (Ne.symm hb)).trans ((zUw _ _ (Ne.symm hb)).trans e)
 have ne1:s.heap.objs.size≠S:=zUz hSlt;have hit4:=oth _ _ ne1 hit;have hm4:=hm2.at' fun o e=>oth d o (Ne.symm hSd) e;refine zUQ ⟨plainId_quiet F.plain_extend_loop _,codeAny_extend_loopS (Walks.dictKeys (knd:=knd) (A:=A.in1) hh s.heap.objs.size d (zUS hlt) kvs ep).toS hn _ ?_ _ kvs.length 0 _ _ _ rfl (zUZ _)
  ⟨⟨_,hit4,rfl,rfl⟩,hm4⟩ hS₄ (ItemsOf.nil _) fun s' acc' c' hmv hS' hacc=>?_⟩
 ·intro z;rcases zVL.mp z with y | y
  ·exact ne1 y.symm
  ·have y':S=d:=by simpa using y
   exact hSd y'
 ·obtain ⟨hp',g',dr',tk',os'⟩:=s';obtain ⟨m1,m2,m3,m4,m5⟩:=hmv;cases m2;cases m3;cases m4;refine hR hp' tk' acc' c' (fun b o hb e=>m1 b o (fun z=>?_) (oth b o hb (old2 b o e))) hS' hacc;rcases zVL.mp z with y | y
  ·exact hb y
  ·have y':b=s.heap.objs.size:=by simpa using y
   exact zUS (zUU e) y'
theorem zGv{Q:Value->Shared->Prop}{kvs:List (K×Value)}(hh:A.handled=none)(hd:(d==sysModules)=false)(hm:s.heap.DictAt knd d kvs ep)(hn:kvs.length<=sizeLine)
  (hQ: ∀h' tk acc' c',(∀b o,s.heap.get? b=some o->h'.get? b=some o)->h'.get? s.heap.objs.size=some {cls:= .type "list",dict:=none,data:= .seq acc' c',slots:= #[]}->
   ItemsOf (fun i v=> ∃k x,kvs[i]?=some (k,x)/\knd.is k v=true) acc' kvs.length->Q (.ref s.heap.objs.size) {s with heap:=h',toks:=tk}):
  wpAny (model prog w) A (call (.type "list") [.ref d]) Q E s:=by
 refine callType_codes (Q₁:=fun obj s₁=>obj= .ref s.heap.objs.size/\s₁={s with heap:=s.heap.push {cls:= .type "list",data:= .seq #[]}}) F.called_list (F.typeCall_list_1 _) F.entry_list_init
  (code_list_new _ ⟨rfl,rfl⟩) fun obj s₁ h₁=>?_
 obtain ⟨rfl,rfl⟩:=h₁;have hS:(s.heap.push {cls:= .type "list",data:= .seq #[]}).get? s.heap.objs.size=some {cls:= .type "list",data:= .seq #[]}:=zUd _ rfl;refine ⟨⟨_,hS,rfl⟩,F.args_list_init_2 _ _,?_⟩;show wpAny _ _ (do let old<-Builtin.List.listItems (.ref s.heap.objs.size);Builtin.List.listUpdate (.ref s.heap.objs.size) (fun _=> #[]);letGo old.toList.reverse;Builtin.List.listExtendWith (.ref s.heap.objs.size) (.ref d) .none) _ _ _;refine zUL ?_;unfold Builtin.List.listItems;refine zUL (wpAny_seqItems hS rfl (zUQ ?_));show wpAny _ _ (updateSeq s.heap.objs.size (fun _=> #[])>>=fun _=>letGo (#[] :Array Value).toList.reverse>>=fun _=>Builtin.List.listExtendWith (.ref s.heap.objs.size) (.ref d) .none) _ _ _;refine zUL (wpAny_updateSeq hS rfl ?_);have hS₂:=zUx (Obj.mapSeq (fun _=>(#[] :Array Value))) hS rfl;have oth: ∀b o,b≠s.heap.objs.size->(s.heap.push {cls:= .type "list",data:= .seq #[]}).get? b=some o->((s.heap.push {cls:= .type "list",data:= .seq #[]}).update s.heap.objs.size (Obj.mapSeq (fun _=>(#[] :Array Value)))).get? b=some o:=
  fun b o hb e=>(zUw _ _ (Ne.symm hb)).trans e
 refine zUL (wpAny_letGo ?_);have hm2:=(hm.push {cls:= .type "list",data:= .seq #[]}).at' fun o e=>oth d o (zUS hm.lt_size) e;refine zJe (knd:=knd) (A:=A.in1) (c₀:=_) hh hd hm2 hn hS₂ fun h' tk acc' c' hk hS' hacc=>?_;exact ⟨rfl,hQ h' tk acc' c' (fun b o e=>hk b o (zUS (zUU e)) (oth b o (zUS (zUU e)) (zUM _ e))) hS' hacc⟩
end
end PySem
namespace L2
open PySem PySem.Spec PyProof.Rows
section
variable {X:Cx}
theorem zGR(hc:X.calm=true):yU X (.type "list") (fun xs H Q=> ∃(a:Addr) (kvs:List (Key×V)),xs= [.ref a] /\Rd H a (.dK kvs)/\ ∀l,H l=none->Q (.ref l) (upd H l (.lst (kvs.map fun p=>kV p.1)))):=by
 intro pins s σ H xs us Q I r h;obtain ⟨a,kvs,rfl,e,q⟩:=h;obtain ⟨u,rfl,ru⟩:=zAR r;cases ru;obtain ⟨z,hs,vs,rel,dd⟩:=zAs I.hok e;obtain ⟨ep,da⟩:=dd.dictAt;have lv:=KV.length rel;refine zGv (knd:=zu X.prog X.w) (I.ok.hd hc) hs da (by omega) fun h' tk acc' c' kp ho items=>?_;have gen: ∀(us:List Value) (ps:List (Key×V)),us.length=ps.length->(∀(j:Nat) v p,us[j]?=some v->ps[j]?=some p->(zu X.prog X.w).is p.1 v=true)->zS (ps.map fun p=>kV p.1) us:=by
  intro us
  induction us with
  | nil=>
   intro ps hl _;cases ps with
   | nil=>exact .nil
   | cons p ps=>simp at hl
  | cons v us ih=>
   intro ps hl hv;cases ps with
   | nil=>simp at hl
   | cons p ps=>exact .cons (zMq (hv 0 v p rfl rfl)) (ih ps (by simpa using hl) fun j v' p' e1 e2=>hv (j+1) v' p' (by simpa using e1) (by simpa using e2))
 have hv:zS (kvs.map fun p=>kV p.1) acc'.toList:=by
  refine gen _ _ (by have e:=items.1;simp only [Array.length_toList,e];omega) fun j v p e1 e2=>?_;obtain ⟨k,x,e3,e4⟩:=items.2 j v (by simpa using e1);have e5:(vs.map (·.1))[j]?=some k:=by rw [zUP,e3];rfl
  rw [<-KV.keys rel,zUP,e2] at e5;have e6:p.1=k:=Option.some.inj e5;rw [e6];exact e4
 have I2:=Inv.laid (h':=h') (t':=tk) (a:=s.heap.objs.size) (o:= .lst (kvs.map fun p=>kV p.1)) I kp (zUO _) ⟨by rw [zUR];exact z,acc'.toList,c',hv,by simpa using ho⟩;exact ⟨.ref s.heap.objs.size,_,I2,rfl,q _ (I.hok.fresh (zUO _))⟩
end
theorem zEq: ∀(n:Nat) {x:V} {d:PyData},Dat H n x d->d.depth<=n:=by
 have all: ∀{n:Nat},(∀{x:V} {d:PyData},Dat H n x d->d.depth<=n)-> ∀{xs:List V} {ds:List PyData},Paired (Dat H n) xs ds->PyData.depthAll ds<=n:=by
  intro n ih xs ds p
  induction p with
  | nil=>simp only [PyData.depthAll];exact zUZ _
  | cons h _ q=>
   have a:=ih h;simp only [PyData.depthAll];omega
 intro n
 induction n with
 | zero=>
  intro x d h;cases x<;>first | exact h.elim |(cases (show d=_ from h);simp only [PyData.depth];exact zUZ _)
 | succ n ih=>
  intro x d h;cases x with
  | ref a=>
   rcases h with ⟨xs,ds,rfl,e,p⟩|⟨xs,ds,rfl,e,p⟩
   ·simp only [PyData.depth];have:=all ih p;omega
   ·simp only [PyData.depth];have:=all ih p;omega
  | byt b=>exact h.elim
  | flt b=>exact h.elim
  | ty b=>exact h.elim
  | _=>cases (show d=_ from h);simp only [PyData.depth];exact zUZ _
section
variable {X:Cx}{K:zVK}
def zCs(n:Nat)(neg:Bool):R2:=fun x y H Q=> ∃d e,Dat H n x d/\Dat H n y e/\d.canLay0=true/\e.canLay0=true/\Q (.bl (if neg then !PyData.eqv d e else PyData.eqv d e)) H
theorem zBo(hu:X.A.units+n<cLine):OpR X (compareOp .Eq) (zCs n false):=by
 intro pins s σ H x y v u Q I rx ry h;obtain ⟨d,e,hd,he,c1,c2,q⟩:=h;obtain ⟨as,ra⟩:=zBX I n hd rx;obtain ⟨bs,rb⟩:=zBX I n he ry;have l1:=zEq n hd;have l2:=zEq n he;exact SeqAt.compareEq_reads ra rb c1 c2 (by omega) ⟨.bl _,H,I,rfl,q⟩
theorem zAc(hu:X.A.units+n<cLine):OpR X (compareOp .NotEq) (zCs n true):=by
 intro pins s σ H x y v u Q I rx ry h;obtain ⟨d,e,hd,he,c1,c2,q⟩:=h;obtain ⟨as,ra⟩:=zBX I n hd rx;obtain ⟨bs,rb⟩:=zBX I n he ry;have l1:=zEq n hd;have l2:=zEq n he;exact SeqAt.compareNe_reads ra rb c1 c2 (by omega) ⟨.bl _,H,I,rfl,q⟩
end
section
variable {X:Cx}{K:zVK}{o e i value:Expr}{f:Str}{pos pos' apos p:Pos}{ta tv td ty:TE}{CX:CXT}{k:Nat}{g C:Addr}{fd:FuncData}{ps:List Str}{sp:Sp}{dvs:List V}{ds:List Value}{E:XK}{x m:Str}
theorem zBe(hK:X.K=K)(he:QE X e ta)(hb:attributeBase e f X.env (eval e X.env)=eval e X.env):QE X (.Attribute e f pos) (zSJ K ta f):=by
 subst hK;exact ⟨zQt he.out hb⟩
theorem zOl(hK:X.K=K)(ha:QE X o ta)(hv:QE X value tv)(hs:swapsWith value (some (.Attribute o f pos')) pos.line X.env=pure false):QS X (.Assign [.Attribute o f pos'] value pos) (zRu K ta tv f):=by
 subst hK;exact ⟨zRO ha.out hv.out hs⟩
theorem zKT(he:QE X o ta)(c:Cls X.K C)(hm:Meth X.K C m g)(F:FnOk X.prog X.w X.K X.mg X.base CX k g fd ps sp)(hr:Room k X.A)(hb:zL X.K fd ps ds)(hd:zS dvs ds)(hx:zAK CX X E)
  (ht:eval (.Call (.Attribute o m apos) [] [] pos) X.env=(do
   let ov<-eval o X.env
   standAt apos.atName
   let (f,first)<-holding [ov] (getMethod ov m pl)
   callWith pos f first (backTo pos (starEach [] X.env)) (backToKw pos (keywordEach [] X.env)))):
  QE X (.Call (.Attribute o m apos) [] [] pos) (zHx C m sp dvs E ta zCT):=⟨zNe he.out c hm F hr hb hd hx ht⟩
theorem zJs(M:Mk X.K C g)(F:FnOk X.prog X.w X.K X.mg X.base CX k g fd ps sp)(hr:Room (k+1) X.A)(hg:Gl X x)(hm:X.mg x=some (.ref C))(hb:zL X.K fd ps ds)(hd:zS dvs ds)(hx:zAK CX X E)
  (hdb:(x==("__debug__" :Str))=false):QE X (.Call (.Name x p) [] [] pos) (zPE C sp dvs E zCT):=⟨zNk M F hr hg hm hb hd hx hdb⟩
theorem zTF(hu:X.A.units+1<cLine)(hi:QE X i ty)(ho:QE X o td)(h:behindInMarks .In o=false):QE X (.Compare i [.In] [o] pos) (zOG ty td):=⟨zSK (zMs hu hi.out ho.out) h⟩
theorem zLN(hu:X.A.units+1<cLine)(hi:QE X i ty)(ho:QE X o td)(h:behindInMarks .In o=false):QT X (.Compare i [.In] [o] pos) (tB (zOG ty td)):=⟨zDx (zMs hu hi.out ho.out) h⟩
def zTR(td ty tv:TE):TS:=fun D σ H=>tv σ H fun v H1=>td σ H1 fun x H2=>ty σ H2 fun y H3=>zOo x y v H3 fun H4=>D.nx σ H4
theorem zSf(ho:QE X o td)(hi:QE X i ty)(hv:QE X value tv)(hs:swapsWith value (some (.Subscript o i pos')) pos.line X.env=pure false):QS X (.Assign [.Subscript o i pos'] value pos) (zTR td ty tv):=by
 refine ⟨fun pins s σ H D I h=>?_⟩;refine wpAny_Assign_Subscript (zV (hv.out pins s σ H _ I h) fun r s1 ⟨v,H1,I1,rv,q1⟩=>zV (ho.out pins s1 σ H1 _ I1 q1) fun u s2 ⟨x,H2,I2,rx,q2⟩=>zV (hi.out pins s2 σ H2 _ I2 q2) fun iv s3 ⟨y,H3,I3,ry,q3⟩=>?_) hs;exact zV (zOA pins s3 σ H3 x y v u iv r _ I3 rx ry rv q3) fun _ s4 ⟨H4,I4,q4⟩=>⟨σ,H4,I4,q4⟩
end
def Itk(a:Addr)(o:Obj)(kvs:List (Key×V)):It:=
 ⟨fun i H=>H a=some (.frz o (.dK kvs))/\i<kvs.length,fun i H x H'=>H'=H/\ ∃k v,kvs[i]?=some (k,v)/\x=kV k,fun i H=>H a=some (.frz o (.dK kvs))/\kvs.length<=i⟩
def Itv(a:Addr)(o:Obj)(kvs:List (Key×V)):It:=
 ⟨fun i H=>H a=some (.frz o (.dK kvs))/\i<kvs.length,fun i H x H'=>H'=H/\ ∃k,kvs[i]?=some (k,x),fun i H=>H a=some (.frz o (.dK kvs))/\kvs.length<=i⟩
theorem zFd:entryFor table "dict_keyiterator.__iter__" =some Builtin.«dict_keyiterator.__iter__»:=entryFor_of_tree (by kernel_rfl)
theorem zFX:entryFor table "dict_valueiterator.__iter__" =some Builtin.«dict_keyiterator.__iter__»:=
 entryFor_alias (id':= "dict_keyiterator.__iter__") (by kernel_rfl) (by first | rfl | decide+kernel |(unfold String.splitOn;simp+decide [String.splitOnAux])) (by decide+kernel) (by kernel_rfl)
theorem zLx{P:Program}{w:World}{K:zVK}{tg:Expr}(a it:Addr)(o:Obj)(es:Array DictEntry)(ep:Nat)(kvs:List (Key×V))(he:o.data= .dict es ep):
  Turn P w K tg (Itk a o kvs) [it] it (fun i h=>h.IsKeyIter it a i kvs.length ep) where
 mem:=by simp
 obj:=fun i h st b hb=>by
  have e:b=it:=by simpa using hb
  subst e;obtain ⟨o,e,c,d⟩:=st;exact ⟨o,e,fun v z=>by rw [d] at z;cases z⟩
 keep:=fun i h h' st k=>let ⟨o,e,c⟩:=st;⟨o,k it (by simp) _ e,c⟩
 item:=by
  intro X hP hw hK hc i pins s σ H E I hf st hg;subst hP hw hK;obtain ⟨hd,hi⟩:=hg;obtain ⟨vs,rel,da⟩:=zBa I hd he;obtain ⟨f0,f1,f2,f3,f4,f5⟩:=hf it (by simp);obtain ⟨⟨k,v⟩,hkv⟩: ∃p,kvs[i]?=some p:=⟨kvs[i],by simp [hi]⟩;obtain ⟨u,hu,ru⟩:=rel.get hkv;rw [KV.length rel] at st;refine wpAny_pyNext_dict_item st da hu fun key h' hkey st' sb=>?_;have I1:Inv X pins σ H {s with heap:=h'}:=I.turned (t':=s.toks) (fun b o hb e=>(sb.2 b hb).trans e) f0 f1 f3 f4 f5;obtain ⟨o',e,c,d⟩:=id st';refine ⟨key,rfl,zDn (s:={s with heap:=h'}) e c d (by decide) ⟨kV k,H,I1,zMq (P:=X.prog) (w:=X.w) hkey,⟨rfl,k,v,hkv,rfl⟩,?_,fun b hb=>(hf b hb).1⟩⟩;rw [KV.length rel];exact st'
 done:=by
  intro X hP hw hK hc i pins s σ H E I hf st hg;subst hP hw hK;obtain ⟨hd,hi⟩:=hg;obtain ⟨vs,rel,da⟩:=zBa I hd he;obtain ⟨f0,f1,f2,f3,f4,f5⟩:=hf it (by simp);rw [KV.length rel] at st hi;exact wpAny_pyNext_dict_end (I.ok.hd hc) st da (by simp;omega) fun h' eb=>⟨rfl,I.turned (t':=s.toks) (fun b o hb e=>eb b o hb e) f0 f1 f3 f4 f5⟩
 self:=fun A i s Q E st h=>by
  have hT:s.TypeIs (.ref it) "dict_keyiterator" :=st.typeIs;refine wpAny_pyIter_slot hT PySem.F.slot_dict_keyiterator_iter (wpAny_call_entry PySem.F.slot_dict_keyiterator_iter hT zFd ?_ (PySem.F.args_dict_keyiterator_iter_1 _));show wpAny _ _ (ret (.ref it)) _ _ s;exact zUQ ⟨_,rfl,"dict_keyiterator",_,hT,PySem.F.slot_dict_keyiterator_next.lookup,h⟩
theorem zLq{P:Program}{w:World}{K:zVK}{tg:Expr}(a it:Addr)(o:Obj)(es:Array DictEntry)(ep:Nat)(kvs:List (Key×V))(he:o.data= .dict es ep):
  Turn P w K tg (Itv a o kvs) [it] it (fun i h=>h.IsValIter it a i kvs.length ep) where
 mem:=by simp
 obj:=fun i h st b hb=>by
  have e:b=it:=by simpa using hb
  subst e;obtain ⟨o,e,c,d⟩:=st;exact ⟨o,e,fun v z=>by rw [d] at z;cases z⟩
 keep:=fun i h h' st k=>let ⟨o,e,c⟩:=st;⟨o,k it (by simp) _ e,c⟩
 item:=by
  intro X hP hw hK hc i pins s σ H E I hf st hg;subst hP hw hK;obtain ⟨hd,hi⟩:=hg;obtain ⟨vs,rel,da⟩:=zBa I hd he;obtain ⟨f0,f1,f2,f3,f4,f5⟩:=hf it (by simp);obtain ⟨⟨k,v⟩,hkv⟩: ∃p,kvs[i]?=some p:=⟨kvs[i],by simp [hi]⟩;obtain ⟨u,hu,ru⟩:=rel.get hkv;rw [KV.length rel] at st;refine wpAny_pyNext_values_item st da hu fun h' st' sb=>?_;have I1:Inv X pins σ H {s with heap:=h'}:=I.turned (t':=s.toks) (fun b o hb e=>(sb.2 b hb).trans e) f0 f1 f3 f4 f5;obtain ⟨o',e,c,d⟩:=id st';refine ⟨u,rfl,zDn (s:={s with heap:=h'}) e c d (by decide) ⟨v,H,I1,ru,⟨rfl,k,hkv⟩,?_,fun b hb=>(hf b hb).1⟩⟩;rw [KV.length rel];exact st'
 done:=by
  intro X hP hw hK hc i pins s σ H E I hf st hg;subst hP hw hK;obtain ⟨hd,hi⟩:=hg;obtain ⟨vs,rel,da⟩:=zBa I hd he;obtain ⟨f0,f1,f2,f3,f4,f5⟩:=hf it (by simp);rw [KV.length rel] at st hi;exact wpAny_pyNext_values_end (I.ok.hd hc) st da (by simp;omega) fun h' eb=>⟨rfl,I.turned (t':=s.toks) (fun b o hb e=>eb b o hb e) f0 f1 f3 f4 f5⟩
 self:=fun A i s Q E st h=>by
  have hT:s.TypeIs (.ref it) "dict_valueiterator" :=st.typeIs;refine wpAny_pyIter_slot hT PySem.F.slot_dict_valueiterator_iter (wpAny_call_entry PySem.F.slot_dict_valueiterator_iter hT zFX ?_ (PySem.F.args_dict_valueiterator_iter_1 _));show wpAny _ _ (ret (.ref it)) _ _ s;exact zUQ ⟨_,rfl,"dict_valueiterator",_,hT,PySem.F.slot_dict_valueiterator_next.lookup,h⟩
def zOX(td:TE):TI:=fun σ H R=>td σ H fun x H1=> ∃a kvs,x= .ref a/\Rd H1 a (.dK kvs)/\ ∀o,(∀o0 u,H1 a=some (.frz o0 u)->o=o0)->R (Itk a o kvs) (upd H1 a (.frz o (.dK kvs)))
def zOc(td:TE):TI:=fun σ H R=>td σ H fun x H1=> ∃a kvs,x= .ref a/\Rd H1 a (.dK kvs)/\ ∀o,(∀o0 u,H1 a=some (.frz o0 u)->o=o0)->R (Itv a o kvs) (upd H1 a (.frz o (.dK kvs)))
theorem zQW{X:Cx}{d tg:Expr}{td:TE}(hd:PE X d td):PI X tg d (zOX td):=by
 intro pins s σ H R I h;refine zV (hd pins s σ H _ I h) fun u s1 ⟨x,H1,I1,rx,a,kvs,ex,e,q⟩=>?_;subst ex;obtain rfl:u=Value.ref a:=rx;obtain ⟨z,hs,vs,rel,dd⟩:=zAs I1.hok e;obtain ⟨o,es,ep,hod,hof,I2⟩:=I1.freeze e;obtain ⟨vs2,rel2,da⟩:=zBa I2 (by rw [zC]) hod;refine wpAny_pyIter_dict (knd:=zu X.prog X.w) hs da ?_;refine ⟨_,[_],_,_,_,rfl,I2.kept (t':=s1.toks) fun b o e=>zUM _ e,zLx a _ o es ep kvs hod,⟨_,zUd _ rfl,rfl,?_⟩,fun b hb=>?_,q o hof⟩
 ·rw [KV.length rel2];rfl
 ·have e:b=s1.heap.objs.size:=by simpa using hb
  subst e;exact I2.fpOk (zUO _) (I2.hok.fresh (zUO _))
theorem zRP{X:Cx}(hd:QE X d td):QI X tg d (zOX td):=⟨zQW hd.out⟩
theorem zQa{X:Cx}{d tg:Expr}{apos pos:Pos}{td:TE}(hd:PE X d td)(hb:attributeBase d "values" X.env (eval d X.env)=eval d X.env)(hl:(apos.endLine==pos.line)=true):
  PI X tg (.Call (.Attribute d "values" apos) [] [] pos) (zOc td):=by
 intro pins s σ H R I h;refine wpAny_Call_method (T:= "dict") (id:= "dict.values") hb rfl hl PySem.F.plainAttrs_dict PySem.F.slot_dict_values PySem.F.type_dict_values (zV (hd pins s σ H _ I h) fun u s1 ⟨x,H1,I1,rx,a,kvs,ex,e,q⟩=>?_);subst ex;obtain rfl:u=Value.ref a:=rx;obtain ⟨z,hs,vs,rel,dd⟩:=zAs I1.hok e;refine ⟨dd.typeIs,dd.mapOf.noDict,?_⟩;obtain ⟨o,es,ep,hod,hof,I2⟩:=I1.freeze e;obtain ⟨vs2,rel2,da⟩:=zBa I2 (by rw [zC]) hod;show wpAny _ _ (callWith pos (.builtin "dict.values") [.ref a] [] []) _ _ s1;refine method_meetsIn PySem.F.slot_dict_values PySem.F.entry_dict_values rfl (PySem.evalArgs_none ⟨rfl,dd.typeIs,PySem.F.args_dict_values_1 _,_,meets_dict_values (zu X.prog X.w) a hs,⟨vs,dd⟩,?_⟩);show wpAny _ _ (pyIter (.ref s1.heap.objs.size)) _ _ _;refine wpAny_pyIter_values (knd:=zu X.prog X.w) (d:=a) (kvs:=vs2) (ep:=ep) ⟨_,zUd _ rfl,rfl,rfl⟩ (da.push _) ?_;have I3:Inv X pins σ (upd H1 a (.frz o (.dK kvs))) {s1 with heap:=s1.heap.push {cls:= .type "dict_values",data:= .fields #[.ref a]},toks:=s1.toks}:=I2.kept fun b o e=>zUM _ e;refine ⟨_,[_],_,_,_,rfl,I3.kept (t':=s1.toks) fun b o e=>zUM _ e,zLq a _ o es ep kvs hod,⟨_,zUd _ rfl,rfl,?_⟩,fun b hb=>?_,q o hof⟩
 ·rw [KV.length rel2];rfl
 ·have e:b=(s1.heap.push {cls:= .type "dict_values",data:= .fields #[.ref a]}).objs.size:=by simpa using hb
  subst e;exact I3.fpOk (zUO _) (I3.hok.fresh (zUO _))
theorem zQx{X:Cx}(hd:QE X d td)(hb:attributeBase d "values" X.env (eval d X.env)=eval d X.env)(hl:(apos.endLine==pos.line)=true):
  QI X tg (.Call (.Attribute d "values" apos) [] [] pos) (zOc td):=⟨zQa hd.out hb hl⟩
theorem zKO{X:Cx}(h:QB X b t):QB X b (fun D σ H=> ∃(a:Addr) (kvs:List (Key×V)),H a=some (.dK kvs)/\
  t {D with nx:=fun σ' H'=> ∃ob,H' a=some (.frz ob (.dK kvs))/\D.nx σ' (upd H' a (.dK kvs)),rt:=fun v H'=> ∃ob,H' a=some (.frz ob (.dK kvs))/\D.rt v (upd H' a (.dK kvs))} σ H):=by
 refine ⟨fun pins s σ H D I ht=>?_⟩;obtain ⟨a,kvs,e,ht⟩:=ht;have nf: ∀ob u,X.H₀ a≠some (.frz ob u):=fun ob u z=>by
  have:=I.base.frzs a ob u z;rw [e] at this;cases this
 refine zUf (h.out pins s σ H _ I ht) (fun fl s' q=>?_) fun _ _ z=>z;cases fl with
 | next=>
  obtain ⟨σ',H',I',ob,e',q1⟩:=q;exact ⟨σ',_,I'.thaw e' nf,q1⟩
 | ret v=>
  obtain ⟨x,σ',H',I',r,ob,e',q1⟩:=q;exact ⟨x,σ',_,I'.thaw e' nf,r,q1⟩
 | brk=>exact q
 | cont=>exact q
end L2
namespace PySem
open PyProof.Rows
section
variable {prog:Program}{w:World}{K:Type}[DecidableEq K]{knd:KeyKind prog w K}{A:Around}{E:Value->Shared->Prop}{s:Shared}
theorem zJd{id:String}{Q:Bool->Shared->Prop}{kvs vs:List (K×Value)}(ha:(a==sysModules)=false)(hb:(b==sysModules)=false)(ma:s.heap.DictOf knd a kvs)(mb:s.heap.DictOf knd b vs)(hne:kvs.length≠vs.length)(h:Q false s):
  wpAny (model prog w) A (Builtin.Dict.samePairs id a b) Q E s:=by
 obtain ⟨oa,ea,pa,hoa,hca,hda,hka,hpa,hna⟩:=ma;obtain ⟨ob,eb,pb,hob,hcb,hdb,hkb,hpb,hnb⟩:=mb;have sa:ea.size=kvs.length:=by rw [<-hpa.length];simp
 have sb:eb.size=vs.length:=by rw [<-hpb.length];simp
 unfold Builtin.Dict.samePairs Builtin.Dict.showsAll;rw [if_neg (by rw [ha];exact zUX),if_neg (by rw [hb];exact zUX)];refine zUL (zUQ (zUL (zUQ (zUL (wpAny_dictEntries hoa hda (zUL (wpAny_dictEntries hob hdb ?_)))))));rw [if_pos (by simp [sa,sb,hne])];exact zUL (wpAny_rule (zUQ h))
theorem zHh{Q:Value->Shared->Prop}{kvs vs:List (K×Value)}(hs1:(a==sysModules)=false)(hs2:(b==sysModules)=false)(d1:s.heap.DictOf knd a kvs)(d2:s.heap.DictOf knd b vs)(hne:kvs.length≠vs.length)(h:Q (.bool true) s):
  wpAny (model prog w) A (call (.builtin "dict.__ne__") [.ref a,.ref b]) Q E s:=by
 refine wpAny_call_entry F.slot_dict_ne d1.typeIs F.entry_dict_ne ?_ (F.args_dict_ne_2 _ _);show wpAny _ _ (Builtin.Dict.dictSlotArgs "__ne__" ⟨[.ref a,.ref b],[]⟩>>=_) _ _ s;refine zUL ?_;unfold Builtin.Dict.dictSlotArgs;refine zUL (wpAny_notOrdered_dict d1.typeIs ?_);show wpAny _ _ (pure (Value.ref a,Value.ref b)) _ _ s;refine zUQ ?_;refine zUL (wpAny_isInstance d2.typeIs isSubtype_dict_dict ?_);rw [if_neg (by decide)];refine zUL (zUQ ?_);refine zUL (zUQ ?_);refine zUL (zJd hs1 hs2 d1 d2 hne ?_);exact zUQ ⟨_,rfl,h⟩
end
end PySem
namespace L2
open PySem PySem.Spec PyProof.Rows
theorem zPl{X:Cx}(hu:X.A.units<cLine):OpR X (compareOp .NotEq) (fun x y H Q=> ∃(a b:Addr) (kvs:List (Key×V)),x= .ref a/\y= .ref b/\Rd H a (.dK kvs)/\H b=some (.dK [])/\Q (.bl (!kvs.isEmpty)) H):=by
 intro pins s σ H x y v u Q I rx ry h;obtain ⟨a,b,kvs,rfl,rfl,e1,e2,q⟩:=h;cases rx;cases ry;obtain ⟨_,hs1,vs,rel1,d1⟩:=zAs I.hok e1;obtain ⟨_,hs2,ws,rel2,d2⟩:=zAs I.hok (.inl e2);have lw:=KV.length rel2;have lv:=KV.length rel1;cases kvs with
 | nil=>
  have e3:vs=ws:=by
   cases vs with
   | nil=>cases ws with
    | nil=>rfl
    | cons _ _=>simp at lw
   | cons _ _=>simp at lv
  subst e3;have z:=zID (knd:=zu X.prog X.w) (prog:=X.prog) (w:=X.w) (A:=X.A) (E:=X.xe) (s:=s) (Q:=fun v s'=>v≠ .notImplemented/\EP X pins σ Q v s') hs1 hs2 d1 d2 ⟨(fun z=>nomatch z),.bl false,H,I,rfl,q⟩;exact wpAny_richCompare_same_room (op:= .NotEq) (T:= "dict") (id:= "dict.__ne__") d1.typeIs d2.typeIs PySem.F.slot_dict_ne z hu
 | cons p ps=>
  have z:=zHh (knd:=zu X.prog X.w) (prog:=X.prog) (w:=X.w) (A:=X.A) (E:=X.xe) (s:=s) (Q:=fun v s'=>v≠ .notImplemented/\EP X pins σ Q v s') hs1 hs2 d1 d2 (by rw [<-lv,<-lw];simp) ⟨(fun z=>nomatch z),.bl true,H,I,rfl,q⟩;exact wpAny_richCompare_same_room (op:= .NotEq) (T:= "dict") (id:= "dict.__ne__") d1.typeIs d2.typeIs PySem.F.slot_dict_ne z hu
end L2
namespace FrM
open PySem PyProof.Rows
abbrev Prs:=List (Str×Int)
def tot(ps:Prs)(n:Str):Int:=match ps with
 | [] =>0
 |(m,e)::ps=>(if m=n then e else 0)+tot ps n
theorem zDW(ps qs:Prs)(n:Str):tot (ps++qs) n=tot ps n+tot qs n:=by
 induction ps with
 | nil=>simp [tot]
 | cons p ps ih=>obtain ⟨m,e⟩:=p;simp only [List.cons_append,tot,ih];omega
theorem zBS{ps:Prs}(h:n∉ps.map (·.1)):tot ps n=0:=by
 induction ps with
 | nil=>rfl
 | cons p ps ih=>
  obtain ⟨m,e⟩:=p;simp only [zVP,zVL,not_or] at h;simp only [tot];rw [if_neg (fun z=>h.1 z.symm),ih h.2];rfl
def yZ(ps:Prs)(ks:List Str):Prs:=(ks.map fun n=>(n,tot ps n)).filter fun p=>decide (p.2≠0)
def ltS(a b:Str):Prop:=a.cps.toList<b.cps.toList
theorem zCJ(a:Str): ¬ltS a a:=List.lt_irrefl _
theorem zMK(h:ltS a b)(k:ltS b c):ltS a c:=List.lt_trans h k
theorem zHO(h:ltS a b): ¬ltS b a:=fun k=>zCJ a (zMK h k)
structure IsU(ps us:Prs):Prop where
 up:us.Pairwise fun p q=>ltS p.1 q.1
 at': ∀n e,(n,e)∈us↔(e=tot ps n/\e≠0)
theorem zFn{α:Type}{lt:α->α->Prop}(ir: ∀a,¬lt a a)(as: ∀a b,lt a b-> ¬lt b a): ∀xs ys:List α,xs.Pairwise lt->ys.Pairwise lt->(∀a,a∈xs↔a∈ys)->xs=ys
 | [],[],_,_,_=>rfl
 | [],y::ys,_,_,h=>absurd ((h y).mpr (by simp)) (by simp)
 | x::xs,[],_,_,h=>absurd ((h x).mp (by simp)) (by simp)
 | x::xs,y::ys,h1,h2,h=>by
  rw [List.pairwise_cons] at h1 h2;have e:x=y:=by
   rcases zVL.mp ((h x).mp (by simp)) with z | z
   ·exact z
   ·rcases zVL.mp ((h y).mpr (by simp)) with z' | z'
    ·exact z'.symm
    ·exact absurd (h1.1 y z') (as _ _ (h2.1 x z))
  subst e;rw [zFn ir as xs ys h1.2 h2.2 fun a=>?_];constructor
  ·intro ha;rcases zVL.mp ((h a).mp (zUv _ ha)) with z | z
   ·subst z;exact absurd (h1.1 a ha) (ir a)
   ·exact z
  ·intro ha;rcases zVL.mp ((h a).mpr (zUv _ ha)) with z | z
   ·subst z;exact absurd (h2.1 a ha) (ir a)
   ·exact z
theorem IsU.uniq{ps us vs:Prs}(h:IsU ps us)(k:IsU ps vs):us=vs:=
 zFn (lt:=fun p q:Str×Int=>ltS p.1 q.1) (fun p=>zCJ p.1) (fun _ _=>zHO) _ _ h.up k.up fun p=>(h.at' p.1 p.2).trans (k.at' p.1 p.2).symm
theorem IsU.congr{ps qs us:Prs}(h:IsU ps us)(e: ∀n,tot ps n=tot qs n):IsU qs us:=⟨h.up,fun n x=>by rw [h.at',e]⟩
theorem zFL{us:Prs}(h:us.Pairwise fun p q=>ltS p.1 q.1):(us.map (·.1)).Nodup:=by
 rw [List.Nodup,List.pairwise_map];refine h.imp ?_;intro a b q z;have z':a.1=b.1:=z;rw [z'] at q;exact zCJ _ q
theorem zQw{us:Prs}(nd:(us.map (·.1)).Nodup)(h:(n,e)∈us):tot us n=e:=by
 induction us with
 | nil=>cases h
 | cons p us ih=>
  obtain ⟨m,x⟩:=p;rw [zVP,List.nodup_cons] at nd;rcases zVL.mp h with z | z
  ·injection z with z1 z2;subst z1 z2;show (if n=n then e else 0)+tot us n=e;rw [if_pos rfl,zBS nd.1];omega
  ·simp only [tot];rw [if_neg,ih nd.2 z]
   ·omega
   ·intro q;exact nd.1 (zVR.mpr ⟨_,z,q.symm⟩)
theorem IsU.tot{ps us:Prs}(h:IsU ps us)(n:Str):FrM.tot us n=FrM.tot ps n:=by
 have nd:=zFL h.up;by_cases z:FrM.tot ps n=0
 ·rw [z];refine zBS fun hm=>?_;obtain ⟨⟨m,e⟩,hm2,rfl⟩:=zVR.mp hm;have:=(h.at' m e).mp hm2;exact this.2 (this.1.trans z)
 ·exact zQw nd ((h.at' n _).mpr ⟨rfl,z⟩)
theorem IsU.self{ps us:Prs}(h:IsU ps us):IsU us us:=h.congr fun n=>(h.tot n).symm
theorem IsU.mem{ps us:Prs}(h:IsU ps us)(k:(n,e)∈us):n∈ps.map (·.1)/\e≠0:=by
 have z:=(h.at' n e).mp k;refine ⟨?_,z.2⟩;by_cases hm:n∈ps.map (·.1)
 ·exact hm
 ·exact absurd (z.1.trans (zBS hm)) z.2
theorem zHM: ∀(ks:List Str) (p:Str),risingS p ks=true->(∀x∈ks,¬ltS x p)/\ks.Pairwise fun a b=> ¬ltS b a
 | [],_,_=>⟨fun _ h=>(nomatch h),.nil⟩
 | x::r,p,h=>by
  unfold risingS at h;rw [zVM,ltCps_eq] at h;obtain ⟨h1,h2⟩:=h;have h1': ¬x.cps.toList<p.cps.toList:=of_decide_eq_false (by rw [zVa] at h1;exact h1);change¬ltS x p at h1';obtain ⟨h3,h4⟩:=zHM r x h2;have tr: ∀y,¬ltS y x-> ¬ltS y p:=fun y hy hyp=>by
   have a:p.cps.toList<=x.cps.toList:=h1';have b:x.cps.toList<=y.cps.toList:=hy;exact (List.le_trans a b:p.cps.toList<=y.cps.toList) hyp
  refine ⟨fun y hy=>?_,.cons (fun y hy=>h3 y hy) h4⟩;rcases zVL.mp hy with z | z
  ·subst z;exact h1'
  ·exact tr y (h3 y z)
theorem zMv(h:sortedS ks=true)(nd:ks.Nodup):ks.Pairwise ltS:=by
 have h1:ks.Pairwise fun a b=> ¬ltS b a:=by
  cases ks with
  | nil=>exact .nil
  | cons x r=>obtain ⟨h3,h4⟩:=zHM r x h;exact .cons (fun y hy=>h3 y hy) h4
 refine (h1.and nd).imp ?_;rintro a b ⟨p,q⟩;have p':a.cps.toList<=b.cps.toList:=p;rcases List.le_iff_lt_or_eq.mp p' with z | z
 ·exact z
 ·exact absurd (by cases a;cases b;congr 1;exact Array.toList_inj.mp z) q
theorem zFY{ps:Prs}(nd:ks.Nodup)(so:sortedS ks=true)(hm: ∀n,n∈ks↔n∈ps.map (·.1)):IsU ps (yZ ps ks):=by
 refine ⟨?_,fun n e=>?_⟩
 ·unfold yZ;refine List.Pairwise.filter _ ?_;rw [List.pairwise_map];exact zMv so nd
 ·unfold yZ;rw [zVY,zVR];constructor
  ·rintro ⟨⟨m,_,z⟩,h2⟩;injection z with z1 z2;subst z1 z2;exact ⟨rfl,by simpa using h2⟩
  ·rintro ⟨rfl,h2⟩;refine ⟨⟨n,(hm n).mpr ?_,rfl⟩,by simpa using h2⟩;by_cases z:n∈ps.map (·.1)
   ·exact z
   ·exact absurd (zBS z) h2
theorem zFb(ps:Prs)(ks:List Str):(yZ ps ks).length<=ks.length:=by
 unfold yZ;exact zUY (zVc _ _) (by simp)
theorem zBZ(ps:Prs)(ks:List Str)(n:Str):yZ ps (ks++ [n])=yZ ps ks++if tot ps n≠0 then [(n,tot ps n)] else [] :=by
 unfold yZ;rw [zUg,zVW];congr 1;by_cases h:tot ps n=0
 ·simp [h]
 ·simp [h]
end FrM
namespace FrW
abbrev Pw:=Nat×Int
def num(p:Pw):Nat:=p.1^p.2.toNat
def den(p:Pw):Nat:=p.1^(-p.2).toNat
def nm:List Pw->Nat
 | [] =>1
 | p::ps=>num p*nm ps
def dn:List Pw->Nat
 | [] =>1
 | p::ps=>den p*dn ps
def bp:List Pw->Nat
 | [] =>1
 | p::ps=>p.1*bp ps
theorem zBy(ps qs:List Pw):nm (ps++qs)=nm ps*nm qs:=by
 induction ps with
 | nil=>simp [nm]
 | cons p ps ih=>simp only [List.cons_append,nm,ih,Nat.mul_assoc]
theorem zDw(ps qs:List Pw):dn (ps++qs)=dn ps*dn qs:=by
 induction ps with
 | nil=>simp [dn]
 | cons p ps ih=>simp only [List.cons_append,dn,ih,Nat.mul_assoc]
theorem zBB(ps qs:List Pw):bp (ps++qs)=bp ps*bp qs:=by
 induction ps with
 | nil=>simp [bp]
 | cons p ps ih=>simp only [List.cons_append,bp,ih,Nat.mul_assoc]
def Pos(ps:List Pw):Prop:= ∀p∈ps,0<p.1
theorem Pos.nm{ps:List Pw}(h:Pos ps):0<nm ps:=by
 induction ps with
 | nil=>exact Nat.one_pos
 | cons p ps ih=>exact Nat.mul_pos (Nat.pow_pos (h p (by simp))) (ih fun q hq=>h q (by simp [hq]))
theorem Pos.dn{ps:List Pw}(h:Pos ps):0<dn ps:=by
 induction ps with
 | nil=>exact Nat.one_pos
 | cons p ps ih=>exact Nat.mul_pos (Nat.pow_pos (h p (by simp))) (ih fun q hq=>h q (by simp [hq]))
theorem Pos.bp{ps:List Pw}(h:Pos ps):0<bp ps:=by
 induction ps with
 | nil=>exact Nat.one_pos
 | cons p ps ih=>exact Nat.mul_pos (h p (by simp)) (ih fun q hq=>h q (by simp [hq]))
def Eqv(ps qs:List Pw):Prop:=nm ps*dn qs=nm qs*dn ps
theorem Eqv.refl(ps:List Pw):Eqv ps ps:=rfl
theorem Eqv.symm{ps qs:List Pw}(h:Eqv ps qs):Eqv qs ps:=Eq.symm h
theorem Eqv.trans{ps qs rs:List Pw}(hq:Pos qs)(h:Eqv ps qs)(k:Eqv qs rs):Eqv ps rs:=by
 unfold Eqv at*;have p1:=hq.dn;have p2:=hq.nm;refine Nat.eq_of_mul_eq_mul_right p1 ?_
 calc nm ps*dn rs*dn qs=nm ps*dn qs*dn rs:=by rw [Nat.mul_right_comm]
  _=nm qs*dn ps*dn rs:=by rw [h]
  _=nm qs*dn rs*dn ps:=by rw [Nat.mul_right_comm]
  _=nm rs*dn qs*dn ps:=by rw [k]
  _=nm rs*dn ps*dn qs:=by rw [Nat.mul_right_comm]
theorem Eqv.append{ps qs rs ss:List Pw}(h:Eqv ps qs)(k:Eqv rs ss):Eqv (ps++rs) (qs++ss):=by
 unfold Eqv at*;rw [zBy,zBy,zDw,zDw]
 calc nm ps*nm rs*(dn qs*dn ss)=nm ps*dn qs*(nm rs*dn ss):=by ac_rfl
  _=nm qs*dn ps*(nm ss*dn rs):=by rw [h,k]
  _=nm qs*nm ss*(dn ps*dn rs):=by ac_rfl
theorem Eqv.perm{ps qs:List Pw}(h:ps.Perm qs):Eqv ps qs:=by
 have e:nm ps=nm qs/\dn ps=dn qs:=by
  induction h with
  | nil=>exact ⟨rfl,rfl⟩
  | cons x _ ih=>exact ⟨by simp only [nm,ih.1],by simp only [dn,ih.2]⟩
  | swap x y l=>exact ⟨by simp only [nm];ac_rfl,by simp only [dn];ac_rfl⟩
  | trans _ _ h1 h2=>exact ⟨h1.1.trans h2.1,h1.2.trans h2.2⟩
 unfold Eqv;rw [e.1,e.2]
theorem zGj{ps qs:List Pw}(h:ps.Perm qs):bp ps=bp qs:=by
 induction h with
 | nil=>rfl
 | cons x _ ih=>simp only [bp,ih]
 | swap x y l=>simp only [bp];ac_rfl
 | trans _ _ h1 h2=>exact h1.trans h2
theorem zMP{o l d:Nat}{e f:Int}:Eqv [(o*d,e),(l*d,f)] [(o,e),(l,f),(d,f+e)] :=by
 unfold Eqv;simp only [nm,dn,num,den,Nat.mul_one,Nat.mul_pow];have h:d^e.toNat*d^f.toNat*d^(-(f+e)).toNat=d^(f+e).toNat*d^(-e).toNat*d^(-f).toNat:=by
  rw [<-Nat.pow_add,<-Nat.pow_add,<-Nat.pow_add,<-Nat.pow_add];congr 1;omega
 calc o^e.toNat*d^e.toNat*(l^f.toNat*d^f.toNat)*(o^(-e).toNat*(l^(-f).toNat*d^(-(f+e)).toNat))
   =o^e.toNat*l^f.toNat*o^(-e).toNat*l^(-f).toNat*(d^e.toNat*d^f.toNat*d^(-(f+e)).toNat):=by ac_rfl
  _=o^e.toNat*l^f.toNat*o^(-e).toNat*l^(-f).toNat*(d^(f+e).toNat*d^(-e).toNat*d^(-f).toNat):=by rw [h]
  _=o^e.toNat*(l^f.toNat*d^(f+e).toNat)*(o^(-e).toNat*d^(-e).toNat*(l^(-f).toNat*d^(-f).toNat)):=by ac_rfl
theorem zPU{e:Int}{p:Pw}(h:p.1=1\/p.2=0):Eqv [p] [] :=by
 unfold Eqv;obtain ⟨b,x⟩:=p;simp only [nm,dn,num,den,Nat.mul_one,Nat.one_mul];rcases h with h | h
 ·have h':b=1:=h;rw [h',Nat.one_pow,Nat.one_pow]
 ·have h':x=0:=h;rw [h'];rfl
structure Apart(ps:List Pw):Prop where
 two: ∀p∈ps,1<p.1/\p.2≠0
 cop:ps.Pairwise fun p q=>Nat.Coprime p.1 q.1
theorem Apart.pos{ps:List Pw}(h:Apart ps):Pos ps:=fun p hp=>Nat.lt_trans Nat.one_pos (h.two p hp).1
theorem Apart.filter{ps:List Pw}(h:Apart ps)(f:Pw->Bool):Apart (ps.filter f):=⟨fun p hp=>h.two p (zVY.mp hp).1,h.cop.filter f⟩
theorem zNr{n:Nat}(h:Nat.Coprime n n):n=1:=by
 unfold Nat.Coprime at h
 rwa [Nat.gcd_self] at h
theorem Apart.out{ps:List Pw}(h:Apart ps){o:Pw}(ho:o∈ps):ps.Perm (o::ps.filter fun p=>!decide (p=o)):=by
 obtain ⟨h2,hc⟩:=h
 induction ps with
 | nil=>cases ho
 | cons p ps ih=>
  rw [List.pairwise_cons] at hc;by_cases e:p=o
  ·subst e;have none: ∀q∈ps,q≠p:=fun q hq z=>by
    subst z;have:=zNr (hc.1 q hq);have:=(h2 q (by simp)).1;omega
   rw [zUr (by simp),List.filter_eq_self.mpr fun q hq=>by simpa using none q hq]
  ·have ho':o∈ps:=by
    rcases zVL.mp ho with z | z
    ·exact absurd z.symm e
    ·exact z
   rw [zUq (by simpa using e)];exact (List.Perm.cons p (ih ho' (fun q hq=>h2 q (by simp [hq])) hc.2)).trans (.swap o p _)
theorem Apart.snoc{ps:List Pw}(h:Apart ps){p:Pw}(h1:1<p.1)(h2:p.2≠0)(hc: ∀q∈ps,Nat.gcd q.1 p.1<=1):Apart (ps++ [p]):=by
 refine ⟨fun q hq=>?_,?_⟩
 ·rcases zVO.mp hq with z | z
  ·exact h.two q z
  ·have:q=p:=by simpa using z
   rw [this];exact ⟨h1,h2⟩
 ·rw [List.pairwise_append];refine ⟨h.cop,List.pairwise_singleton _ _,fun q hq r hr=>?_⟩;have:r=p:=by simpa using hr
  rw [this];have h3:=hc q hq;have h4:0<Nat.gcd q.1 p.1:=Nat.gcd_pos_of_pos_right _ (by omega);unfold Nat.Coprime;omega
theorem zJp{b n:Nat}(k:Nat)(h:Nat.Coprime b n):Nat.Coprime (b^k) n:=Nat.Coprime.pow_left k h
theorem zMu{b:Nat}: ∀{ps:List Pw},(∀q∈ps,Nat.Coprime b q.1)->Nat.Coprime b (nm ps)
 | [],_=>Nat.coprime_one_right b
 | q::ps,h=>Nat.Coprime.mul_right (Nat.Coprime.pow_right _ (h q (by simp))) (zMu fun r hr=>h r (by simp [hr]))
theorem zNB{b:Nat}: ∀{ps:List Pw},(∀q∈ps,Nat.Coprime b q.1)->Nat.Coprime b (dn ps)
 | [],_=>Nat.coprime_one_right b
 | q::ps,h=>Nat.Coprime.mul_right (Nat.Coprime.pow_right _ (h q (by simp))) (zNB fun r hr=>h r (by simp [hr]))
theorem Apart.coprime: ∀{ps:List Pw},Apart ps->Nat.Coprime (nm ps) (dn ps)
 | [],_=>Nat.coprime_one_right _
 | p::ps,h=>by
  have hc:=h.cop;rw [List.pairwise_cons] at hc;have ih:Nat.Coprime (nm ps) (dn ps):=Apart.coprime ⟨fun q hq=>h.two q (by simp [hq]),hc.2⟩;have h1:Nat.Coprime (num p) (den p):=by
   unfold num den;rcases Int.lt_or_le p.2 0 with z | z
   ·rw [show p.2.toNat=0 by omega,Nat.pow_zero];exact Nat.coprime_one_left _
   ·rw [show (-p.2).toNat=0 by omega,Nat.pow_zero];exact Nat.coprime_one_right _
  have h2:Nat.Coprime (num p) (dn ps):=zJp _ (zNB hc.1);have h3:Nat.Coprime (nm ps) (den p):=(zJp (-p.2).toNat (zMu hc.1)).symm;exact Nat.Coprime.mul_left (Nat.Coprime.mul_right h1 h2) (Nat.Coprime.mul_right h3 ih)
theorem zQU{a b A B:Nat}(h:a*B=A*b)(hc:Nat.Coprime a b)(ha:0<a)(hB0:0<B):a=A/Nat.gcd A B/\b=B/Nat.gcd A B:=by
 have d1:a∣A:=hc.dvd_of_dvd_mul_right ⟨B,h.symm⟩;obtain ⟨t,rfl⟩:=d1;have hB:B=b*t:=by
  have:a*B=a*(b*t):=by rw [h];ac_rfl
  exact Nat.eq_of_mul_eq_mul_left ha this
 subst hB;by_cases ht:t=0
 ·subst ht;rw [Nat.mul_zero] at hB0;cases hB0
 ·have hg:Nat.gcd (a*t) (b*t)=t:=by rw [Nat.gcd_mul_right,show Nat.gcd a b=1 from hc,Nat.one_mul]
  rw [hg,Nat.mul_div_cancel _ (Nat.pos_of_ne_zero ht),Nat.mul_div_cancel _ (Nat.pos_of_ne_zero ht)];exact ⟨rfl,rfl⟩
def wt:List Pw->Nat
 | [] =>1
 | p::ps=>p.1^p.2.natAbs*wt ps
theorem zCj(ps qs:List Pw):wt (ps++qs)=wt ps*wt qs:=by
 induction ps with
 | nil=>simp [wt]
 | cons p ps ih=>simp only [List.cons_append,wt,ih,Nat.mul_assoc]
theorem zJr{ps qs:List Pw}(h:ps.Perm qs):wt ps=wt qs:=by
 induction h with
 | nil=>rfl
 | cons x _ ih=>simp only [wt,ih]
 | swap x y l=>simp only [wt];ac_rfl
 | trans _ _ h1 h2=>exact h1.trans h2
theorem Pos.wt{ps:List Pw}(h:Pos ps):0<wt ps:=by
 induction ps with
 | nil=>exact Nat.one_pos
 | cons p ps ih=>exact Nat.mul_pos (Nat.pow_pos (h p (by simp))) (ih fun q hq=>h q (by simp [hq]))
theorem zNX{o l d:Nat}{e f:Int}(hd:0<d):wt [(o,e),(l,f),(d,f+e)] <=wt [(o*d,e),(l*d,f)] :=by
 simp only [wt,Nat.mul_one,Nat.mul_pow];have h1:d^(f+e).natAbs<=d^(f.natAbs+e.natAbs):=zUj hd (Int.natAbs_add_le f e);rw [Nat.pow_add] at h1
 calc o^e.natAbs*(l^f.natAbs*d^(f+e).natAbs)<=o^e.natAbs*(l^f.natAbs*(d^f.natAbs*d^e.natAbs)):=zVE _ (zVE _ h1)
  _=o^e.natAbs*d^e.natAbs*(l^f.natAbs*d^f.natAbs):=by ac_rfl
theorem zQi{ps:List Pw}(h:Pos ps){p:Pw}(hp:p∈ps):p.1^p.2.natAbs<=wt ps:=by
 induction ps with
 | nil=>cases hp
 | cons q ps ih=>
  have h1:0<wt ps:=Pos.wt fun r hr=>h r (by simp [hr]);have h2:0<q.1^q.2.natAbs:=Nat.pow_pos (h q (by simp));rcases zVL.mp hp with z | z
  ·subst z;exact zVC _ h1
  ·exact zUY (ih (fun r hr=>h r (by simp [hr])) z) (Nat.le_mul_of_pos_left _ h2)
theorem zRn{ps:List Pw}(h:Apart ps){k:Nat}(hw:wt ps<2^k){p:Pw}(hp:p∈ps):p.2.natAbs<k:=by
 have h1:=zQi h.pos hp;have h2:2^p.2.natAbs<=p.1^p.2.natAbs:=Nat.pow_le_pow_left (h.two p hp).1 _;exact (Nat.pow_lt_pow_iff_right (by decide:1<2)).mp (by omega)
theorem zPB(ps:List Pw):nm (ps.filter fun p=>decide (0<p.2))=nm ps:=by
 induction ps with
 | nil=>rfl
 | cons p ps ih=>
  by_cases h:0<p.2
  ·rw [zUq (by simpa using h)];simp only [nm,ih]
  ·rw [zUr (by simpa using h),ih];simp only [nm,num];rw [show p.2.toNat=0 by omega,Nat.pow_zero,Nat.one_mul]
theorem zOf(ps:List Pw):nm ((ps.filter fun p=>decide (p.2<0)).map fun p=>(p.1,-p.2))=dn ps:=by
 induction ps with
 | nil=>rfl
 | cons p ps ih=>
  by_cases h:p.2<0
  ·rw [zUq (by simpa using h)];simp only [zVP,nm,dn,ih,num,den]
  ·rw [zUr (by simpa using h),ih];simp only [dn,den];rw [show (-p.2).toNat=0 by omega,Nat.pow_zero,Nat.one_mul]
def rA(ps:List Pw):Nat:=nm ps/Nat.gcd (nm ps) (dn ps)
def rB(ps:List Pw):Nat:=dn ps/Nat.gcd (nm ps) (dn ps)
theorem Apart.told{ps qs:List Pw}(h:Apart ps)(k:Pos qs)(e:Eqv ps qs):nm ps=rA qs/\dn ps=rB qs:=zQU e h.coprime h.pos.nm k.dn
structure Turn(orig:List Pw)(W B:Nat)(done left:List Pw)(k:Nat):Prop where
 ap:Apart done
 ps:Pos left
 eq:Eqv (done++left) orig
 hw:wt (done++left)<=W
 hb:bp (done++left)<2^k
 bb:bp (done++left)<=B
 sd: ∀p∈done,p.1<2^2000
 sl: ∀p∈left,p.1<2^2000
theorem zLz{ps:List Pw}(h:Apart ps):2^ps.length<=bp ps:=by
 obtain ⟨h2,_⟩:=h
 induction ps with
 | nil=>exact zUO _
 | cons p ps ih=>
  rw [zVT,Nat.pow_succ,Nat.mul_comm];exact Nat.mul_le_mul (h2 p (by simp)).1 (ih (fun q hq=>h2 q (by simp [hq])) (List.pairwise_cons.mp ‹_›).2)
theorem zON{done left orig:List Pw}{l o:Pw}{W:Nat}(ha:Apart done)(hp:Pos (left++ [l]))(he:Eqv (done++(left++ [l])) orig)(hw:wt (done++(left++ [l]))<=W)(ho:o∈done)(hm:1<Nat.gcd o.1 l.1):
  Eqv ((done.filter fun p=>!decide (p=o))++(left++ [(o.1/Nat.gcd o.1 l.1,o.2),(l.1/Nat.gcd o.1 l.1,l.2),(Nat.gcd o.1 l.1,l.2+o.2)])) orig/\
  wt ((done.filter fun p=>!decide (p=o))++(left++ [(o.1/Nat.gcd o.1 l.1,o.2),(l.1/Nat.gcd o.1 l.1,l.2),(Nat.gcd o.1 l.1,l.2+o.2)]))<=W/\
  Pos (left++ [(o.1/Nat.gcd o.1 l.1,o.2),(l.1/Nat.gcd o.1 l.1,l.2),(Nat.gcd o.1 l.1,l.2+o.2)])/\
  2*bp ((done.filter fun p=>!decide (p=o))++(left++ [(o.1/Nat.gcd o.1 l.1,o.2),(l.1/Nat.gcd o.1 l.1,l.2),(Nat.gcd o.1 l.1,l.2+o.2)]))<=bp (done++(left++ [l])):=by
 have dvo:Nat.gcd o.1 l.1∣o.1:=Nat.gcd_dvd_left _ _;have dvl:Nat.gcd o.1 l.1∣l.1:=Nat.gcd_dvd_right _ _;obtain ⟨ob,oe⟩:=o;obtain ⟨lb,le⟩:=l;simp only at*;generalize hd:Nat.gcd ob lb=d at*;obtain ⟨o',rfl⟩:=dvo;obtain ⟨l',rfl⟩:=dvl;have d0:0<d:=by omega
 rw [Nat.mul_div_cancel_left _ d0,Nat.mul_div_cancel_left _ d0];have po:0<d*o':=Nat.lt_trans Nat.one_pos (ha.two _ ho).1;have pl:0<d*l':=hp (d*l',le) (by simp);have o0:0<o':=Nat.pos_of_mul_pos_left po;have l0:0<l':=Nat.pos_of_mul_pos_left pl;have hout:=ha.out ho;generalize done.filter (fun p=>!decide (p=(d*o',oe)))=rest at hout⊢;have perm:(done++(left++ [(d*l',le)])).Perm ((rest++left)++ [(d*o',oe),(d*l',le)]):=by
  refine (hout.append_right _).trans ?_;have:((d*o',oe)::rest++(left++ [(d*l',le)]))=(d*o',oe)::((rest++left)++ [(d*l',le)]):=by simp
  rw [this];have:(rest++left)++ [(d*o',oe),(d*l',le)] =(rest++left)++(d*o',oe):: [(d*l',le)] :=rfl;rw [this];exact List.perm_middle.symm
 have sp:Eqv [(d*o',oe),(d*l',le)] [(o',oe),(l',le),(d,le+oe)] :=by
  have:=zMP (o:=o') (l:=l') (d:=d) (e:=oe) (f:=le)
  rwa [Nat.mul_comm o' d,Nat.mul_comm l' d] at this
 have prl:Pos (rest++left):=fun p hp2=>by
  rcases zVO.mp hp2 with z | z
  ·exact ha.pos p (hout.mem_iff.mpr (by simp [z]))
  ·exact hp p (by simp [z])
 have pp:Pos ((rest++left)++ [(d*o',oe),(d*l',le)]):=fun p hp2=>by
  rcases zVO.mp hp2 with z | z
  ·exact prl p z
  ·simp only [zVL,zVV,or_false] at z;rcases z with rfl | rfl
   ·exact po
   ·exact pl
 have as1:rest++(left++ [(o',oe),(l',le),(d,le+oe)])=(rest++left)++ [(o',oe),(l',le),(d,le+oe)] :=by simp
 refine ⟨?_,?_,?_,?_⟩
 ·rw [as1];refine Eqv.trans pp ((Eqv.refl _).append sp.symm) ?_;refine Eqv.trans (fun p hp2=>pp p (perm.mem_iff.mp hp2)) (Eqv.perm perm.symm) he
 ·rw [as1,zCj];rw [zJr perm,zCj] at hw;refine zUY (zVE _ ?_) hw;have:=zNX (o:=o') (l:=l') (d:=d) (e:=oe) (f:=le) d0
  rwa [Nat.mul_comm o' d,Nat.mul_comm l' d] at this
 ·intro p hp2;rcases zVO.mp hp2 with z | z
  ·exact hp p (by simp [z])
  ·simp only [zVL,zVV,or_false] at z;rcases z with rfl | rfl | rfl
   ·exact o0
   ·exact l0
   ·exact d0
 ·rw [as1,zGj perm,zBB (rest++left) [(o',oe),(l',le),(d,le+oe)],zBB (rest++left) [(d*o',oe),(d*l',le)]];simp only [bp,Nat.mul_one];have hb:0<bp (rest++left):=prl.bp;have h1:d*o'*(d*l')=d*(o'*(l'*d)):=by ac_rfl
  rw [h1];have h2:0<o'*(l'*d):=Nat.mul_pos o0 (Nat.mul_pos l0 d0);have h3:2*(o'*(l'*d))<=d*(o'*(l'*d)):=Nat.mul_le_mul_right _ hm
  calc 2*(bp (rest++left)*(o'*(l'*d)))=bp (rest++left)*(2*(o'*(l'*d))):=by ac_rfl
   _<=bp (rest++left)*(d*(o'*(l'*d))):=zVE _ h3
theorem Turn.len{orig:List Pw}{W B:Nat}{done left:List Pw}{k:Nat}(h:Turn orig W B done left k):done.length<k:=by
 have h1:=zLz h.ap;have h2:=h.hb;rw [zBB] at h2;have h3:bp done<=bp done*bp left:=zVC _ h.ps.bp;exact (Nat.pow_lt_pow_iff_right (by decide:1<2)).mp (by omega)
theorem Turn.met{orig:List Pw}{W B:Nat}{done left:List Pw}{k:Nat}{l o:Pw}(h:Turn orig W B done (left++ [l]) k)(ho:o∈done)(hm:1<Nat.gcd o.1 l.1):
  ∃j,j+1=k/\Turn orig W B (done.filter fun p=>!decide (p=o)) (left++ [(o.1/Nat.gcd o.1 l.1,o.2),(l.1/Nat.gcd o.1 l.1,l.2),(Nat.gcd o.1 l.1,l.2+o.2)]) j:=by
 obtain ⟨h1,h2,h3,h4⟩:=zON h.ap h.ps h.eq h.hw ho hm;have hb:=h.hb;have k0:k≠0:=fun z=>by
  rw [z] at hb;have:0<bp (done++(left++ [l])):=Pos.bp fun p hp=>(zVO.mp hp).elim (h.ap.pos p) (h.ps p);omega
 obtain ⟨j,rfl⟩: ∃j,k=j+1:=⟨k - 1,by omega⟩;rw [Nat.pow_succ] at hb;refine ⟨j,rfl,h.ap.filter _,h3,h1,h2,by omega,zUY (by omega) h.bb,fun p hp=>h.sd p (zVY.mp hp).1,fun p hp=>?_⟩;have so:=h.sd o ho;have sl:=h.sl l (by simp);have p0:0<o.1:=h.ap.pos o ho;rcases zVO.mp hp with z | z
 ·exact h.sl p (by simp [z])
 ·simp only [zVL,zVV,or_false] at z;rcases z with rfl | rfl | rfl
  ·exact zUb (Nat.div_le_self _ _) so
  ·exact zUb (Nat.div_le_self _ _) sl
  ·exact zUb (Nat.gcd_le_left _ p0) so
theorem Turn.keep{orig:List Pw}{W B:Nat}{done left:List Pw}{k:Nat}{l:Pw}(h:Turn orig W B done (left++ [l]) k)(hm: ∀q∈done,¬1<Nat.gcd q.1 l.1)(h1:1<l.1)(h2:l.2≠0):Turn orig W B (done++ [l]) left k:=by
 have perm:(done++ [l] ++left).Perm (done++(left++ [l])):=by
  rw [List.append_assoc];exact List.Perm.append_left done List.perm_append_comm
 have pp:Pos (done++(left++ [l])):=fun p hp=>(zVO.mp hp).elim (h.ap.pos p) (h.ps p);exact ⟨h.ap.snoc h1 h2 fun q hq=>Nat.le_of_not_lt (hm q hq),fun p hp=>h.ps p (by simp [hp]),Eqv.trans pp (Eqv.perm perm) h.eq,by rw [zJr perm];exact h.hw,by rw [zGj perm];exact h.hb,by rw [zGj perm];exact h.bb,
  fun p hp=>(zVO.mp hp).elim (h.sd p) fun z=>h.sl p (by simp at z;simp [z]),fun p hp=>h.sl p (by simp [hp])⟩
theorem Turn.drop{orig:List Pw}{W B:Nat}{done left:List Pw}{k:Nat}{l:Pw}(h:Turn orig W B done (left++ [l]) k)(h1: ¬(1<l.1/\l.2≠0)):Turn orig W B done left k:=by
 have pl:0<l.1:=h.ps l (by simp);have e1:Eqv [l] [] :=zPU (e:=0) (by omega);have pp:Pos (done++(left++ [l])):=fun p hp=>(zVO.mp hp).elim (h.ap.pos p) (h.ps p);have e2:Eqv (done++left) (done++(left++ [l])):=by
  have z:=(Eqv.refl (done++left)).append e1.symm;rw [zUm,List.append_assoc] at z;exact z
 have w1:wt (done++left)<=wt (done++(left++ [l])):=by
  rw [<-List.append_assoc,zCj (done++left) [l]];exact zVC _ (Pos.wt fun p hp=>(zVQ.mp hp)▸pl)
 have b1:bp (done++left)<=bp (done++(left++ [l])):=by
  rw [<-List.append_assoc,zBB (done++left) [l]];exact zVC _ (Pos.bp fun p hp=>(zVQ.mp hp)▸pl)
 exact ⟨h.ap,fun p hp=>h.ps p (by simp [hp]),Eqv.trans pp e2 h.eq,zUY w1 h.hw,zUb b1 h.hb,zUY b1 h.bb,h.sd,fun p hp=>h.sl p (by simp [hp])⟩
theorem zPw{ps:List Pw}(h:Pos ps)(i:Nat):nm (ps.take i)<=nm ps:=by
 have e:ps.take i++ps.drop i=ps:=List.take_append_drop i ps;have h1:0<nm (ps.drop i):=Pos.nm fun p hp=>h p (List.mem_of_mem_drop hp)
 calc nm (ps.take i)<=nm (ps.take i)*nm (ps.drop i):=zVC _ h1
  _=nm ps:=by rw [<-zBy,e]
theorem zGn(ps:List Pw)(p:Pw):nm (ps++ [p])=nm ps*num p:=by rw [zBy];simp [nm]
theorem zQe{ps:List Pw}(h:Pos ps){i:Nat}{p:Pw}(e:ps[i]?=some p){j:Nat}(hj:j<=p.2.toNat):nm (ps.take i)*p.1^j<=nm ps:=by
 have h1:nm (ps.take (i+1))<=nm ps:=zPw h (i+1);rw [zUh,e,Option.toList_some,zGn] at h1;have hp:0<p.1:=h p (zUp e);exact zUY (zVE _ (zUj hp hj)) h1
theorem zPv{ps:List Pw}(h:Pos ps)(i:Nat):bp (ps.take i)<=bp ps:=by
 have e:ps.take i++ps.drop i=ps:=List.take_append_drop i ps;have h1:0<bp (ps.drop i):=Pos.bp fun p hp=>h p (List.mem_of_mem_drop hp)
 calc bp (ps.take i)<=bp (ps.take i)*bp (ps.drop i):=zVC _ h1
  _=bp ps:=by rw [<-zBB,e]
structure Sofar(qs ds:List Pw):Prop where
 ap:Apart ds
 eq:Eqv ds qs
 hw:wt ds<=wt qs
 hb:bp ds<=bp qs
 sd: ∀p∈ds,p.1<2^2000
theorem Sofar.turn{qs ds:List Pw}(h:Sofar qs ds){p:Pw}(pp:0<p.1)(hp:p.1<2^2000){k:Nat}(hk:bp (qs++ [p])<2^k):Turn (ds++ [p]) (wt (ds++ [p])) (bp (ds++ [p])) ds [p] k:=by
 refine ⟨h.ap,fun q hq=>(zVQ.mp hq)▸pp,Eqv.refl _,zUO _,?_,zUO _,h.sd,fun q hq=>(zVQ.mp hq)▸hp⟩;rw [zBB] at hk⊢;exact zUb (Nat.mul_le_mul_right _ h.hb) hk
theorem Sofar.next{qs ds es:List Pw}(h:Sofar qs ds){p:Pw}(pp:0<p.1){k:Nat}(t:Turn (ds++ [p]) (wt (ds++ [p])) (bp (ds++ [p])) es [] k):Sofar (qs++ [p]) es:=by
 have e1:=t.eq;have w1:=t.hw;have b1:=t.bb;rw [zUm] at e1 w1 b1;refine ⟨t.ap,?_,?_,?_,t.sd⟩
 ·refine Eqv.trans (fun q hq=>?_) e1 (h.eq.append (Eqv.refl [p]));rcases zVO.mp hq with z | z
  ·exact h.ap.pos q z
  ·exact (zVQ.mp z)▸pp
 ·rw [zCj] at w1⊢;exact zUY w1 (Nat.mul_le_mul_right _ h.hw)
 ·rw [zBB] at b1⊢;exact zUY b1 (Nat.mul_le_mul_right _ h.hb)
theorem Sofar.nil:Sofar [] [] :=⟨⟨fun _ h=>(nomatch h),.nil⟩,rfl,zUO _,zUO _,fun _ h=>(nomatch h)⟩
open PySem FrM
structure Ent where
 nm:Str
 aa:Nat
 ab:Nat
 un:Prs
 fa:Nat
 fb:Nat
 fu:Prs
def yp(us:Prs):Bool:=us.any fun p=>decide (64<p.2.natAbs)
structure GoodU(Ns:List Str)(u:Prs):Prop where
 up:IsU u u
 nn: ∀p∈u,p.1∈Ns
theorem GoodU.ne{u:Prs}(h:GoodU Ns u): ∀p∈u,p.2≠0:=fun p hp=>((h.up.at' p.1 p.2).mp hp).2
theorem zCi{α:Type}[DecidableEq α] : ∀(l m:List α),l.Nodup->(∀x∈l,x∈m)->l.length<=m.length
 | [],_,_,_=>zUZ _
 | x::l,m,nd,hs=>by
  rw [List.nodup_cons] at nd;have hm:x∈m:=hs x (by simp);have h:=zCi l (m.erase x) nd.2 fun y hy=>(List.mem_erase_of_ne (fun z:y=x=>nd.1 (by rw [<-z];exact hy))).mpr (hs y (by simp [hy]));rw [List.length_erase_of_mem hm] at h;have:0<m.length:=List.length_pos_of_mem hm;simp only [zVT];omega
theorem GoodU.len{u:Prs}(h:GoodU Ns u):u.length<=Ns.length:=by
 have:=zCi (u.map (·.1)) Ns (zFL h.up.up) (fun x hx=>by obtain ⟨p,hp,rfl⟩:=zVR.mp hx;exact h.nn p hp);simpa using this
structure EntOk(Ns:List Str)(e:Ent):Prop where
 n:e.nm∈Ns
 a1:0<e.aa
 a2:0<e.ab
 f1:0<e.fa
 f2:0<e.fb
 f3:e.fa<10^200
 f4:e.fb<10^200
 un:GoodU Ns e.un
 fu:GoodU Ns e.fu
 l3:e.un.length<=3
def zr(E:List Ent)(n:Str):Nat×Nat×Prs:=match E.find? fun e=>e.nm==n with
 | some e=>(e.fa,e.fb,e.fu)
 | none=>(1,1,[(n,1)])
structure RateOk(Ns:List Str)(r:Nat×Nat×Prs):Prop where
 f1:0<r.1
 f2:0<r.2.1
 f3:r.1<10^200
 f4:r.2.1<10^200
 fu:GoodU Ns r.2.2
theorem zNs(n:Str):IsU [(n,(1:Int))] [(n,1)] :=by
 refine ⟨by simp,fun m e=>?_⟩;simp only [zVQ,Prod.mk.injEq,tot];constructor
 ·rintro ⟨rfl,rfl⟩;rw [if_pos rfl];exact ⟨by omega,by omega⟩
 ·rintro ⟨h1,h2⟩;by_cases z:n=m
  ·rw [if_pos z] at h1;exact ⟨z.symm,by omega⟩
  ·rw [if_neg z] at h1;omega
theorem zEa{E:List Ent}(h: ∀e∈E,EntOk Ns e)(hn:n∈Ns):RateOk Ns (zr E n):=by
 unfold zr;split
 ·rename_i e he
  have k:=h e (List.mem_of_find?_eq_some he);exact ⟨k.f1,k.f2,k.f3,k.f4,k.fu⟩
 ·refine ⟨Nat.one_pos,Nat.one_pos,?_,?_,zNs n,fun p hp=>?_⟩
  ·show 1<10^200;exact Nat.one_lt_pow (by decide) (by decide)
  ·show 1<10^200;exact Nat.one_lt_pow (by decide) (by decide)
  ·rw [zVQ.mp hp];exact hn
def zw(E:List Ent)(u:Prs):List Pw:=u.flatMap fun p=> [((zr E p.1).1,p.2),((zr E p.1).2.1,-p.2)]
def prs(E:List Ent)(u:Prs):Prs:=u.flatMap fun p=>(zr E p.1).2.2.map fun q=>(q.1,q.2*p.2)
theorem zBd(E:List Ent)(u v:Prs):zw E (u++v)=zw E u++zw E v:=by unfold zw;rw [List.flatMap_append]
theorem zDm(E:List Ent)(u v:Prs):prs E (u++v)=prs E u++prs E v:=by unfold prs;rw [List.flatMap_append]
theorem zEg(E:List Ent)(n:Str)(e:Int):zw E [(n,e)] = [((zr E n).1,e),((zr E n).2.1,-e)] :=by unfold zw;rfl
theorem zGh(E:List Ent)(n:Str)(e:Int):prs E [(n,e)] =(zr E n).2.2.map fun q=>(q.1,q.2*e):=by unfold prs;simp
theorem zQR:(10:Nat)^200<=2^700:=by decide+kernel
theorem yi(h:a<10^200):a<2^700:=zUT h zQR
structure PwOk(ps:List Pw):Prop where
 b: ∀p∈ps,0<p.1/\p.1<2^700/\p.2.natAbs<=64
theorem PwOk.pos{ps:List Pw}(h:PwOk ps):Pos ps:=fun p hp=>(h.b p hp).1
theorem PwOk.bp{ps:List Pw}(h:PwOk ps):FrW.bp ps<=2^(700*ps.length):=by
 obtain ⟨h⟩:=h
 induction ps with
 | nil=>exact zUO _
 | cons p ps ih=>
  have e:700*(p::ps).length=700+700*ps.length:=by simp only [zVT];omega
  rw [e,Nat.pow_add];exact Nat.mul_le_mul (zUy (h p (by simp)).2.1) (ih fun q hq=>h q (by simp [hq]))
theorem PwOk.wt{ps:List Pw}(h:PwOk ps):FrW.wt ps<=2^(44800*ps.length):=by
 obtain ⟨h⟩:=h
 induction ps with
 | nil=>exact zUO _
 | cons p ps ih=>
  have e:44800*(p::ps).length=44800+44800*ps.length:=by simp only [zVT];omega
  rw [e,Nat.pow_add];refine Nat.mul_le_mul ?_ (ih fun q hq=>h q (by simp [hq]));obtain ⟨h1,h2,h3⟩:=h p (by simp)
  calc p.1^p.2.natAbs<=(2^700)^p.2.natAbs:=Nat.pow_le_pow_left (zUy h2) _
   _=2^(700*p.2.natAbs):=(Nat.pow_mul ..).symm
   _<=2^44800:=zUj (by decide) (by omega)
theorem zFZ{u:Prs}(h:yp u=false): ∀p∈u,p.2.natAbs<=64:=fun p hp=>by
 unfold yp at h;rw [List.any_eq_false] at h;have:=h p hp;simpa using this
theorem zGK{E:List Ent}(h: ∀e∈E,EntOk Ns e){u:Prs}(hn: ∀p∈u,p.1∈Ns)(hs:yp u=false):PwOk (zw E u):=by
 refine ⟨fun q hq=>?_⟩;unfold zw at hq;obtain ⟨p,hp,hq⟩:=List.mem_flatMap.mp hq;have k:=zEa h (hn p hp);have e:=zFZ hs p hp;rcases zVL.mp hq with rfl | hq
 ·exact ⟨k.f1,yi k.f3,e⟩
 ·rw [zVQ.mp hq];exact ⟨k.f2,yi k.f4,by show (-p.2).natAbs<=64;rw [Int.natAbs_neg];exact e⟩
theorem zEe(E:List Ent)(u:Prs):(zw E u).length=2*u.length:=by
 induction u with
 | nil=>rfl
 | cons p u ih=>
  have:zw E (p::u)=zw E [p] ++zw E u:=zBd E [p] u;obtain ⟨n,e⟩:=p;rw [this,zUn,zEg,ih];simp only [zVT,List.length_nil];omega
theorem zMa{ps:List Pw}(h:Pos ps):0<rA ps:=Nat.div_pos (Nat.le_of_dvd h.nm (Nat.gcd_dvd_left _ _)) (Nat.gcd_pos_of_pos_left _ h.nm)
theorem zMZ{ps:List Pw}(h:Pos ps):0<rB ps:=Nat.div_pos (Nat.le_of_dvd h.dn (Nat.gcd_dvd_right _ _)) (Nat.gcd_pos_of_pos_left _ h.nm)
inductive Pl (E:List Ent) (u:Prs):Option (Nat×Nat×Prs)->Prop
 | su (h:yp u=true):Pl E u none
 | sf {f:Prs} (h:yp u=false) (i:IsU (prs E u) f) (s:yp f=true):Pl E u none
 | gr {f:Prs} (h:yp u=false) (i:IsU (prs E u) f) (s:yp f=false) (g: ¬(rA (zw E u)<10^200/\rB (zw E u)<10^200)):Pl E u none
 | ok {f:Prs} (h:yp u=false) (i:IsU (prs E u) f) (s:yp f=false) (g1:rA (zw E u)<10^200) (g2:rB (zw E u)<10^200):Pl E u (some (rA (zw E u),rB (zw E u),f))
theorem Pl.uniq{E:List Ent}{u:Prs}{r r':Option (Nat×Nat×Prs)}(h:Pl E u r)(k:Pl E u r'):r=r':=by
 cases h with
 | su h=>cases k with
  | su=>rfl
  | sf=>rfl
  | gr=>rfl
  | ok h'=>rw [h] at h';cases h'
 | sf h i s=>cases k with
  | su=>rfl
  | sf=>rfl
  | gr=>rfl
  | ok _ i' s'=>rw [i.uniq i',s'] at s;cases s
 | gr h i s g=>cases k with
  | su=>rfl
  | sf=>rfl
  | gr=>rfl
  | ok _ _ _ g1 g2=>exact absurd ⟨g1,g2⟩ g
 | ok h i s g1 g2=>cases k with
  | su h'=>rw [h] at h';cases h'
  | sf _ i' s'=>rw [<-i.uniq i',s] at s';cases s'
  | gr _ _ _ g=>exact absurd ⟨g1,g2⟩ g
  | ok _ i'=>rw [i.uniq i']
theorem zIH{E:List Ent}(h: ∀e∈E,EntOk Ns e){u:Prs}(hn: ∀p∈u,p.1∈Ns): ∀q∈prs E u,q.1∈Ns:=fun q hq=>by
 unfold prs at hq;obtain ⟨p,hp,hq⟩:=List.mem_flatMap.mp hq;obtain ⟨r,hr,rfl⟩:=zVR.mp hq;exact (zEa h (hn p hp)).fu.nn r hr
theorem IsU.good{ps f:Prs}(h:IsU ps f)(hn: ∀q∈ps,q.1∈Ns):GoodU Ns f:=⟨h.self,fun p hp=>by
 obtain ⟨n,e⟩:=p;obtain ⟨q,hq,e2⟩:=zVR.mp (h.mem hp).1;have:=hn q hq;rw [e2] at this;exact this⟩
theorem Pl.good{E:List Ent}(h: ∀e∈E,EntOk Ns e){u:Prs}(hn: ∀p∈u,p.1∈Ns){f:Prs}(k:Pl E u (some (a,b,f))):RateOk Ns (a,b,f)/\yp f=false:=by
 cases k with
 | ok hs i s g1 g2=>
  have po:=(zGK h hn hs).pos;exact ⟨⟨zMa po,zMZ po,g1,g2,IsU.good i (zIH h hn)⟩,s⟩
def made(E:List Ent)(n:Str):Bool:=E.any fun e=>e.nm==n
def zAi(E:List Ent)(n:Str):Bool:=E.any fun e=>e.un.any fun p=>p.1==n
def inU(u:Prs)(n:Str):Bool:=u.any fun p=>p.1==n
inductive DfR where
 | ok (e:Ent)
 | twice
 | table
def dfw(a b p q:Nat):List Pw:= [(a,1),(b,-1),(p,1),(q,-1)]
inductive Df (E:List Ent) (n:Str) (a b:Nat) (u:Prs):DfR->Prop
 | tw (h:made E n=true):Df E n a b u .twice
 | rm (h:made E n=false) (k:E.length=12\/inU u n=true\/zAi E n=true):Df E n a b u .table
 | pl (h:made E n=false) (k: ¬(E.length=12\/inU u n=true\/zAi E n=true)) (p:Pl E u none):Df E n a b u .table
 | gr (h:made E n=false) (k: ¬(E.length=12\/inU u n=true\/zAi E n=true)) {p q:Nat} {f:Prs} (l:Pl E u (some (p,q,f))) (g: ¬(rA (dfw a b p q)<10^200/\rB (dfw a b p q)<10^200)):Df E n a b u .table
 | ok (h:made E n=false) (k: ¬(E.length=12\/inU u n=true\/zAi E n=true)) {p q:Nat} {f:Prs} (l:Pl E u (some (p,q,f))) (g1:rA (dfw a b p q)<10^200) (g2:rB (dfw a b p q)<10^200):
   Df E n a b u (.ok ⟨n,a,b,u,rA (dfw a b p q),rB (dfw a b p q),f⟩)
theorem Df.uniq{E:List Ent}{u:Prs}{r r':DfR}(h:Df E n a b u r)(k:Df E n a b u r'):r=r':=by
 cases h with
 | tw h=>cases k with
  | tw=>rfl
  | rm h'=>rw [h] at h';cases h'
  | pl h'=>rw [h] at h';cases h'
  | gr h'=>rw [h] at h';cases h'
  | ok h'=>rw [h] at h';cases h'
 | rm h k0=>cases k with
  | tw h'=>rw [h] at h';cases h'
  | rm=>rfl
  | pl=>rfl
  | gr=>rfl
  | ok _ k'=>exact absurd k0 k'
 | pl h k0 l=>cases k with
  | tw h'=>rw [h] at h';cases h'
  | rm=>rfl
  | pl=>rfl
  | gr=>rfl
  | ok _ _ l'=>cases l.uniq l'
 | gr h k0 l g=>cases k with
  | tw h'=>rw [h] at h';cases h'
  | rm=>rfl
  | pl=>rfl
  | gr=>rfl
  | ok _ _ l' g1 g2=>cases l.uniq l';exact absurd ⟨g1,g2⟩ g
 | ok h k0 l g1 g2=>cases k with
  | tw h'=>rw [h] at h';cases h'
  | rm _ k'=>exact absurd k' k0
  | pl _ _ l'=>cases l.uniq l'
  | gr _ _ l' g=>cases l.uniq l';exact absurd ⟨g1,g2⟩ g
  | ok _ _ l'=>cases l.uniq l';rfl
theorem zMz(h:0<a/\a<2^700)(h2:0<b/\b<2^700)(h3:0<p/\p<2^700)(h4:0<q/\q<2^700):PwOk (dfw a b p q):=by
 refine ⟨fun x hx=>?_⟩;unfold dfw at hx;simp only [zVL,zVV,or_false] at hx;rcases hx with rfl | rfl | rfl | rfl
 ·exact ⟨h.1,h.2,by show (1:Int).natAbs<=64;decide⟩
 ·exact ⟨h2.1,h2.2,by show (-1:Int).natAbs<=64;decide⟩
 ·exact ⟨h3.1,h3.2,by show (1:Int).natAbs<=64;decide⟩
 ·exact ⟨h4.1,h4.2,by show (-1:Int).natAbs<=64;decide⟩
theorem zGO(a b p q:Nat):nm (dfw a b p q)=a*p/\dn (dfw a b p q)=b*q:=by
 unfold dfw;simp only [nm,dn,num,den];constructor
 ·simp
 ·simp
theorem Df.good{E:List Ent}(h: ∀e∈E,EntOk Ns e)(hn:n∈Ns)(ha:0<a/\a<2^700)(hb:0<b/\b<2^700){u:Prs}(hu:GoodU Ns u)(h3:u.length<=3){e:Ent}(k:Df E n a b u (.ok e)):EntOk Ns e/\e.nm=n/\e.aa=a/\e.ab=b/\e.un=u:=by
 cases k with
 | ok h0 k0 l g1 g2=>
  obtain ⟨r,s⟩:=l.good h hu.nn;have po:=(zMz ha hb ⟨r.f1,yi r.f3⟩ ⟨r.f2,yi r.f4⟩).pos;exact ⟨⟨hn,ha.1,hb.1,zMa po,zMZ po,g1,g2,hu,r.fu,h3⟩,rfl,rfl,rfl,rfl⟩
theorem zTV(a b:Nat)(e:Int):a^e.toNat*b^(-e).toNat=(if e<0 then b else a)^e.natAbs:=by
 by_cases h:e<0
 ·rw [if_pos h,show e.toNat=0 by omega,show (-e).toNat=e.natAbs by omega,Nat.pow_zero,Nat.one_mul]
 ·rw [if_neg h,show (-e).toNat=0 by omega,show e.toNat=e.natAbs by omega,Nat.pow_zero,Nat.mul_one]
theorem zTC(a b:Nat)(h0:e≠0):a^(-e).toNat*b^(-(-e)).toNat=(if 0<e then b else a)^e.natAbs:=by
 by_cases h:0<e
 ·rw [if_pos h,show (-e).toNat=0 by omega,show (-(-e)).toNat=e.natAbs by omega,Nat.pow_zero,Nat.one_mul]
 ·rw [if_neg h,show (-(-e)).toNat=0 by omega,show (-e).toNat=e.natAbs by omega,Nat.pow_zero,Nat.mul_one]
theorem zQQ(E:List Ent)(us:Prs)(n:Str)(e:Int):nm (zw E (us++ [(n,e)]))=nm (zw E us)*(if e<0 then (zr E n).2.1 else (zr E n).1)^e.natAbs:=by
 rw [zBd,zBy,zEg,<-zTV];simp only [nm,num,Nat.mul_one]
theorem zPV(E:List Ent)(us:Prs)(n:Str)(h0:e≠0):dn (zw E (us++ [(n,e)]))=dn (zw E us)*(if 0<e then (zr E n).2.1 else (zr E n).1)^e.natAbs:=by
 rw [zBd,zDw,zEg,<-zTC _ _ h0];simp only [dn,den,Nat.mul_one]
theorem PwOk.nm_le{ps:List Pw}(h:PwOk ps):FrW.nm ps<=FrW.wt ps:=by
 obtain ⟨h⟩:=h
 induction ps with
 | nil=>exact zUO _
 | cons p ps ih=>exact Nat.mul_le_mul (zUj (h p (by simp)).1 (by omega)) (ih fun q hq=>h q (by simp [hq]))
theorem PwOk.dn_le{ps:List Pw}(h:PwOk ps):FrW.dn ps<=FrW.wt ps:=by
 obtain ⟨h⟩:=h
 induction ps with
 | nil=>exact zUO _
 | cons p ps ih=>exact Nat.mul_le_mul (zUj (h p (by simp)).1 (by omega)) (ih fun q hq=>h q (by simp [hq]))
theorem PwOk.part{E:List Ent}{us:Prs}(h:PwOk (zw E us))(i:Nat):PwOk (zw E (us.take i)):=⟨fun p hp=>h.b p (by
 have e:zw E us=zw E (us.take i)++zw E (us.drop i):=by rw [<-zBd,List.take_append_drop]
 rw [e];exact List.mem_append_left _ hp)⟩
theorem zBN{a k:Nat}(h:a<=2^k)(hk:k<1000000):Sz 1000000 (a:Int):=by
 unfold Sz;rw [Int.natAbs_natCast];exact zUb h (zVD (by decide) hk)
theorem zGG(hA:A<=2^k)(hx:x<2^700)(hj:j<=64):A*x^j<=2^(k+44800):=by
 rw [Nat.pow_add];refine Nat.mul_le_mul hA ?_
 calc x^j<=(2^700)^j:=Nat.pow_le_pow_left (zUy hx) _
  _=2^(700*j):=(Nat.pow_mul ..).symm
  _<=2^44800:=zUj (by decide) (by omega)
theorem zCc{a b g:Nat}:(10:Int)^200<=(if ((b:Nat):Int)>(a:Int) then (b:Int) else (a:Int))/(g:Int)↔ ¬(a/g<10^200/\b/g<10^200):=by
 have ten:((10^200:Nat):Int)=(10:Int)^200:=by rw [Int.natCast_pow];rfl
 rw [<-ten];by_cases h:(b:Int)>(a:Int)
 ·rw [if_pos h,<-zVZ];have hab:a<=b:=by omega
  have:=Nat.div_le_div_right (c:=g) hab;constructor
  ·intro h1 h2;have:10^200<=b/g:=Int.ofNat_le.mp h1;omega
  ·intro h1;refine Int.ofNat_le.mpr ?_;omega
 ·rw [if_neg h,<-zVZ];have hab:b<=a:=by omega
  have:=Nat.div_le_div_right (c:=g) hab;constructor
  ·intro h1 h2;have:10^200<=a/g:=Int.ofNat_le.mp h1;omega
  ·intro h1;refine Int.ofNat_le.mpr ?_;omega
end FrW
namespace Fr
open PySem PySem.Spec PyProof.Rows L2 FrM
def top(i:Nat):Stmt:=PySem.Challenge.pw_measurewise_k24_tables.main.body.getD i (.Pass ⟨0,0,0,0⟩)
abbrev zBz:Stmt:=top 18
abbrev zCz:Stmt:=top 19
abbrev zEk:Stmt:=top 20
abbrev zBg:Stmt:=top 21
abbrev zDA:Stmt:=top 22
abbrev zFK:Stmt:=top 24
abbrev zCg:Stmt:=top 25
abbrev zHE:Stmt:=top 26
abbrev zGL:Stmt:=top 27
abbrev zGQ:Stmt:=top 28
abbrev zGC:Stmt:=top 29
abbrev zEp:Stmt:=top 32
abbrev zGk:Stmt:=top 33
abbrev zEs:Stmt:=top 34
abbrev zFl:Stmt:=top 35
abbrev zFp:Stmt:=top 40
abbrev zGY:Stmt:=top 41
abbrev zGz:Stmt:=top 42
abbrev zEc:Stmt:=top 43
abbrev zEL:Stmt:=top 44
abbrev zDX:Stmt:=top 47
abbrev zJR:Stmt:=top 48
abbrev zEP:Stmt:=top 49
abbrev zEE:Stmt:=top 50
abbrev zIN:Stmt:=top 51
abbrev zEZ:Stmt:=top 52
abbrev zIW:Stmt:=top 53
abbrev zDK:Stmt:=top 54
abbrev zCF:Stmt:=top 55
abbrev zES:Stmt:=top 56
abbrev zIG:Stmt:=top 57
abbrev zGX:Stmt:=top 58
abbrev zDL:Stmt:=top 59
abbrev zFu:Stmt:=top 60
abbrev zFE:Stmt:=top 61
theorem zDD:bootBuiltins "list" =some (.type "list"):=by decide+kernel
theorem zJo:bootBuiltins "dict" =some (.type "dict"):=by decide+kernel
theorem zMm:bootBuiltins "all" =some (.builtin "all"):=by decide+kernel
theorem zCm:bootBuiltins "sorted" =some (.builtin "sorted"):=by decide+kernel
theorem zLg:bootBuiltins "any" =some (.builtin "any"):=by decide+kernel
theorem zNF:bootBuiltins "max" =some (.builtin "max"):=by decide+kernel
theorem ze:bootBuiltins "isinstance" =some (.builtin "isinstance"):=by decide+kernel
theorem zAU:bootBuiltins "len" =some (.builtin "len"):=by decide+kernel
theorem zEH:bootBuiltins "abs" =some (.builtin "abs"):=by decide+kernel
theorem zJN:bootBuiltins "int" =some (.type "int"):=by decide+kernel
theorem zQX:bootBuiltins "bool" =some (.type "bool"):=by decide+kernel
theorem zBs:bootBuiltins "tuple" =some (.type "tuple"):=by decide+kernel
theorem zSj:bootBuiltins "str" =some (.type "str"):=by decide+kernel
theorem zHj:bootBuiltins "ValueError" =some (.type "ValueError"):=by decide+kernel
inductive Kd (H:Hp):V->Prop
 | non:Kd H .non
 | bl (b:Bool):Kd H (.bl b)
 | int (i:Int):Kd H (.int i)
 | str (x:Str):Kd H (.str x)
 | lst {a:Addr} {xs:List V} (e:H a=some (.lst xs)):Kd H (.ref a)
 | tup {a:Addr} {xs:List V} (e:H a=some (.tup xs)):Kd H (.ref a)
def isW:V->Bool
 | .int _=>true
 | _=>false
def zNQ:V->Bool
 | .int _=>true
 | .bl _=>true
 | _=>false
theorem zLc(K:zVK):PySem.W.kitOne K (.type "NoneType") (.type "int")=some false:=by kernel_rfl
theorem zLT(K:zVK):PySem.W.kitOne K (.type "bool") (.type "int")=some true:=by kernel_rfl
theorem zMB(K:zVK):PySem.W.kitOne K (.type "int") (.type "int")=some true:=by kernel_rfl
theorem zMN(K:zVK):PySem.W.kitOne K (.type "str") (.type "int")=some false:=by kernel_rfl
theorem zLL(K:zVK):PySem.W.kitOne K (.type "list") (.type "int")=some false:=by kernel_rfl
theorem zJX(K:zVK):PySem.W.kitOne K (.type "tuple") (.type "int")=some false:=by kernel_rfl
theorem zJZ(K:zVK):PySem.W.kitOne K (.type "bool") (.type "bool")=some true:=by kernel_rfl
theorem zLK(K:zVK):PySem.W.kitOne K (.type "int") (.type "bool")=some false:=by kernel_rfl
theorem zED(K:zVK):PySem.W.kitOne K (.type "NoneType") (.type "tuple")=some false:=by kernel_rfl
theorem zFC(K:zVK):PySem.W.kitOne K (.type "str") (.type "tuple")=some false:=by kernel_rfl
theorem zEJ(K:zVK):PySem.W.kitOne K (.type "list") (.type "tuple")=some false:=by kernel_rfl
theorem zBL(K:zVK):PySem.W.kitOne K (.type "tuple") (.type "tuple")=some true:=by kernel_rfl
theorem zEy(K:zVK):PySem.W.kitOne K (.type "int") (.type "tuple")=some false:=by kernel_rfl
theorem zRN(K:zVK)(k:Kd H x): ∃t,TyOf K H x t/\PySem.W.kitOne K t (.type "int")=some (zNQ x):=by
 cases k with
 | non=>exact ⟨_,.non,zLc K⟩
 | bl b=>exact ⟨_,.bl b,zLT K⟩
 | int i=>exact ⟨_,.int i,zMB K⟩
 | str x=>exact ⟨_,.str x,zMN K⟩
 | lst e=>exact ⟨_,.lst e,zLL K⟩
 | tup e=>exact ⟨_,.tup e,zJX K⟩
theorem zPM(K:zVK)(k:Kd H x)(h:zNQ x=true): ∃t,TyOf K H x t/\PySem.W.kitOne K t (.type "bool")=some (!isW x):=by
 cases k with
 | bl b=>exact ⟨_,.bl b,zJZ K⟩
 | int i=>exact ⟨_,.int i,zLK K⟩
 | non=>cases h
 | str x=>cases h
 | lst e=>cases h
 | tup e=>cases h
structure Bn(mg:Str->Option Value):Prop where
 isi:mg "isinstance" =none
 int:mg "int" =none
 bool:mg "bool" =none
 tuple:mg "tuple" =none
 len:mg "len" =none
 range:mg "range" =none
 str:mg "str" =none
 abs:mg "abs" =none
 verr:mg "ValueError" =none
 list:mg "list" =none
 dict:mg "dict" =none
 all:mg "all" =none
 sorted:mg "sorted" =none
 any:mg "any" =none
 max:mg "max" =none
section
variable {P:Program}{w:World}{K:zVK}{mg:Str->Option Value}{base:Heap}
def zDH:Sp:=fun vs H Q _=> ∃x,vs= [x] /\Kd H x/\Q (.bl (isW x)) H
theorem zQC:FnScope ["thing"] ["thing"] (zK zBz):=fs
theorem zDY(F:Fun K "is_whole" "is_whole" zBz f fd)(B:Bn mg):FnOk P w K mg base CX0 1 f fd ["thing"] zDH:=by
 refine F.ok zQC (fun vs H Q E h=>?_) (fun _ A _ s H vs Q E hr h=>?_)
 ·obtain ⟨x,rfl,_⟩:=h;rfl
 ·obtain ⟨x,rfl,kd,q⟩:=h;refine ⟨_,yC (zAA (zMf (zBq zDl (by rfl) B.isi ze (zf (pv 0) (zf (zEb (v:= .ty "int") (by rfl) B.int zJN rfl) yG)))
   (zLt (zSB (zBq zDl (by rfl) B.isi ze (zf (pv 0) (zf (zEb (v:= .ty "bool") (by rfl) B.bool zQX rfl) yG))))))),?_⟩
  obtain ⟨t,ty,e⟩:=zRN K kd;refine ⟨x,rfl,x,.ty "int",t,.type "int",_,rfl,rfl,ty,e,_,rfl,?_⟩;cases hx:zNQ x with
  | false=>
   refine zM ?_;have:isW x=false:=by cases x<;>first | rfl | cases hx
   rw [this] at q;exact q
  | true=>
   refine zZ ?_;obtain ⟨t',ty',e'⟩:=zPM K kd hx;refine ⟨x,rfl,x,.ty "bool",t',.type "bool",_,rfl,rfl,ty',e',_,rfl,?_⟩;rw [Bool.not_not];exact q
def zHt:Sp:=fun vs H Q _=> ∃a b:Int,vs= [.int a,.int b] /\0<b/\Q (.int ((Int.gcd a b:Nat):Int)) H
theorem zEw:FnScope ["above","below","greater","lesser","rest"] ["above","below"] (zK zFK):=fs
theorem zIv(F:Fun K "common_divisor" "common_divisor" zFK f fd):FnOk P w K mg base CX0 1 f fd ["above","below"] zHt:=by
 refine F.ok zEw (fun vs H Q E h=>?_) (fun cdv A outer s H vs Q E hr h=>?_)
 ·obtain ⟨a,b,rfl,_⟩:=h;rfl
 ·obtain ⟨a,b,rfl,hb,q⟩:=h;refine ⟨_,zv (zAM (i:=2) zEw.nd rfl (Or.inl rfl) (pv 1)) (zv (zAM (i:=3) zEw.nd rfl (Or.inl rfl) (yf zBw (pv 0) (pv 1)))
   (zv (zFW PassesOwn.never (zAT zAh (pv 3) zt (zAw _))
    (zv (zAM (i:=4) zEw.nd rfl (Or.inl rfl) (yf zBw (pv 2) (pv 3))) (zv (zAM (i:=2) zEw.nd rfl (Or.inl rfl) (pv 3)) (yC (zAM (i:=3) zEw.nd rfl (Or.inl rfl) (pv 4))))))
   (yC (zAA (pv 2))))),?_⟩
  refine ⟨_,rfl,_,rfl,_,rfl,_,_,rfl,rfl,hb,?_⟩;refine zFS (fun σ H'=>H'=H/\ ∃(g l:Int) (r:Option V),σ= [some (.int a),some (.int b),some (.int g),some (.int l),r] /\0<g/\0<=l/\Int.gcd g l=Int.gcd a b)
   (fun (σ:L2.St) _=>match σ[3]? with | some (some (V.int l))=>l.toNat | _=>0) ⟨rfl,b,a % b,none,rfl,hb,zUc _ (by omega),zFR a b hb⟩ ?_ ?_
  ·rintro σ H' ⟨rfl,g,l,r,rfl,hg,hl,e⟩;refine ⟨_,rfl,_,_,rfl,rfl,_,rfl,?_⟩;refine yB (fun z=>?_) (fun z=>?_)
   ·have hp:0<l:=by simpa using z
    refine ⟨_,rfl,_,rfl,_,_,rfl,rfl,hp,_,rfl,_,rfl,⟨rfl,l,g % l,_,rfl,hp,zUc _ (by omega),?_⟩,?_⟩
    ·rw [zFR g l hp,e]
    ·show (g % l).toNat<l.toNat;have:=zUW g hp;have:=zUc g (by omega:l≠0);omega
   ·have hz:l=0:=by
     have: ¬0<l:=by simpa using z
     omega
    subst hz;refine ⟨_,rfl,?_⟩;rw [<-e,zIM g (by omega)] at q;exact q
  ·rintro σ H' R R' hR ⟨v,e1,i,j,e2,e3,k,e4,q'⟩;exact ⟨v,e1,i,j,e2,e3,k,e4,hR _ _ q'⟩
structure ExN(K:zVK)(mg:Str->Option Value)(BN:Addr):Prop where
 mgB:mg "BadNumber" =some (.ref BN)
 inB:PySem.W.excIn K BN [.type "ValueError",.type "Exception",.type "BaseException",.type "object"] "ValueError.__new__" =true
structure FunD(K:zVK)(x qual:Str)(st:Stmt)(dV:Value)(f:Addr)(fd:FuncData):Prop where
 ex: ∃(oc:Value) (od:Option Addr) (kV doc pm:Value) (an:Option Addr) (cdv ct:Value) (osl:Array (Option Value)),
  fd=PySem.W.fnOf x qual (zAH st) (yd st) (zK st) dV kV doc pm an cdv ct/\K.lookup f=some ⟨oc,od,.func fd,osl⟩/\PySem.W.codeIn K cdv qual=true
 kp:PySem.W.keepIn K (.ref f)=true
theorem zJv{x qual:Str}{st:Stmt}{f:Addr}{oc:Value}{od an:Option Addr}{osl:Array (Option Value)}{dV kV doc pm cdv ct:Value}(l:K.lookup f=some ⟨oc,od,.func (PySem.W.fnOf x qual (zAH st) (yd st) (zK st) dV kV doc pm an cdv ct),osl⟩)
  (c:PySem.W.codeIn K cdv qual=true) (k:PySem.W.keepIn K (.ref f)=true):FunD K x qual st dV f (PySem.W.fnOf x qual (zAH st) (yd st) (zK st) dV kV doc pm an cdv ct):=⟨⟨oc,od,kV,doc,pm,an,cdv,ct,osl,rfl,l,c⟩,k⟩
theorem FunD.okX{x qual:Str}{st:Stmt}{dV:Value}{f:Addr}{fd:FuncData}{N ps:List Str}{k:Nat}{sp:Sp}(F:FunD K x qual st dV f fd)(S:FnScope N ps (zK st))(len: ∀vs H Q E,sp vs H Q E->vs.length=ps.length)
  (hbody: ∀(cdv:Value) (A:Around) (outer:List Env) (s:Shared) (H:Hp) (vs:List V) (Q:VK) (E:XK),Room k (A.deeper (envOfC qual (zK st) s.heap.objs.size f cdv))->sp vs H Q E->
   ∃t,PSs (zAx (Fly P w) P w K mg base N qual (zK st) f cdv A outer s H E) (yd st) t/\t {nx:=fun _ H'=>Q .non H',rt:=Q} (start N vs) H):FnOk P w K mg base (Fly P w) (k+1) f fd ps sp:=by
 obtain ⟨oc,od,kV,doc,pm,an,cdv,ct,osl,rfl,lk,hcd⟩:=F.ex;refine zKq lk hcd S len fun A outer s H vs Q E hr hsp=>?_;exact hbody cdv A outer s H vs Q E hr hsp
theorem Fun.toD{x qual:Str}{st:Stmt}{f:Addr}{fd:FuncData}(F:Fun K x qual st f fd):FunD K x qual st .none f fd:=⟨F.ex,F.kp⟩
def okN(x:V)(l:Int)(m:V):Bool:=match x,m with
 | .int i,.non=>decide (l<=i)
 | .int i,.int k=>decide (l<=i)&&decide (i<=k)
 | _,_=>false
def zMF(BN:Addr):Sp:=fun vs H Q E=> ∃(x:V) (l:Int) (m:V),vs= [x,.int l,m] /\Kd H x/\(m= .non\/ ∃k,m= .int k)/\(okN x l m=true->Q x H)/\(okN x l m=false->E (.ref BN) none H)
theorem zRt:FnScope ["thing","least","most"] ["thing","least","most"] (zK zBg):=fs
theorem zPr(F:FunD K "need_whole" "need_whole" zBg dN f fd)(B:Bn mg)(X:ExN K mg BN)(FW:Fun K "is_whole" "is_whole" zBz fW fdW)(bW:zL K fdW ["thing"] [])(mW:mg "is_whole" =some (.ref fW)):
  FnOk P w K mg base (Fly P w) 2 f fd ["thing","least","most"] (zMF BN):=by
 have GW:FnOk P w K mg base CX0 1 fW fdW ["thing"] zDH:=zDY FW B;refine F.okX zRt (fun vs H Q E h=>?_) (fun _ A _ s H vs Q E hr h=>?_)
 ·obtain ⟨x,l,m,rfl,_⟩:=h;rfl
 ·obtain ⟨x,l,m,rfl,kd,hm,q,qe⟩:=h;refine ⟨_,zv (zBc (zCx (zDI (zAo GW hr (by rfl) mW FW.kp bW .nil zO (zf (pv 0) yG))))
    (yC (zCQ PySem.F.excBase_ValueError X.inB zAe rfl (by rfl) X.mgB (zf zEB yG))) zAV)
   (zv (zBc (zAT zDi (pv 0) (pv 1) (zAw _)) (yC (zCQ PySem.F.excBase_ValueError X.inB zAe rfl (by rfl) X.mgB (zf zEB yG))) zAV)
   (zv (zBc (zMV (zDx (zJw (pv 2))) (zKM (zAT zAh (pv 0) (pv 2) (zAw _)))).pt (yC (zCQ PySem.F.excBase_ValueError X.inB zAe rfl (by rfl) X.mgB (zf zEB yG))) zAV)
   (yC (zAA (pv 0))))),?_⟩
  have hz:([V.str "a"] :List V).length<=sizeLine:=by show 1<=sizeLine;decide
  refine ⟨x,rfl,x,rfl,kd,_,rfl,?_⟩;cases hx:isW x with
  | false=>
   refine zZ ?_;refine ⟨hz,qe ?_⟩;cases x<;>first | rfl | cases hx
  | true=>
   refine zM ?_;obtain ⟨i,rfl⟩: ∃i,x= .int i:=by cases x<;>first | exact ⟨_,rfl⟩| cases hx
   refine ⟨_,rfl,_,rfl,i,l,rfl,rfl,_,rfl,?_⟩;refine yB (fun z=>?_) (fun z=>?_)
   ·have hi:i<l:=by simpa using z
    refine ⟨hz,qe ?_⟩;rcases hm with rfl |⟨k,rfl⟩
    ·show decide (l<=i)=false;rw [zUl (by omega)]
    ·show (decide (l<=i)&&decide (i<=k))=false;rw [zUl (by omega)];rfl
   ·have hi:l<=i:=by
     have: ¬i<l:=by simpa using z
     omega
    rcases hm with rfl |⟨k,rfl⟩
    ·refine ⟨_,rfl,_,rfl,?_⟩;refine zM ?_;refine zM ?_;exact ⟨_,rfl,q (zUi hi)⟩
    ·refine ⟨_,rfl,_,rfl,?_⟩;refine zZ ?_;refine ⟨_,rfl,_,rfl,i,k,rfl,rfl,_,rfl,?_⟩;refine yB (fun z2=>?_) (fun z2=>?_)
     ·have hk:k<i:=by simpa using z2
      refine ⟨hz,qe ?_⟩;show (decide (l<=i)&&decide (i<=k))=false;rw [zUl (show¬i<=k by omega),Bool.and_false]
     ·have hk:i<=k:=by
       have: ¬k<i:=by simpa using z2
       omega
      refine ⟨_,rfl,q ?_⟩;show (decide (l<=i)&&decide (i<=k))=true;rw [zUi hi,zUi hk];rfl
def zGm(H:Hp)(Q:VK)(xs:List V):Prop:= ∀r H',zE H H'->H r=none->H' r=some (.tup xs)->Q (.ref r) H'
theorem zGm.new(h:zGm H Q xs)(hp:H p=none):Q (.ref p) (upd H p (.tup xs)):=
 h p _ (fun b o e=>by rw [zG (zI e hp)];exact e) hp zC
def zFt(BN:Addr):Sp:=fun vs H Q E=> ∃x y:V,vs= [x,y] /\Kd H x/\Kd H y/\
 (∀a b:Int,x= .int a->y= .int b->0<b->Sz 4000 a/\Sz 4000 b/\zGm H Q [.int (fa a b),.int (fb a b)])/\((isW x=false\/okN y 1 .non=false)->E (.ref BN) none H)
theorem zMn:FnScope ["above","below","divisor"] ["above","below"] (zK zCg):=fs
theorem zQT(F:FunD K "fraction" "fraction" zCg dF f fd)(B:Bn mg)(X:ExN K mg BN)
  (FW:Fun K "is_whole" "is_whole" zBz fW fdW) (bW:zL K fdW ["thing"] []) (mW:mg "is_whole" =some (.ref fW))
  (FN:FunD K "need_whole" "need_whole" zBg dN fN fdN) (bN:zL K fdN ["thing","least","most"] [.none]) (mN:mg "need_whole" =some (.ref fN))
  (FD:Fun K "common_divisor" "common_divisor" zFK fD fdD) (bD:zL K fdD ["above","below"] []) (mD:mg "common_divisor" =some (.ref fD)):
  FnOk P w K mg base (Fly P w) 3 f fd ["above","below"] (zFt BN):=by
 have GW:FnOk P w K mg base CX0 1 fW fdW ["thing"] zDH:=zDY FW B;have GN:FnOk P w K mg base (Fly P w) 2 fN fdN ["thing","least","most"] (zMF BN):=zPr FN B X FW bW mW;have GD:FnOk P w K mg base CX0 1 fD fdD ["above","below"] zHt:=zIv FD;refine F.okX zMn (fun vs H Q E h=>?_) (fun _ A _ s H vs Q E hr h=>?_)
 ·obtain ⟨x,y,rfl,_⟩:=h;rfl
 ·obtain ⟨x,y,rfl,kx,ky,q,qe⟩:=h;have hr1:Room 1 _:=hr.mono (by decide);refine ⟨_,zv (zBc (zCx (zDI (zAo GW hr1 (by rfl) mW FW.kp bW .nil zO (zf (pv 0) yG))))
    (yC (zCQ PySem.F.excBase_ValueError X.inB zAe rfl (by rfl) X.mgB (zf zEB yG))) zAV)
   (zv (zKJ (zIX GN hr (by rfl) mN FN.kp bN (.cons (show L2.zU .non Value.none from rfl) .nil) zFP (zf (pv 1) (zf zt yG))))
   (zv (zAM (i:=2) zMn.nd rfl (Or.inl rfl) (zAo GD hr1 (by rfl) mD FD.kp bD .nil zO (zf (pv 0) (zf (pv 1) yG))))
   (yC (zAA (zGb (zf (yf zFJ (pv 0) (pv 2)) (zf (yf zFJ (pv 1) (pv 2)) yG))))))),?_⟩
  refine ⟨x,rfl,x,rfl,kx,_,rfl,?_⟩;cases hx:isW x with
  | false=>
   refine zZ ?_;exact ⟨by show 1<=sizeLine;decide,qe (.inl hx)⟩
  | true=>
   refine zM ?_;obtain ⟨a,rfl⟩: ∃i,x= .int i:=by cases x<;>first | exact ⟨_,rfl⟩| cases hx
   refine ⟨y,rfl,y,1,.non,rfl,ky,.inl rfl,fun ho=>?_,fun ho=>qe (.inr ho)⟩;obtain ⟨b,rfl,hb⟩: ∃b,y= .int b/\0<b:=by
    cases y<;>first |(rename_i b;exact ⟨b,rfl,by have:(1:Int)<=b:=zUt ho;omega⟩)| cases ho
   obtain ⟨za,zb,q⟩:=q a b rfl rfl hb;have hg:=zCN a hb;have zg:Sz 4000 ((Int.gcd a b:Nat):Int):=by
    have h1:=Int.gcd_le_right a hb;unfold Sz at*;omega
   refine ⟨_,rfl,_,rfl,a,b,rfl,hb,?_⟩;refine ⟨_,rfl,_,rfl,_,_,rfl,rfl,⟨hg,zg⟩,_,rfl,_,rfl,_,_,rfl,rfl,⟨hg,zg⟩,by show 2<=sizeLine;decide,fun p hp=>?_⟩;exact q.new hp
def zBR:List V->Bool
 | [.int a,.int b] =>decide (0<b)&&decide (Int.gcd a b=1)
 | _=>false
inductive NoT (H:Hp):V->Prop
 | non:NoT H .non
 | str (x:Str):NoT H (.str x)
 | int (i:Int):NoT H (.int i)
 | lst {a:Addr} {xs:List V} (e:H a=some (.lst xs)):NoT H (.ref a)
theorem zNL(K:zVK)(k:NoT H x): ∃t,TyOf K H x t/\PySem.W.kitOne K t (.type "tuple")=some false:=by
 cases k with
 | non=>exact ⟨_,.non,zED K⟩
 | str x=>exact ⟨_,.str x,zFC K⟩
 | int i=>exact ⟨_,.int i,zEy K⟩
 | lst e=>exact ⟨_,.lst e,zEJ K⟩
def zHl:Sp:=fun vs H Q _=> ∃x:V,vs= [x] /\((NoT H x/\Q (.bl false) H)\/ ∃p xs,x= .ref p/\H p=some (.tup xs)/\(∀y∈xs,Kd H y)/\Q (.bl (zBR xs)) H)
theorem zTB:FnScope ["thing"] ["thing"] (zK zHE):=fs
theorem zSh(F:Fun K "is_fraction" "is_fraction" zHE f fd)(B:Bn mg)
  (FW:Fun K "is_whole" "is_whole" zBz fW fdW) (bW:zL K fdW ["thing"] []) (mW:mg "is_whole" =some (.ref fW))
  (FD:Fun K "common_divisor" "common_divisor" zFK fD fdD) (bD:zL K fdD ["above","below"] []) (mD:mg "common_divisor" =some (.ref fD)):
  FnOk P w K mg base CX0 2 f fd ["thing"] zHl:=by
 have GW:FnOk P w K mg base CX0 1 fW fdW ["thing"] zDH:=zDY FW B;have GD:FnOk P w K mg base CX0 1 fD fdD ["above","below"] zHt:=zIv FD;refine F.ok zTB (fun vs H Q E h=>?_) (fun _ A _ s H vs Q E hr h=>?_)
 ·obtain ⟨x,rfl,_⟩:=h;rfl
 ·obtain ⟨x,rfl,h⟩:=h;refine ⟨_,zv (zBc (zHv (zCx (zDI (zBq zDl (by rfl) B.isi ze (zf (pv 0) (zf (zEb (v:= .ty "tuple") (by rfl) B.tuple zBs rfl) yG)))))
    (zJB (zAT zDd (zBq zCY (by rfl) B.len zAU (zf (pv 0) yG)) zt (zAw _)))).pt (yC (zAA zLd)) zAV)
   (zv (zBc (zHv (zCx (zDI (zAo GW hr (by rfl) mW FW.kp bW .nil zO (zf (zAF yz (pv 0) zt (fun _ _=>rfl)) yG))))
     (zHv (zCx (zDI (zAo GW hr (by rfl) mW FW.kp bW .nil zO (zf (zAF yz (pv 0) zt (fun _ _=>rfl)) yG))))
      (zJB (zAT zDi (zAF yz (pv 0) zt (fun _ _=>rfl)) zt (zAw _))))).pt (yC (zAA zLd)) zAV)
   (yC (zAA (zKS zAI (zAo GD hr (by rfl) mD FD.kp bD .nil zO (zf (zAF yz (pv 0) zt (fun _ _=>rfl)) (zf (zAF yz (pv 0) zt (fun _ _=>rfl)) yG))) zt (zAw _))))),?_⟩
  rcases h with ⟨nt,q⟩|⟨p,xs,rfl,hp,hk,q⟩
  ·obtain ⟨t,ty,e⟩:=zNL K nt;refine ⟨_,rfl,_,.ty "tuple",t,.type "tuple",_,rfl,rfl,ty,e,_,rfl,?_⟩;refine zZ ?_;refine zZ ?_;exact q
  ·refine ⟨_,rfl,_,.ty "tuple",_,.type "tuple",_,rfl,rfl,.tup hp,zBL K,_,rfl,?_⟩;refine zM ?_;refine ⟨_,rfl,p,xs,rfl,.inr (SqT.of hp),rfl,_,rfl,?_⟩;by_cases hl:xs.length=2
   ·obtain ⟨y,z,rfl⟩: ∃y z,xs= [y,z] :=by
     match xs,hl with
     | [y,z],_=>exact ⟨y,z,rfl⟩
    have ky:Kd H y:=hk y (by simp);have kz:Kd H z:=hk z (by simp);refine zOg rfl ?_;refine ⟨_,rfl,p,_,_,y,rfl,rfl,SqT.of hp,rfl,y,rfl,ky,_,rfl,?_⟩;cases hy:isW y with
    | false=>
     refine zZ ?_;refine zZ ?_;have:zBR [y,z] =false:=by cases y<;>first | rfl | cases hy
     rw [this] at q;exact q
    | true=>
     obtain ⟨a,rfl⟩: ∃i,y= .int i:=by cases y<;>first | exact ⟨_,rfl⟩| cases hy
     refine zM ?_;refine ⟨_,rfl,p,_,_,z,rfl,rfl,SqT.of hp,rfl,z,rfl,kz,_,rfl,?_⟩;cases hz:isW z with
     | false=>
      refine zZ ?_;refine zZ ?_;have:zBR [.int a,z] =false:=by cases z<;>first | rfl | cases hz
      rw [this] at q;exact q
     | true=>
      obtain ⟨b,rfl⟩: ∃i,z= .int i:=by cases z<;>first | exact ⟨_,rfl⟩| cases hz
      refine zM ?_;refine ⟨_,rfl,p,_,_,_,rfl,rfl,SqT.of hp,rfl,b,1,rfl,rfl,_,rfl,?_⟩;refine yB (fun c=>?_) (fun c=>?_)
      ·have hb: ¬0<b:=by
        have:b<1:=by simpa using c
        omega
       have:zBR [.int a,.int b] =false:=by
        show (decide (0<b)&&_)=false;rw [zUl hb];rfl
       rw [this] at q;exact q
      ·have hb:0<b:=by
        have: ¬b<1:=by simpa using c
        omega
       refine ⟨_,rfl,p,_,_,_,rfl,rfl,SqT.of hp,rfl,_,rfl,p,_,_,_,rfl,rfl,SqT.of hp,rfl,a,b,rfl,hb,rfl,?_⟩;have:zBR [.int a,.int b] =decide (V.int ((Int.gcd a b:Nat):Int)=V.int 1):=by
        show (decide (0<b)&&decide (Int.gcd a b=1))=_;rw [zUi hb,Bool.true_and];rw [zVU];simp;omega
       rw [this] at q;exact q
   ·have e1:zBR xs=false:=by
     match xs,hl with
     | [],_=>rfl
     | [x],_=>cases x<;>rfl
     | [x,y],h=>exact absurd rfl h
     | x::y::z::r,_=>cases x<;>cases y<;>rfl
    rw [e1] at q;have e2:decide (V.int (xs.length:Int)=V.int 2)=false:=by
     rw [zUl];intro z;injection z with z;omega
    rw [e2];refine zZ ?_;exact q
abbrev Tp(H:Hp)(p:Addr)(a b:Int):Prop:=H p=some (.tup [.int a,.int b])
def zJA:Sp:=fun vs H Q _=> ∃(p q:Addr) (a b c d:Int),vs= [.ref p,.ref q] /\Tp H p a b/\Tp H q c d/\0<b/\0<d/\Sz 1900 a/\Sz 1900 b/\Sz 1900 c/\Sz 1900 d/\zGm H Q [.int (fa (a*c) (b*d)),.int (fb (a*c) (b*d))]
theorem zSR:FnScope ["one","other"] ["one","other"] (zK zGL):=fs
theorem zNd(G:FnOk P w K mg base (Fly P w) k f fd ["above","below"] (zFt BN)):
  FnOk P w K mg base CX0 k f fd ["above","below"] (fun vs H Q _=> ∃a b:Int,vs= [.int a,.int b] /\0<b/\Sz 4000 a/\Sz 4000 b/\zGm H Q [.int (fa a b),.int (fb a b)]):=
 ⟨fun vs H Q E ⟨a,b,e,_⟩=>by rw [e];rfl,fun A outer s H args us vs Q E hr he hb hv hs=>by
  obtain ⟨a,b,rfl,hp,za,zb,q⟩:=hs;refine zVI (G.run A outer s H args us _ Q (fun _ _ _=>False) hr he hb hv ⟨.int a,.int b,rfl,.int a,.int b,fun a' b' e1 e2 _=>?_,fun z=>?_⟩) fun r s' h=>?_
  ·cases e1;cases e2;exact ⟨za,zb,q⟩
  ·rcases z with z | z
   ·cases z
   ·have: ¬(1:Int)<=b:=of_decide_eq_false z;omega
  ·cases r with
   | ok fl=>cases fl<;>exact h
   | error e=>
    obtain ⟨_,_,_,_,_,_,_,_,_,_,_,z⟩:=h;exact z⟩
theorem zPW(F:Fun K "product_of" "product_of" zGL f fd)(FF:FunD K "fraction" "fraction" zCg dF fF fdF)(bF:zL K fdF ["above","below"] [])(mF:mg "fraction" =some (.ref fF))
  (GF:FnOk P w K mg base (Fly P w) 3 fF fdF ["above","below"] (zFt BN)):FnOk P w K mg base CX0 4 f fd ["one","other"] zJA:=by
 have GF':=zNd GF;refine F.ok zSR (fun vs H Q E h=>?_) (fun _ A _ s H vs Q E hr h=>?_)
 ·obtain ⟨p,q,a,b,c,d,rfl,_⟩:=h;rfl
 ·obtain ⟨p,q,a,b,c,d,rfl,hp,hq,hb,hd,za,zb,zc,zd,k⟩:=h;refine ⟨_,yC (zAA (zAo GF' hr (by rfl) mF FF.kp bF .nil zO (zf (yf zDM (zAF yz (pv 0) zt (fun _ _=>rfl)) (zAF yz (pv 1) zt (fun _ _=>rfl)))
   (zf (yf zDM (zAF yz (pv 0) zt (fun _ _=>rfl)) (zAF yz (pv 1) zt (fun _ _=>rfl))) yG)))),?_⟩
  have m4: ∀{x:Int},Sz 1900 x->Sz 4000 x:=fun h=>h.mono (by decide);refine ⟨_,rfl,p,_,_,_,rfl,rfl,SqT.of hp,rfl,_,rfl,q,_,_,_,rfl,rfl,SqT.of hq,rfl,a,c,rfl,rfl,⟨m4 za,m4 zc⟩,
   _,rfl,p,_,_,_,rfl,rfl,SqT.of hp,rfl,_,rfl,q,_,_,_,rfl,rfl,SqT.of hq,rfl,b,d,rfl,rfl,⟨m4 zb,m4 zd⟩,_,_,rfl,Int.mul_pos hb hd,?_,?_,k⟩
  ·exact (za.mul zc).mono (by decide)
  ·exact (zb.mul zd).mono (by decide)
def zNH:Sp:=fun vs H Q _=> ∃b e:Int,vs= [.int b,.int e] /\0<=e/\e<=200/\Sz 4 b/\Q (.int (b^e.toNat)) H
theorem zCP:FnScope ["base","exponent","product","square","left"] ["base","exponent"] (zK zGQ):=fs
theorem zQS(F:Fun K "whole_power" "whole_power" zGQ f fd):FnOk P w K mg base CX0 1 f fd ["base","exponent"] zNH:=by
 refine F.ok zCP (fun vs H Q E h=>?_) (fun _ A _ s H vs Q E hr h=>?_)
 ·obtain ⟨a,b,rfl,_⟩:=h;rfl
 ·obtain ⟨b,e,rfl,h0,h5,zb,q⟩:=h;refine ⟨_,zv (zAM (i:=2) zCP.nd rfl (Or.inl rfl) zt) (zv (zAM (i:=3) zCP.nd rfl (Or.inl rfl) (pv 0)) (zv (zAM (i:=4) zCP.nd rfl (Or.inl rfl) (pv 1))
   (zv (zFW PassesOwn.never (zAT zAh (pv 4) zt (zAw _))
    (zv (zBc (zAT zAI (yf zBw (pv 4) zt) zt (zAw _)) (yC (zAM (i:=2) zCP.nd rfl (Or.inl rfl) (yf zDM (pv 2) (pv 3)))) zAV)
    (zv (zAM (i:=4) zCP.nd rfl (Or.inl rfl) (yf zJj (pv 4) zt))
    (yC (zBc (zAT zAh (pv 4) zt (zAw _)) (yC (zAM (i:=3) zCP.nd rfl (Or.inl rfl) (yf zDM (pv 3) (pv 3)))) zAV)))))
   (yC (zAA (pv 2)))))),?_⟩
  refine ⟨_,rfl,_,rfl,?_⟩;refine zFS (fun σ H'=>H'=H/\ ∃(pr sq l:Int),σ= [some (.int b),some (.int e),some (.int pr),some (.int sq),some (.int l)] /\PowI b e.toNat pr sq l)
   (fun (σ:L2.St) _=>match σ[4]? with | some (some (V.int l))=>l.toNat | _=>0) ⟨rfl,1,b,e,rfl,PowI.start b h0⟩ ?_ ?_
  ·rintro σ H' ⟨rfl,pr,sq,l,rfl,J⟩;refine ⟨_,rfl,_,_,rfl,rfl,_,rfl,?_⟩;refine yB (fun z=>?_) (fun z=>?_)
   ·have hp:0<l:=by simpa using z
    obtain ⟨z1,z2⟩:=J.sz hp zb;have hE:4*e.toNat+1<=1501:=by omega
    have y1:Sz 1501 pr:=z1.mono hE;have y2:Sz 1501 sq:=z2.mono hE;refine ⟨_,rfl,_,_,rfl,rfl,(by show (0:Int)<2;decide),rfl,_,rfl,?_⟩;have c2:zKz l 2:=⟨by decide,by decide⟩;refine yB (fun o=>?_) (fun o=>?_)
    ·have ho:l % 2=1:=by
      have o':=zUt o;injection o'
     refine ⟨_,rfl,_,rfl,_,_,rfl,rfl,⟨y1.mono (by decide),y2.mono (by decide)⟩,_,rfl,_,_,rfl,rfl,c2,_,rfl,_,_,rfl,rfl,_,rfl,?_⟩;refine yB (fun g=>?_) (fun g=>?_)
     ·refine ⟨_,rfl,_,rfl,_,_,rfl,rfl,⟨y2.mono (by decide),y2.mono (by decide)⟩,⟨rfl,_,_,_,rfl,J.odd ho⟩,?_⟩;show (l/2).toNat<l.toNat;omega
     ·have hg: ¬0<l/2:=by simpa using g
      refine ⟨⟨rfl,_,_,_,rfl,J.odd_last ho hg⟩,?_⟩;show (l/2).toNat<l.toNat;omega
    ·have ho: ¬l % 2=1:=fun y=>o (zUi (congrArg V.int y));have hg:=J.even_last hp ho;refine ⟨_,rfl,_,_,rfl,rfl,c2,_,rfl,_,_,rfl,rfl,_,rfl,?_⟩;refine yB (fun g=>?_) (fun g=>?_)
     ·refine ⟨_,rfl,_,rfl,_,_,rfl,rfl,⟨y2.mono (by decide),y2.mono (by decide)⟩,⟨rfl,_,_,_,rfl,J.even ho⟩,?_⟩;show (l/2).toNat<l.toNat;omega
     ·exact absurd hg (by simpa using g)
   ·have hz:l=0:=by
     have: ¬0<l:=by simpa using z
     have:=J.nn;omega
    subst hz;refine ⟨_,rfl,?_⟩;rw [<-J.done] at q;exact q
  ·rintro σ H' R R' hR ⟨v,e1,i,j,e2,e3,k,e4,q'⟩;exact ⟨v,e1,i,j,e2,e3,k,e4,hR _ _ q'⟩
def zJI:Sp:=fun vs H Q _=> ∃(p:Addr) (a b:Int),vs= [.ref p] /\Tp H p a b/\zGm H Q [.int (if a<0 then -b else b),.int (if a<0 then -a else a)]
theorem zSa:FnScope ["one"] ["one"] (zK zGC):=fs
theorem zPd(F:Fun K "turned_over" "turned_over" zGC f fd):FnOk P w K mg base CX0 1 f fd ["one"] zJI:=by
 refine F.ok zSa (fun vs H Q E h=>?_) (fun _ A _ s H vs Q E hr h=>?_)
 ·obtain ⟨a,b,_,rfl,_⟩:=h;rfl
 ·obtain ⟨p,a,b,rfl,hp,k⟩:=h;refine ⟨_,zv (zBc (zAT zDi (zAF yz (pv 0) zt (fun _ _=>rfl)) zt (zAw _))
    (yC (zAA (zGb (zf (zLH zIR (zAF yz (pv 0) zt (fun _ _=>rfl))) (zf (zLH zIR (zAF yz (pv 0) zt (fun _ _=>rfl))) yG))))) zAV)
   (yC (zAA (zGb (zf (zAF yz (pv 0) zt (fun _ _=>rfl)) (zf (zAF yz (pv 0) zt (fun _ _=>rfl)) yG))))),?_⟩
  refine ⟨_,rfl,p,_,_,_,rfl,rfl,SqT.of hp,rfl,a,0,rfl,rfl,_,rfl,?_⟩;refine yB (fun z=>?_) (fun z=>?_)
  ·have ha:a<0:=by simpa using z
   refine ⟨_,rfl,p,_,_,_,rfl,rfl,SqT.of hp,rfl,b,rfl,_,rfl,p,_,_,_,rfl,rfl,SqT.of hp,rfl,a,rfl,by show 2<=sizeLine;decide,fun r hr=>?_⟩;rw [if_pos ha,if_pos ha] at k;exact k.new hr
  ·have ha: ¬a<0:=by simpa using z
   refine ⟨_,rfl,p,_,_,_,rfl,rfl,SqT.of hp,rfl,_,rfl,p,_,_,_,rfl,rfl,SqT.of hp,rfl,by show 2<=sizeLine;decide,fun r hr=>?_⟩;rw [if_neg ha,if_neg ha] at k;exact k.new hr
def zDc:Sp:=fun vs H Q _=> ∃n k:Int,vs= [.int n,.int k] /\0<=k/\k<=100/\ ∀r:Int,0<=r->r<2147483629->Q (.int r) H
theorem zPH:FnScope ["_law_number_here","_law_k"] ["_law_number_here","_law_k"] (zK zDX):=fs
theorem zGT(F:Fun K "_law_mixed" "_law_mixed" zDX f fd):FnOk P w K mg base CX0 1 f fd ["_law_number_here","_law_k"] zDc:=by
 refine F.ok zPH (fun vs H Q E h=>?_) (fun _ A _ s H vs Q E hr h=>?_)
 ·obtain ⟨n,k,rfl,_⟩:=h;rfl
 ·obtain ⟨n,k,rfl,h0,h1,q⟩:=h;refine ⟨_,zv (zAM (i:=0) zPH.nd rfl (Or.inl rfl) (yf zBw (yf zCR (yf zFv (yf zFv (yf zBw (pv 0) zt) (yf zCR (yf zCR zt (pv 1)) (pv 1))) (yf zCR zt (pv 1))) zt) zt))
   (yC (zAA (yf zBw (yf zCR (pv 0) (yf zFv zt (yf zCR zt (pv 1)))) zt))),?_⟩
  refine ⟨_,rfl,_,_,rfl,rfl,(by show (0:Int)<2147483647;decide),_,rfl,_,_,rfl,rfl,.inl ⟨by decide,by decide⟩,_,rfl,_,_,rfl,rfl,.inr ⟨by omega,by omega⟩,_,_,rfl,rfl,_,rfl,_,_,rfl,rfl,.inl ⟨by decide,by decide⟩,_,_,rfl,rfl,
   _,_,rfl,rfl,.inr ⟨by decide,by decide⟩,_,_,rfl,rfl,(by show (0:Int)<2147483647;decide),?_⟩
  refine ⟨_,rfl,_,rfl,_,_,rfl,rfl,.inl ⟨by decide,by decide⟩,_,_,rfl,rfl,_,_,rfl,rfl,.inr ⟨by omega,by omega⟩,_,_,rfl,rfl,(by show (0:Int)<2147483629;decide),?_⟩;exact q _ (zUc _ (by decide)) (zUW _ (by decide))
def zLV(K:zVK):Sp:=fun vs H Q _=> ∃(a:Addr) (ns:List Int) (k:Int),vs= [.ref a,.int k] /\SqL K H a (ns.map V.int)/\ns.length<=63/\0<=k/\k<=100/\ ∀(r:Int) H',zE H H'->0<=r->r<2147483629->Q (.int r) H'
theorem zSz:FnScope ["_law_script","_law_k"] ["_law_script","_law_k"] (zK zJR):=fs
theorem zE.upd(hp:H p=none):zE H (L2.upd H p o):=fun b u e=>by rw [zG (zI e hp)];exact e
theorem zRQ(F:Fun K "_law_number" "_law_number" zJR f fd)(B:Bn mg)(FM:Fun K "_law_mixed" "_law_mixed" zDX fM fdM)(bM:zL K fdM ["_law_number_here","_law_k"] [])(mM:mg "_law_mixed" =some (.ref fM)):
  FnOk P w K mg base CX0 2 f fd ["_law_script","_law_k"] (zLV K):=by
 have GM:FnOk P w K mg base CX0 1 fM fdM ["_law_number_here","_law_k"] zDc:=zGT FM;refine F.ok zSz (fun vs H Q E h=>?_) (fun _ A _ s H vs Q E hr h=>?_)
 ·obtain ⟨a,ns,k,rfl,_⟩:=h;rfl
 ·obtain ⟨a,ns,k,rfl,hs,hl,h0,h1,q⟩:=h;have hu:=zAD hr;refine ⟨_,zv (zBc (zAT (zJP (Nat.lt_of_succ_lt hu)) (pv 0) (zLl yG) (zAw _)) (yC (zAA (zAo GM hr (by rfl) mM FM.kp bM .nil zO (zf zt (zf (pv 1) yG))))) zAV)
   (yC (zAA (zAo GM hr (by rfl) mM FM.kp bM .nil zO (zf (zAF zKF (pv 0) (yf zBw (pv 1) (zBq zCY (by rfl) B.len zAU (zf (pv 0) yG))) (fun _ _=>rfl)) (zf (pv 1) yG))))),?_⟩
  refine ⟨_,rfl,zUZ _,fun p hp=>?_⟩;have s1:zE H (L2.upd H p (.lst [])):=zE.upd hp;refine ⟨a,p,_,rfl,rfl,s1.seq hs,SqL.of zC,_,rfl,?_⟩;cases ns with
  | nil=>
   refine zZ ?_;exact ⟨_,rfl,17,k,rfl,h0,h1,fun r r0 r1=>q r _ s1 r0 r1⟩
  | cons n ns=>
   refine zM ?_;have hlen:(0:Int)<(((n::ns).map V.int).length:Int):=by simp
   have m0:=zUc k (by omega:(((n::ns).map V.int).length:Int)≠0);have m1:=zUW k hlen;obtain ⟨j,hj⟩: ∃j:Nat,k %(((n::ns).map V.int).length:Int)=j:=⟨(k %(((n::ns).map V.int).length:Int)).toNat,by omega⟩;have hj2:j<(n::ns).length:=by
    rw [hj,zUR] at m1;omega
   refine ⟨_,rfl,_,rfl,_,rfl,a,_,rfl,.inl (s1.seq hs),_,_,rfl,rfl,hlen,a,_,_,.int ((n::ns)[j]),rfl,rfl,s1.seq hs,?_,_,rfl,_,k,rfl,h0,h1,fun r r0 r1=>q r _ s1 r0 r1⟩;rw [hj];refine zAG ?_;rw [zUP,zUK hj2];rfl
theorem zHz:FnScope ["_law_one","_law_other","_law_rest"] ["_law_one","_law_other"] (zK zEE):=fs
def zBO(x:Str):Bool:=!decide (x.cps.toList<("a" :Str).cps.toList)&&!decide (("z" :Str).cps.toList<x.cps.toList)
def zOk:Sp:=fun vs H Q _=> ∃x:Str,vs= [.str x] /\Q (.bl (zBO x)) H
theorem zSw:FnScope ["sign"] ["sign"] (zK zCz):=fs
theorem zSC(F:Fun K "is_small_letter" "is_small_letter" zCz f fd):FnOk P w K mg base CX0 1 f fd ["sign"] zOk:=by
 refine F.ok zSw (fun vs H Q E h=>?_) (fun _ A _ s H vs Q E hr h=>?_)
 ·obtain ⟨x,rfl,_⟩:=h;rfl
 ·obtain ⟨x,rfl,q⟩:=h;refine ⟨_,QB.out (zJ (zW (zPT zEK zEK zN (qw 0 rfl) zN rfl))),?_⟩;refine ⟨_,rfl,"a",x,rfl,rfl,_,rfl,?_⟩;refine yB (fun c=>?_) (fun c=>?_)
  ·refine ⟨x,"z",rfl,rfl,?_⟩;unfold zBO at q;rw [c,Bool.true_and] at q;exact q
  ·have c':(!decide (x.cps.toList<("a" :Str).cps.toList))=false:=by simpa using c
   unfold zBO at q;rw [c',Bool.false_and] at q;exact q
def zIB:List Str:= ["unit","take","let","fun","show","if","then","else","loop","for","do"]
def yY:V->Bool
 | .str x=>decide (1<=x.length)&&decide (x.length<=8)&&(x.cps.toList.all fun c=>zBO ⟨#[c]⟩)&&!inV (.str x) (zIB.map V.str)
 | _=>false
structure Gv(K:zVK)(mg:Str->Option Value)(W O:Addr):Prop where
 mw:mg "WORDS" =some (.ref W)
 kw: ∀H,SqT K H W (zIB.map V.str)
 ml: ∃t,mg "MOST_LETTERS" =some (.int 8 t)
 mo:mg "ONE" =some (.ref O)
 ko: ∀H,SqT K H O [.int 1,.int 1]
 mm: ∃t,mg "MOST_MADE" =some (.int 12 t)
 me: ∃t,mg "MOST_EXPONENT" =some (.int 64 t)
 mf: ∃t,mg "MOST_FIGURES" =some (.int 200 t)
structure Ex(K:zVK)(mg:Str->Option Value)(BA BU:Addr):Prop where
 mgA:mg "BadName" =some (.ref BA)
 inA:PySem.W.excIn K BA [.type "ValueError",.type "Exception",.type "BaseException",.type "object"] "ValueError.__new__" =true
 mgU:mg "BadUnit" =some (.ref BU)
 inU:PySem.W.excIn K BU [.type "ValueError",.type "Exception",.type "BaseException",.type "object"] "ValueError.__new__" =true
def isS:V->Bool
 | .str _=>true
 | _=>false
theorem zKs(K:zVK):PySem.W.kitOne K (.type "NoneType") (.type "str")=some false:=by kernel_rfl
theorem zLJ(K:zVK):PySem.W.kitOne K (.type "bool") (.type "str")=some false:=by kernel_rfl
theorem zMo(K:zVK):PySem.W.kitOne K (.type "str") (.type "str")=some true:=by kernel_rfl
theorem zLh(K:zVK):PySem.W.kitOne K (.type "int") (.type "str")=some false:=by kernel_rfl
theorem zKb(K:zVK):PySem.W.kitOne K (.type "list") (.type "str")=some false:=by kernel_rfl
theorem zJc(K:zVK):PySem.W.kitOne K (.type "tuple") (.type "str")=some false:=by kernel_rfl
theorem zSm(K:zVK)(k:Kd H x): ∃t,TyOf K H x t/\PySem.W.kitOne K t (.type "str")=some (isS x):=by
 cases k with
 | non=>exact ⟨_,.non,zKs K⟩
 | bl b=>exact ⟨_,.bl b,zLJ K⟩
 | int i=>exact ⟨_,.int i,zLh K⟩
 | str x=>exact ⟨_,.str x,zMo K⟩
 | lst e=>exact ⟨_,.lst e,zKb K⟩
 | tup e=>exact ⟨_,.tup e,zJc K⟩
theorem zRM(h:isS x=true): ∃z,x= .str z:=by cases x<;>first | exact ⟨_,rfl⟩| cases h
def Ths(H:Hp)(x:V):Prop:=Kd H x/\ ∀z,x= .str z->z.length<=5000
def zFz:Sp:=fun vs H Q _=> ∃x:V,vs= [x] /\Ths H x/\ ∀H',zE H H'->Q (.bl (yY x)) H'
theorem zRR:FnScope ["thing"] ["thing"] (zK zEk):=fs
theorem zQA(F:Fun K "is_name" "is_name" zEk f fd)(B:Bn mg)(G:Gv K mg W O)
  (FL:Fun K "is_small_letter" "is_small_letter" zCz fL fdL) (bL:zL K fdL ["sign"] []) (mL:mg "is_small_letter" =some (.ref fL)):FnOk P w K mg base CX0 2 f fd ["thing"] zFz:=by
 have GL:FnOk P w K mg base CX0 1 fL fdL ["sign"] zOk:=zSC FL;obtain ⟨t8,m8⟩:=G.ml;refine F.ok zRR (fun vs H Q E h=>?_) (fun _ A _ s H vs Q E hr h=>?_)
 ·obtain ⟨x,rfl,_⟩:=h;rfl
 ·obtain ⟨x,rfl,⟨kx,lx⟩,q⟩:=h;refine ⟨_,QB.out (zH
   (zq (t_w (zAr (yq (yb (yE (zBu (K:=K) rfl) rfl B.isi ze (qc (qw 0 rfl) (qc (zCv (v:= .ty "str") rfl B.str zSj rfl (by decide) rfl) zD rfl) rfl) rfl) (fun _=>rfl))) (zAu (yq (zPi zLD zLD zF (yE zIP rfl B.len zAU (qc (qw 0 rfl) zD rfl) rfl) (yg (v:= .int 8) rfl m8 ⟨t8,rfl⟩ rfl) rfl))))) (zJ
    (zW yw)) zn) (zJ
   (zW (zOi (yE (zHZ (K:=K) rfl rfl) rfl B.all zMm (qc (ye (cl:= []) ["sign"] [] [] rfl (zTM (qw 0 rfl)) rfl (by decide+kernel) rfl (by decide+kernel) (fun _ _ h=>nomatch h) rfl (fun j y i h=>nomatch h) (yL rfl) (fun _ _ _ _=>(zm 0 (show (["sign"] :List Str).Nodup by decide+kernel) rfl (.inl rfl) (.inr rfl))) (fun _ _ _ _=>zBh) (fun _ _ _ _=>(zP GL hr rfl mL FL.kp bL .nil zO (qc (qw 0 rfl) zD rfl) rfl rfl rfl)) (fun _=>rfl)) zD rfl) rfl) (zOW (zBf (zMT (K:=K) rfl) (qw 0 rfl) (yg (v:= .ref W) rfl G.mw rfl rfl) rfl)))))),?_⟩
  obtain ⟨ty,hty,hk⟩:=zSm K kx;refine ⟨_,rfl,_,.ty "str",ty,.type "str",_,rfl,rfl,hty,hk,_,rfl,?_⟩;cases hs:isS x with
  | true=>
   obtain ⟨z,rfl⟩:=zRM hs;have hz:=lx z rfl;refine zM ?_;refine ⟨_,rfl,z,rfl,by rw [zUV];omega,1,_,rfl,rfl,_,rfl,?_⟩;have nm:yY (.str z)=(decide (1<=z.length)&&decide (z.length<=8)&&(z.cps.toList.all fun c=>zBO ⟨#[c]⟩)&&!inV (.str z) (zIB.map V.str)):=rfl;refine yB (fun c1=>?_) (fun c1=>?_)
   ·refine ⟨_,_,rfl,rfl,_,rfl,?_⟩;have h1:1<=z.length:=by
     have:(1:Int)<=(z.length:Int):=zUt c1;omega
    show (if (!decide ((z.length:Int)<=8))=true then _ else _);refine yB (fun c2=>?_) (fun c2=>?_)
    ·have h8: ¬z.length<=8:=by
      have: ¬(z.length:Int)<=8:=by simpa using c2
      omega
     rw [nm,zUl h8] at q;simp only [Bool.and_false,Bool.false_and] at q;exact q H (zE.refl H)
    ·have h8:z.length<=8:=by
      have:(z.length:Int)<=8:=by simpa using c2
      omega
     refine ⟨_,rfl,z,rfl,fun D hD=>?_⟩;refine yK z.cps.size (fun i ys H'=>i<=z.cps.size/\ys=(z.cps.toList.take i).map (fun c=>V.bl (zBO ⟨#[c]⟩))/\H'=upd H D (.lst ys)) ⟨zUZ _,rfl,rfl⟩ (by have:z.cps.size=z.length:=rfl;rw [zUV];omega) ?_ ?_ ?_
     ·rintro i ys H' hi ⟨_,rfl,rfl⟩;refine ⟨by simp;omega,zC,fun h=>h,fun h=>Nat.le_of_eq h.symm⟩
     ·rintro i ys H' x H'' hi ⟨_,rfl,rfl⟩ ⟨rfl,c,hc,rfl⟩ pre hpre;obtain ⟨p0,rfl⟩:=zVN.mp hpre;refine ⟨⟨[some (.str ⟨#[c]⟩)],rfl,rfl⟩,?_⟩;refine zZ ?_;refine ⟨_,rfl,⟨#[c]⟩,rfl,zC,hi,?_,?_⟩
      ·have hc':z.cps.toList[i]?=some c:=by simpa using hc
       rw [zUh,hc',Option.toList_some,zUg];rfl
      ·rw [zAp]
     ·rintro ys H' ⟨_,rfl,rfl⟩;refine ⟨D,(z.cps.toList.take z.cps.size).map fun c=>zBO ⟨#[c]⟩,rfl,?_,_,rfl,?_⟩
      ·rw [List.map_map];exact SqL.of zC
      ·have ea:((z.cps.toList.take z.cps.size).map fun c=>zBO ⟨#[c]⟩).all id=z.cps.toList.all fun c=>zBO ⟨#[c]⟩:=by
        rw [show z.cps.size=z.cps.toList.length by simp,zUk,List.all_map];rfl
       rw [ea];rw [nm,zUi h1,zUi h8,Bool.true_and,Bool.true_and] at q;refine yB (fun c3=>?_) (fun c3=>?_)
       ·rw [c3,Bool.true_and] at q;refine ⟨_,rfl,W,_,rfl,.inr (G.kw _),rfl,by decide+kernel,q _ (zE.upd hD)⟩
       ·have c3':(z.cps.toList.all fun c=>zBO ⟨#[c]⟩)=false:=by simpa using c3
        rw [c3',Bool.false_and] at q;exact q _ (zE.upd hD)
   ·have h1: ¬1<=z.length:=by
     have: ¬(1:Int)<=(z.length:Int):=fun y=>c1 (zUi y);omega
    rw [nm,zUl h1] at q;simp only [Bool.false_and] at q;refine ⟨_,rfl,?_⟩;refine zZ ?_;exact q H (zE.refl H)
  | false=>
   refine zZ ?_;refine zZ ?_;have:yY x=false:=by cases x<;>first | rfl | cases hs
   rw [this] at q;exact q H (zE.refl H)
def zEn(BA:Addr):Sp:=fun vs H Q E=> ∃x:V,vs= [x] /\Ths H x/\(yY x=true-> ∀H',zE H H'->Q x H')/\(yY x=false-> ∀H',zE H H'->E (.ref BA) none H')
theorem zQZ:FnScope ["thing"] ["thing"] (zK zDA):=fs
theorem zNV(F:Fun K "need_name" "need_name" zDA f fd)(B:Bn mg)(X:Ex K mg BA BU)
  (FN:Fun K "is_name" "is_name" zEk fN fdN) (bN:zL K fdN ["thing"] []) (mN:mg "is_name" =some (.ref fN)) (GN:FnOk P w K mg base CX0 2 fN fdN ["thing"] zFz):FnOk P w K mg base (Fly P w) 3 f fd ["thing"] (zEn BA):=by
 refine (Fr.Fun.toD F).okX zQZ (fun vs H Q E h=>?_) (fun _ A _ s H vs Q E hr h=>?_)
 ·obtain ⟨x,rfl,_⟩:=h;rfl
 ·obtain ⟨x,rfl,tx,q,qe⟩:=h;refine ⟨_,QB.out (zH
   (zq (yq (yb (zP GN hr rfl mN FN.kp bN .nil zO (qc (qw 0 rfl) zD rfl) rfl rfl rfl) (fun _=>rfl))) (zJ
    (zAa X.inA zAe rfl rfl X.mgA (qc zN zD rfl) rfl rfl rfl)) zn) (zJ
   (zW (qw 0 rfl)))),?_⟩
  refine ⟨_,rfl,x,rfl,tx,fun H' s'=>?_⟩;cases hx:yY x with
  | true=>
   refine ⟨_,rfl,zM ?_⟩;exact ⟨_,rfl,q hx H' s'⟩
  | false=>
   refine ⟨_,rfl,zZ ?_⟩;exact ⟨by show 1<=sizeLine;decide,qe hx H' s'⟩
def Nm(n:Str):Prop:=yY (.str n)=true
theorem Nm.len(h:Nm n):n.length<=8:=by
 unfold Nm yY at h;simp only [zVM,decide_eq_true_eq] at h;exact h.1.1.2
theorem Kd.same(h:Kd H x)(s:zE H H'):Kd H' x:=by
 cases h with
 | non=>exact .non
 | bl b=>exact .bl b
 | int i=>exact .int i
 | str x=>exact .str x
 | lst e=>exact .lst (s _ _ e)
 | tup e=>exact .tup (s _ _ e)
inductive NoTp (H:Hp):V->Prop
 | non:NoTp H .non
 | str (x:Str):NoTp H (.str x)
 | int (i:Int):NoTp H (.int i)
 | lst {a:Addr} {xs:List V} (e:H a=some (.lst xs)):NoTp H (.ref a)
theorem NoTp.ty(K:zVK)(k:NoTp H x): ∃t,TyOf K H x t/\PySem.W.kitOne K t (.type "tuple")=some false:=by
 cases k with
 | non=>exact ⟨_,.non,zED K⟩
 | str x=>exact ⟨_,.str x,zFC K⟩
 | int i=>exact ⟨_,.int i,zEy K⟩
 | lst e=>exact ⟨_,.lst e,zEJ K⟩
theorem NoTp.same(h:NoTp H x)(s:zE H H'):NoTp H' x:=by
 cases h with
 | non=>exact .non
 | str x=>exact .str x
 | int i=>exact .int i
 | lst e=>exact .lst (s _ _ e)
inductive Pr (H:Hp):V->Bool->Prop
 | good {t:Addr} {n:Str} {e:Int} (h:H t=some (.tup [.str n,.int e])) (hl:n.length<=5000):Pr H (.ref t) (yY (.str n))
 | noT {x:V} (h:NoTp H x):Pr H x false
 | len {t:Addr} {xs:List V} (h:H t=some (.tup xs)) (hl:xs.length≠2):Pr H (.ref t) false
 | noW {t:Addr} {n:Str} {x:V} (h:H t=some (.tup [.str n,x])) (hl:n.length<=5000) (k:Kd H x) (hw:isW x=false):Pr H (.ref t) false
theorem Pr.same(h:Pr H x b)(s:zE H H'):Pr H' x b:=by
 cases h with
 | good h hl=>exact .good (s _ _ h) hl
 | noT h=>exact .noT (h.same s)
 | len h hl=>exact .len (s _ _ h) hl
 | noW h hl k hw=>exact .noW (s _ _ h) hl (k.same s) hw
def zGc:Sp:=fun vs H Q _=> ∃(x:V) (b:Bool),vs= [x] /\Pr H x b/\ ∀H',zE H H'->Q (.bl b) H'
theorem zSP:FnScope ["thing"] ["thing"] (zK zEp):=fs
theorem zSD(h:n.length<=5000):Ths H (.str n):=⟨.str n,fun z e=>by cases e;exact h⟩
theorem zQY(F:Fun K "is_pair" "is_pair" zEp f fd)(B:Bn mg)
  (FN:Fun K "is_name" "is_name" zEk fN fdN) (bN:zL K fdN ["thing"] []) (mN:mg "is_name" =some (.ref fN)) (GN:FnOk P w K mg base CX0 2 fN fdN ["thing"] zFz)
  (FW:Fun K "is_whole" "is_whole" zBz fW fdW) (bW:zL K fdW ["thing"] []) (mW:mg "is_whole" =some (.ref fW)):FnOk P w K mg base CX0 3 f fd ["thing"] zGc:=by
 have GW:FnOk P w K mg base CX0 1 fW fdW ["thing"] zDH:=zDY FW B;refine F.ok zSP (fun vs H Q E h=>?_) (fun _ A _ s H vs Q E hr h=>?_)
 ·obtain ⟨x,b,rfl,_⟩:=h;rfl
 ·obtain ⟨x,b,rfl,pr,q⟩:=h;have hr1:Room 1 _:=hr.mono (by decide);refine ⟨_,QB.out (zH
   (zq (t_w (zAr (yq (yb (yE (zBu (K:=K) rfl) rfl B.isi ze (qc (qw 0 rfl) (qc (zCv (v:= .ty "tuple") rfl B.tuple zBs rfl (by decide) rfl) zD rfl) rfl) rfl) (fun _=>rfl))) (zAu (zY zDd (yE (zAy (K:=K) rfl) rfl B.len zAU (qc (qw 0 rfl) zD rfl) rfl) zF rfl)))) (zJ
    (zW yw)) zn) (zJ
   (zW (zOi (zP GN hr rfl mN FN.kp bN .nil zO (qc (zR (K:=K) rfl (qw 0 rfl) zF (fun _ _=>rfl)) zD rfl) rfl rfl rfl) (zOW (zP GW hr1 rfl mW FW.kp bW .nil zO (qc (zR (K:=K) rfl (qw 0 rfl) zF (fun _ _=>rfl)) zD rfl) rfl rfl rfl)))))),?_⟩
  have cs:(∃t n y,x= .ref t/\H t=some (.tup [.str n,y])/\n.length<=5000/\Kd H y/\(yY (.str n)&&isW y)=b)\/(NoTp H x/\b=false)\/ ∃t xs,x= .ref t/\H t=some (.tup xs)/\xs.length≠2/\b=false:=by
   cases pr with
   | @good t n e h hl=>exact .inl ⟨t,n,.int e,rfl,h,hl,.int e,by simp [isW]⟩
   | noT h=>exact .inr (.inl ⟨h,rfl⟩)
   | @len t xs h hl=>exact .inr (.inr ⟨t,xs,rfl,h,hl,rfl⟩)
   | @noW t n y h hl k hw=>exact .inl ⟨t,n,y,rfl,h,hl,k,by rw [hw,Bool.and_false]⟩
  rcases cs with ⟨t,n,y,rfl,ht,hl,ky,hb⟩|⟨h,rfl⟩|⟨t,xs,rfl,h,hl,rfl⟩
  ·refine ⟨_,rfl,_,.ty "tuple",_,.type "tuple",_,rfl,rfl,.tup ht,zBL K,_,rfl,zM ?_⟩;refine ⟨_,rfl,t,_,rfl,.inr (SqT.of ht),rfl,_,rfl,?_⟩;refine zOg rfl ?_;refine ⟨_,rfl,t,_,_,_,rfl,rfl,SqT.of ht,rfl,_,rfl,zSD hl,fun H' s'=>⟨_,rfl,?_⟩⟩;cases hn:yY (.str n) with
   | true=>
    rw [hn,Bool.true_and] at hb;refine zZ ?_;exact ⟨_,rfl,t,_,_,_,rfl,rfl,SqT.of (s' _ _ ht),rfl,_,rfl,ky.same s',by rw [hb];exact q H' s'⟩
   | false=>
    rw [hn,Bool.false_and] at hb;refine zM ?_;rw [<-hb] at q;exact q H' s'
  ·obtain ⟨ty,h1,h2⟩:=h.ty K;refine ⟨_,rfl,_,.ty "tuple",_,.type "tuple",_,rfl,rfl,h1,h2,_,rfl,?_⟩;refine zZ ?_;refine zZ ?_;exact q H (zE.refl H)
  ·refine ⟨_,rfl,_,.ty "tuple",_,.type "tuple",_,rfl,rfl,.tup h,zBL K,_,rfl,zM ?_⟩;refine ⟨_,rfl,t,_,rfl,.inr (SqT.of h),rfl,_,rfl,?_⟩;refine yB (fun c=>q H (zE.refl H)) (fun c=>?_);exfalso;have:V.int (xs.length:Int)=V.int 2:=by simpa using c
   injection this with this;omega
inductive UW (H:Hp):Str->List V->Bool->Prop
 | nil (a:Str):UW H a [] true
 | bad {a:Str} {x:V} {xs:List V} (h:Pr H x false):UW H a (x::xs) false
 | stop {a:Str} {t:Addr} {n:Str} {e:Int} {xs:List V} (h:H t=some (.tup [.str n,.int e])) (nm:Nm n) (hs:e=0\/ ¬ltS a n):UW H a (.ref t::xs) false
 | step {a:Str} {t:Addr} {n:Str} {e:Int} {xs:List V} {b:Bool} (h:H t=some (.tup [.str n,.int e])) (nm:Nm n) (he:e≠0) (hl:ltS a n) (r:UW H n xs b):UW H a (.ref t::xs) b
theorem UW.same(h:UW H a xs b)(s:zE H H'):UW H' a xs b:=by
 induction h with
 | nil a=>exact .nil a
 | bad h=>exact .bad (h.same s)
 | stop h nm hs=>exact .stop (s _ _ h) nm hs
 | step h nm he hl _ ih=>exact .step (s _ _ h) nm he hl ih
def zHm:Sp:=fun vs H Q _=> ∃(x:V) (b:Bool),vs= [x] /\((NoTp H x/\b=false)\/ ∃t xs,x= .ref t/\H t=some (.tup xs)/\xs.length<=1000/\UW H "" xs b)/\ ∀H',zE H H'->Q (.bl b) H'
theorem zHy:FnScope ["thing","ahead","pair"] ["thing"] (zK zGk):=fs
theorem zRg(F:Fun K "is_unit" "is_unit" zGk f fd)(B:Bn mg)
  (FP:Fun K "is_pair" "is_pair" zEp fP fdP) (bP:zL K fdP ["thing"] []) (mP:mg "is_pair" =some (.ref fP)) (GP:FnOk P w K mg base CX0 3 fP fdP ["thing"] zGc):FnOk P w K mg base CX0 4 f fd ["thing"] zHm:=by
 refine F.ok zHy (fun vs H Q E h=>?_) (fun _ A _ s H vs Q E hr h=>?_)
 ·obtain ⟨x,b,rfl,_⟩:=h;rfl
 ·obtain ⟨x,b,rfl,kx,q⟩:=h;refine ⟨_,QB.out (zH
   (zq (yq (yb (yE (zBu (K:=K) rfl) rfl B.isi ze (qc (qw 0 rfl) (qc (zCv (v:= .ty "tuple") rfl B.tuple zBs rfl (by decide) rfl) zD rfl) rfl) rfl) (fun _=>rfl))) (zJ
    (zW yw)) zn) (zH
   (zT 1 zHy.nd rfl zN rfl) (zH
   (yt PassesOwn.never rfl (zBt (K:=K) rfl (qw 0 rfl)) (zm 2 zHy.nd rfl (Or.inl rfl) (.inr rfl)) (zH
    (zq (t_w (zAr (yq (yb (zP GP hr rfl mP FP.kp bP .nil zO (qc (qw 2 rfl) zD rfl) rfl rfl rfl) (fun _=>rfl))) (zAr (zY zAI (zR (K:=K) rfl (qw 2 rfl) zF (fun _ _=>rfl)) zF rfl) (zAu (zY zEK (zR (K:=K) rfl (qw 2 rfl) zF (fun _ _=>rfl)) (qw 1 rfl) rfl))))) (zJ
     (zW yw)) zn) (zJ
    (zT 1 zHy.nd rfl (zR (K:=K) rfl (qw 2 rfl) zF (fun _ _=>rfl)) rfl))) (fun _=>rfl)) (zJ
   (zW yw))))),?_⟩
  rcases kx with ⟨h,rfl⟩|⟨t,xs,rfl,ht,hz,uw⟩
  ·obtain ⟨ty,h1,h2⟩:=h.ty K;refine ⟨_,rfl,_,.ty "tuple",_,.type "tuple",_,rfl,rfl,h1,h2,_,rfl,?_⟩;refine zZ ?_;exact q H (zE.refl H)
  ·refine ⟨_,rfl,_,.ty "tuple",_,.type "tuple",_,rfl,rfl,.tup ht,zBL K,_,rfl,zM ?_⟩;refine ⟨_,rfl,t,rfl,⟨_,SqT.of ht⟩,?_⟩;refine yk xs.length (fun i σ H'=> ∃a v,i<=xs.length/\UW H' a (xs.drop i) b/\σ= [some (.ref t),some (.str a),v] /\zE H H') ?_ ?_ ?_ ?_ ?_
   ·exact ⟨"",none,zUZ _,uw,rfl,zE.refl H⟩
   ·rintro i σ H2 hi ⟨a,v,_,_,_,s2⟩;exact ⟨_,_,SqT.of (s2 _ _ ht),zUK hi⟩
   ·rintro σ H2 ⟨a,v,_,_,_,s2⟩;exact ⟨_,SqT.of (s2 _ _ ht),zUO _⟩
   ·rintro i σ H2 x H3 hi ⟨a,v,_,u2,rfl,s2⟩ ⟨rfl,hx⟩;have hx':=hx _ (SqT.of (s2 _ _ ht));rw [zUK hi] at hx';cases hx';have ed:xs.drop i=xs[i] ::xs.drop (i+1):=(List.getElem_cons_drop hi).symm;rw [ed] at u2;generalize hX:xs[i] =x at u2;cases u2 with
    | bad h=>
     refine ⟨_,rfl,x,false,rfl,h,fun H4 s4=>⟨_,rfl,?_⟩⟩;exact zZ (zZ (q H4 (s2.trans s4)))
    | @stop _ tt n e _ h nm hs=>
     have hp:Pr H3 (.ref tt) true:=by have z:=Pr.good h (by have:=nm.len;omega);rw [show yY (.str n)=true from nm] at z;exact z
     refine ⟨_,rfl,_,true,rfl,hp,fun H4 s4=>⟨_,rfl,zM ?_⟩⟩;have h4:=s4 _ _ h;refine ⟨_,rfl,tt,_,_,_,rfl,rfl,SqT.of h4,rfl,rfl,_,rfl,?_⟩;refine yB (fun c=>zZ (q H4 (s2.trans s4))) (fun c=>?_);have he:e≠0:=fun z=>c (by rw [z];rfl);refine ⟨_,rfl,tt,_,_,_,rfl,rfl,SqT.of h4,rfl,_,rfl,n,a,rfl,rfl,_,rfl,?_⟩;have hl: ¬ltS a n:=hs.resolve_left he;have hd:(!decide (a.cps.toList<n.cps.toList))=true:=by rw [zUl (show¬a.cps.toList<n.cps.toList from hl)];rfl
     rw [hd];exact zZ (q H4 (s2.trans s4))
    | @step _ tt n e _ _ h nm he hl r=>
     have hp:Pr H3 (.ref tt) true:=by have z:=Pr.good h (by have:=nm.len;omega);rw [show yY (.str n)=true from nm] at z;exact z
     refine ⟨_,rfl,_,true,rfl,hp,fun H4 s4=>⟨_,rfl,zM ?_⟩⟩;have h4:=s4 _ _ h;refine ⟨_,rfl,tt,_,_,_,rfl,rfl,SqT.of h4,rfl,rfl,_,rfl,?_⟩;refine yB (fun c=>?_) (fun c=>?_)
     ·exfalso;have:V.int e=V.int 0:=zUt c;injection this with this;exact he this
     ·refine ⟨_,rfl,tt,_,_,_,rfl,rfl,SqT.of h4,rfl,_,rfl,n,a,rfl,rfl,_,rfl,?_⟩;have hd:(!decide (a.cps.toList<n.cps.toList))=false:=by rw [zUi (show a.cps.toList<n.cps.toList from hl)];rfl
      rw [hd];refine zM ?_;exact ⟨_,rfl,tt,_,_,_,rfl,rfl,SqT.of h4,rfl,n,_,hi,r.same s4,rfl,s2.trans s4⟩
   ·rintro σ H2 ⟨a,v,_,u2,rfl,s2⟩;rw [List.drop_length] at u2;cases u2;exact q H2 s2
def yo(ks:List Str)(ps:List (Str×Int)):List (Key×V):=ks.map fun n=>((Sum.inr n:Key),V.int (tot ps n))
theorem zFO(ps:List (Str×Int))(m:Str)(e:Int)(n:Str):tot (ps++ [(m,e)]) n=tot ps n+if m=n then e else 0:=by
 rw [zDW];simp [tot]
theorem zBk{ps:List (Str×Int)}:yI (yo ks ps) (Sum.inr m)=if m∈ks then some (V.int (tot ps m)) else none:=by
 induction ks with
 | nil=>simp [yo,zNU]
 | cons k ks ih=>
  by_cases e:k=m
  ·subst e;rw [if_pos (by simp)];exact zAb rfl
  ·have e': ¬(Sum.inr k:Key)=Sum.inr m:=fun z=>e (Sum.inr.inj z);have:=zAd (p:=((Sum.inr k:Key),V.int (tot ps k))) (r:=yo ks ps) (k:=Sum.inr m) e';rw [show yo (k::ks) ps=((Sum.inr k:Key),V.int (tot ps k))::yo ks ps from rfl,this,ih];by_cases hm:m∈ks
   ·rw [if_pos hm,if_pos (by simp [hm])]
   ·rw [if_neg hm,if_neg (by simp [hm,Ne.symm e])]
theorem zGy{ps:List (Str×Int)}(hk: ∀n,n∈ks↔n∈ps.map (·.1)):
  ∃ks',zAP (yo ks ps) (Sum.inr m) (.int (tot ps m+e))=yo ks' (ps++ [(m,e)])/\(ks.Nodup->ks'.Nodup)/\(∀n,n∈ks'↔n∈(ps++ [(m,e)]).map (·.1))/\ks'.length<=ks.length+1:=by
 have hany:((yo ks ps).any fun kv=>decide (kv.1=Sum.inr m))=decide (m∈ks):=by
  rw [zCV,zBk];by_cases h:m∈ks<;>simp [h]
 by_cases hm:m∈ks
 ·refine ⟨ks,?_,fun h=>h,fun n=>?_,by omega⟩
  ·unfold zAP;rw [hany,zUi hm,if_pos rfl];unfold yo;rw [List.map_map];refine List.map_congr_left fun n _=>?_;simp only [Function.comp];rw [zFO];by_cases e':n=m
   ·subst e';rw [if_pos rfl,if_pos rfl]
   ·rw [if_neg (fun z=>e' (Sum.inr.inj z)),if_neg (fun z=>e' z.symm),Int.add_zero]
  ·rw [zUg,zVO,<-hk n];constructor
   ·exact Or.inl
   ·rintro (h | h)
    ·exact h
    ·have:n=m:=by simpa using h
     rw [this];exact hm
 ·refine ⟨ks++ [m],?_,fun h=>?_,fun n=>?_,by simp⟩
  ·unfold zAP;rw [hany,zUl hm,if_neg zUX];have t0:tot ps m=0:=zBS fun z=>hm ((hk m).mpr z);unfold yo;rw [zUg];congr 1
   ·refine List.map_congr_left fun n hn=>?_;rw [zFO,if_neg (fun z=>hm (by rw [z];exact hn)),Int.add_zero]
   ·show [((Sum.inr m:Key),V.int (tot ps m+e))] = [((Sum.inr m:Key),V.int (tot (ps++ [(m,e)]) m))];rw [zFO,if_pos rfl]
  ·rw [List.nodup_append];exact ⟨h,by simp,fun a ha b hb z=>hm (by have:b=m:=(by simpa using hb);rw [<-this,<-z];exact ha)⟩
  ·rw [zUg,zVO,zVO,hk n];simp
abbrev yD(H:Hp)(ts:List Addr)(ps:List (Str×Int)):Prop:=Paired (fun (t:Addr) (p:Str×Int)=>H t=some (.tup [.str p.1,.int p.2])) ts ps
theorem yD.same{ps:List (Str×Int)}(h:yD H ts ps)(s:zE H H'):yD H' ts ps:=by
 induction h with
 | nil=>exact .nil
 | cons h _ ih=>exact .cons (s _ _ h) ih
theorem yD.get{H:Hp}{ts:List Addr}{ps:List (Str×Int)}(h:yD H ts ps){i:Nat}{t:Addr}(e:ts[i]?=some t): ∃n x,ps[i]?=some (n,x)/\H t=some (.tup [.str n,.int x]):=by
 induction h generalizing i with
 | nil=>simp at e
 | @cons a p l1 l2 h _ ih=>
  cases i with
  | zero=>simp at e;subst e;exact ⟨p.1,p.2,rfl,h⟩
  | succ i=>exact ih (by simpa using e)
theorem yD.append{ps qs:List (Str×Int)}(h:yD H ts ps)(k:yD H us qs):yD H (ts++us) (ps++qs):=by
 induction h with
 | nil=>exact k
 | cons h _ ih=>exact .cons h ih
theorem zE.store(s:zE H H')(hD:H D=none):zE H (L2.upd H' D o):=fun b u e=>by rw [zG (zI e hD)];exact s b u e
theorem yD.store{ps:List (Str×Int)}(h:yD H ts ps)(hD:H D=some (.lst xs)):yD (L2.upd H D o) ts ps:=by
 induction h with
 | nil=>exact .nil
 | cons h1 _ ih=>exact .cons (by rw [zG (zDf h1 hD (by intro z;cases z))];exact h1) ih
theorem zFD(K:zVK):PySem.W.kitOne K (.type "list") (.type "list")=some true:=by kernel_rfl
def zx(H:Hp)(u:Addr)(ps:List (Str×Int)):Prop:= ∃us:List Addr,H u=some (.tup (us.map V.ref))/\yD H us ps
def zFU(H:Hp)(Q:VK)(ps:List (Str×Int)):Prop:= ∀u us H',zE H H'->IsU ps us->us.length<=ps.length->zx H' u us->Q (.ref u) H'
inductive NoLs (H:Hp):V->Prop
 | non:NoLs H .non
 | str (x:Str):NoLs H (.str x)
 | tup {a:Addr} {xs:List V} (e:H a=some (.tup xs)):NoLs H (.ref a)
 | dic {a:Addr} {kvs:List (Key×V)} (e:H a=some (.dK kvs)):NoLs H (.ref a)
theorem zJW(K:zVK):PySem.W.kitOne K (.type "NoneType") (.type "list")=some false:=by kernel_rfl
theorem zLI(K:zVK):PySem.W.kitOne K (.type "str") (.type "list")=some false:=by kernel_rfl
theorem zJK(K:zVK):PySem.W.kitOne K (.type "tuple") (.type "list")=some false:=by kernel_rfl
theorem zJT(K:zVK):PySem.W.kitOne K (.type "dict") (.type "list")=some false:=by kernel_rfl
theorem NoLs.ty(K:zVK)(k:NoLs H x): ∃t,TyOf K H x t/\PySem.W.kitOne K t (.type "list")=some false:=by
 cases k with
 | non=>exact ⟨_,.non,zJW K⟩
 | str x=>exact ⟨_,.str x,zLI K⟩
 | tup e=>exact ⟨_,.tup e,zJK K⟩
 | dic e=>exact ⟨_,.dK e,zJT K⟩
def zTo(H:Hp)(x:V):Prop:=NoLs H x\/ ∃l xs bs,x= .ref l/\H l=some (.lst xs)/\xs.length<60/\Paired (Pr H) xs bs/\bs.all id=false
def PsL(H:Hp)(l:Addr)(ps:List (Str×Int)):Prop:= ∃ts:List Addr,H l=some (.lst (ts.map V.ref))/\yD H ts ps
def zIQ(BU:Addr):Sp:=fun vs H Q E=> ∃x,vs= [x] /\((∃l ps,x= .ref l/\PsL H l ps/\(∀p∈ps,Nm p.1)/\ps.length<60/\zFU H Q ps)\/(zTo H x/\ ∀H',zE H H'->E (.ref BU) none H'))
theorem yD.prs{ps:List (Str×Int)}(h:yD H ts ps)(nm: ∀p∈ps,Nm p.1):Paired (Pr H) (ts.map V.ref) (List.replicate ps.length true):=by
 induction h with
 | nil=>exact .nil
 | @cons t p l1 l2 h1 _ ih=>
  have n1:=nm p (by simp);have z:Pr H (.ref t) (yY (.str p.1)):= .good h1 (by have:=n1.len;omega);rw [show yY (.str p.1)=true from n1] at z;exact .cons z (ih fun q hq=>nm q (by simp [hq]))
theorem Paired.get'{α β:Type}{F:α->β->Prop}{xs:List α}{ys:List β}(h:Paired F xs ys){i:Nat}{x:α}(e:xs[i]?=some x): ∃y,ys[i]?=some y/\F x y:=by
 induction h generalizing i with
 | nil=>simp at e
 | @cons a b l1 l2 h1 _ ih=>
  cases i with
  | zero=>simp at e;subst e;exact ⟨b,rfl,h1⟩
  | succ i=>exact ih (by simpa using e)
theorem zIe:FnScope ["pairs","totals","pair"] ["pairs"] (zK zEs):=fs
theorem zQL{f fP BA BU:Addr}{fd fdP:FuncData}(F:Fun K "unit_of" "unit_of" zEs f fd)(B:Bn mg)(X:Ex K mg BA BU)
  (FP:Fun K "is_pair" "is_pair" zEp fP fdP) (bP:zL K fdP ["thing"] []) (mP:mg "is_pair" =some (.ref fP)) (GP:FnOk P w K mg base CX0 3 fP fdP ["thing"] zGc):FnOk P w K mg base (Fly P w) 4 f fd ["pairs"] (zIQ BU):=by
 refine (Fr.Fun.toD F).okX zIe (fun vs H Q E h=>?_) (fun _ A _ s H vs Q E hr h=>?_)
 ·obtain ⟨x,rfl,_⟩:=h;rfl
 ·obtain ⟨x,rfl,h⟩:=h;have hu:=zAD hr;refine ⟨_,QB.out (zH
   (zq (t_w (zAr (yq (yb (yE (zBu (K:=K) rfl) rfl B.isi ze (qc (qw 0 rfl) (qc (zCv (v:= .ty "list") rfl B.list zDD rfl (by decide) rfl) zD rfl) rfl) rfl) (fun _=>rfl))) (zAu (yq (yb (yE (zHZ (K:=K) rfl rfl) rfl B.all zMm (qc (ye (cl:= []) ["pair"] [] [] rfl (zAZ (K:=K) rfl (qw 0 rfl)) rfl (by decide+kernel) rfl (by decide+kernel) (fun _ _ h=>nomatch h) rfl (fun j y i h=>nomatch h) (yL rfl) (fun _ _ _ _=>(zm 0 (show (["pair"] :List Str).Nodup by decide+kernel) rfl (.inl rfl) (.inr rfl))) (fun _ _ _ _=>zBh) (fun _ _ _ _=>(zP GP hr rfl mP FP.kp bP .nil zO (qc (qw 0 rfl) zD rfl) rfl rfl rfl)) (fun _=>rfl)) zD rfl) rfl) (fun _=>rfl)))))) (zJ
    (zAa X.inU zAe rfl rfl X.mgU (qc zN zD rfl) rfl rfl rfl)) zn) (zH
   (zCk 1 zIe.nd rfl (Or.inr rfl) zCE rfl (.inl rfl)) (zH
   (yt PassesOwn.leaving rfl (zAZ (K:=K) rfl (qw 0 rfl)) (zm 2 zIe.nd rfl (Or.inl rfl) (.inr rfl)) (zJ
    (zCC hu (qx 1 rfl) (zR (K:=K) rfl (qw 2 rfl) zF (fun _ _=>rfl)) (zBD (zEf hu (qx 1 rfl) (zR (K:=K) rfl (qw 2 rfl) zF (fun _ _=>rfl)) zF ⟨rfl,rfl,rfl,rfl⟩) (zR (K:=K) rfl (qw 2 rfl) zF (fun _ _=>rfl))) rfl)) (fun _=>rfl)) (zJ
   (zW (zCu (zCr (K:=K) rfl) rfl B.tuple zBs (qc (ye ["name"] ["totals"] [1] rfl (zAZ (K:=K) rfl (yE (zBi rfl) rfl B.sorted zCm (qc (qx 1 rfl) zD rfl) rfl)) rfl (by decide+kernel) rfl (by decide+kernel) (zAn rfl lk0) rfl (fr1 ⟨rfl,rfl,rfl,_,rfl,rfl⟩) (yL rfl) (fun _ _ _ _=>(zm 0 (show (["name","totals"] :List Str).Nodup by decide+kernel) rfl (.inl rfl) (.inr rfl))) (fun _ _ _ _=>(zBJ (zY zDd (zo hu (qx 1 rfl) (qw 0 rfl) (fun _ _=>rfl)) zF rfl))) (fun _ _ _ _=>(zQ (qc (qw 0 rfl) (qc (zo hu (qx 1 rfl) (qw 0 rfl) (fun _ _=>rfl)) zD rfl) rfl))) (fun _=>rfl)) zD rfl) rfl)))))),?_⟩
  have big1:([V.str "a"] :List V).length<=sizeLine:=by show 1<=sizeLine;decide
  have cs:(NoLs H x/\ ∀H',zE H H'->E (.ref BU) none H')\/ ∃l xs bs,x= .ref l/\H l=some (.lst xs)/\xs.length<60/\Paired (Pr H) xs bs/\
    ((bs.all id=false/\ ∀H',zE H H'->E (.ref BU) none H')\/(bs.all id=true/\ ∃ts ps,xs=ts.map V.ref/\yD H ts ps/\(∀p∈ps,Nm p.1)/\ps.length<60/\zFU H Q ps)):=by
   rcases h with ⟨l,ps,rfl,⟨ts,hl,hp⟩,nm,h60,q⟩|⟨h |⟨l,xs,bs,rfl,hl,h60,hp,hb⟩,q⟩
   ·have lp:=Paired.length hp;exact .inr ⟨l,_,_,rfl,hl,by rw [zUR];omega,hp.prs nm,.inr ⟨by simp,ts,ps,rfl,hp,nm,h60,q⟩⟩
   ·exact .inl ⟨h,q⟩
   ·exact .inr ⟨l,xs,bs,rfl,hl,h60,hp,.inl ⟨hb,q⟩⟩
  rcases cs with ⟨h,q⟩|⟨l,xs,bs,rfl,hl,h60,hp,h⟩
  ·obtain ⟨ty,h1,h2⟩:=h.ty K;refine ⟨_,rfl,_,.ty "list",_,.type "list",_,rfl,rfl,h1,h2,_,rfl,?_⟩;refine zZ (zZ ?_);exact ⟨big1,q H (zE.refl H)⟩
  have lb:=Paired.length hp;refine ⟨_,rfl,_,.ty "list",_,.type "list",_,rfl,rfl,.lst hl,zFD K,_,rfl,?_⟩;refine zM ?_;refine ⟨_,rfl,l,rfl,⟨_,SqL.of hl⟩,fun D hD=>?_⟩;refine yK xs.length (fun i ys H'=>i<=xs.length/\ys=(bs.take i).map V.bl/\zE H H'/\H' D=some (.lst ys)) ⟨zUZ _,rfl,zE.upd hD,zC⟩ (by rw [zUV];omega) ?_ ?_ ?_
  ·rintro i ys H' hi ⟨_,rfl,s1,e1⟩;refine ⟨by simp;omega,e1,fun h=>⟨_,_,SqL.of (s1 _ _ hl),zUK (by simpa using h)⟩,fun h=>⟨_,SqL.of (s1 _ _ hl),by omega⟩⟩
  ·rintro i ys H' x H'' hi ⟨_,rfl,s1,e1⟩ ⟨rfl,hx⟩ pre hpre;obtain ⟨p0,rfl⟩:=zVN.mp hpre;have hx':=hx _ (SqL.of (s1 _ _ hl));obtain ⟨b,eb,pb⟩:=Paired.get' hp hx';refine ⟨⟨[some x],rfl,rfl⟩,?_⟩;refine zZ ?_;refine ⟨_,rfl,x,b,rfl,pb.same s1,fun H2 s2=>⟨s2 _ _ e1,hi,?_,zE.store (s1.trans s2) hD,zC⟩⟩;rw [zUh,eb,Option.toList_some,zUg];rfl
  ·rintro ys H1 ⟨_,rfl,s1,e1⟩;refine ⟨D,bs,rfl,SqL.of (by rw [lb,zUk] at e1;exact e1),?_⟩;rcases h with ⟨hb,q⟩|⟨hb,ts,ps,rfl,hp,nm,h60,q⟩
   ·rw [hb];refine ⟨false,rfl,zZ ?_⟩;exact ⟨big1,q H1 s1⟩
   have lp:=Paired.length hp;rw [hb];refine ⟨true,rfl,?_⟩;refine zM ?_;refine fun d hd=>?_;refine ⟨_,rfl,l,rfl,⟨_,SqL.of (zE.upd hd _ _ (s1 _ _ hl))⟩,?_⟩;have hd0:H d=none:=by
    cases z:H d with
    | none=>rfl
    | some o=>rw [s1 d o z] at hd;cases hd
   have hDd:D≠d:=zI e1 hd;refine yk ts.length (fun i σ H'=> ∃ks v,ks.Nodup/\(∀n,n∈ks↔n∈(ps.take i).map (·.1))/\ks.length<=i/\i<=ts.length/\σ= [some (.ref l),some (.ref d),v] /\zE H H'/\H' d=some (.dK (yo ks (ps.take i)))) ?_ ?_ ?_ ?_ ?_
   ·exact ⟨[],none,List.nodup_nil,fun n=>by simp,zUO _,zUZ _,rfl,zE.store s1 hd0,zC⟩
   ·rintro i σ H2 hi ⟨ks,v,_,_,_,_,_,s2,_⟩;exact ⟨_,_,SqL.of (s2 _ _ hl),zUK (by simpa using hi)⟩
   ·rintro σ H2 ⟨ks,v,_,_,_,_,_,s2,_⟩;exact ⟨_,SqL.of (s2 _ _ hl),by simp⟩
   ·rintro i σ H2 x H3 hi ⟨ks,v,nd,hk,hkl,_,rfl,s2,hd2⟩ ⟨rfl,hx⟩;have hx':=hx _ (SqL.of (s2 _ _ hl));rw [zUP,zUK hi] at hx';cases hx';obtain ⟨n,e,en,et⟩:=hp.get (zUK hi);have et2:=s2 _ _ et;have etk:ps.take (i+1)=ps.take i++ [(n,e)] :=by rw [zUh,en];rfl
    obtain ⟨ks',ep,nd',hk',hkl'⟩:=zGy (e:=e) (m:=n) hk;refine ⟨_,rfl,d,rfl,.inl ⟨_,.inl hd2⟩,_,rfl,ts[i],_,_,_,rfl,rfl,SqT.of et2,rfl,_,yr.k (k:=Sum.inr n) hd2,?_⟩;have eg:(yI (yo ks (ps.take i)) (Sum.inr n)).getD (V.int 0)= .int (tot (ps.take i) n):=by
     rw [zBk];by_cases hm:n∈ks
     ·rw [if_pos hm];rfl
     ·rw [if_neg hm,zBS fun z=>hm ((hk n).mpr z)];rfl
    rw [eg];refine ⟨_,rfl,ts[i],_,_,_,rfl,rfl,SqT.of et2,rfl,_,_,rfl,rfl,_,rfl,_,rfl,ts[i],_,_,_,rfl,rfl,SqT.of et2,rfl,d,_,rfl,zCH.k (k:=Sum.inr n) hd2 ?_,?_⟩
    ·unfold yo;rw [zUR,zUV];omega
    ·rw [ep];refine ⟨ks',_,nd' nd,?_,by omega,hi,rfl,zE.store s2 hd0,?_⟩
     ·rw [etk];exact hk'
     ·rw [etk];exact zC
   ·rintro σ H2 ⟨ks,v,nd,hk,hkl,_,rfl,s2,hd2⟩;have etk:ps.take ts.length=ps:=by rw [lp,zUk]
    rw [etk] at hk hd2;refine ⟨_,rfl,d,_,ks,rfl,.inl hd2,?_,?_,fun sl ks' hsl hperm hsd=>?_⟩
    ·unfold yo;rw [List.map_map];rfl
    ·unfold yo;rw [zUR];omega
    have hmem: ∀n,n∈ks'↔n∈ks:=fun n=>hperm.mem_iff;have nd':ks'.Nodup:=hperm.nodup_iff.mpr nd;have lk:ks'.length=ks.length:=hperm.length_eq;have ss:zE H2 (L2.upd H2 sl (.lst (ks'.map V.str))):=zE.upd hsl;have hsl0:H sl=none:=by
     cases z:H sl with
     | none=>rfl
     | some o=>rw [s2 sl o z] at hsl;cases hsl
    refine ⟨sl,rfl,⟨_,SqL.of zC⟩,fun D2 hD2=>?_⟩;have hD20:H D2=none:=by
     cases z:H D2 with
     | none=>rfl
     | some o=>rw [ss D2 o (s2 D2 o z)] at hD2;cases hD2
    refine yK ks'.length (fun i ys H'=> ∃us:List Addr,i<=ks'.length/\ys=us.map V.ref/\us.length<=i/\yD H' us (yZ ps (ks'.take i))/\zE (L2.upd H2 sl (.lst (ks'.map V.str))) H'/\H' D2=some (.lst ys)) ⟨[],zUZ _,rfl,zUO _,.nil,zE.upd hD2,zC⟩ (by rw [zUV];omega) ?_ ?_ ?_
    ·rintro i ys H3 hi ⟨us,_,rfl,hul,_,s3,e3⟩;have hq:SqL K H3 sl (ks'.map V.str):=SqL.of (s3 _ _ zC);refine ⟨by simpa using hul,e3,fun h=>⟨_,_,hq,zUK (by simpa using h)⟩,fun h=>⟨_,hq,by simp;omega⟩⟩
    ·rintro i ys H3 x H4 hi ⟨us,_,rfl,hul,hps,s3,e3⟩ ⟨rfl,hx⟩ pre hpre;obtain ⟨p0,rfl⟩:=zVN.mp hpre;have hx':=hx _ (SqL.of (s3 _ _ zC));rw [zUP,zUK hi] at hx';cases hx';have hin:ks'[i] ∈ks:=(hmem _).mp (zUs hi);have hd3:=s3 _ _ (ss _ _ hd2);have dg:yr H4 d (.str ks'[i]) (some (.int (tot ps ks'[i]))):=by
      have z:=yr.k (k:=Sum.inr ks'[i]) hd3;rw [zBk,if_pos hin] at z;exact z
     have etk2:ks'.take (i+1)=ks'.take i++ [ks'[i]] :=by rw [zUh,zUK hi];rfl
     refine ⟨⟨[some (.str ks'[i])],rfl,rfl⟩,_,rfl,_,rfl,d,_,rfl,dg,rfl,_,rfl,?_⟩;refine yB (fun c=>?_) (fun c=>?_)
     ·have hne:tot ps ks'[i] ≠0:=fun z=>by
       rw [z] at c;exact absurd c (by decide)
      refine ⟨_,rfl,_,rfl,_,rfl,d,_,rfl,dg,by show 2<=sizeLine;decide,fun t ht=>⟨?_,us++ [t],hi,by simp,by simp;omega,?_,?_,zC⟩⟩
      ·exact (zE.upd ht) _ _ e3
      ·rw [etk2,zBZ,if_pos hne];have hDt:t≠D2:=fun z=>by rw [z,e3] at ht;cases ht
       have st:zE H4 (L2.upd H4 t (.tup [.str ks'[i],.int (tot ps ks'[i])])):=zE.upd ht;have keep:yD (L2.upd (L2.upd H4 t (.tup [.str ks'[i],.int (tot ps ks'[i])])) D2 (.lst (us.map V.ref++ [.ref t]))) us (yZ ps (ks'.take i)):=(hps.same st).store (st _ _ e3);refine keep.append (.cons ?_ .nil);rw [zG hDt];exact zC
      ·exact zE.store (s3.trans (zE.upd ht)) hD2
     ·have hz:tot ps ks'[i] =0:=by
       have c':decide (V.int (tot ps ks'[i])=V.int 0)=true:=by simpa using c
       have:=zUt c';injection this
      refine ⟨us,hi,rfl,by omega,?_,s3,e3⟩;rw [etk2,zBZ,if_neg (fun z=>z hz),zUm];exact hps
    ·rintro ys H3 ⟨us,_,rfl,_,hps,s3,e3⟩;rw [zUk] at hps;refine ⟨D2,_,rfl,.inl ⟨SqL.of e3,fun u hu2=>?_⟩⟩;refine q u (yZ ps ks') _ (((s2.trans ss).trans s3).trans (zE.upd hu2)) (zFY nd' hsd fun n=>?_) (by have:=zFb ps ks';omega) ⟨us,zC,hps.same (zE.upd hu2)⟩;rw [hmem n];exact hk n
def zEt:Sp:=fun vs H Q _=> ∃l ps,vs= [.ref l] /\PsL H l ps/\(∀p∈ps,Nm p.1)/\ps.length<60/\zFU H Q ps
theorem zNu(G:FnOk P w K mg base (Fly P w) 4 f fd ["pairs"] (zIQ BU)):FnOk P w K mg base CX0 4 f fd ["pairs"] zEt:=
 ⟨fun vs H Q E ⟨l,ps,e,_⟩=>by rw [e];rfl,fun A outer s H args us vs Q E hr he hb hv hs=>by
  obtain ⟨l,ps,rfl,h1,h2,h3,h4⟩:=hs;refine zVI (G.run A outer s H args us _ Q (fun _ _ _=>False) hr he hb hv ⟨_,rfl,.inl ⟨l,ps,rfl,h1,h2,h3,h4⟩⟩) fun r s' h=>?_;cases r with
  | ok fl=>cases fl<;>exact h
  | error e=>
   obtain ⟨_,_,_,_,_,_,_,_,_,_,_,z⟩:=h;exact z⟩
theorem zx.same{ps:List (Str×Int)}(h:zx H u ps)(s:zE H H'):zx H' u ps:=let ⟨us,e,p⟩:=h;⟨us,s _ _ e,p.same s⟩
theorem zFU.same{ps:List (Str×Int)}(h:zFU H Q ps)(s:zE H H'):zFU H' Q ps:=fun u us H2 s2 a b c=>h u us H2 (s.trans s2) a b c
def zJH:Sp:=fun vs H Q _=> ∃(u:Addr) (ps:List (Str×Int)) (k:Int),vs= [.ref u,.int k] /\zx H u ps/\(∀p∈ps,Nm p.1)/\ps.length<60/\ -64<=k/\k<=64/\zFU H Q (ps.map fun p=>(p.1,p.2*k))
theorem zSp:FnScope ["unit","exponent"] ["unit","exponent"] (zK zFl):=fs
theorem zQJ(F:Fun K "powered" "powered" zFl f fd)(B:Bn mg)
  (FU:Fun K "unit_of" "unit_of" zEs fU fdU) (bU:zL K fdU ["pairs"] []) (mU:mg "unit_of" =some (.ref fU)) (GU:FnOk P w K mg base CX0 4 fU fdU ["pairs"] zEt):FnOk P w K mg base CX0 5 f fd ["unit","exponent"] zJH:=by
 refine F.ok zSp (fun vs H Q E h=>?_) (fun _ A _ s H vs Q E hr h=>?_)
 ·obtain ⟨u,ps,k,rfl,_⟩:=h;rfl
 ·obtain ⟨u,ps,k,rfl,⟨us,eu,pu⟩,nm,h60,k1,k2,q⟩:=h;have lu:=Paired.length pu;refine ⟨_,QB.out (zJ
   (zW (zP GU hr rfl mU FU.kp bU .nil zO (qc (ye ["pair"] ["exponent"] [1] rfl (zBt (K:=K) rfl (qw 0 rfl)) rfl (by decide+kernel) rfl (by decide+kernel) (zAn rfl lk0) rfl (fr1 ⟨rfl,rfl,rfl,_,rfl,rfl⟩) (yL rfl) (fun _ _ _ _=>(zm 0 (show (["pair","exponent"] :List Str).Nodup by decide+kernel) rfl (.inl rfl) (.inr rfl))) (fun _ _ _ _=>zBh) (fun _ _ _ _=>(zQ (qc (zR (K:=K) rfl (qw 0 rfl) zF (fun _ _=>rfl)) (qc (zKf (zR (K:=K) rfl (qw 0 rfl) zF (fun _ _=>rfl)) (qx 1 rfl)) zD rfl) rfl))) (fun _=>rfl)) zD rfl) rfl rfl rfl))),?_⟩
  refine ⟨_,rfl,u,rfl,⟨_,SqT.of eu⟩,fun D hD=>?_⟩;refine yK us.length (fun i ys H'=> ∃ts:List Addr,i<=us.length/\ts.length=i/\ys=ts.map V.ref/\yD H' ts ((ps.take i).map fun p=>(p.1,p.2*k))/\zE H H'/\H' D=some (.lst ys)) ⟨[],zUZ _,rfl,rfl,.nil,zE.upd hD,zC⟩ (by rw [zUV];omega) ?_ ?_ ?_
  ·rintro i ys H3 hi ⟨ts,_,hl,rfl,_,s3,e3⟩;have hq:SqT K H3 u (us.map V.ref):=SqT.of (s3 _ _ eu);refine ⟨by simp;omega,e3,fun h=>⟨_,_,hq,zUK (by simpa using h)⟩,fun h=>⟨_,hq,by simp;omega⟩⟩
  ·rintro i ys H3 x H4 hi ⟨ts,_,hl,rfl,hps,s3,e3⟩ ⟨rfl,hx⟩ pre hpre;obtain ⟨p0,rfl⟩:=zVN.mp hpre;have hx':=hx _ (SqT.of (s3 _ _ eu));rw [zUP,zUK hi] at hx';cases hx';obtain ⟨n,e,en,et⟩:=pu.get (zUK hi);have et3:=s3 _ _ et;have etk:ps.take (i+1)=ps.take i++ [(n,e)] :=by rw [zUh,en];rfl
   refine ⟨⟨[some (.ref us[i])],rfl,rfl⟩,?_⟩;refine zZ ?_;refine ⟨_,rfl,us[i],_,_,_,rfl,rfl,SqT.of et3,rfl,_,rfl,us[i],_,_,_,rfl,rfl,SqT.of et3,rfl,_,rfl,e,k,rfl,rfl,.inr ⟨by omega,by omega⟩,by show 2<=sizeLine;decide,fun t ht=>⟨(zE.upd ht) _ _ e3,ts++ [t],hi,by simp [hl],by simp,?_,?_,zC⟩⟩
   ·have hDt:t≠D:=fun z=>by rw [z,e3] at ht;cases ht
    have st:zE H4 (L2.upd H4 t (.tup [.str n,.int (e*k)])):=zE.upd ht;rw [etk,zUg];refine ((hps.same st).store (st _ _ e3)).append (.cons ?_ .nil);rw [zG hDt];exact zC
   ·exact zE.store (s3.trans (zE.upd ht)) hD
  ·rintro ys H3 ⟨ts,_,hl,rfl,hps,s3,e3⟩;rw [lu,zUk] at hps;refine ⟨D,ps.map (fun p=>(p.1,p.2*k)),rfl,⟨ts,e3,hps⟩,fun p hp=>?_,by simpa using h60,q.same s3⟩;obtain ⟨p',hp',rfl⟩:=zVR.mp hp;exact nm p' hp'
end
open FrW
section
variable {P:Program}{w:World}{K:zVK}{mg:Str->Option Value}{base:Heap}
theorem zTE{b:Bool}{p q:Prop}(h:b=true)(hq:p):if b=true then p else q:=by rw [h];exact hq
theorem bs(n:Nat)(h:n<=60:=by decide):n<=sizeLine:=by rw [zUV];omega
theorem zCW(_:zE H (L2.upd H a o)):L2.upd H a o a=some o:=zC
def PwT(H:Hp)(t:Addr)(p:Pw):Prop:=H t=some (.tup [.int (p.1:Int),.int p.2])
abbrev PwA(H:Hp)(ts:List Addr)(ps:List Pw):Prop:=Paired (PwT H) ts ps
def PwL(H:Hp)(l:Addr)(ps:List Pw):Prop:= ∃ts:List Addr,H l=some (.lst (ts.map V.ref))/\PwA H ts ps
theorem PwA.same{ps:List Pw}(h:PwA H ts ps)(s:zE H H'):PwA H' ts ps:=Paired.mapP h fun t p e=>s _ _ e
theorem PwA.store{ps:List Pw}(h:PwA H ts ps)(hD:H D=some (.lst xs)):PwA (L2.upd H D o) ts ps:=Paired.mapP h fun t p e=>by
 unfold PwT at*;rw [zG fun z=>by rw [z,hD] at e;cases e];exact e
theorem PwA.get{H:Hp}{ts:List Addr}{ps:List Pw}(h:PwA H ts ps){i:Nat}{t:Addr}(e:ts[i]?=some t): ∃p,ps[i]?=some p/\PwT H t p:=Paired.get' h e
theorem Paired.snoc'{α β:Type}{F:α->β->Prop}{xs:List α}{ys:List β}{a:α}{b:β}(h:Paired F xs ys)(k:F a b):Paired F (xs++ [a]) (ys++ [b]):=by
 induction h with
 | nil=>exact .cons k .nil
 | cons r _ ih=>exact .cons r ih
theorem Paired.unsnoc{α β:Type}{F:α->β->Prop}{xs:List α}{ys:List β}(h:Paired F xs ys)(hn:ys≠ []): ∃xs0 a ys0 b,xs=xs0++ [a] /\ys=ys0++ [b] /\Paired F xs0 ys0/\F a b:=by
 induction h with
 | nil=>exact absurd rfl hn
 | @cons x y xs ys r t ih=>
  cases t with
  | nil=>exact ⟨[],x,[],y,rfl,rfl,.nil,r⟩
  | @cons x2 y2 xs2 ys2 r2 t2=>
   obtain ⟨xs0,a,ys0,b,e1,e2,p,f⟩:=ih (by simp);exact ⟨x::xs0,a,y::ys0,b,by rw [e1];rfl,by rw [e2];rfl,.cons r p,f⟩
theorem zGi{left:List Pw}{q:Pw}(hi:i=(q.1:Int))(hv:H v=none)(eL:H L=some (.lst (ls.map V.ref)))(pl:PwA H ls left):
  L2.upd (L2.upd H v (.tup [.int i,.int q.2])) L (.lst (ls.map V.ref++ [.ref v])) L=some (.lst ((ls++ [v]).map V.ref))/\PwA (L2.upd (L2.upd H v (.tup [.int i,.int q.2])) L (.lst (ls.map V.ref++ [.ref v]))) (ls++ [v]) (left++ [q])/\
  (∀t p,PwT H t p->PwT (L2.upd (L2.upd H v (.tup [.int i,.int q.2])) L (.lst (ls.map V.ref++ [.ref v]))) t p)/\(∀a xs,a≠L->H a=some (.lst xs)->L2.upd (L2.upd H v (.tup [.int i,.int q.2])) L (.lst (ls.map V.ref++ [.ref v])) a=some (.lst xs))/\
  (∀H0,zE H0 H->H0 L=none->zE H0 (L2.upd (L2.upd H v (.tup [.int i,.int q.2])) L (.lst (ls.map V.ref++ [.ref v])))):=by
 subst hi;have sv:=zE.upd hv (o:= .tup [.int (q.1:Int),.int q.2]);have e1:=sv _ _ eL;have hvL:v≠L:=fun z=>by rw [z,eL] at hv;cases hv
 have st: ∀t p,PwT (L2.upd H v (.tup [.int (q.1:Int),.int q.2])) t p->PwT (L2.upd (L2.upd H v (.tup [.int (q.1:Int),.int q.2])) L (.lst (ls.map V.ref++ [.ref v]))) t p:=fun t p e=>by
  unfold PwT at*;rw [zG fun z=>by rw [z,e1] at e;cases e];exact e
 refine ⟨by rw [zUg];exact zC,Paired.snoc' (PwA.store (PwA.same pl sv) e1) (st v q (zCW sv)),fun t p e=>st t p (sv _ _ e),fun a xs ha e=>?_,fun H0 s0 h0=>zE.store (s0.trans sv) h0⟩;rw [zG ha];exact sv _ _ e
def zIl:Sp:=fun vs H Q _=> ∃(l:Addr) (ps:List Pw) (b:Nat) (e:Int) (W B k:Nat),vs= [.ref l,.int (b:Int),.int e] /\PwL H l ps/\k<=100000/\Turn (ps++ [(b,e)]) W B ps [(b,e)] k/\
 ∀r ds H',zE H H'->PwL H' r ds->Turn (ps++ [(b,e)]) W B ds [] k->Q (.ref r) H'
theorem zBb:FnScope ["parts","base","exponent","done","left","last","met","other","divisor"] ["parts","base","exponent"] (zK zFp):=fs
theorem zQg{f fD:Addr}{fd fdD:FuncData}(F:Fun K "with_power" "with_power" zFp f fd)(B:Bn mg)
  (FD:Fun K "common_divisor" "common_divisor" zFK fD fdD) (bD:zL K fdD ["above","below"] []) (mD:mg "common_divisor" =some (.ref fD)):FnOk P w K mg base CX0 2 f fd ["parts","base","exponent"] zIl:=by
 have GD:FnOk P w K mg base CX0 1 fD fdD ["above","below"] zHt:=zIv FD;refine F.ok zBb (fun vs H Q E h=>?_) (fun _ A _ s H vs Q E hr h=>?_)
 ·obtain ⟨l,ps,b,e,W,B,k,rfl,_⟩:=h;rfl
 ·obtain ⟨l,ps,b,e,W,Bb,k0,rfl,⟨ts,el,pl⟩,hk0,T0,q⟩:=h;have hr1:Room 1 _:=hr.mono (by decide);have huN:=Nat.lt_of_succ_lt (zAD hr);refine ⟨_,QB.out (zH
   (zT 3 zBb.nd rfl (qw 0 rfl) rfl) (zH
   (zT 4 zBb.nd rfl (zy (qc (zQ (qc (qw 1 rfl) (qc (qw 2 rfl) zD rfl) rfl)) zD rfl)) rfl) (zH
   (zKP PassesOwn.never (zY zAh (yE (zAy (K:=K) rfl) rfl B.len zAU (qc (qw 4 rfl) zD rfl) rfl) zF rfl) (zH
    (zCk 5 zBb.nd rfl (Or.inr rfl) (zRA (K:=K) rfl (qw 4 rfl) rfl rfl) rfl (.inl rfl)) (zH
    (zKN zIK 6 (by exact zBb.nd) rfl (Or.inl rfl) (.inr rfl) ["part"] ["last"] [5] rfl (zAZ (K:=K) rfl (qw 3 rfl)) rfl (by decide+kernel) rfl (by decide+kernel) (zAn rfl lk0) rfl (fr1 ⟨rfl,rfl,rfl,_,rfl,rfl⟩) (yL rfl) (fun _ _ _ _=>(zm 0 (show (["part","last"] :List Str).Nodup by decide+kernel) rfl (.inl rfl) (.inr rfl))) (fun _ _ _ _=>(zBJ (zY zAh (zP GD hr1 rfl mD FD.kp bD .nil zO (qc (zR (K:=K) rfl (qw 0 rfl) zF (fun _ _=>rfl)) (qc (zR (K:=K) rfl (qx 1 rfl) zF (fun _ _=>rfl)) zD rfl) rfl) rfl rfl rfl) zF rfl))) (fun C s₂ H₂ fp xe E hp=>(qw 0 rfl)) (fun _=>rfl) rfl) (zJ
    (zq (zY zAh (yE (zAy (K:=K) rfl) rfl B.len zAU (qc (qw 6 rfl) zD rfl) rfl) zF rfl) (zH
     (zCk 7 zBb.nd rfl (Or.inr rfl) (yH (K:=K) rfl (qw 6 rfl) zF (fun _ _=>rfl)) rfl (.inl rfl)) (zH
     (zT 8 zBb.nd rfl (zP GD hr1 rfl mD FD.kp bD .nil zO (qc (zR (K:=K) rfl (qx 7 rfl) zF (fun _ _=>rfl)) (qc (zR (K:=K) rfl (qx 5 rfl) zF (fun _ _=>rfl)) zD rfl) rfl) rfl rfl rfl) rfl) (zH
     (zKN zIK 3 (by exact zBb.nd) rfl (Or.inl rfl) (.inr rfl) ["part"] ["other"] [7] rfl (zAZ (K:=K) rfl (qw 3 rfl)) rfl (by decide+kernel) rfl (by decide+kernel) (zAn rfl lk0) rfl (fr1 ⟨rfl,rfl,rfl,_,rfl,rfl⟩) (yL rfl) (fun _ _ _ _=>(zm 0 (show (["part","other"] :List Str).Nodup by decide+kernel) rfl (.inl rfl) (.inr rfl))) (fun _ _ _ _=>(zBJ (zY (zRG (K:=K) rfl huN) (qw 0 rfl) (qx 1 rfl) rfl))) (fun C s₂ H₂ fp xe E hp=>(qw 0 rfl)) (fun _=>rfl) rfl) (zH
     (yn (zBT (K:=K) rfl (qw 4 rfl) (zQ (qc (zKR (zR (K:=K) rfl (qx 7 rfl) zF (fun _ _=>rfl)) (qw 8 rfl)) (qc (zR (K:=K) rfl (qx 7 rfl) zF (fun _ _=>rfl)) zD rfl) rfl)) rfl rfl rfl) rfl) (zH
     (yn (zBT (K:=K) rfl (qw 4 rfl) (zQ (qc (zKR (zR (K:=K) rfl (qx 5 rfl) zF (fun _ _=>rfl)) (qw 8 rfl)) (qc (zR (K:=K) rfl (qx 5 rfl) zF (fun _ _=>rfl)) zD rfl) rfl)) rfl rfl rfl) rfl) (zJ
     (yn (zBT (K:=K) rfl (qw 4 rfl) (zQ (qc (qw 8 rfl) (qc (zBD (zR (K:=K) rfl (qx 5 rfl) zF (fun _ _=>rfl)) (zR (K:=K) rfl (qx 7 rfl) zF (fun _ _=>rfl))) zD rfl) rfl)) rfl rfl rfl) rfl))))))) (zJ
     (zq (t_w (zDg (zY zAh (zR (K:=K) rfl (qx 5 rfl) zF (fun _ _=>rfl)) zF rfl) (zCU (zY zDd (zR (K:=K) rfl (qx 5 rfl) zF (fun _ _=>rfl)) zF rfl)))) (zJ
      (zT 3 zBb.nd rfl (zHs (qw 3 rfl) (zy (qc (qx 5 rfl) zD rfl))) rfl)) zn))))))) (zJ
   (zW (qw 3 rfl)))))),?_⟩
  refine ⟨_,rfl,_,rfl,_,rfl,bs 2,fun t0 ht0=>⟨bs 1,fun L hL=>?_⟩⟩;have s0:=(zE.upd ht0 (o:= .tup [.int (b:Int),.int e])).trans (zE.upd hL (o:= .lst [.ref t0]));have et0:=zE.upd hL (o:= .lst [.ref t0]) _ _ (zCW (zE.upd ht0 (o:= .tup [.int (b:Int),.int e])));have eL:=zCW (zE.upd hL (o:= .lst [.ref t0]));have hlL:l≠L:=fun z=>by rw [<-z,zE.upd ht0 _ _ el] at hL;cases hL
  have hL0:H L=none:=by
   cases z:H L with
   | none=>rfl
   | some o=>rw [zE.upd ht0 _ _ z] at hL;cases hL
  generalize L2.upd (L2.upd H t0 _) L _=H1 at s0 et0 eL⊢;refine ⟨fun m σ H'=> ∃(d:Addr) (ds:List Addr) (done:List Pw) (ls:List Addr) (left:List Pw) (k:Nat) (v5 v6 v7 v8:Option V),σ= [some (.ref l),some (.int (b:Int)),some (.int e),some (.ref d),some (.ref L),v5,v6,v7,v8] /\zE H H'/\d≠L/\
   H' d=some (.lst (ds.map V.ref))/\PwA H' ds done/\H' L=some (.lst (ls.map V.ref))/\PwA H' ls left/\Turn (ps++ [(b,e)]) W Bb done left k/\m=3*k+left.length/\k<=k0/\m<=3*k0+1,⟨3*k0+1,l,ts,ps,[t0],[(b,e)],k0,none,none,none,none,rfl,s0,hlL,s0 _ _ el,PwA.same pl s0,eL,.cons et0 .nil,T0,rfl,zUO _,zUO _⟩,?_⟩
  rintro m σ H2 ⟨d,ds,done,ls,left,k,v5,v6,v7,v8,rfl,s2,hdL,ed,pd,e2,p2,T,rfl,hk,hm⟩;have ll:=Paired.length p2;have ld:=Paired.length pd;have dk:=T.len;refine ⟨_,rfl,L,_,rfl,.inl (SqL.of e2),_,_,rfl,rfl,_,rfl,?_⟩;by_cases hl0:left= []
  ·subst hl0;have l0:ls= [] :=List.eq_nil_of_length_eq_zero ll;subst l0;refine zM ?_;exact ⟨_,rfl,q d done H2 s2 ⟨ds,ed,pd⟩ ⟨T.ap,T.ps,T.eq,T.hw,zUT T.hb (zUj (by decide) hk),T.bb,T.sd,T.sl⟩⟩
  ·obtain ⟨ls0,t,left0,p,rfl,rfl,p3,ht⟩:=Paired.unsnoc p2 hl0;have l3:=Paired.length p3;rw [if_pos (by rw [zUR,zUn];exact zUi (by show (0:Int)<_;simp))];refine ⟨fun σ' H'=> ∃m',m'<3*k+(left0++ [p]).length/\_,fun σ' H' h=>h,?_⟩;refine ⟨_,rfl,.inl ⟨rfl,_,SqL.of e2⟩,L,_,.ref t,rfl,rfl,e2,by simp,?_⟩;have edl:((ls0++ [t]).map V.ref).dropLast=ls0.map V.ref:=by simp
   rw [edl];have e3:L2.upd H2 L (.lst (ls0.map V.ref)) L=some (.lst (ls0.map V.ref)):=zC;have ed3:L2.upd H2 L (.lst (ls0.map V.ref)) d=some (.lst (ds.map V.ref)):=by rw [zG hdL];exact ed
   have pd3:PwA (L2.upd H2 L (.lst (ls0.map V.ref))) ds done:=PwA.store pd e2;have pl3:PwA (L2.upd H2 L (.lst (ls0.map V.ref))) ls0 left0:=PwA.store p3 e2;have ht3:PwT (L2.upd H2 L (.lst (ls0.map V.ref))) t p:=by
    unfold PwT at*;rw [zG fun z=>by rw [z,e2] at ht;cases ht];exact ht
   have s3:zE H (L2.upd H2 L (.lst (ls0.map V.ref))):=zE.store s2 hL0;generalize L2.upd H2 L (.lst (ls0.map V.ref))=H3 at e3 ed3 pd3 pl3 ht3 s3⊢;have pp:0<p.1:=T.ps p (by simp);have zp:p.1<2^2000:=T.sl p (by simp);refine ⟨_,rfl,d,rfl,⟨_,SqL.of ed3⟩,fun D hD=>?_⟩;have hDt:t≠D:=fun z=>by rw [<-z] at hD;unfold PwT at ht3;rw [ht3] at hD;cases hD
   refine yK ds.length (fun i ys H'=> ∃zs:List Addr,i<=ds.length/\ys=zs.map V.ref/\zs.length<=i/\PwA H3 zs ((done.take i).filter fun q=>decide (1<Nat.gcd q.1 p.1))/\H'=L2.upd H3 D (.lst ys)) ⟨[],zUZ _,rfl,zUO _,.nil,rfl⟩ (by rw [zUV];omega) ?_ ?_ ?_
   ·rintro i ys H' hi ⟨zs,_,rfl,hz,_,rfl⟩;have hq: ∀o,SqL K (L2.upd H3 D o) d (ds.map V.ref):=fun o=>SqL.of (zE.upd hD _ _ ed3);refine ⟨by simpa using hz,zC,fun h=>⟨_,_,hq _,zUK (by simpa using h)⟩,fun h=>⟨_,hq _,by simp;omega⟩⟩
   ·rintro i ys H' x H'' hi ⟨zs,_,rfl,hz,pz,rfl⟩ ⟨rfl,hx⟩ pre hpre;obtain ⟨p0,rfl⟩:=zVN.mp hpre;have hx':=hx _ (SqL.of (zE.upd hD _ _ ed3));rw [zUP,zUK hi] at hx';cases hx';obtain ⟨g,eg,hg⟩:=PwA.get pd3 (zUK hi);have etk:done.take (i+1)=done.take i++ [g] :=by rw [zUh,eg];rfl
    have hg':=zE.upd hD (o:= .lst (zs.map V.ref)) _ _ hg;have ht':=zE.upd hD (o:= .lst (zs.map V.ref)) _ _ ht3;refine ⟨⟨[some (.ref ds[i])],rfl,rfl⟩,?_⟩;refine ⟨_,rfl,ds[i],_,_,_,rfl,rfl,SqT.of hg',rfl,_,rfl,t,_,_,_,rfl,rfl,SqT.of ht',rfl,(g.1:Int),(p.1:Int),rfl,by omega,_,_,rfl,rfl,_,rfl,?_⟩;rw [Int.gcd_natCast_natCast];refine yB (fun c=>?_) (fun c=>?_)
    ·have c':(1:Int)<((Nat.gcd g.1 p.1:Nat):Int):=zUt c;refine ⟨_,rfl,zC,zs++ [ds[i]],hi,by simp,by simp;omega,?_,by rw [zAp]⟩;rw [etk,zVW,zUq (by simp;omega),List.filter_nil];exact Paired.snoc' pz hg
    ·have c': ¬(1:Int)<((Nat.gcd g.1 p.1:Nat):Int):=fun y=>c (zUi y);refine ⟨zs,hi,rfl,by omega,?_,rfl⟩;rw [etk,zVW,zUr (by simp;omega),List.filter_nil,zUm];exact pz
   ·rintro ys H' ⟨zs,_,rfl,hz,pz,rfl⟩;rw [ld,zUk] at pz;have s4:=zE.upd hD (o:= .lst (zs.map V.ref));have e4:=zCW s4;have hDL:L≠D:=fun z=>by rw [<-z,e3] at hD;cases hD
    have e4L:=s4 _ _ e3;have ed4:=s4 _ _ ed3;have pd4:=PwA.same pd3 s4;have pl4:=PwA.same pl3 s4;have ht4:PwT (L2.upd H3 D (.lst (zs.map V.ref))) t p:=s4 _ _ ht3;have pz4:=PwA.same pz s4;have s04:=s3.trans s4;generalize L2.upd H3 D (.lst (zs.map V.ref))=H4 at e4 e4L ed4 pd4 pl4 ht4 pz4 s04⊢;refine ⟨_,rfl,D,_,rfl,.inl (SqL.of e4),_,_,rfl,rfl,_,rfl,?_⟩;cases zs with
    | nil=>
     refine zM ?_;have none: ∀g∈done,¬1<Nat.gcd g.1 p.1:=by
      have:=Paired.length pz;have:done.filter (fun q=>decide (1<Nat.gcd q.1 p.1))= [] :=List.eq_nil_of_length_eq_zero this.symm;rw [List.filter_eq_nil_iff] at this;exact fun g hg=>by simpa using this g hg
     refine ⟨_,rfl,t,_,_,_,rfl,rfl,SqT.of ht4,rfl,_,_,rfl,rfl,_,rfl,?_⟩;refine yB (fun c=>?_) (fun c=>?_)
     ·have c1:1<p.1:=by
       have:(1:Int)<(p.1:Int):=zUt c;omega
      refine ⟨_,rfl,t,_,_,_,rfl,rfl,SqT.of ht4,rfl,rfl,_,rfl,?_⟩;refine yB (fun c2=>?_) (fun c2=>?_)
      ·have h2:p.2≠0:=fun z=>by rw [z] at c2;exact absurd c2 (by decide)
       refine ⟨_,rfl,_,rfl,bs 1,fun b1 hb1=>⟨d,b1,_,_,rfl,rfl,zE.upd hb1 _ _ ed4,zC,by simp;rw [zUV];omega,fun d2 hd2=>?_⟩⟩;have sx:=(zE.upd hb1 (o:= .lst [.ref t])).trans (zE.upd hd2 (o:= .lst (ds.map V.ref++ [.ref t])));have ex:=zCW (zE.upd hd2 (o:= .lst (ds.map V.ref++ [.ref t])));have hd2L:d2≠L:=fun z=>by rw [z,zE.upd hb1 _ _ e4L] at hd2;cases hd2
       generalize L2.upd (L2.upd H4 b1 _) d2 _=H5 at sx ex⊢;exact ⟨3*k+left0.length,by simp,d2,ds++ [t],done++ [p],ls0,left0,k,_,_,_,_,rfl,s04.trans sx,hd2L,by rw [zUg];exact ex,Paired.snoc' (PwA.same pd4 sx) (sx _ _ ht4),sx _ _ e4L,PwA.same pl4 sx,T.keep none c1 h2,rfl,hk,by simp at hm;omega⟩
      ·have h2:p.2=0:=by
        have c':decide (V.int p.2=V.int 0)=true:=by simpa using c2
        have:=zUt c';injection this
       exact ⟨3*k+left0.length,by simp,d,ds,done,ls0,left0,k,_,_,_,_,rfl,s04,hdL,ed4,pd4,e4L,pl4,T.drop (fun z=>z.2 h2),rfl,hk,by simp at hm;omega⟩
     ·have c1: ¬1<p.1:=by
       have: ¬(1:Int)<(p.1:Int):=fun y=>c (zUi y);omega
      refine zM ?_;exact ⟨3*k+left0.length,by simp,d,ds,done,ls0,left0,k,_,_,_,_,rfl,s04,hdL,ed4,pd4,e4L,pl4,T.drop (fun z=>c1 z.1),rfl,hk,by simp at hm;omega⟩
    | cons z zs=>
     refine zTE (zUi (by show (0:Int)<(((z::zs).map V.ref).length:Int);simp)) ?_;obtain ⟨o,os,eo⟩: ∃o os,done.filter (fun q=>decide (1<Nat.gcd q.1 p.1))=o::os:=by
      have:=Paired.length pz;cases hh:done.filter (fun q=>decide (1<Nat.gcd q.1 p.1)) with
      | nil=>rw [hh] at this;cases this
      | cons o os=>exact ⟨o,os,rfl⟩
     rw [eo] at pz4;have hz4:PwT H4 z o:=by cases pz4 with | cons h _=>exact h
     have ho:o∈done.filter (fun q=>decide (1<Nat.gcd q.1 p.1)):=by rw [eo];simp
     obtain ⟨hod,hog⟩:=zVY.mp ho;have hog':1<Nat.gcd o.1 p.1:=by simpa using hog
     refine ⟨_,rfl,D,_,_,.ref z,rfl,rfl,SqL.of e4,(show atI _ ((0:Nat):Int)=_ from zAG rfl),?_⟩;refine ⟨_,rfl,z,_,_,_,rfl,rfl,SqT.of hz4,rfl,_,rfl,t,_,_,_,rfl,rfl,SqT.of ht4,rfl,(o.1:Int),(p.1:Int),rfl,by omega,?_⟩;rw [Int.gcd_natCast_natCast];have gs:Nat.gcd o.1 p.1<2^2000:=zUb (Nat.gcd_le_right _ pp) zp;generalize hgd:Nat.gcd o.1 p.1=g at hog' gs⊢;refine ⟨_,rfl,d,rfl,⟨_,SqL.of ed4⟩,fun D2 hD2=>?_⟩;refine yK ds.length (fun i ys H'=> ∃zs:List Addr,i<=ds.length/\ys=zs.map V.ref/\zs.length<=i/\PwA H4 zs ((done.take i).filter fun q=>!decide (q=o))/\H'=L2.upd H4 D2 (.lst ys)) ⟨[],zUZ _,rfl,zUO _,.nil,rfl⟩ (by rw [zUV];omega) ?_ ?_ ?_
     ·rintro i ys H' hi ⟨zs,_,rfl,hz,_,rfl⟩;have hq: ∀o,SqL K (L2.upd H4 D2 o) d (ds.map V.ref):=fun o=>SqL.of (zE.upd hD2 _ _ ed4);refine ⟨by simpa using hz,zC,fun h=>⟨_,_,hq _,zUK (by simpa using h)⟩,fun h=>⟨_,hq _,by simp;omega⟩⟩
     ·rintro i ys H' x H'' hi ⟨zs,_,rfl,hz,pz,rfl⟩ ⟨rfl,hx⟩ pre hpre;obtain ⟨p0,rfl⟩:=zVN.mp hpre;have hx':=hx _ (SqL.of (zE.upd hD2 _ _ ed4));rw [zUP,zUK hi] at hx';cases hx';obtain ⟨h,eh,hh⟩:=PwA.get pd4 (zUK hi);have etk:done.take (i+1)=done.take i++ [h] :=by rw [zUh,eh];rfl
      have hh':=zE.upd hD2 (o:= .lst (zs.map V.ref)) _ _ hh;have hz':=zE.upd hD2 (o:= .lst (zs.map V.ref)) _ _ hz4;refine ⟨⟨[some (.ref ds[i])],rfl,rfl⟩,?_⟩;refine ⟨_,rfl,_,rfl,ds[i],z,[(h.1:Int),h.2],[(o.1:Int),o.2],rfl,rfl,SqT.of hh',SqT.of hz',rfl,_,rfl,?_⟩;have edc:decide ([(h.1:Int),h.2] = [(o.1:Int),o.2])=decide (h=o):=by
       rw [zVU,decide_eq_true_eq,decide_eq_true_eq];constructor
       ·intro e;have e1:(h.1:Int)=o.1:=by injection e
        have e2:h.2=o.2:=by injection e with _ e;injection e
        exact Prod.ext (by omega) e2
       ·intro e;rw [e]
      rw [edc];refine yB (fun c=>?_) (fun c=>?_)
      ·refine ⟨_,rfl,zC,zs++ [ds[i]],hi,by simp,by simp;omega,?_,by rw [zAp]⟩;rw [etk,zVW,zUq (p:=fun q=>!decide (q=o)) c,List.filter_nil];exact Paired.snoc' pz hh
      ·refine ⟨zs,hi,rfl,by omega,?_,rfl⟩;rw [etk,zVW,zUr (p:=fun q=>!decide (q=o)) c,List.filter_nil,zUm];exact pz
     ·rintro ys H' ⟨us,_,rfl,hu,pu,rfl⟩;rw [ld,zUk] at pu;have s5:=zE.upd hD2 (o:= .lst (us.map V.ref));have e5:=zCW s5;have hD2L:D2≠L:=fun zz=>by rw [zz,e4L] at hD2;cases hD2
      have e5L:=s5 _ _ e4L;have pl5:=PwA.same pl4 s5;have ht5:PwT (L2.upd H4 D2 (.lst (us.map V.ref))) t p:=s5 _ _ ht4;have hz5:PwT (L2.upd H4 D2 (.lst (us.map V.ref))) z o:=s5 _ _ hz4;have pu5:=PwA.same pu s5;have s05:=s04.trans s5;generalize L2.upd H4 D2 (.lst (us.map V.ref))=H5 at e5 e5L pl5 ht5 hz5 pu5 s05⊢;have g0:0<g:=by omega
      have sg:Sz 4000 ((g:Nat):Int):=by
       unfold Sz;exact Nat.lt_trans (by simpa using gs) (zVD (by decide) (by decide))
      have lk:ls0.length+3<=400000:=by simp at hm;omega
      refine ⟨_,rfl,.inl ⟨rfl,_,SqL.of e5L⟩,_,rfl,z,_,_,_,rfl,rfl,SqT.of hz5,rfl,_,rfl,_,_,rfl,rfl,⟨by omega,sg⟩,_,rfl,z,_,_,_,rfl,rfl,SqT.of hz5,rfl,bs 2,fun w1 hw1=>⟨L,_,_,rfl,rfl,zE.upd hw1 _ _ e5L,by rw [zUR,zUV];omega,?_⟩⟩;obtain ⟨x1,x2,x3,x4,x5⟩:=zGi (q:=(o.1/g,o.2)) (zVZ o.1 g).symm hw1 e5L pl5;have s06:=x5 H s05 hL0;have d6:=x4 D2 _ hD2L e5;have hz6:=x3 _ _ hz5;have ht6:=x3 _ _ ht5;have pu6:=Paired.mapP pu5 x3;generalize L2.upd (L2.upd H5 w1 _) L _=H6 at x1 x2 s06 d6 hz6 ht6 pu6⊢;refine ⟨_,rfl,.inl ⟨rfl,_,SqL.of x1⟩,_,rfl,t,_,_,_,rfl,rfl,SqT.of ht6,rfl,_,rfl,_,_,rfl,rfl,⟨by omega,sg⟩,_,rfl,t,_,_,_,rfl,rfl,SqT.of ht6,rfl,bs 2,fun w2 hw2=>⟨L,_,_,rfl,rfl,zE.upd hw2 _ _ x1,by rw [zUR,zUn,zUV];simp;omega,?_⟩⟩;obtain ⟨y1,y2,y3,y4,y5⟩:=zGi (q:=(p.1/g,p.2)) (zVZ p.1 g).symm hw2 x1 x2;have s07:=y5 H s06 hL0;have d7:=y4 D2 _ hD2L d6;have hz7:=y3 _ _ hz6;have ht7:=y3 _ _ ht6;have pu7:=Paired.mapP pu6 y3;generalize L2.upd (L2.upd H6 w2 _) L _=H7 at y1 y2 s07 d7 hz7 ht7 pu7⊢;refine ⟨_,rfl,.inl ⟨rfl,_,SqL.of y1⟩,_,rfl,_,rfl,t,_,_,_,rfl,rfl,SqT.of ht7,rfl,_,rfl,z,_,_,_,rfl,rfl,SqT.of hz7,rfl,_,_,rfl,rfl,bs 2,fun w3 hw3=>⟨L,_,_,rfl,rfl,zE.upd hw3 _ _ y1,by rw [zUR,zUn,zUn,zUV];simp;omega,?_⟩⟩;obtain ⟨z1,z2,z3,z4,z5⟩:=zGi (q:=(g,p.2+o.2)) rfl hw3 y1 y2;have s08:=z5 H s07 hL0;have d8:=z4 D2 _ hD2L d7;have pu8:=Paired.mapP pu7 z3;generalize L2.upd (L2.upd H7 w3 _) L _=H8 at z1 z2 s08 d8 pu8⊢;obtain ⟨j,hj,T'⟩:=T.met hod (hgd▸hog');rw [hgd] at T';refine ⟨3*j+(left0++ [(o.1/g,o.2),(p.1/g,p.2),(g,p.2+o.2)]).length,by simp;omega,D2,us,done.filter (fun q=>!decide (q=o)),ls0++ [w1] ++ [w2] ++ [w3],left0++ [(o.1/g,o.2),(p.1/g,p.2),(g,p.2+o.2)],j,_,_,_,_,rfl,s08,hD2L,d8,pu8,z1,?_,T',rfl,by omega,by simp at hm;simp;omega⟩;have e9:left0++ [(o.1/g,o.2),(p.1/g,p.2),(g,p.2+o.2)] =left0++ [(o.1/g,o.2)] ++ [(p.1/g,p.2)] ++ [(g,p.2+o.2)] :=by simp
      rw [e9];exact z2
structure ExT(K:zVK)(mg:Str->Option Value)(BT:Addr):Prop where
 mgT:mg "BadTable" =some (.ref BT)
 inT:PySem.W.excIn K BT [.type "ValueError",.type "Exception",.type "BaseException",.type "object"] "ValueError.__new__" =true
def zIo(BT:Addr):Sp:=fun vs H Q E=> ∃(l:Addr) (ps:List Pw),vs= [.ref l] /\PwL H l ps/\Pos ps/\ps.length<=100000/\(∀p∈ps,p.1<2^2000/\0<p.2/\p.2<=10000000)/\(nm ps<10^200->Q (.int (nm ps:Nat)) H)/\(¬nm ps<10^200->E (.ref BT) none H)
theorem zDE:FnScope ["parts","bound","total","part","turn"] ["parts"] (zK zGY):=fs
theorem zQG(F:Fun K "multiplied_out" "multiplied_out" zGY f fd)(B:Bn mg)(G:Gv K mg W O)(XT:ExT K mg BT)
  (FP:Fun K "whole_power" "whole_power" zGQ fP fdP) (bP:zL K fdP ["base","exponent"] []) (mP:mg "whole_power" =some (.ref fP)):FnOk P w K mg base (Fly P w) 2 f fd ["parts"] (zIo BT):=by
 have GP:FnOk P w K mg base CX0 1 fP fdP ["base","exponent"] zNH:=zQS FP;obtain ⟨t2,m2⟩:=G.mf;refine (Fr.Fun.toD F).okX zDE (fun vs H Q E h=>?_) (fun _ A _ s H vs Q E hr h=>?_)
 ·obtain ⟨l,ps,rfl,_⟩:=h;rfl
 ·obtain ⟨l,ps,rfl,⟨ts,el,pl⟩,pos,hl,hp,q,qe⟩:=h;have hr1:Room 1 _:=hr.mono (by decide);have lt:=Paired.length pl;refine ⟨_,QB.out (zH
   (zT 1 zDE.nd rfl (zP GP hr1 rfl mP FP.kp bP .nil zO (qc zF (qc (yg (v:= .int 200) rfl m2 ⟨t2,rfl⟩ rfl) zD rfl) rfl) rfl rfl rfl) rfl) (zH
   (zT 2 zDE.nd rfl zF rfl) (zH
   (yt PassesOwn.leaving rfl (zAZ (K:=K) rfl (qw 0 rfl)) (zm 3 zDE.nd rfl (Or.inl rfl) (.inr rfl)) (zJ
    (yt PassesOwn.leaving rfl (zCA rfl B.range (qc (zR (K:=K) rfl (qw 3 rfl) zF (fun _ _=>rfl)) zD rfl) rfl) (zm 4 zDE.nd rfl (Or.inl rfl) (.inr rfl)) (zH
     (zT 2 zDE.nd rfl (zRZ (qw 2 rfl) (zR (K:=K) rfl (qw 3 rfl) zF (fun _ _=>rfl))) rfl) (zJ
     (zq (zY zLa (qw 2 rfl) (qw 1 rfl) rfl) (zJ
      (zAa XT.inT zAe rfl rfl XT.mgT (qc zN zD rfl) rfl rfl rfl)) zn))) (fun _=>rfl))) (fun _=>rfl)) (zJ
   (zW (qw 2 rfl)))))),?_⟩
  refine ⟨10,200,rfl,by decide,by decide,by unfold Sz;decide,?_⟩;refine ⟨_,rfl,l,rfl,⟨_,SqL.of el⟩,?_⟩;have e200:(10:Int)^(200:Int).toNat=(((10:Nat)^200:Nat):Int):=by norm_cast
  rw [e200];have b200:(10:Nat)^200<2^665:=by decide+kernel
  generalize hb:(10:Nat)^200=bound at q qe b200⊢;have b1:1<bound:=by rw [<-hb];decide+kernel
  refine yk ts.length (fun i σ H'=> ∃v3 v4:Option V,σ= [some (.ref l),some (.int (bound:Nat)),some (.int (nm (ps.take i):Nat)),v3,v4] /\i<=ts.length/\H=H'/\nm (ps.take i)<bound) ?_ ?_ ?_ ?_ ?_
  ·exact ⟨none,none,rfl,zUZ _,rfl,b1⟩
  ·rintro i σ H' hi ⟨v3,v4,rfl,_,rfl,_⟩;exact ⟨_,_,SqL.of el,zUK (by simpa using hi)⟩
  ·rintro σ H' ⟨v3,v4,rfl,_,rfl,_⟩;exact ⟨_,SqL.of el,by simp⟩
  ·rintro i σ H' x H'' hi ⟨v3,v4,rfl,_,rfl,hn⟩ ⟨rfl,hx⟩;have hx':=hx _ (SqL.of el);rw [zUP,zUK hi] at hx';cases hx';obtain ⟨p,ep,ht⟩:=PwA.get pl (zUK hi);have etk:ps.take (i+1)=ps.take i++ [p] :=by rw [zUh,ep];rfl
   obtain ⟨z1,z2,z3⟩:=hp p (zUp ep);refine ⟨_,rfl,ts[i],_,_,_,rfl,rfl,SqT.of ht,rfl,_,rfl,by omega,by omega,?_⟩;refine yk p.2.toNat (fun j σ H'=> ∃v4:Option V,σ= [some (.ref l),some (.int (bound:Nat)),some (.int (nm (ps.take i)*p.1^j:Nat)),some (.ref ts[i]),v4] /\j<=p.2.toNat/\H''=H'/\nm (ps.take i)*p.1^j<bound) ?_ ?_ ?_ ?_ ?_
   ·exact ⟨v4,by rw [Nat.pow_zero,Nat.mul_one];rfl,zUZ _,rfl,by rw [Nat.pow_zero,Nat.mul_one];exact hn⟩
   ·rintro j σ H' hj _;exact hj
   ·rintro σ H' _;exact zUO _
   ·rintro j σ H' x H'' hj ⟨v4,rfl,_,rfl,hn2⟩ ⟨rfl,rfl⟩;have sa:Sz 4000 ((nm (ps.take i)*p.1^j:Nat):Int):=by
     unfold Sz;rw [Int.natAbs_natCast];exact Nat.lt_trans hn2 (Nat.lt_trans b200 (zVD (by decide) (by decide)))
    have sb:Sz 4000 ((p.1:Nat):Int):=by
     unfold Sz;rw [Int.natAbs_natCast];exact Nat.lt_trans z1 (zVD (by decide) (by decide))
    refine ⟨_,rfl,_,rfl,ts[i],_,_,_,rfl,rfl,SqT.of ht,rfl,_,_,rfl,rfl,⟨sa,sb⟩,?_⟩;have em:((nm (ps.take i)*p.1^j:Nat):Int)*(p.1:Int)=((nm (ps.take i)*p.1^(j+1):Nat):Int):=by rw [Nat.pow_succ,<-Nat.mul_assoc];norm_cast
    refine ⟨_,rfl,_,rfl,_,_,rfl,rfl,_,rfl,?_⟩;refine yB (fun c=>?_) (fun c=>?_)
    ·have c':bound<=nm (ps.take i)*p.1^(j+1):=by
      have z:(bound:Int)<=((nm (ps.take i)*p.1^j:Nat):Int)*(p.1:Int):=zUt c;rw [em] at z;omega
     have h3:=zQe pos ep (j:=j+1) (by omega);exact ⟨by show 1<=sizeLine;decide,qe (by omega)⟩
    ·have c': ¬bound<=nm (ps.take i)*p.1^(j+1):=fun y=>c (zUi (by show (bound:Int)<=((nm (ps.take i)*p.1^j:Nat):Int)*(p.1:Int);rw [em];omega));exact ⟨_,by rw [<-em];rfl,hj,rfl,by omega⟩
   ·rintro σ H' ⟨v4,rfl,_,rfl,hn2⟩;exact ⟨some (.ref ts[i]),v4,by rw [etk,zGn];rfl,hi,rfl,by rw [etk,zGn];exact hn2⟩
  ·rintro σ H' ⟨v3,v4,rfl,_,rfl,hn⟩;rw [lt,zUk] at hn⊢;exact ⟨_,rfl,q hn⟩
structure OkPw(qs:List Pw):Prop where
 ps:Pos qs
 len:qs.length<=100
 sd: ∀p∈qs,p.1<2^2000
 hb:bp qs<2^100000
 hw:wt qs<2^10000000
def zHu(BT:Addr):Sp:=fun vs H Q E=> ∃(l:Addr) (qs:List Pw),vs= [.ref l] /\PwL H l qs/\OkPw qs/\(rA qs<10^200->rB qs<10^200-> ∀r H',zE H H'->H' r=some (.tup [.int (rA qs:Nat),.int (rB qs:Nat)])->Q (.ref r) H')/\(¬(rA qs<10^200/\rB qs<10^200)-> ∀H',zE H H'->E (.ref BT) none H')
theorem zEX:FnScope ["powers","parts","power","above","below"] ["powers"] (zK zGz):=fs
theorem zRY(F:Fun K "product_of_powers" "product_of_powers" zGz f fd)(B:Bn mg)
  (FW:Fun K "with_power" "with_power" zFp fW fdW) (bW:zL K fdW ["parts","base","exponent"] []) (mW:mg "with_power" =some (.ref fW)) (GW:FnOk P w K mg base CX0 2 fW fdW ["parts","base","exponent"] zIl)
  (FM:Fun K "multiplied_out" "multiplied_out" zGY fM fdM) (bM:zL K fdM ["parts"] []) (mM:mg "multiplied_out" =some (.ref fM)) (GM:FnOk P w K mg base (Fly P w) 2 fM fdM ["parts"] (zIo BT)):FnOk P w K mg base (Fly P w) 3 f fd ["powers"] (zHu BT):=by
 refine (Fr.Fun.toD F).okX zEX (fun vs H Q E h=>?_) (fun _ A _ s H vs Q E hr h=>?_)
 ·obtain ⟨l,qs,rfl,_⟩:=h;rfl
 ·obtain ⟨l,qs,rfl,⟨ts,el,pl⟩,ok,q,qe⟩:=h;have hr2:Room 2 _:=hr;have lt:=Paired.length pl;refine ⟨_,QB.out (zH
   (zT 1 zEX.nd rfl (zy zD) rfl) (zH
   (yt PassesOwn.leaving rfl (zAZ (K:=K) rfl (qw 0 rfl)) (zm 2 zEX.nd rfl (Or.inl rfl) (.inr rfl)) (zJ
    (zT 1 zEX.nd rfl (zP GW hr2 rfl mW FW.kp bW .nil zO (qc (qw 1 rfl) (qc (zR (K:=K) rfl (qw 2 rfl) zF (fun _ _=>rfl)) (qc (zR (K:=K) rfl (qw 2 rfl) zF (fun _ _=>rfl)) zD rfl) rfl) rfl) rfl rfl rfl) rfl)) (fun _=>rfl)) (zH
   (zT 3 zEX.nd rfl (zCO GM hr rfl mM FM.kp bM .nil zFP (qc (ye (cl:= []) ["part"] [] [] rfl (zAZ (K:=K) rfl (qw 1 rfl)) rfl (by decide+kernel) rfl (by decide+kernel) (fun _ _ h=>nomatch h) rfl (fun j y i h=>nomatch h) (yL rfl) (fun _ _ _ _=>(zm 0 (show (["part"] :List Str).Nodup by decide+kernel) rfl (.inl rfl) (.inr rfl))) (fun _ _ _ _=>(zBJ (zY zAh (zR (K:=K) rfl (qw 0 rfl) zF (fun _ _=>rfl)) zF rfl))) (fun _ _ _ _=>(qw 0 rfl)) (fun _=>rfl)) zD rfl) rfl rfl rfl) rfl) (zH
   (zT 4 zEX.nd rfl (zCO GM hr rfl mM FM.kp bM .nil zFP (qc (ye (cl:= []) ["part"] [] [] rfl (zAZ (K:=K) rfl (qw 1 rfl)) rfl (by decide+kernel) rfl (by decide+kernel) (fun _ _ h=>nomatch h) rfl (fun j y i h=>nomatch h) (yL rfl) (fun _ _ _ _=>(zm 0 (show (["part"] :List Str).Nodup by decide+kernel) rfl (.inl rfl) (.inr rfl))) (fun _ _ _ _=>(zBJ (zY zDi (zR (K:=K) rfl (qw 0 rfl) zF (fun _ _=>rfl)) zF rfl))) (fun _ _ _ _=>(zQ (qc (zR (K:=K) rfl (qw 0 rfl) zF (fun _ _=>rfl)) (qc (zCd (zR (K:=K) rfl (qw 0 rfl) zF (fun _ _=>rfl))) zD rfl) rfl))) (fun _=>rfl)) zD rfl) rfl rfl rfl) rfl) (zJ
   (zW (zQ (qc (qw 3 rfl) (qc (qw 4 rfl) zD rfl) rfl)))))))),?_⟩
  refine ⟨bs 0,fun d0 hd0=>?_⟩;have s0:=zE.upd hd0 (o:= .lst []);refine ⟨_,rfl,l,rfl,⟨_,SqL.of (s0 _ _ el)⟩,?_⟩;refine yk ts.length (fun i σ H'=> ∃(d:Addr) (ds:List Pw) (v2:Option V),σ= [some (.ref l),some (.ref d),v2,none,none] /\i<=ts.length/\zE H H'/\PwL H' d ds/\Sofar (qs.take i) ds) ?_ ?_ ?_ ?_ ?_
  ·exact ⟨d0,[],none,rfl,zUZ _,s0,⟨[],zC,.nil⟩,Sofar.nil⟩
  ·rintro i σ H' hi ⟨d,ds,v2,rfl,_,s1,_,_⟩;exact ⟨_,_,SqL.of (s1 _ _ el),zUK (by simpa using hi)⟩
  ·rintro σ H' ⟨d,ds,v2,rfl,_,s1,_,_⟩;exact ⟨_,SqL.of (s1 _ _ el),by simp⟩
  ·rintro i σ H' x H1 hi ⟨d,ds,v2,rfl,_,s1,pd,so⟩ ⟨rfl,hx⟩;have hx':=hx _ (SqL.of (s1 _ _ el));rw [zUP,zUK hi] at hx';cases hx';obtain ⟨p,ep,ht⟩:=PwA.get (PwA.same pl s1) (zUK hi);have etk:qs.take (i+1)=qs.take i++ [p] :=by rw [zUh,ep];rfl
   have pm:=zUp ep;have pp:=ok.ps p pm;have hk:bp (qs.take i++ [p])<2^100000:=by rw [<-etk];exact zUb (zPv ok.ps _) ok.hb
   refine ⟨_,rfl,_,rfl,ts[i],_,_,_,rfl,rfl,SqT.of ht,rfl,_,rfl,ts[i],_,_,_,rfl,rfl,SqT.of ht,rfl,d,ds,p.1,p.2,_,_,100000,rfl,pd,zUO _,so.turn pp (ok.sd p pm) hk,fun r es H2 s2 pr tu=>?_⟩;exact ⟨r,es,_,rfl,hi,s1.trans s2,pr,by rw [etk];exact so.next pp tu⟩
  ·rintro σ H1 ⟨d,ds,v2,rfl,_,s1,⟨us,ed,pd⟩,so⟩;rw [lt,zUk] at so;have ld:=Paired.length pd;have lds:ds.length<=100000:=by
    have h1:=zLz so.ap;have h2:=zUb so.hb ok.hb;have:=(Nat.pow_lt_pow_iff_right (by decide:1<2)).mp (zUb h1 h2);omega
   have hex: ∀p∈ds,p.2.natAbs<10000000:=fun p hp=>zRn so.ap (zUb so.hw ok.hw) hp;obtain ⟨tA,tB⟩:=so.ap.told ok.ps so.eq;refine ⟨_,rfl,d,rfl,⟨_,SqL.of ed⟩,fun D hD=>?_⟩;refine yK us.length (fun i ys H'=> ∃zs:List Addr,i<=us.length/\ys=zs.map V.ref/\zs.length<=i/\PwA H1 zs ((ds.take i).filter fun q=>decide (0<q.2))/\H'=L2.upd H1 D (.lst ys)) ⟨[],zUZ _,rfl,zUO _,.nil,rfl⟩ (by rw [zUV];omega) ?_ ?_ ?_
   ·rintro i ys H' hi ⟨zs,_,rfl,hz,_,rfl⟩;have hq: ∀o,SqL K (L2.upd H1 D o) d (us.map V.ref):=fun o=>SqL.of (zE.upd hD _ _ ed);refine ⟨by simpa using hz,zC,fun h=>⟨_,_,hq _,zUK (by simpa using h)⟩,fun h=>⟨_,hq _,by simp;omega⟩⟩
   ·rintro i ys H' x H'' hi ⟨zs,_,rfl,hz,pz,rfl⟩ ⟨rfl,hx⟩ pre hpre;obtain ⟨p0,rfl⟩:=zVN.mp hpre;have hx':=hx _ (SqL.of (zE.upd hD _ _ ed));rw [zUP,zUK hi] at hx';cases hx';obtain ⟨g,eg,hg⟩:=PwA.get pd (zUK hi);have etk:ds.take (i+1)=ds.take i++ [g] :=by rw [zUh,eg];rfl
    have hg':=zE.upd hD (o:= .lst (zs.map V.ref)) _ _ hg;refine ⟨⟨[some (.ref us[i])],rfl,rfl⟩,?_⟩;refine ⟨_,rfl,us[i],_,_,_,rfl,rfl,SqT.of hg',rfl,_,_,rfl,rfl,_,rfl,?_⟩;refine yB (fun c=>?_) (fun c=>?_)
    ·refine ⟨_,rfl,zC,zs++ [us[i]],hi,by simp,by simp;omega,?_,by rw [zAp]⟩;rw [etk,zVW,zUq (p:=fun q:Pw=>decide (0<q.2)) c,List.filter_nil];exact Paired.snoc' pz hg
    ·refine ⟨zs,hi,rfl,by omega,?_,rfl⟩;rw [etk,zVW,zUr (p:=fun q:Pw=>decide (0<q.2)) c,List.filter_nil,zUm];exact pz
   ·rintro ys H' ⟨zs,_,rfl,hz,pz,rfl⟩;rw [ld,zUk] at pz;have s2:=zE.upd hD (o:= .lst (zs.map V.ref));have e2:=zCW s2;have ed2:=s2 _ _ ed;have pd2:=PwA.same pd s2;have pz2:=PwA.same pz s2;have s02:=s1.trans s2;generalize L2.upd H1 D (.lst (zs.map V.ref))=H2 at e2 ed2 pd2 pz2 s02⊢;have lz:(ds.filter fun q=>decide (0<q.2)).length<=100000:=zUY (zVc _ _) lds;refine ⟨D,ds.filter (fun q=>decide (0<q.2)),rfl,⟨zs,e2,pz2⟩,(so.ap.filter _).pos,lz,fun p hp=>?_,fun hA=>?_,fun hA=>?_⟩
    ·obtain ⟨m1,m2⟩:=zVY.mp hp;have:=hex p m1;have m2':0<p.2:=by simpa using m2
     exact ⟨so.sd p m1,m2',by omega⟩
    ·rw [zPB] at hA⊢;refine ⟨_,rfl,d,rfl,⟨_,SqL.of ed2⟩,fun D2 hD2=>?_⟩;refine yK us.length (fun i ys H'=> ∃zs:List Addr,i<=us.length/\ys=zs.map V.ref/\zs.length<=i/\PwA H' zs (((ds.take i).filter fun q=>decide (q.2<0)).map fun p=>(p.1,-p.2))/\zE H2 H'/\H' D2=some (.lst ys)) ⟨[],zUZ _,rfl,zUO _,.nil,zE.upd hD2,zC⟩ (by rw [zUV];omega) ?_ ?_ ?_
     ·rintro i ys H' hi ⟨zs,_,rfl,hz,_,s3,e3⟩;have hq:SqL K H' d (us.map V.ref):=SqL.of (s3 _ _ ed2);refine ⟨by simpa using hz,e3,fun h=>⟨_,_,hq,zUK (by simpa using h)⟩,fun h=>⟨_,hq,by simp;omega⟩⟩
     ·rintro i ys H' x H'' hi ⟨zs,_,rfl,hz,pz,s3,e3⟩ ⟨rfl,hx⟩ pre hpre;obtain ⟨p0,rfl⟩:=zVN.mp hpre;have hx':=hx _ (SqL.of (s3 _ _ ed2));rw [zUP,zUK hi] at hx';cases hx';obtain ⟨g,eg,hg⟩:=PwA.get (PwA.same pd2 s3) (zUK hi);have etk:ds.take (i+1)=ds.take i++ [g] :=by rw [zUh,eg];rfl
      refine ⟨⟨[some (.ref us[i])],rfl,rfl⟩,?_⟩;refine ⟨_,rfl,us[i],_,_,_,rfl,rfl,SqT.of hg,rfl,_,_,rfl,rfl,_,rfl,?_⟩;refine yB (fun c=>?_) (fun c=>?_)
      ·refine ⟨_,rfl,us[i],_,_,_,rfl,rfl,SqT.of hg,rfl,_,rfl,us[i],_,_,_,rfl,rfl,SqT.of hg,rfl,_,rfl,bs 2,fun t ht=>⟨(zE.upd ht) _ _ e3,zs++ [t],hi,by simp,by simp;omega,?_,zE.store (s3.trans (zE.upd ht)) hD2,zC⟩⟩;rw [etk,zVW,zUq (p:=fun q:Pw=>decide (q.2<0)) c,List.filter_nil,zUg];have st:=zE.upd ht (o:= .tup [.int (g.1:Int),.int (-g.2)]);have hDt:t≠D2:=fun zz=>by rw [zz,e3] at ht;cases ht
       refine Paired.snoc' (PwA.store (PwA.same pz st) (st _ _ e3)) ?_;unfold PwT;rw [zG hDt];exact zC
      ·refine ⟨zs,hi,rfl,by omega,?_,s3,e3⟩;rw [etk,zVW,zUr (p:=fun q:Pw=>decide (q.2<0)) c,List.filter_nil,zUm];exact pz
     ·rintro ys H3 ⟨zs,_,rfl,hz,pz,s3,e3⟩;rw [ld,zUk] at pz;have lz2:((ds.filter fun q=>decide (q.2<0)).map fun p:Pw=>(p.1,-p.2)).length<=100000:=by rw [zUR];exact zUY (zVc _ _) lds
      refine ⟨D2,_,rfl,⟨zs,e3,pz⟩,fun p hp=>?_,lz2,fun p hp=>?_,fun hB=>?_,fun hB=>?_⟩
      ·obtain ⟨r,hr,rfl⟩:=zVR.mp hp;exact so.ap.pos r (zVY.mp hr).1
      ·obtain ⟨r,hr,rfl⟩:=zVR.mp hp;obtain ⟨m1,m2⟩:=zVY.mp hr;have:=hex r m1;have m2':r.2<0:=by simpa using m2
       exact ⟨so.sd r m1,by show 0< -r.2;omega,by show -r.2<=10000000;omega⟩
      ·rw [zOf] at hB⊢;rw [tA] at hA⊢;rw [tB] at hB⊢;refine ⟨_,rfl,_,rfl,bs 2,fun r hr=>?_⟩;exact q hA hB r _ (s02.trans (s3.trans (zE.upd hr))) zC
      ·rw [zOf,tB] at hB;exact qe (fun z=>hB z.2) _ (s02.trans s3)
    ·rw [zPB,tA] at hA;exact qe (fun z=>hA z.1) _ s02
theorem zTT(e:zE H H')(h:SqT K H a xs):SqT K H' a xs:=by
 rcases h with (h |⟨o,h⟩)| h
 ·exact .inl (.inl (e _ _ h))
 ·exact .inl (.inr ⟨o,e _ _ h⟩)
 ·exact .inr h
def zGI(K:zVK):Sp:=fun vs H Q _=> ∃(t:Addr) (a b:Nat) (e:Int),vs= [.ref t,.int e] /\SqT K H t [.int (a:Int),.int (b:Int)] /\ ∀l H',zE H H'->H l=none->PwL H' l [(a,e),(b,-e)] ->Q (.ref l) H'
theorem zRE:FnScope ["amount","exponent"] ["amount","exponent"] (zK zEc):=fs
theorem zQP(F:Fun K "powers_of" "powers_of" zEc f fd)(B:Bn mg):FnOk P w K mg base CX0 1 f fd ["amount","exponent"] (zGI K):=by
 refine F.ok zRE (fun vs H Q E h=>?_) (fun _ A _ s H vs Q E hr h=>?_)
 ·obtain ⟨t,a,b,e,rfl,_⟩:=h;rfl
 ·obtain ⟨t,a,b,e,rfl,ht,q⟩:=h;refine ⟨_,QB.out (zJ
   (zW (zy (qc (zQ (qc (zR (K:=K) rfl (qw 0 rfl) zF (fun _ _=>rfl)) (qc (qw 1 rfl) zD rfl) rfl)) (qc (zQ (qc (zR (K:=K) rfl (qw 0 rfl) zF (fun _ _=>rfl)) (qc (zCd (qw 1 rfl)) zD rfl) rfl)) zD rfl) rfl)))),?_⟩
  refine ⟨_,rfl,t,_,_,_,rfl,rfl,ht,rfl,_,rfl,bs 2,fun t1 h1=>?_⟩;have s1:=zE.upd h1 (o:= .tup [.int (a:Int),.int e]);refine ⟨_,rfl,t,_,_,_,rfl,rfl,zTT s1 ht,rfl,_,rfl,_,rfl,bs 2,fun t2 h2=>?_⟩;have s2:=zE.upd h2 (o:= .tup [.int (b:Int),.int (-e)]);refine ⟨bs 2,fun l hl=>?_⟩;have s3:=zE.upd hl (o:= .lst [.ref t1,.ref t2]);have hl0:H l=none:=by
   cases z:H l with
   | none=>rfl
   | some o=>rw [(s1.trans s2) _ _ z] at hl;cases hl
  exact q l _ (s1.trans (s2.trans s3)) hl0 ⟨[t1,t2],zC,.cons ((s2.trans s3) _ _ zC) (.cons (s3 _ _ zC) .nil)⟩
def zGx(K:zVK):Sp:=fun vs H Q _=> ∃(u:Addr) (us:List (Str×Int)),vs= [.ref u] /\zx H u us/\us.length<=1000/\ ∀H',zE H H'->Q (.bl (yp us)) H'
theorem zPQ:FnScope ["unit"] ["unit"] (zK zEL):=fs
theorem zOK(F:Fun K "is_too_steep" "is_too_steep" zEL f fd)(B:Bn mg)(G:Gv K mg W O):FnOk P w K mg base CX0 1 f fd ["unit"] (zGx K):=by
 obtain ⟨t64,m64⟩:=G.me;refine F.ok zPQ (fun vs H Q E h=>?_) (fun _ A _ s H vs Q E hr h=>?_)
 ·obtain ⟨u,us,rfl,_⟩:=h;rfl
 ·obtain ⟨u,us,rfl,⟨ts,eu,pu⟩,hl,q⟩:=h;have lt:=Paired.length pu;refine ⟨_,QB.out (zJ
   (zW (yE (zHJ (K:=K) rfl rfl) rfl B.any zLg (qc (ye (cl:= []) ["pair"] [] [] rfl (zBt (K:=K) rfl (qw 0 rfl)) rfl (by decide+kernel) rfl (by decide+kernel) (fun _ _ h=>nomatch h) rfl (fun j y i h=>nomatch h) (yL rfl) (fun _ _ _ _=>(zm 0 (show (["pair"] :List Str).Nodup by decide+kernel) rfl (.inl rfl) (.inr rfl))) (fun _ _ _ _=>zBh) (fun _ _ _ _=>(zBf zAh (yE zCZ rfl B.abs zEH (qc (zR (K:=K) rfl (qw 0 rfl) zF (fun _ _=>rfl)) zD rfl) rfl) (yg (v:= .int 64) rfl m64 ⟨t64,rfl⟩ rfl) rfl)) (fun _=>rfl)) zD rfl) rfl))),?_⟩
  refine ⟨_,rfl,u,rfl,⟨_,SqT.of eu⟩,fun D hD=>?_⟩;refine yK ts.length (fun i ys H'=>i<=ts.length/\ys=((us.take i).map fun p=>decide (64<p.2.natAbs)).map V.bl/\H'=L2.upd H D (.lst ys)) ⟨zUZ _,rfl,rfl⟩ (by rw [zUV];omega) ?_ ?_ ?_
  ·rintro i ys H' hi ⟨_,rfl,rfl⟩;have hq: ∀o,SqT K (L2.upd H D o) u (ts.map V.ref):=fun o=>SqT.of (zE.upd hD _ _ eu);refine ⟨by simp;omega,zC,fun h=>⟨_,_,hq _,zUK (by simpa using h)⟩,fun h=>⟨_,hq _,by simp;omega⟩⟩
  ·rintro i ys H' x H'' hi ⟨_,rfl,rfl⟩ ⟨rfl,hx⟩ pre hpre;obtain ⟨p0,rfl⟩:=zVN.mp hpre;have hx':=hx _ (SqT.of (zE.upd hD _ _ eu));rw [zUP,zUK hi] at hx';cases hx';obtain ⟨m,e,en,et⟩:=pu.get (zUK hi);have etk:us.take (i+1)=us.take i++ [(m,e)] :=by rw [zUh,en];rfl
   have et3:=zE.upd hD (o:= .lst (((us.take i).map fun p=>decide (64<p.2.natAbs)).map V.bl)) _ _ et;refine ⟨⟨[some (.ref ts[i])],rfl,rfl⟩,?_⟩;refine zZ ?_;refine ⟨_,rfl,ts[i],_,_,_,rfl,rfl,SqT.of et3,rfl,e,rfl,_,_,rfl,rfl,zC,hi,?_,by rw [zAp]⟩;rw [etk,zUg,zUg];have:decide ((64:Int)<(if e<0 then -e else e))=decide (64<e.natAbs):=by
    rw [zVU,decide_eq_true_eq,decide_eq_true_eq];split<;>omega
   show _++ [V.bl (decide ((64:Int)<(if e<0 then -e else e)))] =_;rw [this];rfl
  ·rintro ys H' ⟨_,rfl,rfl⟩;rw [lt,zUk];refine ⟨D,_,rfl,SqL.of zC,?_⟩;rw [List.any_map];exact q _ (zE.upd hD)
def XAt(H:Hp)(e C:Addr)(fs:List (Str×V)):Prop:= ∃dx,dx≠e/\H e=some (XO e C (some dx))/\H dx=some (XD dx fs)
def zCp(C:Addr)(n1 n2:Str):Sp:=fun vs H Q _=> ∃p x y,vs= [.ref p,x,y] /\H p=some (XO p C none)/\ ∀H',XAt H' p C (ym n2 y [(n1,x)])->(∀b o,H b=some o->b≠p->H' b=some o)->Q .non H'
theorem zHB(n:Str)(x:V)(fs:List (Str×V)):(ym n x fs).lookup n=some x:=by rw [zBH,if_pos rfl]
theorem lkP(x y:V):([("pairs",x),("bases",y)] :List (Str×V)).lookup ("pairs" :Str)=some x:=by simp [List.lookup]
theorem lkB(x y:V):([("pairs",x),("bases",y)] :List (Str×V)).lookup ("bases" :Str)=some y:=by
 rw [List.lookup_cons,show (("bases" :Str)== "pairs")=false from by decide];simp [List.lookup]
theorem lk1(n:Str)(x:V):([(n,x)] :List (Str×V)).lookup n=some x:=by simp [List.lookup]
theorem zGt{fs:List (Str×V)}(h: ¬n=m)(e:fs.lookup n=some y):(ym m x fs).lookup n=some y:=by rw [zBH,if_neg h];exact e
structure RX(K:zVK)(mg:Str->Option Value)(nm:Str)(C f:Addr)(n1 n2:Str):Prop where
 mx:MkX K C f
 xc:XCls K C
 a1:yR K C n1
 a2:yR K C n2
 mg:mg nm=some (.ref C)
def Rf2(H:Hp)(E:XK)(C:Addr)(n1 n2:Str)(x y:V):Prop:= ∀H' dx,zE H H'->H' dx=some (XD dx (ym n2 y [(n1,x)]))->E (.ref C) (some dx) H'
def Rf0(H:Hp)(E:XK)(C:Addr):Prop:= ∀H',zE H H'->E (.ref C) none H'
theorem Rf2.same(h:Rf2 H E C n1 n2 x y)(s:zE H H1):Rf2 H1 E C n1 n2 x y:=fun H' dx s' e=>h H' dx (s.trans s') e
theorem Rf0.same(h:Rf0 H E C)(s:zE H H1):Rf0 H1 E C:=fun H' s'=>h H' (s.trans s')
theorem zII(hE:Rf2 H E C n1 n2 x y)(ea:Addr)(he:H ea=none):
  zCp C n1 n2 [.ref ea,x,y] (L2.upd H ea (XO ea C none)) (fun r H2=>r= .non/\ ∃a dx,V.ref ea= .ref a/\H2 a=some (XO a C (some dx))/\E (.ref C) (some dx) (off H2 a)) E1:=by
 refine ⟨ea,x,y,rfl,zC,fun H' ⟨dx,ne,h1,h2⟩ kp=>⟨rfl,ea,dx,rfl,h1,hE _ _ (fun b o h=>?_) ?_⟩⟩
 ·have hb:=zI h he;rw [zBj hb];exact kp b o (by rw [zG hb];exact h) hb
 ·rw [zBj ne];exact h2
theorem FunD.okXD{x qual:Str}{st:Stmt}{dV:Value}{f:Addr}{fd:FuncData}{N ps:List Str}{k:Nat}{sp:Sp}(F:FunD K x qual st dV f fd)(S:FnScope N ps (zK st))(len: ∀vs H Q E,sp vs H Q E->vs.length=ps.length)
  (hbody: ∀(cdv:Value) (A:Around) (outer:List Env) (s:Shared) (H:Hp) (vs:List V) (Q:VK) (E:XK),Room k (A.deeper (envOfC qual (zK st) s.heap.objs.size f cdv))->sp vs H Q E->
   ∃t,PSs (zAx (yF P w) P w K mg base N qual (zK st) f cdv A outer s H E) (yd st) t/\t {nx:=fun _ H'=>Q .non H',rt:=Q} (start N vs) H):FnOk P w K mg base (yF P w) (k+1) f fd ps sp:=by
 obtain ⟨oc,od,kV,doc,pm,an,cdv,ct,osl,rfl,lk,hcd⟩:=F.ex;refine zKq lk hcd S len fun A outer s H vs Q E hr hsp=>?_;exact hbody cdv A outer s H vs Q E hr hsp
theorem zTh:FnScope ["self","row","name"] ["self","row","name"] (zK (yM (top 9) 0)):=fs
theorem zSq(F:Fun K "__init__" "NoName.__init__" (yM (top 9) 0) f fd)(R:RX K mg "NoName" C f "row" "name"):FnOk P w K mg base CX0 1 f fd ["self","row","name"] (zCp C "row" "name"):=by
 refine F.ok zTh (fun vs H Q E h=>?_) (fun _ A _ s H vs Q E hr h=>?_)
 ·obtain ⟨p,x,y,rfl,_⟩:=h;rfl
 ·obtain ⟨p,x,y,rfl,hp,k⟩:=h;refine ⟨_,zv (zFa (pv 0) (pv 1) rfl) (yC (zFM (pv 0) (pv 2) rfl)),?_⟩;refine ⟨_,rfl,_,rfl,p,C,rfl,hp,R.xc,R.a1,fun dx hdx hne=>?_⟩;refine ⟨_,rfl,_,rfl,p,C,dx,_,rfl,zC,by rw [zG hne,zC],R.xc,R.a2,(by show 1<1000;decide),?_⟩;refine k _ ⟨dx,hne,by rw [zG hne.symm,zC],zC⟩ fun b o e hb=>?_;have h1:b≠dx:=zI e hdx;rw [zG h1,zG hb,zG h1];exact e
theorem zTf:FnScope ["self","row","name"] ["self","row","name"] (zK (yM (top 10) 0)):=fs
theorem zTG(F:Fun K "__init__" "Twice.__init__" (yM (top 10) 0) f fd)(R:RX K mg "Twice" C f "row" "name"):FnOk P w K mg base CX0 1 f fd ["self","row","name"] (zCp C "row" "name"):=by
 refine F.ok zTf (fun vs H Q E h=>?_) (fun _ A _ s H vs Q E hr h=>?_)
 ·obtain ⟨p,x,y,rfl,_⟩:=h;rfl
 ·obtain ⟨p,x,y,rfl,hp,k⟩:=h;refine ⟨_,zv (zFa (pv 0) (pv 1) rfl) (yC (zFM (pv 0) (pv 2) rfl)),?_⟩;refine ⟨_,rfl,_,rfl,p,C,rfl,hp,R.xc,R.a1,fun dx hdx hne=>?_⟩;refine ⟨_,rfl,_,rfl,p,C,dx,_,rfl,zC,by rw [zG hne,zC],R.xc,R.a2,(by show 1<1000;decide),?_⟩;refine k _ ⟨dx,hne,by rw [zG hne.symm,zC],zC⟩ fun b o e hb=>?_;have h1:b≠dx:=zI e hdx;rw [zG h1,zG hb,zG h1];exact e
theorem zTn:FnScope ["self","one","other"] ["self","one","other"] (zK (yM (top 14) 0)):=fs
theorem zTU(F:Fun K "__init__" "Unlike.__init__" (yM (top 14) 0) f fd)(R:RX K mg "Unlike" C f "one" "other"):FnOk P w K mg base CX0 1 f fd ["self","one","other"] (zCp C "one" "other"):=by
 refine F.ok zTn (fun vs H Q E h=>?_) (fun _ A _ s H vs Q E hr h=>?_)
 ·obtain ⟨p,x,y,rfl,_⟩:=h;rfl
 ·obtain ⟨p,x,y,rfl,hp,k⟩:=h;refine ⟨_,zv (zFa (pv 0) (pv 1) rfl) (yC (zFM (pv 0) (pv 2) rfl)),?_⟩;refine ⟨_,rfl,_,rfl,p,C,rfl,hp,R.xc,R.a1,fun dx hdx hne=>?_⟩;refine ⟨_,rfl,_,rfl,p,C,dx,_,rfl,zC,by rw [zG hne,zC],R.xc,R.a2,(by show 1<1000;decide),?_⟩;refine k _ ⟨dx,hne,by rw [zG hne.symm,zC],zC⟩ fun b o e hb=>?_;have h1:b≠dx:=zI e hdx;rw [zG h1,zG hb,zG h1];exact e
def zAg(H:Hp)(e:Ent)(p:Key×V):Prop:=p.1= .inr e.nm/\ ∃t am un,p.2= .ref t/\H t=some (.tup [.ref am,.ref un])/\H am=some (.tup [.int (e.aa:Int),.int (e.ab:Int)])/\zx H un e.un
def zGU(H:Hp)(e:Ent)(p:Key×V):Prop:=p.1= .inr e.nm/\ ∃t am un,p.2= .ref t/\H t=some (.tup [.ref am,.ref un])/\H am=some (.tup [.int (e.fa:Int),.int (e.fb:Int)])/\zx H un e.fu
def Tps(H H':Hp):Prop:= ∀a xs,H a=some (.tup xs)->H' a=some (.tup xs)
theorem zE.tps(s:zE H H'):Tps H H':=fun a xs h=>s a _ h
theorem zx.tps{ps:List (Str×Int)}(h:zx H u ps)(s:Tps H H'):zx H' u ps:=by
 obtain ⟨us,e,p⟩:=h;refine ⟨us,s _ _ e,?_⟩;unfold yD at*;exact Paired.mapP p fun a b z=>s _ _ z
theorem zAg.tps{e:Ent}{p:Key×V}(h:zAg H e p)(s:Tps H H'):zAg H' e p:=let ⟨a,t,am,un,b,c,d,u⟩:=h;⟨a,t,am,un,b,s _ _ c,s _ _ d,u.tps s⟩
theorem zGU.tps{e:Ent}{p:Key×V}(h:zGU H e p)(s:Tps H H'):zGU H' e p:=let ⟨a,t,am,un,b,c,d,u⟩:=h;⟨a,t,am,un,b,s _ _ c,s _ _ d,u.tps s⟩
structure Tb(Ns:List Str)(C dx pa ba:Addr)(H:Hp)(t:Addr)(E:List Ent):Prop where
 at_:H t=some (.ins C dx [("pairs",.ref pa),("bases",.ref ba)])
 ne:pa≠ba
 ps: ∃kvs,H pa=some (.dK kvs)/\Paired (zAg H) E kvs
 bs: ∃kvs,H ba=some (.dK kvs)/\Paired (zGU H) E kvs
 ok: ∀e∈E,EntOk Ns e
 len:E.length<=12
theorem Tb.same{E:List Ent}(h:Tb Ns C dx pa ba H t E)(s:zE H H'):Tb Ns C dx pa ba H' t E:=by
 obtain ⟨kp,e1,p1⟩:=h.ps;obtain ⟨kb,e2,p2⟩:=h.bs;exact ⟨s _ _ h.at_,h.ne,⟨kp,s _ _ e1,Paired.mapP p1 fun a b z=>z.tps (zE.tps s)⟩,⟨kb,s _ _ e2,Paired.mapP p2 fun a b z=>z.tps (zE.tps s)⟩,h.ok,h.len⟩
theorem yO{F:Ent->Key×V->Prop}(hk: ∀e p,F e p->p.1= .inr e.nm)(n:Str): ∀{E:List Ent} {kvs:List (Key×V)},Paired F E kvs->
  (yI kvs (.inr n)=none/\E.find? (fun e=>e.nm==n)=none)\/ ∃e v,yI kvs (.inr n)=some v/\E.find? (fun e=>e.nm==n)=some e/\F e (.inr n,v)
 | _,_,.nil=> .inl ⟨rfl,rfl⟩
 | e::E,p::kvs,.cons h t=>by
  have hp:=hk e p h;by_cases z:e.nm=n
  ·refine .inr ⟨e,p.2,zAb (by rw [hp,z]),?_,?_⟩
   ·rw [zVb,show (e.nm==n)=true from beq_iff_eq.mpr z]
   ·have:p=(.inr n,p.2):=by rw [<-z,<-hp]
    rw [<-this];exact h
  ·have zb:(e.nm==n)=false:=beq_eq_false_iff_ne.mpr z;have zk: ¬p.1= .inr n:=by
    rw [hp];intro y;exact z (Sum.inr.inj y)
   rw [zAd zk,zVb,zb];exact yO hk n t
theorem zAO{E:List Ent}:made E n=(E.find? fun e=>e.nm==n).isSome:=by
 unfold made;rw [zVU,List.any_eq_true,List.find?_isSome]
theorem Paired.keys'{F:Ent->Key×V->Prop}(hk: ∀e p,F e p->p.1= .inr e.nm): ∀{E:List Ent} {kvs:List (Key×V)},Paired F E kvs->kvs.map (fun p=>kV p.1)=E.map fun e=>V.str e.nm
 | _,_,.nil=>rfl
 | e::E,p::kvs,.cons h t=>by
  rw [zVP,zVP,Paired.keys' hk t,hk e p h];rfl
theorem Paired.drop'{F:Ent->Key×V->Prop}(hk: ∀e p,F e p->p.1= .inr e.nm)(n:Str): ∀{E:List Ent} {kvs:List (Key×V)},Paired F E kvs->Paired F (E.filter fun e=>!(e.nm==n)) (zAf kvs (.inr n))
 | _,_,.nil=> .nil
 | e::E,p::kvs,.cons h t=>by
  have hp:=hk e p h;unfold zAf;by_cases z:e.nm=n
  ·rw [zUr (by simp [z]),zUr (by simp [hp,z])];exact Paired.drop' hk n t
  ·rw [zUq (by simp [z]),zUq (by rw [hp];simp;exact z)];exact .cons h (Paired.drop' hk n t)
theorem pk: ∀e p,zAg H e p->p.1= .inr e.nm:=fun _ _ h=>h.1
theorem bk: ∀e p,zGU H e p->p.1= .inr e.nm:=fun _ _ h=>h.1
structure TC(K:zVK)(C:Addr):Prop where
 cl:Cls K C
 n1:yR K C "pairs"
 n2:yR K C "bases"
abbrev zHr:Stmt:=yM (top 45) 0
abbrev zFx:Stmt:=yM (top 45) 1
abbrev zEi:Stmt:=yM (top 45) 2
abbrev zEv:Stmt:=yM (top 45) 3
abbrev zHw:Stmt:=yM (top 45) 4
abbrev zKd:Stmt:=yM (top 45) 5
abbrev mOf:Stmt:=yM (top 45) 6
abbrev zGe:Stmt:=yM (top 45) 7
abbrev zHp:Stmt:=yM (top 45) 8
def zJL(C:Addr):Sp:=fun vs H Q _=> ∃t dx,vs= [.ref t] /\H t=some (.ins C dx [])/\ ∀pa ba H',H pa=none->H ba=none->pa≠ba->H'=L2.upd (L2.upd (L2.upd H pa (.dK [])) ba (.dK [])) t (.ins C dx [("pairs",.ref pa),("bases",.ref ba)])->Q .non H'
theorem zQm:FnScope ["self"] ["self"] (zK zHr):=fs
theorem zPt(F:Fun K "__init__" "Table.__init__" zHr f fd)(T:TC K C):FnOk P w K mg base CX0 1 f fd ["self"] (zJL C):=by
 refine F.ok zQm (fun vs H Q E h=>?_) (fun _ A _ s H vs Q E hr h=>?_)
 ·obtain ⟨t,dx,rfl,_⟩:=h;rfl
 ·obtain ⟨t,dx,rfl,ht,q⟩:=h;refine ⟨_,QB.out (zH
   (zOl (K:=K) rfl (qw 0 rfl) zCE rfl) (zJ
   (zOl (K:=K) rfl (qw 0 rfl) zCE rfl))),?_⟩
  intro pa hpa;refine ⟨_,rfl,t,C,dx,[],rfl,by rw [zG (zI ht hpa)];exact ht,T.cl,T.n1,by show 0<1000;decide,?_⟩;intro ba hba;have h1:t≠pa:=zI ht hpa;have h2:ba≠t:=fun z=>by rw [z,zC] at hba;cases hba
  have hba':(L2.upd H pa (.dK [])) ba=none:=by rw [zG h2] at hba;exact hba
  have h3:ba≠pa:=fun z=>by rw [z,zC] at hba';cases hba'
  refine ⟨_,rfl,t,C,dx,[("pairs",.ref pa)],rfl,by rw [zG h2.symm,zC];rfl,T.cl,T.n2,by show 1<1000;decide,?_⟩;rw [zG h3] at hba';refine q pa ba _ hpa hba' h3.symm ?_
  funext b
  unfold L2.upd;by_cases z1:b=t
  ·simp [z1];rfl
  ·by_cases z2:b=ba
   ·simp [z1,z2,h2]
   ·simp [z1,z2]
def zKt(C:Addr):Sp:=fun vs H Q _=> ∃(t dx pa ba:Addr) (Ns:List Str) (E:List Ent),vs= [.ref t] /\Tb Ns C dx pa ba H t E/\ ∀l,H l=none->Q (.ref l) (L2.upd H l (.lst (E.map fun e=>V.str e.nm)))
theorem zSt:FnScope ["self"] ["self"] (zK zKd):=fs
theorem zRz(F:Fun K "all_made" "Table.all_made" zKd f fd)(B:Bn mg)(T:TC K C):FnOk P w K mg base CX0 1 f fd ["self"] (zKt C):=by
 refine F.ok zSt (fun vs H Q E h=>?_) (fun _ A _ s H vs Q E hr h=>?_)
 ·obtain ⟨t,dx,pa,ba,Ns,E0,rfl,_⟩:=h;rfl
 ·obtain ⟨t,dx,pa,ba,Ns,E0,rfl,tb,q⟩:=h;obtain ⟨kvs,e1,p1⟩:=tb.ps;refine ⟨_,QB.out (zJ
   (zW (zCu (zGR rfl) rfl B.list zDD (qc (zBe (K:=K) rfl (qw 0 rfl) rfl) zD rfl) rfl))),?_⟩
  refine ⟨_,rfl,t,C,dx,_,_,rfl,tb.at_,T.cl,T.n1,lkP _ _,pa,kvs,rfl,.inl e1,fun l hl=>?_⟩;rw [Paired.keys' pk p1];exact q l hl
theorem Paired.getR{α β:Type}{F:α->β->Prop}{xs:List α}{ys:List β}(h:Paired F xs ys){i:Nat}{y:β}(e:ys[i]?=some y): ∃x,xs[i]?=some x/\F x y:=by
 induction h generalizing i with
 | nil=>simp at e
 | cons h _ ih=>
  cases i with
  | zero=>
   simp at e;subst e;exact ⟨_,rfl,h⟩
  | succ j=>
   obtain ⟨x,e1,e2⟩:=ih (by simpa using e);exact ⟨x,by simpa using e1,e2⟩
def zEY(C BA NN:Addr):Sp:=fun vs H Q E=> ∃(t dx pa ba:Addr) (Ns:List Str) (E0:List Ent) (x:V),vs= [.ref t,x] /\Tb Ns C dx pa ba H t E0/\Ths H x/\
 ((yY x=false/\Rf0 H E BA)\/ ∃n,x= .str n/\yY x=true/\((made E0 n=true/\ ∀H',zE H H'->Q .non H')\/(made E0 n=false/\Rf2 H E NN "row" "name" .non (.str n))))
theorem zPo:FnScope ["self","name"] ["self","name"] (zK zFx):=fs
theorem Tb.dget{E:List Ent}(h:Tb Ns C dx pa ba H t E)(n:Str): ∃o,yr H pa (.str n) o/\o.isSome=made E n/\ ∀v,o=some v-> ∃e,E.find? (fun e=>e.nm==n)=some e/\zAg H e (.inr n,v):=by
 obtain ⟨kvs,e1,p1⟩:=h.ps;refine ⟨yI kvs (.inr n),.inl ⟨kvs,.inr n,.inl e1,rfl,rfl⟩,?_,fun v hv=>?_⟩
 ·rw [zAO];rcases yO pk n p1 with ⟨a,b⟩|⟨e,v,a,b,_⟩
  ·rw [a,b];rfl
  ·rw [a,b];rfl
 ·rcases yO pk n p1 with ⟨a,b⟩|⟨e,v',a,b,c⟩
  ·rw [a] at hv;cases hv
  ·rw [a] at hv;cases hv;exact ⟨e,b,c⟩
theorem zNj(F:Fun K "need_made" "Table.need_made" zFx f fd)(B:Bn mg)(T:TC K C)
  (FD:Fun K "need_name" "need_name" zDA fD fdD) (bD:zL K fdD ["thing"] []) (mD:mg "need_name" =some (.ref fD)) (GD:FnOk P w K mg base (yF P w) 3 fD fdD ["thing"] (zEn BA))
  (XNN:RX K mg "NoName" NN fNN "row" "name") (bNN:zL K fdNN ["self","row","name"] []) (GNN:FnOk P w K mg base CX0 1 fNN fdNN ["self","row","name"] (zCp NN "row" "name")):
  FnOk P w K mg base (yF P w) 4 f fd ["self","name"] (zEY C BA NN):=by
 refine (Fr.Fun.toD F).okXD zPo (fun vs H Q E h=>?_) (fun _ A _ s H vs Q E hr h=>?_)
 ·obtain ⟨t,dx,pa,ba,Ns,E0,x,rfl,_⟩:=h;rfl
 ·obtain ⟨t,dx,pa,ba,Ns,E0,x,rfl,tb,th,h⟩:=h;have hr3:Room 3 _:=hr;have hr2:Room 2 _:=hr.mono (by decide);have hu:=zAD hr;refine ⟨_,QB.out (zH
   (yn (zCO GD hr3 rfl mD FD.kp bD .nil zAN (qc (qw 1 rfl) zD rfl) rfl rfl rfl) rfl) (zJ
   (zq (zIx hu (qw 1 rfl) (zBe (K:=K) rfl (qw 0 rfl) rfl) rfl) (zJ
    (zFH XNN.mx GNN hr2 rfl XNN.mg bNN zO zCX rfl (qc zBE (qc (qw 1 rfl) zD rfl) rfl) rfl rfl rfl)) zn))),?_⟩
  rcases h with ⟨hn,q⟩|⟨n,rfl,hn,h⟩
  ·refine ⟨_,rfl,x,rfl,th,(fun z=>by rw [hn] at z;cases z),fun _ H' s'=>q H' s'⟩
  ·refine ⟨_,rfl,_,rfl,th,fun _ H1 s1=>?_,(fun z=>by rw [hn] at z;cases z)⟩;have tb1:=tb.same s1;obtain ⟨o,dg,os,_⟩:=tb1.dget n;refine ⟨_,rfl,_,rfl,t,C,dx,_,_,rfl,tb1.at_,T.cl,T.n1,lkP _ _,pa,o,rfl,dg,_,rfl,?_⟩;rcases h with ⟨hm,q⟩|⟨hm,q⟩
   ·rw [os,hm];exact q _ s1
   ·rw [os,hm];refine ⟨_,rfl,bs 2,fun ea he=>zII (q.same s1) ea he⟩
def zDQ(C:Addr):Sp:=fun vs H Q _=> ∃(t dx pa ba:Addr) (Ns:List Str) (E0:List Ent) (n:Str),vs= [.ref t,.str n] /\Tb Ns C dx pa ba H t E0/\Ns.length<=16/\ ∀H',zE H H'->Q (.bl (zAi E0 n)) H'
theorem zOC:FnScope ["self","name"] ["self","name"] (zK zEi):=fs
def unK(us:Prs):List (Key×V):=us.map fun p=>(.inr p.1,.int p.2)
theorem zKH(us:Prs)(n:Str):(yI (unK us) (.inr n)).isSome=inU us n:=by
 unfold unK inU;rw [<-zCV,List.any_map];congr 1
 funext p
 show decide ((Sum.inr p.1:Key)=Sum.inr n)=(p.1==n);rw [zVU,decide_eq_true_eq,beq_iff_eq];exact ⟨fun z=>Sum.inr.inj z,fun z=>by rw [z]⟩
theorem zFG: ∀{ts:List Addr} {us:Prs},yD H ts us->Paired (fun (t:Addr) (p:Key×V)=>H t=some (.tup [kV p.1,p.2])) ts (unK us)
 | _,_,.nil=> .nil
 | _,_,.cons h t=> .cons h (zFG t)
theorem zMt{us:Prs}(h:IsU us us):((unK us).map (·.1)).Nodup:=by
 unfold unK;rw [List.map_map];have:=zFL h.up;rw [List.Nodup,List.pairwise_map] at this⊢;exact this.imp fun z y=>z (Sum.inr.inj y)
theorem zNC{f C:Addr}{fd:FuncData}(F:Fun K "stands_in_one" "Table.stands_in_one" zEi f fd)(B:Bn mg)(T:TC K C):FnOk P w K mg base CX0 1 f fd ["self","name"] (zDQ C):=by
 refine F.ok zOC (fun vs H Q E h=>?_) (fun _ A _ s H vs Q E hr h=>?_)
 ·obtain ⟨t,dx,pa,ba,Ns,E0,n,rfl,_⟩:=h;rfl
 ·obtain ⟨t,dx,pa,ba,Ns,E0,n,rfl,tb,hNs,q⟩:=h;obtain ⟨kvs,e1,p1⟩:=tb.ps;have hu:=zAD hr;have lk:=Paired.length p1;refine ⟨_,QB.out (zKO (zJ
   (zW (yE (zHJ (K:=K) rfl rfl) rfl B.any zLg (qc (ye ["pair"] ["name"] [1] rfl (zQx (zBe (K:=K) rfl (qw 0 rfl) rfl) rfl rfl) rfl (by decide+kernel) rfl (by decide+kernel) (zAn rfl lk0) rfl (fr1 ⟨rfl,rfl,rfl,_,rfl,rfl⟩) (yL rfl) (fun _ _ _ _=>(zm 0 (show (["pair","name"] :List Str).Nodup by decide+kernel) rfl (.inl rfl) (.inr rfl))) (fun _ _ _ _=>zBh) (fun _ _ _ _=>(zTF hu (qx 1 rfl) (zCu (zGV rfl) rfl B.dict zJo (qc (zR (K:=K) rfl (qw 0 rfl) zF (fun _ _=>rfl)) zD rfl) rfl) rfl)) (fun _=>rfl)) zD rfl) rfl)))),?_⟩
  refine ⟨pa,kvs,e1,_,rfl,t,C,dx,_,_,rfl,tb.at_,T.cl,T.n1,lkP _ _,pa,kvs,rfl,.inl e1,fun ob _ D hD=>?_⟩;have hDp:D≠pa:=fun z=>by rw [z,zC] at hD;cases hD
  rw [zG hDp] at hD;refine yK kvs.length (fun i ys H'=>i<=kvs.length/\ys=((E0.take i).map fun e=>inU e.un n).map V.bl/\H' D=some (.lst ys)/\H' pa=some (.frz ob (.dK kvs))/\ ∀b u,H b=some u->b≠pa->H' b=some u) ?_ ?_ ?_ ?_ ?_
  ·refine ⟨zUZ _,rfl,zC,by rw [zG hDp.symm,zC],fun b u hb hp=>?_⟩;rw [zG (zI hb hD),zG hp];exact hb
  ·have:=tb.len;rw [zUV];omega
  ·rintro i ys H' hi ⟨_,rfl,h1,h2,_⟩;exact ⟨by simp;omega,h1,fun h=>⟨h2,h⟩,fun h=>⟨h2,by omega⟩⟩
  ·rintro i ys H' x H'' hi ⟨_,rfl,h1,h2,h3⟩ ⟨rfl,k,hx⟩ pre hpre;obtain ⟨p0,rfl⟩:=zVN.mp hpre;have tps:Tps H H'':=fun a xs z=>h3 a _ z (fun y=>by rw [y,e1] at z;cases z);obtain ⟨e,ee,ep,t1,am,un,ex,et,ea,eu⟩:=Paired.getR p1 hx;have ex':x= .ref t1:=ex;subst ex';have gu:=(tb.ok e (zUp ee)).un;have etk:E0.take (i+1)=E0.take i++ [e] :=by rw [zUh,ee];rfl
   obtain ⟨ts,eu1,eu2⟩:=eu.tps tps;refine ⟨⟨[some (.ref t1)],rfl,rfl⟩,?_⟩;refine zZ ?_;refine ⟨_,rfl,_,rfl,t1,_,_,_,rfl,rfl,SqT.of (tps _ _ et),rfl,un,ts,unK e.un,rfl,eu1,zFG eu2,zMt gu.up,fun d hd=>?_⟩;refine ⟨d,_,rfl,.inl ⟨_,.inr n,.inl zC,rfl,rfl⟩,?_⟩;have hdD:D≠d:=fun z=>by rw [<-z,h1] at hd;cases hd
   have hdp:pa≠d:=fun z=>by rw [<-z,h2] at hd;cases hd
   refine ⟨by rw [zG hdD];exact h1,by omega,?_,zC,?_,fun b u hb hp=>?_⟩
   ·rw [etk,zUg,zUg,zKH];rfl
   ·rw [zG hDp.symm,zG hdp];exact h2
   ·rw [zG (zI hb hD)];have:=h3 b u hb hp;rw [zG (zI this hd)];exact this
  ·rintro ys H' ⟨_,rfl,h1,h2,h3⟩;refine ⟨D,_,rfl,SqL.of h1,ob,h2,?_⟩;rw [<-lk,zUk,List.any_map];refine q _ fun b u hb=>?_;by_cases z:b=pa
   ·subst z;rw [e1] at hb;cases hb;exact zC
   ·rw [zG z];exact h3 b u hb z
def zDk(C BA NN:Addr):Sp:=fun vs H Q E=> ∃(t dx pa ba:Addr) (Ns:List Str) (E0:List Ent) (x:V),vs= [.ref t,x] /\Tb Ns C dx pa ba H t E0/\Ths H x/\
 ((yY x=false/\Rf0 H E BA)\/ ∃n,x= .str n/\yY x=true/\((∃e,E0.find? (fun e=>e.nm==n)=some e/\ ∀H' v,zE H H'->zAg H' e (.inr n,v)->Q v H')\/(made E0 n=false/\Rf2 H E NN "row" "name" .non (.str n))))
theorem zTe:FnScope ["self","name"] ["self","name"] (zK mOf):=fs
theorem zSs(F:Fun K "made_of" "Table.made_of" mOf f fd)(B:Bn mg)(T:TC K C)
  (mtM:Meth K C "need_made" fM) (bM:zL K fdM ["self","name"] []) (GM:FnOk P w K mg base (yF P w) 4 fM fdM ["self","name"] (zEY C BA NN)):
  FnOk P w K mg base (yF P w) 5 f fd ["self","name"] (zDk C BA NN):=by
 refine (Fr.Fun.toD F).okXD zTe (fun vs H Q E h=>?_) (fun _ A _ s H vs Q E hr h=>?_)
 ·obtain ⟨t,dx,pa,ba,Ns,E0,x,rfl,_⟩:=h;rfl
 ·obtain ⟨t,dx,pa,ba,Ns,E0,x,rfl,tb,th,h⟩:=h;have hr4:Room 4 _:=hr;have cl:=T.cl;have hu:=zAD hr;refine ⟨_,QB.out (zH
   (yn (zAl (qw 0 rfl) cl mtM GM hr4 bM .nil zAN (qc (qw 1 rfl) zD rfl) rfl rfl rfl) rfl) (zJ
   (zW (zo hu (zBe (K:=K) rfl (qw 0 rfl) rfl) (qw 1 rfl) (fun _ _=>rfl))))),?_⟩
  refine yT fun zz=>?_;refine ⟨_,rfl,t,dx,_,rfl,tb.at_,rfl,_,rfl,t,dx,pa,ba,Ns,E0,x,rfl,tb,th,?_⟩;rcases h with ⟨hn,q⟩|⟨n,rfl,hn,⟨e,he,q⟩|⟨hm,q⟩⟩
  ·exact .inl ⟨hn,q⟩
  ·refine .inr ⟨n,rfl,hn,.inl ⟨by rw [zAO,he];rfl,fun H1 s1=>?_⟩⟩;have tb1:=tb.same s1;obtain ⟨kvs,e1,p1⟩:=tb1.ps;rcases yO pk n p1 with ⟨a,b⟩|⟨e',v,a,b,c⟩
   ·rw [he] at b;cases b
   ·rw [he] at b;cases b;refine zz ?_;refine ⟨_,rfl,t,C,dx,_,_,rfl,tb1.at_,T.cl,T.n1,lkP _ _,_,rfl,pa,v,rfl,.inl ⟨kvs,.inr n,.inl e1,rfl,a.symm⟩,q _ v s1 c⟩
  ·exact .inr ⟨n,rfl,hn,.inr ⟨hm,q⟩⟩
def zLO(E:List Ent)(n:Str):List Ent:=E.filter fun e=>!(e.nm==n)
def zBx(C BA BT NN:Addr):Sp:=fun vs H Q E=> ∃(t dx pa ba:Addr) (Ns:List Str) (E0:List Ent) (x:V),vs= [.ref t,x] /\Tb Ns C dx pa ba H t E0/\Ns.length<=16/\Ths H x/\
 ((yY x=false/\Rf0 H E BA)\/ ∃n,x= .str n/\yY x=true/\((made E0 n=false/\Rf2 H E NN "row" "name" .non (.str n))\/(made E0 n=true/\zAi E0 n=true/\Rf0 H E BT)\/
  (made E0 n=true/\zAi E0 n=false/\ ∀H',(∀b u,H b=some u->b≠pa->b≠ba->H' b=some u)->Tb Ns C dx pa ba H' t (zLO E0 n)->Q .non H')))
theorem zSn:FnScope ["self","name"] ["self","name"] (zK zHw):=fs
theorem zPu(F:Fun K "drop" "Table.drop" zHw f fd)(B:Bn mg)(T:TC K C)(XT:ExT K mg BT)
  (mtM:Meth K C "need_made" fM) (bM:zL K fdM ["self","name"] []) (GM:FnOk P w K mg base (yF P w) 4 fM fdM ["self","name"] (zEY C BA NN))
  (mtS:Meth K C "stands_in_one" fS) (bS:zL K fdS ["self","name"] []) (GS:FnOk P w K mg base CX0 1 fS fdS ["self","name"] (zDQ C)):
  FnOk P w K mg base (yF P w) 5 f fd ["self","name"] (zBx C BA BT NN):=by
 refine (Fr.Fun.toD F).okXD zSn (fun vs H Q E h=>?_) (fun _ A _ s H vs Q E hr h=>?_)
 ·obtain ⟨t,dx,pa,ba,Ns,E0,x,rfl,_⟩:=h;rfl
 ·obtain ⟨t,dx,pa,ba,Ns,E0,x,rfl,tb,hNs,th,h⟩:=h;have hr4:Room 4 _:=hr;have hr1:Room 1 _:=hr.mono (by decide);have cl:=T.cl;have hu:=zAD hr;refine ⟨_,QB.out (zH
   (yn (zAl (qw 0 rfl) cl mtM GM hr4 bM .nil zAN (qc (qw 1 rfl) zD rfl) rfl rfl rfl) rfl) (zH
   (zq (yb (zIZ (qw 0 rfl) cl mtS GS hr1 bS .nil zO (qc (qw 1 rfl) zD rfl) rfl rfl rfl) (fun _=>rfl)) (zJ
    (zAa XT.inT yy rfl rfl XT.mgT (qc zN zD rfl) rfl rfl rfl)) zn) (zH
   (yn (zEQ (zBe (K:=K) rfl (qw 0 rfl) rfl) (qw 1 rfl) ⟨rfl,rfl,rfl,rfl⟩) rfl) (zJ
   (yn (zEQ (zBe (K:=K) rfl (qw 0 rfl) rfl) (qw 1 rfl) ⟨rfl,rfl,rfl,rfl⟩) rfl))))),?_⟩
  refine ⟨_,rfl,t,dx,_,rfl,tb.at_,rfl,_,rfl,t,dx,pa,ba,Ns,E0,x,rfl,tb,th,?_⟩;rcases h with ⟨hn,q⟩|⟨n,rfl,hn,⟨hm,q⟩|⟨hm,hs,q⟩|⟨hm,hs,q⟩⟩
  ·exact .inl ⟨hn,q⟩
  ·exact .inr ⟨n,rfl,hn,.inr ⟨hm,q⟩⟩
  ·refine .inr ⟨n,rfl,hn,.inl ⟨hm,fun H1 s1=>?_⟩⟩;have tb1:=tb.same s1;refine ⟨_,rfl,t,dx,_,rfl,tb1.at_,rfl,_,rfl,t,dx,pa,ba,Ns,E0,n,rfl,tb1,hNs,fun H2 s2=>⟨_,rfl,?_⟩⟩;rw [hs];exact ⟨by show 1<=sizeLine;decide,q _ (s1.trans s2)⟩
  ·refine .inr ⟨n,rfl,hn,.inl ⟨hm,fun H1 s1=>?_⟩⟩;have tb1:=tb.same s1;refine ⟨_,rfl,t,dx,_,rfl,tb1.at_,rfl,_,rfl,t,dx,pa,ba,Ns,E0,n,rfl,tb1,hNs,fun H2 s2=>⟨_,rfl,?_⟩⟩;rw [hs];have tb2:=tb1.same s2;obtain ⟨kp,e1,p1⟩:=tb2.ps;obtain ⟨kb,e2,p2⟩:=tb2.bs;rw [zAO] at hm;have hp1: ∃v,yI kp (.inr n)=some v:=by
    rcases yO pk n p1 with ⟨a,b⟩|⟨e,v,a,b,c⟩
    ·rw [b] at hm;cases hm
    ·exact ⟨v,a⟩
   have hp2: ∃v,yI kb (.inr n)=some v:=by
    rcases yO bk n p2 with ⟨a,b⟩|⟨e,v,a,b,c⟩
    ·rw [b] at hm;cases hm
    ·exact ⟨v,a⟩
   obtain ⟨v1,hv1⟩:=hp1;obtain ⟨v2,hv2⟩:=hp2;have ne:=tb.ne;have tne:t≠pa:=fun z=>by rw [<-z,tb2.at_] at e1;cases e1
   have tne2:t≠ba:=fun z=>by rw [<-z,tb2.at_] at e2;cases e2
   refine ⟨_,rfl,t,C,dx,_,_,rfl,tb2.at_,T.cl,T.n1,lkP _ _,pa,rfl,.inl ⟨kp,.inl e1⟩,_,rfl,kp,.inr n,v1,e1,rfl,hv1,?_⟩;refine ⟨_,rfl,t,C,dx,_,_,rfl,by rw [zG tne];exact tb2.at_,T.cl,T.n2,lkB _ _,ba,rfl,.inl ⟨kb,.inl (by rw [zG ne.symm];exact e2)⟩,_,rfl,kb,.inr n,v2,by rw [zG ne.symm];exact e2,rfl,hv2,?_⟩;have tps:Tps H2 (L2.upd (L2.upd H2 pa (.dK (zAf kp (.inr n)))) ba (.dK (zAf kb (.inr n)))):=fun a xs z=>by
    rw [zG (fun y=>by rw [y,e2] at z;cases z),zG (fun y=>by rw [y,e1] at z;cases z)];exact z
   refine q _ (fun b u hb z1 z2=>by rw [zG z2,zG z1];exact (s1.trans s2) b u hb) ⟨by rw [zG tne2,zG tne];exact tb2.at_,ne,⟨_,by rw [zG ne,zC],?_⟩,⟨_,zC,?_⟩,fun e he=>tb.ok e (zVY.mp he).1,?_⟩
   ·exact Paired.mapP (Paired.drop' pk n p1) fun a b z=>z.tps tps
   ·exact Paired.mapP (Paired.drop' bk n p2) fun a b z=>z.tps tps
   ·exact zUY (zVc _ _) tb.len
theorem zBr(x:Str):x.length=x.cps.toList.length:=Array.length_toList.symm
theorem zEG(h:Nm n):ltS "" n:=by
 have h1:1<=n.length:=by
  unfold Nm yY at h;simp only [zVM,decide_eq_true_eq] at h;exact h.1.1.1
 have e:("" :Str).cps.toList= [] :=by decide+kernel
 unfold ltS;rw [e];cases q:n.cps.toList with
 | nil=>rw [zBr,q] at h1;simp at h1
 | cons c cs=>exact List.Lex.nil
theorem zPG: ∀{ts:List Addr} {us:List (Str×Int)} {a:Str},yD H ts us->(us.Pairwise fun p q=>ltS p.1 q.1)->(∀p∈us,Nm p.1/\p.2≠0/\ltS a p.1)->UW H a (ts.map V.ref) true
 | _,_,a,.nil,_,_=> .nil a
 | _,_,a,.cons (a:=t) (b:=p) h r,pw,hm=>by
  obtain ⟨n,e⟩:=p;obtain ⟨h1,h2,h3⟩:=hm (n,e) (by simp);rw [List.pairwise_cons] at pw;exact .step h h1 h2 h3 (zPG r pw.2 fun q hq=>⟨(hm q (by simp [hq])).1,(hm q (by simp [hq])).2.1,pw.1 q hq⟩)
theorem zKY(hN: ∀n∈Ns,Nm n){us:Prs}(h:yD H ts us)(g:GoodU Ns us):UW H "" (ts.map V.ref) true:=
 zPG h g.up.up fun p hp=>⟨hN _ (g.nn p hp),g.ne p hp,zEG (hN _ (g.nn p hp))⟩
def zBl(H:Hp)(x:V):Prop:=NoTp H x\/ ∃t xs,x= .ref t/\H t=some (.tup xs)/\xs.length<=1000/\UW H "" xs false
theorem zBl.same(h:zBl H x)(s:zE H H'):zBl H' x:=by
 rcases h with h |⟨t,xs,a,b,c,d⟩
 ·exact .inl (h.same s)
 ·exact .inr ⟨t,xs,a,s _ _ b,c,d.same s⟩
def zTc(H:Hp)(Q:VK)(E:XK)(BT:Addr)(E0:List Ent)(us:Prs):Prop:=(Pl E0 us none/\Rf0 H E BT)\/ ∃a b f,Pl E0 us (some (a,b,f))/\ ∀H' r am un,zE H H'->H' r=some (.tup [.ref am,.ref un])->H' am=some (.tup [.int (a:Int),.int (b:Int)])->zx H' un f->Q (.ref r) H'
def zAq(C BU BT:Addr):Sp:=fun vs H Q E=> ∃(t dx pa ba:Addr) (Ns:List Str) (E0:List Ent) (x:V),vs= [.ref t,x] /\Tb Ns C dx pa ba H t E0/\Ns.length<=14/\(∀n∈Ns,Nm n)/\
 ((zBl H x/\Rf0 H E BU)\/ ∃u us,x= .ref u/\zx H u us/\GoodU Ns us/\us.length<=3/\zTc H Q E BT E0 us)
theorem zCL:FnScope ["self","unit","pairs","powers","pair","own","found"] ["self","unit"] (zK zGe):=fs
theorem zPa{E0:List Ent}(h: ∀e∈E0,EntOk Ns e){us:Prs}(hn: ∀p∈us,p.1∈Ns)(hs:yp us=false)(h3:us.length<=3):OkPw (zw E0 us):=by
 have k:=zGK h hn hs;have l:=zEe E0 us;refine ⟨k.pos,by omega,fun p hp=>zUT (k.b p hp).2.1 (zUj (by decide) (by decide)),?_,?_⟩
 ·exact zUb k.bp (zVD (by decide) (by omega))
 ·exact zUb k.wt (zVD (by decide) (by omega))
theorem yD.tps{ps:Prs}(h:yD H ts ps)(s:Tps H H'):yD H' ts ps:=by
 unfold yD at*;exact Paired.mapP h fun a b z=>s _ _ z
theorem PwA.tps{ps:List Pw}(h:PwA H ts ps)(s:Tps H H'):PwA H' ts ps:=by
 unfold PwA PwT at*;exact Paired.mapP h fun a b z=>s _ _ z
theorem Tps.refl(H:Hp):Tps H H:=fun _ _ h=>h
theorem Tps.trans(a:Tps H H1)(b:Tps H1 H2):Tps H H2:=fun x xs h=>b x xs (a x xs h)
theorem Tps.lst(h:H l=some (.lst xs)):Tps H (L2.upd H l o):=fun a ys z=>by rw [zG (fun y=>by rw [y,h] at z;cases z)];exact z
theorem Paired.app{α β:Type}{F:α->β->Prop}{xs zs:List α}{ys ws:List β}(h:Paired F xs ys)(k:Paired F zs ws):Paired F (xs++zs) (ys++ws):=by
 induction h with
 | nil=>exact k
 | cons h _ ih=>exact .cons h ih
theorem zOB(F:Fun K "plain" "Table.plain" zGe f fd)(B:Bn mg)(T:TC K C)(GV:Gv K mg W O)(X:Ex K mg BA BU)(XT:ExT K mg BT)
  (FU:Fun K "is_unit" "is_unit" zGk fU fdU) (bU:zL K fdU ["thing"] []) (mU:mg "is_unit" =some (.ref fU)) (GU:FnOk P w K mg base CX0 4 fU fdU ["thing"] zHm)
  (FT:Fun K "is_too_steep" "is_too_steep" zEL fT fdT) (bT:zL K fdT ["unit"] []) (mT:mg "is_too_steep" =some (.ref fT)) (GT:FnOk P w K mg base CX0 1 fT fdT ["unit"] (zGx K))
  (FW:Fun K "powered" "powered" zFl fW fdW) (bW:zL K fdW ["unit","exponent"] []) (mW:mg "powered" =some (.ref fW)) (GW:FnOk P w K mg base CX0 5 fW fdW ["unit","exponent"] zJH)
  (FP:Fun K "powers_of" "powers_of" zEc fP fdP) (bP:zL K fdP ["amount","exponent"] []) (mP:mg "powers_of" =some (.ref fP)) (GP:FnOk P w K mg base CX0 1 fP fdP ["amount","exponent"] (zGI K))
  (FN:Fun K "unit_of" "unit_of" zEs fN fdN) (bN:zL K fdN ["pairs"] []) (mN:mg "unit_of" =some (.ref fN)) (GN:FnOk P w K mg base CX0 4 fN fdN ["pairs"] zEt)
  (FO:Fun K "product_of_powers" "product_of_powers" zGz fO fdO) (bO:zL K fdO ["powers"] []) (mO:mg "product_of_powers" =some (.ref fO)) (GO:FnOk P w K mg base (yF P w) 3 fO fdO ["powers"] (zHu BT)):
  FnOk P w K mg base (yF P w) 6 f fd ["self","unit"] (zAq C BU BT):=by
 refine (Fr.Fun.toD F).okXD zCL (fun vs H Q E h=>?_) (fun _ A _ s H vs Q E hr h=>?_)
 ·obtain ⟨t,dx,pa,ba,Ns,E0,x,rfl,_⟩:=h;rfl
 ·obtain ⟨t,dx,pa,ba,Ns,E0,x,rfl,tb,hNs,hN,h⟩:=h;have hr5:Room 5 _:=hr;have hr4:Room 4 _:=hr.mono (by decide);have hr3:Room 3 _:=hr.mono (by decide);have hr1:Room 1 _:=hr.mono (by decide);have hu:=zAD hr;refine ⟨_,QB.out (zH
   (zq (yq (yb (zP GU hr4 rfl mU FU.kp bU .nil zO (qc (qw 1 rfl) zD rfl) rfl rfl rfl) (fun _=>rfl))) (zJ
    (zAa X.inU yy rfl rfl X.mgU (qc zN zD rfl) rfl rfl rfl)) zn) (zH
   (zq (yb (zP GT hr1 rfl mT FT.kp bT .nil zO (qc (qw 1 rfl) zD rfl) rfl rfl rfl) (fun _=>rfl)) (zJ
    (zAa XT.inT yy rfl rfl XT.mgT (qc zN zD rfl) rfl rfl rfl)) zn) (zH
   (zT 2 zCL.nd rfl (zy zD) rfl) (zH
   (zT 3 zCL.nd rfl (zy zD) rfl) (zH
   (yt PassesOwn.leaving rfl (zBt (K:=K) rfl (qw 1 rfl)) (zm 4 zCL.nd rfl (Or.inl rfl) (.inr rfl)) (zH
    (zT 5 zCL.nd rfl (zEf hu (zBe (K:=K) rfl (qw 0 rfl) rfl) (zR (K:=K) rfl (qw 4 rfl) zF (fun _ _=>rfl)) (zQ (qc (yg (v:= .ref O) rfl GV.mo rfl rfl) (qc (zQ (qc (zQ (qc (zR (K:=K) rfl (qw 4 rfl) zF (fun _ _=>rfl)) (qc zF zD rfl) rfl)) zD rfl)) zD rfl) rfl)) ⟨rfl,rfl,rfl,rfl⟩) rfl) (zH
    (yn (zIb (K:=K) rfl (qw 2 rfl) (zP GW hr5 rfl mW FW.kp bW .nil zO (qc (zR (K:=K) rfl (qw 5 rfl) zF (fun _ _=>rfl)) (qc (zR (K:=K) rfl (qw 4 rfl) zF (fun _ _=>rfl)) zD rfl) rfl) rfl rfl rfl) rfl rfl rfl) rfl) (zJ
    (yn (zIb (K:=K) rfl (qw 3 rfl) (zP GP hr1 rfl mP FP.kp bP .nil zO (qc (zR (K:=K) rfl (qw 5 rfl) zF (fun _ _=>rfl)) (qc (zR (K:=K) rfl (qw 4 rfl) zF (fun _ _=>rfl)) zD rfl) rfl) rfl rfl rfl) rfl rfl rfl) rfl)))) (fun _=>rfl)) (zH
   (zT 6 zCL.nd rfl (zP GN hr4 rfl mN FN.kp bN .nil zO (qc (qw 2 rfl) zD rfl) rfl rfl rfl) rfl) (zH
   (zq (yb (zP GT hr1 rfl mT FT.kp bT .nil zO (qc (qw 6 rfl) zD rfl) rfl rfl rfl) (fun _=>rfl)) (zJ
    (zAa XT.inT yy rfl rfl XT.mgT (qc zN zD rfl) rfl rfl rfl)) zn) (zJ
   (zW (zQ (qc (zCO GO hr3 rfl mO FO.kp bO .nil zAN (qc (qw 3 rfl) zD rfl) rfl rfl rfl) (qc (qw 6 rfl) zD rfl) rfl))))))))))),?_⟩
  rcases h with ⟨hb,q⟩|⟨u,us,rfl,⟨ts,eu,pu⟩,gu,h3,q⟩
  ·refine ⟨_,rfl,x,false,rfl,?_,fun H1 s1=>?_⟩
   ·rcases hb with hb | hb
    ·exact .inl ⟨hb,rfl⟩
    ·exact .inr hb
   ·exact ⟨_,rfl,zZ ⟨bs 1,q _ s1⟩⟩
  ·have lu:=Paired.length pu;refine yT fun zz=>?_;refine ⟨_,rfl,.ref u,true,rfl,.inr ⟨u,_,rfl,eu,by rw [zUR,lu];omega,zKY hN pu gu⟩,fun H1 s1=>⟨_,rfl,zM ?_⟩⟩;refine zz (yT fun zz=>?_);refine ⟨_,rfl,u,us,rfl,⟨ts,s1 _ _ eu,pu.same s1⟩,by omega,fun H2 s2=>⟨_,rfl,?_⟩⟩;have s12:=s1.trans s2;by_cases hs:yp us=true
   ·rw [hs];refine zZ ?_;rcases q with ⟨_,q⟩|⟨a,b,f,pl,_⟩
    ·exact ⟨bs 1,q _ s12⟩
    ·cases Pl.uniq (Pl.su hs) pl
   have hs0:yp us=false:=by simpa using hs
   rw [hs0];refine zM ?_;refine zz (yT fun zz=>?_);refine ⟨bs 0,fun l1 hl1=>?_⟩;have s3:=zE.upd hl1 (o:= .lst []);refine zz (yT fun zz=>?_);refine ⟨bs 0,fun l2 hl2=>?_⟩;have s4:=zE.upd hl2 (o:= .lst []);have hne:l1≠l2:=fun z=>by rw [<-z,zC] at hl2;cases hl2
   have s14:=s12.trans (s3.trans s4);have f1:H l1=none:=s12.free hl1;have f2:H l2=none:=(s12.trans s3).free hl2;refine zz (yT fun zz=>?_);refine ⟨_,rfl,u,rfl,⟨_,SqT.of (s14 _ _ eu)⟩,?_⟩;refine yk ts.length (fun i σ H'=> ∃(v4 v5:Option V) (zs ws:List Addr) (ps:Prs),σ= [some (.ref t),some (.ref u),some (.ref l1),some (.ref l2),v4,v5,none] /\i<=ts.length/\zE H H'/\H' l1=some (.lst (zs.map V.ref))/\yD H' zs ps/\
    H' l2=some (.lst (ws.map V.ref))/\PwA H' ws (zw E0 (us.take i))/\(∀n,tot ps n=tot (prs E0 (us.take i)) n)/\(∀p∈ps,p.1∈Ns)/\ps.length<=14*i) ?_ ?_ ?_ ?_ ?_
   ·exact ⟨none,none,[],[],[],rfl,zUZ _,s14,by rw [zG hne,zC];rfl,.nil,by rw [zC];rfl,.nil,fun n=>rfl,fun p hp=>(nomatch hp),zUO _⟩
   ·rintro i σ H' hi ⟨v4,v5,zs,ws,ps,rfl,_,s1',_⟩;exact ⟨_,_,SqT.of (s1' _ _ eu),zUK (by simpa using hi)⟩
   ·rintro σ H' ⟨v4,v5,zs,ws,ps,rfl,_,s1',_⟩;exact ⟨_,SqT.of (s1' _ _ eu),by simp⟩
   ·rintro i σ H' x H1 hi ⟨v4,v5,zs,ws,ps,rfl,_,s1',e1,p1,e2,p2,ht,hn,hl⟩ ⟨rfl,hx⟩;have hx':=hx _ (SqT.of (s1' _ _ eu));rw [zUP,zUK hi] at hx';cases hx';obtain ⟨n,e,en,et⟩:=pu.get (zUK hi);have et1:=s1' _ _ et;have etk:us.take (i+1)=us.take i++ [(n,e)] :=by rw [zUh,en];rfl
    have hm:=zUp en;have hnN:n∈Ns:=gu.nn _ hm;have ro:=zEa tb.ok hnN;have e64:=zFZ hs0 _ hm;have e64':e.natAbs<=64:=e64;have tb1:=tb.same s1';obtain ⟨kb,eb,pb⟩:=tb1.bs;refine yT fun zz=>?_;refine ⟨_,rfl,t,C,dx,_,_,rfl,tb1.at_,T.cl,T.n2,lkB _ _,ba,rfl,.inl ⟨kb,.inl eb⟩,?_⟩;refine ⟨_,rfl,ts[i],_,_,_,rfl,rfl,SqT.of et1,rfl,?_⟩;refine ⟨_,rfl,ts[i],_,_,_,rfl,rfl,SqT.of et1,rfl,bs 2,fun q1 hq1=>?_⟩;have z1:=zE.upd hq1 (o:= .tup [.str n,.int 1]);refine ⟨bs 1,fun q2 hq2=>?_⟩;have z2:=zE.upd hq2 (o:= .tup [.ref q1]);refine ⟨bs 2,fun q3 hq3=>?_⟩;have z3:=zE.upd hq3 (o:= .tup [.ref O,.ref q2]);have z13:=z1.trans (z2.trans z3);have hq1': ∀o p,(L2.upd (L2.upd (L2.upd H1 q1 (.tup [.str n,.int 1])) q2 o) q3 p) q1=some (.tup [.str n,.int 1]):=fun o p=>by
     rw [zG (fun z=>by rw [<-z,zG (fun y=>by rw [<-y,zC] at hq2;cases hq2),zC] at hq3;cases hq3),zG (fun y=>by rw [<-y,zC] at hq2;cases hq2),zC]
    refine ⟨_,.inl ⟨kb,.inr n,.inl (z13 _ _ eb),rfl,rfl⟩,?_⟩;generalize hH2:L2.upd (L2.upd (L2.upd H1 q1 (.tup [.str n,.int 1])) q2 (.tup [.ref q1])) q3 (.tup [.ref O,.ref q2])=H2 at z13⊢;have own: ∃ow am un,(yI kb (.inr n)).getD (.ref q3)= .ref ow/\H2 ow=some (.tup [.ref am,.ref un])/\(∀H3,Tps H2 H3->SqT K H3 am [.int ((zr E0 n).1:Int),.int ((zr E0 n).2.1:Int)])/\zx H2 un (zr E0 n).2.2:=by
     rcases yO bk n pb with ⟨a,b⟩|⟨e',v,a,b,c⟩
     ·refine ⟨q3,O,q2,by rw [a];rfl,by rw [<-hH2,zC],?_,?_⟩
      ·unfold zr;rw [b];exact fun H3 _=>GV.ko H3
      ·unfold zr;rw [b];refine ⟨[q1],?_,.cons ?_ .nil⟩
       ·rw [<-hH2,zG (fun z=>by rw [<-z,zC] at hq3;cases hq3),zC];rfl
       ·rw [<-hH2];exact hq1' _ _
     ·obtain ⟨_,ow,am,un,c1,c2,c3,c4⟩:=c;have c1':v= .ref ow:=c1;refine ⟨ow,am,un,by rw [a,c1'];rfl,z13 _ _ c2,?_,?_⟩
      ·unfold zr;rw [b];exact fun H3 tp=>SqT.of (tp _ _ (z13 _ _ c3))
      ·unfold zr;rw [b];exact c4.same z13
    obtain ⟨ow,am,un,ow1,ow2,ow3,ow4⟩:=own;rw [ow1];have e1':=z13 _ _ e1;have e2':=z13 _ _ e2;have et2:=z13 _ _ et1;have lr:=ro.fu.len;refine zz (yT fun zz=>?_);refine ⟨_,rfl,.inl ⟨rfl,_,SqL.of e1'⟩,?_⟩;refine ⟨_,rfl,ow,_,_,_,rfl,rfl,SqT.of ow2,rfl,_,rfl,ts[i],_,_,_,rfl,rfl,SqT.of et2,rfl,un,(zr E0 n).2.2,e,rfl,ow4,fun p hp=>hN _ (ro.fu.nn p hp),by omega,by omega,by omega,fun u' us' H3 s3 iu lu' ua=>?_⟩;obtain ⟨vs',ev,pv⟩:=ua;have lv:=Paired.length pv;rw [zUR] at lu';have lz:=Paired.length p1;have lw:=Paired.length p2;have lpw:=zEe E0 (us.take i);have lti:(us.take i).length<=3:=by rw [List.length_take];omega
    have e1'':=s3 _ _ e1';refine ⟨l1,u',zs.map V.ref,vs'.map V.ref,rfl,rfl,e1'',.inr ev,by rw [zUR,zUR,zUV];omega,?_⟩;have t3:Tps H2 (L2.upd H3 l1 (.lst (zs.map V.ref++vs'.map V.ref))):=Tps.trans (zE.tps s3) (Tps.lst e1'');have e2'':(L2.upd H3 l1 (.lst (zs.map V.ref++vs'.map V.ref))) l2=some (.lst (ws.map V.ref)):=by rw [zG hne.symm];exact s3 _ _ e2'
    refine zz ?_;refine ⟨_,rfl,.inl ⟨rfl,_,SqL.of e2''⟩,?_⟩;refine ⟨_,rfl,ow,_,_,_,rfl,rfl,SqT.of (t3 _ _ ow2),rfl,_,rfl,ts[i],_,_,_,rfl,rfl,SqT.of (t3 _ _ et2),rfl,am,(zr E0 n).1,(zr E0 n).2.1,e,rfl,ow3 _ t3,fun l5 H5 s5 hl5 pw=>?_⟩;obtain ⟨ws',el,pw'⟩:=pw;have lw':=Paired.length pw';have e25:=s5 _ _ e2'';refine ⟨l2,l5,ws.map V.ref,ws'.map V.ref,rfl,rfl,e25,.inl el,by rw [zUR,zUR,zUV];simp at lw';omega,?_⟩;have t5:Tps H3 (L2.upd H5 l2 (.lst (ws.map V.ref++ws'.map V.ref))):=Tps.trans (Tps.lst e1'') (Tps.trans (zE.tps s5) (Tps.lst e25));have t1:Tps H1 H3:=zE.tps (z13.trans s3);have s13:zE H H3:=s1'.trans (z13.trans s3);refine ⟨_,_,zs++vs',ws++ws',ps++us',rfl,hi,?_,?_,?_,?_,?_,fun m=>?_,fun p hp=>?_,?_⟩
    ·exact zE.store ((zE.store s13 f1).trans s5) f2
    ·rw [zG hne,s5 _ _ zC,zUg]
    ·exact yD.append (yD.tps p1 (Tps.trans t1 t5)) (yD.tps pv t5)
    ·rw [zC,zUg]
    ·rw [etk,zBd,zEg];exact Paired.app (PwA.tps p2 (Tps.trans t1 t5)) (PwA.tps pw' (Tps.lst e25))
    ·rw [zDW,etk,zDm,zDW,ht,zGh,iu.tot]
    ·rcases zVO.mp hp with z | z
     ·exact hn p z
     ·obtain ⟨m,x⟩:=p;obtain ⟨q,hq,e3⟩:=zVR.mp (iu.mem z).1;obtain ⟨q',hq',rfl⟩:=zVR.mp hq;have e3':q'.1=m:=e3;rw [<-e3'];exact ro.fu.nn q' hq'
    ·rw [zUn];have:=ro.fu.len;omega
   ·rintro σ H1 ⟨v4,v5,zs,ws,ps,rfl,_,s1',e1,p1,e2,p2,ht,hn,hl⟩;rw [lu,zUk] at p2 ht;refine zz (yT fun zz=>?_);refine ⟨_,rfl,l1,ps,rfl,⟨zs,e1,p1⟩,fun p hp=>hN _ (hn p hp),by omega,fun fu fus H2 s2 iu lu' ua=>?_⟩;have iu':IsU (prs E0 us) fus:=iu.congr ht;refine zz (yT fun zz=>?_);refine ⟨_,rfl,fu,fus,rfl,ua,by omega,fun H3 s3=>⟨_,rfl,?_⟩⟩;have s13:=s1'.trans (s2.trans s3);cases hf:yp fus with
    | true=>
     refine zZ ?_;rcases q with ⟨_,q⟩|⟨a,b,f,pl,_⟩
     ·exact ⟨bs 1,q _ s13⟩
     ·cases Pl.uniq (Pl.sf hs0 iu' hf) pl
    | false=>
     refine zM ?_;have okp:=zPa tb.ok gu.nn hs0 h3;refine zz ?_;refine ⟨_,rfl,l2,zw E0 us,rfl,⟨ws,(s2.trans s3) _ _ e2,PwA.tps p2 (zE.tps (s2.trans s3))⟩,okp,fun g1 g2 r H4 s4 hr4'=>?_,fun g H4 s4=>?_⟩
     ·refine ⟨_,rfl,bs 2,fun q5 hq5=>?_⟩;have s5:=zE.upd hq5 (o:= .tup [.ref r,.ref fu]);rcases q with ⟨pl,_⟩|⟨a,b,f,pl,q⟩
      ·cases Pl.uniq (Pl.ok hs0 iu' hf g1 g2) pl
      ·cases Pl.uniq (Pl.ok hs0 iu' hf g1 g2) pl;exact q _ q5 r fu (s13.trans (s4.trans s5)) zC (s5 _ _ hr4') (ua.same (s3.trans (s4.trans s5)))
     ·rcases q with ⟨_,q⟩|⟨a,b,f,pl,_⟩
      ·exact q _ (s13.trans s4)
      ·cases Pl.uniq (Pl.gr hs0 iu' hf g) pl
def zGg(H:Hp)(x:V)(a b:Nat):Prop:= ∃p,x= .ref p/\H p=some (.tup [.int (a:Int),.int (b:Int)])/\0<a/\0<b/\Nat.gcd a b=1/\a<2^700/\b<2^700
def zFF(H:Hp)(x:V):Prop:=NoT H x\/(∃p xs,x= .ref p/\H p=some (.tup xs)/\(∀y∈xs,Kd H y)/\zBR xs=false)\/ ∃p a b,x= .ref p/\H p=some (.tup [.int a,.int b])/\zBR [.int a,.int b] =true/\a<=0
theorem NoT.same(h:NoT H x)(s:zE H H'):NoT H' x:=by
 cases h with
 | non=>exact .non
 | str x=>exact .str x
 | int i=>exact .int i
 | lst e=>exact .lst (s _ _ e)
def zTz(H:Hp)(Ns:List Str)(E0:List Ent)(Q:VK)(E:XK)(C dx pa ba t BT TW:Addr)(n:Str):DfR->Prop
 | .twice=>Rf2 H E TW "row" "name" .non (.str n)
 | .table=>Rf0 H E BT
 | .ok e=> ∀H',(∀b u,H b=some u->b≠pa->b≠ba->H' b=some u)->Tb Ns C dx pa ba H' t (E0++ [e])->Q .non H'
inductive DIn (H:Hp) (Ns:List Str) (E0:List Ent) (Q:VK) (E:XK) (C dx pa ba t BA BN BU BT TW:Addr):V->V->V->Prop
 | name {x y z:V} (h:yY x=false) (q:Rf0 H E BA):DIn H Ns E0 Q E C dx pa ba t BA BN BU BT TW x y z
 | num {x y z:V} (h:yY x=true) (b:zFF H y) (q:Rf0 H E BN):DIn H Ns E0 Q E C dx pa ba t BA BN BU BT TW x y z
 | good {x y z:V} {a b:Nat} (h:yY x=true) (ha:zGg H y a b) (q:(zBl H z/\Rf0 H E BU)\/ ∃n u us r,x= .str n/\z= .ref u/\n∈Ns/\zx H u us/\GoodU Ns us/\us.length<=3/\Df E0 n a b us r/\zTz H Ns E0 Q E C dx pa ba t BT TW n r):
   DIn H Ns E0 Q E C dx pa ba t BA BN BU BT TW x y z
def zAv(C BA BN BU BT TW:Addr):Sp:=fun vs H Q E=> ∃(t dx pa ba:Addr) (Ns:List Str) (E0:List Ent) (x y z:V),vs= [.ref t,x,y,z] /\Tb Ns C dx pa ba H t E0/\Ns.length<=14/\(∀n∈Ns,Nm n)/\Ths H x/\DIn H Ns E0 Q E C dx pa ba t BA BN BU BT TW x y z
theorem zFV:FnScope ["self","name","amount","unit","found","plain_amount"] ["self","name","amount","unit"] (zK zEv):=fs
theorem zMA(F:Fun K "define" "Table.define" zEv f fd)(B:Bn mg)(T:TC K C)(GV:Gv K mg W O)(X:Ex K mg BA BU)(XN:ExN K mg BN)(XT:ExT K mg BT)
  (FD:Fun K "need_name" "need_name" zDA fD fdD) (bD:zL K fdD ["thing"] []) (mD:mg "need_name" =some (.ref fD)) (GD:FnOk P w K mg base (yF P w) 3 fD fdD ["thing"] (zEn BA))
  (FI:Fun K "is_fraction" "is_fraction" zHE fI fdI) (bI:zL K fdI ["thing"] []) (mI:mg "is_fraction" =some (.ref fI)) (GI:FnOk P w K mg base CX0 2 fI fdI ["thing"] zHl)
  (FU:Fun K "is_unit" "is_unit" zGk fU fdU) (bU:zL K fdU ["thing"] []) (mU:mg "is_unit" =some (.ref fU)) (GU:FnOk P w K mg base CX0 4 fU fdU ["thing"] zHm)
  (FP:Fun K "powers_of" "powers_of" zEc fP fdP) (bP:zL K fdP ["amount","exponent"] []) (mP:mg "powers_of" =some (.ref fP)) (GP:FnOk P w K mg base CX0 1 fP fdP ["amount","exponent"] (zGI K))
  (FO:Fun K "product_of_powers" "product_of_powers" zGz fO fdO) (bO:zL K fdO ["powers"] []) (mO:mg "product_of_powers" =some (.ref fO)) (GO:FnOk P w K mg base (yF P w) 3 fO fdO ["powers"] (zHu BT))
  (XTW:RX K mg "Twice" TW fTW "row" "name") (bTW:zL K fdTW ["self","row","name"] []) (GTW:FnOk P w K mg base CX0 1 fTW fdTW ["self","row","name"] (zCp TW "row" "name"))
  (mtS:Meth K C "stands_in_one" fS) (bS:zL K fdS ["self","name"] []) (GS:FnOk P w K mg base CX0 1 fS fdS ["self","name"] (zDQ C))
  (mtL:Meth K C "plain" fL) (bL:zL K fdL ["self","unit"] []) (GL:FnOk P w K mg base (yF P w) 6 fL fdL ["self","unit"] (zAq C BU BT)):
  FnOk P w K mg base (yF P w) 7 f fd ["self","name","amount","unit"] (zAv C BA BN BU BT TW):=by
 obtain ⟨t12,m12⟩:=GV.mm;refine (Fr.Fun.toD F).okXD zFV (fun vs H Q E h=>?_) (fun _ A _ s H vs Q E hr h=>?_)
 ·obtain ⟨t,dx,pa,ba,Ns,E0,x,y,z,rfl,_⟩:=h;rfl
 ·obtain ⟨t,dx,pa,ba,Ns,E0,x,y,z,rfl,tb,hNs,hN,th,h⟩:=h;have hr6:Room 6 _:=hr;have hr4:Room 4 _:=hr.mono (by decide);have hr3:Room 3 _:=hr.mono (by decide);have hr2:Room 2 _:=hr.mono (by decide);have hr1:Room 1 _:=hr.mono (by decide);have cl:=T.cl;have hu:=zAD hr;refine ⟨_,QB.out (zH
   (yn (zCO GD hr3 rfl mD FD.kp bD .nil zAN (qc (qw 1 rfl) zD rfl) rfl rfl rfl) rfl) (zH
   (zq (t_w (zAr (yq (yb (zP GI hr2 rfl mI FI.kp bI .nil zO (qc (qw 2 rfl) zD rfl) rfl rfl rfl) (fun _=>rfl))) (zAu (zY zLD (zR (K:=K) rfl (qw 2 rfl) zF (fun _ _=>rfl)) zF rfl)))) (zJ
    (zAa XN.inB yy rfl rfl XN.mgB (qc zN zD rfl) rfl rfl rfl)) zn) (zH
   (zq (yq (yb (zP GU hr4 rfl mU FU.kp bU .nil zO (qc (qw 3 rfl) zD rfl) rfl rfl rfl) (fun _=>rfl))) (zJ
    (zAa X.inU yy rfl rfl X.mgU (qc zN zD rfl) rfl rfl rfl)) zn) (zH
   (zq (zLN hu (qw 1 rfl) (zBe (K:=K) rfl (qw 0 rfl) rfl) rfl) (zJ
    (zFH XTW.mx GTW hr2 rfl XTW.mg bTW zO zCX rfl (qc zBE (qc (qw 1 rfl) zD rfl) rfl) rfl rfl rfl)) zn) (zH
   (zq (t_w (zAr (zY zAI (yE zEF rfl B.len zAU (qc (zBe (K:=K) rfl (qw 0 rfl) rfl) zD rfl) rfl) (yg (v:= .int 12) rfl m12 ⟨t12,rfl⟩ rfl) rfl) (zAr (zLN hu (qw 1 rfl) (zCu (zGV rfl) rfl B.dict zJo (qc (qw 3 rfl) zD rfl) rfl) rfl) (zAu (yb (zIZ (qw 0 rfl) cl mtS GS hr1 bS .nil zO (qc (qw 1 rfl) zD rfl) rfl rfl rfl) (fun _=>rfl)))))) (zJ
    (zAa XT.inT yy rfl rfl XT.mgT (qc zN zD rfl) rfl rfl rfl)) zn) (zH
   (zT 4 zFV.nd rfl (zAl (qw 0 rfl) cl mtL GL hr6 bL .nil zAN (qc (qw 3 rfl) zD rfl) rfl rfl rfl) rfl) (zH
   (zT 5 zFV.nd rfl (zCO GO hr3 rfl mO FO.kp bO .nil zAN (qc (zHs (zP GP hr1 rfl mP FP.kp bP .nil zO (qc (qw 2 rfl) (qc zF zD rfl) rfl) rfl rfl rfl) (zP GP hr1 rfl mP FP.kp bP .nil zO (qc (zR (K:=K) rfl (qw 4 rfl) zF (fun _ _=>rfl)) (qc zF zD rfl) rfl) rfl rfl rfl)) zD rfl) rfl rfl rfl) rfl) (zH
   (zCC hu (zBe (K:=K) rfl (qw 0 rfl) rfl) (qw 1 rfl) (zQ (qc (qw 2 rfl) (qc (qw 3 rfl) zD rfl) rfl)) rfl) (zJ
   (zCC hu (zBe (K:=K) rfl (qw 0 rfl) rfl) (qw 1 rfl) (zQ (qc (qw 5 rfl) (qc (zR (K:=K) rfl (qw 4 rfl) zF (fun _ _=>rfl)) zD rfl) rfl)) rfl)))))))))),?_⟩
  cases h with
  | name h q=>exact ⟨_,rfl,x,rfl,th,(fun z=>by rw [h] at z;cases z),fun _ H' s'=>q H' s'⟩
  | num h b q=>
   refine ⟨_,rfl,x,rfl,th,fun _ H1 s1=>?_,(fun z=>by rw [h] at z;cases z)⟩;rcases b with b |⟨p,xs,rfl,e1,k1,f1⟩|⟨p,a,b,rfl,e1,f1,a0⟩
   ·exact ⟨_,rfl,y,rfl,.inl ⟨b.same s1,_,rfl,zZ (zZ ⟨bs 1,q _ s1⟩)⟩⟩
   ·refine ⟨_,rfl,.ref p,rfl,.inr ⟨p,xs,rfl,s1 _ _ e1,fun y hy=>(k1 y hy).same s1,_,rfl,?_⟩⟩;rw [f1];exact zZ (zZ ⟨bs 1,q _ s1⟩)
   ·refine ⟨_,rfl,.ref p,rfl,.inr ⟨p,_,rfl,s1 _ _ e1,fun y hy=>?_,_,rfl,?_⟩⟩
    ·simp only [zVL,zVV,or_false] at hy;rcases hy with rfl | rfl
     ·exact .int a
     ·exact .int b
    rw [f1];refine zM ?_;refine ⟨_,rfl,p,_,_,_,rfl,rfl,SqT.of (s1 _ _ e1),rfl,_,_,rfl,rfl,_,rfl,?_⟩;refine yB (fun c=>⟨bs 1,q _ s1⟩) (fun c=>?_);exact absurd a0 (by simpa using c)
  | @good a b h ha q=>
   refine ⟨_,rfl,x,rfl,th,fun _ H1 s1=>?_,(fun z=>by rw [h] at z;cases z)⟩;obtain ⟨p,rfl,e1,a1,a2,ac,a3,a4⟩:=ha;have f1:zBR [.int (a:Int),.int (b:Int)] =true:=by
    unfold zBR;rw [zVM,decide_eq_true_eq,decide_eq_true_eq];exact ⟨by omega,by rw [Int.gcd_natCast_natCast];exact ac⟩
   refine ⟨_,rfl,.ref p,rfl,.inr ⟨p,_,rfl,s1 _ _ e1,fun y hy=>?_,_,rfl,?_⟩⟩
   ·simp only [zVL,zVV,or_false] at hy;rcases hy with rfl | rfl
    ·exact .int _
    ·exact .int _
   rw [f1];refine zM ?_;refine ⟨_,rfl,p,_,_,_,rfl,rfl,SqT.of (s1 _ _ e1),rfl,_,_,rfl,rfl,_,rfl,?_⟩;refine yB (fun c=>?_) (fun c=>?_)
   ·have c':(a:Int)<=0:=by simpa using c
    omega
   rcases q with ⟨hb,q⟩|⟨n,u,us,r,rfl,rfl,hn,⟨ts,eu,pu⟩,gu,h3,d,q⟩
   ·refine ⟨_,rfl,z,false,rfl,?_,fun H2 s2=>⟨_,rfl,zZ ⟨bs 1,q _ (s1.trans s2)⟩⟩⟩;rcases hb with hb |⟨t',xs,b1,b2,b3,b4⟩
    ·exact .inl ⟨hb.same s1,rfl⟩
    ·exact .inr ⟨t',xs,b1,s1 _ _ b2,b3,b4.same s1⟩
   have lu:=Paired.length pu;refine ⟨_,rfl,.ref u,true,rfl,.inr ⟨u,_,rfl,s1 _ _ eu,by rw [zUR,lu];omega,zKY hN (pu.same s1) gu⟩,fun H2 s2=>⟨_,rfl,zM ?_⟩⟩;have s12:=s1.trans s2;have tb2:=tb.same s12;obtain ⟨o,dg,os,_⟩:=tb2.dget n;refine ⟨_,rfl,_,rfl,t,C,dx,_,_,rfl,tb2.at_,T.cl,T.n1,lkP _ _,pa,o,rfl,dg,_,rfl,?_⟩;rw [os];cases hm:made E0 n with
   | true=>
    cases Df.uniq (Df.tw hm) d;exact ⟨_,rfl,bs 2,fun ea he=>zII (Rf2.same q s12) ea he⟩
   | false=>
    refine zM ?_;obtain ⟨kp,ek,pk1⟩:=tb2.ps;have lkp:=Paired.length pk1;refine ⟨_,rfl,t,C,dx,_,_,rfl,tb2.at_,T.cl,T.n1,lkP _ _,pa,kp,rfl,.inl ek,rfl,_,rfl,?_⟩;have no: ∀{H3:Hp},zE H H3->(E0.length=12\/inU us n=true\/zAi E0 n=true)->E (.ref BT) none H3:=fun s3 k=>by
     cases Df.uniq (Df.rm hm k) d;exact q _ s3
    refine yB (fun c=>?_) (fun c=>?_)
    ·have c':(kp.length:Int)=12:=by
      have o':=zUt c;injection o'
     exact zZ ⟨bs 1,no s12 (.inl (by omega))⟩
    have c1: ¬E0.length=12:=fun z=>c (zUi (by rw [<-lkp,z];rfl));refine ⟨_,rfl,_,rfl,u,ts,unK us,rfl,s12 _ _ eu,zFG (pu.same s12),zMt gu.up,fun d1 hd1=>?_⟩;have s3:=zE.upd hd1 (o:= .dK (unK us));refine ⟨d1,_,rfl,.inl ⟨_,.inr n,.inl zC,rfl,rfl⟩,_,rfl,?_⟩;rw [zKH];have s13:=s12.trans s3;generalize L2.upd H2 d1 (.dK (unK us))=H3 at s3 s13⊢;cases hi:inU us n with
    | true=>exact zZ (zZ ⟨bs 1,no s13 (.inr (.inl hi))⟩)
    | false=>
    refine zM ?_;have tb3:=tb.same s13;refine ⟨_,rfl,t,dx,_,rfl,tb3.at_,rfl,_,rfl,t,dx,pa,ba,Ns,E0,n,rfl,tb3,by omega,fun H4 s4=>⟨_,rfl,?_⟩⟩;have s14:=s13.trans s4;cases hs:zAi E0 n with
    | true=>exact zZ ⟨bs 1,no s14 (.inr (.inr hs))⟩
    | false=>
    refine zM ?_;have nk: ¬(E0.length=12\/inU us n=true\/zAi E0 n=true):=by
     rintro (k | k | k)
     ·exact c1 k
     ·rw [hi] at k;cases k
     ·rw [hs] at k;cases k
    have tb4:=tb.same s14;refine ⟨_,rfl,t,dx,_,rfl,tb4.at_,rfl,_,rfl,t,dx,pa,ba,Ns,E0,.ref u,rfl,tb4,hNs,hN,.inr ⟨u,us,rfl,⟨ts,s14 _ _ eu,pu.same s14⟩,gu,h3,?_⟩⟩;have pl: ∃r',Pl E0 us r':=by
     cases d with
     | tw h=>rw [hm] at h;cases h
     | rm _ k=>exact absurd k nk
     | pl _ _ p=>exact ⟨_,p⟩
     | gr _ _ l _=>exact ⟨_,l⟩
     | ok _ _ l _ _=>exact ⟨_,l⟩
    obtain ⟨r',pl⟩:=pl;cases r' with
    | none=>
     refine .inl ⟨pl,fun H5 s5=>?_⟩;cases Df.uniq (Df.pl hm nk pl) d;exact q _ (s14.trans s5)
    | some r'=>
    obtain ⟨a',b',fu⟩:=r';refine .inr ⟨a',b',fu,pl,fun H5 r1 am un s5 g1 g2 g3=>?_⟩;obtain ⟨ro,sf⟩:=pl.good tb.ok gu.nn;have s15:=s14.trans s5;refine ⟨_,rfl,p,a,b,1,rfl,SqT.of (s15 _ _ e1),fun l1 H6 s6 hl1 pw1=>?_⟩;refine ⟨_,rfl,r1,_,_,_,rfl,rfl,SqT.of (s6 _ _ g1),rfl,am,a',b',1,rfl,SqT.of (s6 _ _ g2),fun l2 H7 s7 hl2 pw2=>?_⟩;obtain ⟨w1,el1,pa1⟩:=pw1;obtain ⟨w2,el2,pa2⟩:=pw2;have lw1:=Paired.length pa1;have lw2:=Paired.length pa2;refine ⟨l1,l2,_,_,rfl,rfl,s7 _ _ el1,el2,by rw [zUR,zUR,lw1,lw2];exact bs 4,fun l3 hl3=>?_⟩;have s8:=zE.upd hl3 (o:= .lst (w1.map V.ref++w2.map V.ref));have po:=zMz ⟨a1,a3⟩ ⟨a2,a4⟩ ⟨ro.f1,yi ro.f3⟩ ⟨ro.f2,yi ro.f4⟩;refine ⟨l3,dfw a b a' b',rfl,⟨w1++w2,by rw [zC,zUg],Paired.app (PwA.tps pa1 (Tps.trans (zE.tps s7) (zE.tps s8))) (PwA.tps pa2 (zE.tps s8))⟩,⟨po.pos,by show 4<=100;decide,fun x hx=>zUT (po.b x hx).2.1 (zUj (by decide) (by decide)),?_,?_⟩,fun k1 k2 r2 H9 s9 g9=>?_,fun k H9 s9=>?_⟩
    ·exact zUb po.bp (zVD (by decide) (by show 700*4<100000;decide))
    ·exact zUb po.wt (zVD (by decide) (by show 44800*4<10000000;decide))
    ·have s19:=s15.trans (s6.trans (s7.trans (s8.trans s9)));have tb9:=tb.same s19;obtain ⟨kp9,ek9,pk9⟩:=tb9.ps;obtain ⟨kb9,eb9,pb9⟩:=tb9.bs;have lk9:=Paired.length pk9;have lb9:=Paired.length pb9;have hl:=tb.len;have fm:E0.find? (fun e=>e.nm==n)=none:=by
      rw [zAO] at hm;cases z:E0.find? (fun e=>e.nm==n) with
      | none=>rfl
      | some e=>rw [z] at hm;cases hm
     have vp:yI kp9 (.inr n)=none:=by
      rcases yO pk n pk9 with ⟨z,_⟩|⟨e,v,_,z,_⟩
      ·exact z
      ·rw [fm] at z;cases z
     have vb:yI kb9 (.inr n)=none:=by
      rcases yO bk n pb9 with ⟨z,_⟩|⟨e,v,_,z,_⟩
      ·exact z
      ·rw [fm] at z;cases z
     have ne:=tb.ne;have tne:t≠pa:=fun z=>by rw [<-z,tb9.at_] at ek9;cases ek9
     have tne2:t≠ba:=fun z=>by rw [<-z,tb9.at_] at eb9;cases eb9
     refine ⟨_,rfl,_,rfl,bs 2,fun q1 hq1=>?_⟩;have z1:=zE.upd hq1 (o:= .tup [.ref p,.ref u]);have z1q:(L2.upd H9 q1 (.tup [.ref p,.ref u])) q1=some (.tup [.ref p,.ref u]):=zC;generalize L2.upd H9 q1 (.tup [.ref p,.ref u])=G1 at z1 z1q⊢;refine ⟨_,rfl,t,C,dx,_,_,rfl,z1 _ _ tb9.at_,T.cl,T.n1,lkP _ _,_,rfl,pa,_,rfl,zCH.k (k:= .inr n) (z1 _ _ ek9) (by rw [zUV];omega),?_⟩;rw [zDe _ vp];have t1:Tps G1 (L2.upd G1 pa (.dK (kp9++ [(.inr n,.ref q1)]))):=fun x xs y=>by rw [zG (fun z=>by rw [z,z1 _ _ ek9] at y;cases y)];exact y
     have s59:=s6.trans (s7.trans (s8.trans s9));refine ⟨_,rfl,_,rfl,r1,_,_,_,rfl,rfl,SqT.of (t1 _ _ (z1 _ _ (s59 _ _ g1))),rfl,bs 2,fun q2 hq2=>?_⟩;have z2:=zE.upd hq2 (o:= .tup [.ref r2,.ref un]);have z2q:(L2.upd (L2.upd G1 pa (.dK (kp9++ [(.inr n,.ref q1)]))) q2 (.tup [.ref r2,.ref un])) q2=some (.tup [.ref r2,.ref un]):=zC;have pq:(L2.upd G1 pa (.dK (kp9++ [(.inr n,.ref q1)]))) pa=some (.dK (kp9++ [(.inr n,.ref q1)])):=zC;have at2:(L2.upd G1 pa (.dK (kp9++ [(.inr n,.ref q1)]))) t=some (.ins C dx [("pairs",.ref pa),("bases",.ref ba)]):=by rw [zG tne];exact z1 _ _ tb9.at_
     have eb2:(L2.upd G1 pa (.dK (kp9++ [(.inr n,.ref q1)]))) ba=some (.dK kb9):=by rw [zG ne.symm];exact z1 _ _ eb9
     have kpt: ∀b u,H b=some u->b≠pa->(L2.upd G1 pa (.dK (kp9++ [(.inr n,.ref q1)]))) b=some u:=fun b u hb hp=>by rw [zG hp];exact z1 _ _ (s19 _ _ hb)
     generalize L2.upd G1 pa (.dK (kp9++ [(.inr n,.ref q1)]))=G2 at t1 hq2 z2 z2q pq at2 eb2 kpt⊢;generalize L2.upd G2 q2 (.tup [.ref r2,.ref un])=G3 at z2 z2q⊢;refine ⟨_,rfl,t,C,dx,_,_,rfl,z2 _ _ at2,T.cl,T.n2,lkB _ _,_,rfl,ba,_,rfl,zCH.k (k:= .inr n) (z2 _ _ eb2) (by rw [zUV];omega),?_⟩;rw [zDe _ vb];have t3:Tps G3 (L2.upd G3 ba (.dK (kb9++ [(.inr n,.ref q2)]))):=fun x xs y=>by rw [zG (fun z=>by rw [z,z2 _ _ eb2] at y;cases y)];exact y
     have t9:Tps H9 (L2.upd G3 ba (.dK (kb9++ [(.inr n,.ref q2)]))):=Tps.trans (zE.tps z1) (Tps.trans t1 (Tps.trans (zE.tps z2) t3));have d':=Df.ok hm nk pl k1 k2;have ok':=Df.good tb.ok hn ⟨a1,a3⟩ ⟨a2,a4⟩ gu h3 d';cases Df.uniq d' d;refine q _ (fun b u hb hp hb2=>?_) ⟨?_,ne,⟨kp9++ [(.inr n,.ref q1)],?_,?_⟩,⟨kb9++ [(.inr n,.ref q2)],zC,?_⟩,fun e he=>?_,?_⟩
     ·rw [zG hb2];exact z2 _ _ (kpt b u hb hp)
     ·rw [zG tne2];exact z2 _ _ at2
     ·rw [zG ne];exact z2 _ _ pq
     ·refine Paired.app (Paired.mapP pk9 fun x y z=>z.tps t9) (.cons ⟨rfl,q1,p,u,rfl,Tps.trans t1 (Tps.trans (zE.tps z2) t3) _ _ z1q,t9 _ _ (s19 _ _ e1),zx.tps ⟨ts,s19 _ _ eu,pu.same s19⟩ t9⟩ .nil)
     ·refine Paired.app (Paired.mapP pb9 fun x y z=>z.tps t9) (.cons ⟨rfl,q2,r2,un,rfl,t3 _ _ z2q,t9 _ _ g9,zx.tps (g3.same s59) t9⟩ .nil)
     ·rcases zVO.mp he with z | z
      ·exact tb.ok e z
      ·rw [zVQ.mp z];exact ok'.1
     ·rw [zUn];show E0.length+1<=12;omega
    ·cases Df.uniq (Df.gr hm nk pl k) d;exact q _ (s15.trans (s6.trans (s7.trans (s8.trans s9))))
def Lt(c:Nat):Prop:=97<=c/\c<=122
theorem zHd(c:Nat):zBO ⟨#[c]⟩=true↔Lt c:=by
 unfold zBO Lt;have e1:("a" :Str).cps.toList= [97] :=by decide+kernel
 have e9:("z" :Str).cps.toList= [122] :=by decide+kernel
 rw [e1,e9];simp only [zVM,zVa,decide_eq_false_iff_not];constructor
 ·rintro ⟨h1,h2⟩;constructor
  ·rcases Nat.lt_or_ge c 97 with z | z
   ·exact absurd (List.Lex.rel z: [c] < [97]) h1
   ·exact z
  ·rcases Nat.lt_or_ge 122 c with z | z
   ·exact absurd (List.Lex.rel z: [122] < [c]) h2
   ·exact z
 ·rintro ⟨h1,h2⟩;constructor
  ·intro z;rcases List.cons_lt_cons_iff.mp z with y |⟨_,y⟩
   ·omega
   ·exact List.not_lt_nil _ y
  ·intro z;rcases List.cons_lt_cons_iff.mp z with y |⟨_,y⟩
   ·omega
   ·exact List.not_lt_nil _ y
theorem Nm.lets(h:Nm n): ∀c∈n.cps.toList,Lt c:=by
 unfold Nm yY at h;simp only [zVM,decide_eq_true_eq,List.all_eq_true] at h;exact fun c hc=>(zHd c).mp (h.1.2 c hc)
def Cn(c:Nat):Prop:=97<=c/\c<=122/\c≠97/\c≠101/\c≠105/\c≠111/\c≠117
instance (c:Nat):Decidable (Cn c):=by unfold Cn;infer_instance
theorem zKx: ∀w∈zIB,∃c∈w.cps.toList,¬Cn c:=by decide+kernel
theorem zOw(h1:1<=x.length)(h8:x.length<=8)(hl: ∀c∈x.cps.toList,Cn c):Nm x:=by
 unfold Nm yY;simp only [zVM,decide_eq_true_eq,List.all_eq_true,zVa];refine ⟨⟨⟨h1,h8⟩,fun c hc=>(zHd c).mpr ⟨(hl c hc).1,(hl c hc).2.1⟩⟩,?_⟩;unfold inV;rw [List.any_eq_false];intro y hy;obtain ⟨w,hw,rfl⟩:=zVR.mp hy;intro z;have e:w=x:=by simpa [eqV] using z
 obtain ⟨c,hc,ho⟩:=zKx w hw;rw [e] at hc;exact ho (hl c hc)
theorem zEx: ∀cs:List Nat,(Str.join Str.empty (cs.map fun c=>(⟨#[c]⟩:Str))).cps.toList=cs
 | [] =>rfl
 | [c] =>rfl
 | c::d::cs=>by
  have ih:=zEx (d::cs);show ((⟨#[c]⟩:Str)++Str.empty++Str.join Str.empty ((d::cs).map fun c=>(⟨#[c]⟩:Str))).cps.toList=_;rw [Str.cps_append,Str.cps_append,Array.toList_append,Array.toList_append,ih];rfl
theorem zLR(cs:List Nat):(Txt.join "" (cs.map fun c=>(⟨#[c]⟩:Str))).cps.toList=cs:=by
 have e0:("" :Str)=Str.empty:=by decide+kernel
 have e:Txt.join "" (cs.map fun c=>(⟨#[c]⟩:Str))=Str.join Str.empty (cs.map fun c=>(⟨#[c]⟩:Str)):=by rw [e0];exact StrLaws.glued_eq_join _ _
 rw [e];exact zEx cs
theorem zKW: ∀i:Fin 21,∃c,("bcdfghjklmnpqrstvwxyz" :Str).cps.toList[(i:Nat)]?=some c/\Cn c:=by
 intro i;have: ∀i:Fin 21,(("bcdfghjklmnpqrstvwxyz" :Str).cps.toList[(i:Nat)]?.any fun c=>decide (Cn c))=true:=by decide+kernel
 have h:=this i;cases q:("bcdfghjklmnpqrstvwxyz" :Str).cps.toList[(i:Nat)]? with
 | none=>rw [q] at h;cases h
 | some c=>rw [q] at h;exact ⟨c,rfl,by simpa using h⟩
theorem zLr(h0:0<=j)(h1:j<=x.cps.toList.length):(Txt.slice x none (some j)).cps.toList=x.cps.toList.take j.toNat:=by
 have q:=StrLaws.sliceText_to (x:=x) (j:=j) ⟨h0,h1⟩;rw [show Txt.slice x none (some j)=StrLaws.sliceText x none (some j) from rfl,q];simp
theorem zPL(h0:0<=i)(h1:i<=j)(h2:j<=x.cps.toList.length):(Txt.slice x (some i) (some j)).cps.toList=(x.cps.toList.drop i.toNat).take (j - i).toNat:=by
 have q:=StrLaws.sliceText_plain (x:=x) (i:=i) (j:=j) ⟨h0,h1,h2⟩;rw [show Txt.slice x (some i) (some j)=StrLaws.sliceText x (some i) (some j) from rfl,q]
 try simp
theorem yu(h:0<j)(h':j<1073741824):zKz i j:=⟨h,h'⟩
theorem _root_.L2.Deep.nox{X:Cx}(D:Deep X):Deep X.nox:=⟨D.sk,D.ge,D.co,D.tr,D.rm⟩
def zBC(us:Prs):PyData:= .tuple (us.map fun p=> .tuple [.str p.1,.int p.2])
def frD(a b:Int):PyData:= .tuple [.int a,.int b]
theorem zHe: ∀{ts:List Addr} {us:Prs},yD H ts us->Paired (Dat H (n+1)) (ts.map V.ref) (us.map fun p=> .tuple [.str p.1,.int p.2])
 | _,_,.nil=> .nil
 | _,_,.cons h t=> .cons (.inr ⟨_,_,rfl,h,.cons (by cases n<;>rfl) (.cons (by cases n<;>rfl) .nil)⟩) (zHe t)
theorem zBW{us:Prs}(h:zx H u us):Dat H (n+2) (.ref u) (zBC us):=by
 obtain ⟨ts,e,p⟩:=h;exact .inr ⟨_,_,rfl,e,zHe p⟩
theorem zJS(h:H p=some (.tup [.int a,.int b])):Dat H (n+1) (.ref p) (frD a b):= .inr ⟨_,_,rfl,h,.cons (by cases n<;>rfl) (.cons (by cases n<;>rfl) .nil)⟩
theorem zEm:Dat H n (.str x) (.str x):=by cases n<;>rfl
theorem zDN:Dat H n .non .none:=by cases n<;>rfl
theorem Nm.ok(h:Nm n):PyData.strOk n=true:=by
 unfold PyData.strOk;rw [Array.all_eq_true_iff_forall_mem];intro c hc;have:=(h.lets c (by simpa using hc)).2;exact zUi (by omega)
theorem zHU: ∀{us:Prs},(∀p∈us,Nm p.1)->PyData.canLayAll0 (us.map fun p=> .tuple [.str p.1,.int p.2])=true
 | [],_=>by simp only [List.map_nil,PyData.canLayAll0]
 | p::us,h=>by
  simp only [zVP,PyData.canLayAll0,PyData.canLay0,(h p (by simp)).ok,Bool.and_self,Bool.true_and];exact zHU fun q hq=>h q (by simp [hq])
theorem zBV{us:Prs}(h: ∀p∈us,Nm p.1):(zBC us).canLay0=true:=by
 unfold zBC;simp only [PyData.canLay0];exact zHU h
theorem zFk(a b:Int):(frD a b).canLay0=true:=by unfold frD;simp only [PyData.canLay0,PyData.canLayAll0,Bool.and_self]
theorem zHG: ∀(us vs:Prs),PyData.eqvAll (us.map fun p=> .tuple [.str p.1,.int p.2]) (vs.map fun p=> .tuple [.str p.1,.int p.2])=decide (us=vs)
 | [],[] =>by simp [PyData.eqvAll]
 | [],v::vs=>by simp [PyData.eqvAll]
 | u::us,[] =>by simp [PyData.eqvAll]
 | u::us,v::vs=>by
  rw [zVP,zVP,PyData.eqvAll,zHG us vs];obtain ⟨a,b⟩:=u;obtain ⟨c,d⟩:=v;simp only [PyData.eqv,PyData.eqvAll,Bool.and_true];rw [zVU];simp only [zVM,beq_iff_eq,decide_eq_true_eq,List.cons.injEq,Prod.mk.injEq]
theorem zIJ(us vs:Prs):PyData.eqv (zBC us) (zBC vs)=decide (us=vs):=by
 unfold zBC;rw [PyData.eqv];exact zHG us vs
theorem zBn(a b:Str):(a++b).length=a.length+b.length:=Str.length_append a b
theorem zTv{G C:Prop}(main:C->G)(rest:C):G:=main rest
def zGp:Sp:=fun vs H Q _=> ∃(n:Int) (m:Nat),vs= [.int n,.int (m:Int)] /\0<=n/\(m=8\/m=14)/\ ∀l (ns:List Str) H',zE H H'->H' l=some (.lst (ns.map V.str))->ns.length=m->(∀x∈ns,Nm x)->(∀x,ns[0]?=some x->x.length<=7/\ ∀c∈x.cps.toList,Cn c)->Q (.ref l) H'
theorem zBp:FnScope ["_law_number_here","_law_many","_law_signs","_law_rest","_law_at","_law_found","_law_k","_law_sign"] ["_law_number_here","_law_many"] (zK zEP):=fs
structure NmSo(k:Nat)(ns:List Str):Prop where
 len:ns.length=k
 nm: ∀x∈ns,Nm x
 one: ∀x,ns[0]?=some x->x.length<=7/\ ∀c∈x.cps.toList,Cn c
theorem NmSo.nil:NmSo 0 [] :=⟨rfl,fun _ h=>(nomatch h),fun _ h=>by simp at h⟩
theorem NmSo.snoc(h:NmSo k ns)(h1:1<=x.length)(h8:x.length<=8)(hc: ∀c∈x.cps.toList,Cn c)(h7:k=0->x.length<=7):NmSo (k+1) (ns++ [x]):=by
 refine ⟨by simp [h.len],fun y hy=>?_,fun y hy=>?_⟩
 ·rcases zVO.mp hy with z | z
  ·exact h.nm y z
  ·rw [zVQ.mp z];exact zOw h1 h8 hc
 ·cases k with
  | zero=>
   have e:ns= [] :=List.length_eq_zero_iff.mp h.len;subst e;simp at hy;subst hy;exact ⟨h7 rfl,hc⟩
  | succ k=>
   refine h.one y ?_;rw [List.getElem?_append_left (by rw [h.len];omega)] at hy;exact hy
theorem zNv{f fM:Addr}{fd fdM:FuncData}(F:Fun K "_law_names" "_law_names" zEP f fd)(B:Bn mg)
  (FM:Fun K "_law_mixed" "_law_mixed" zDX fM fdM) (bM:zL K fdM ["_law_number_here","_law_k"] []) (mM:mg "_law_mixed" =some (.ref fM)):FnOk P w K mg base CX0 2 f fd ["_law_number_here","_law_many"] zGp:=by
 have GM:FnOk P w K mg base CX0 1 fM fdM ["_law_number_here","_law_k"] zDc:=zGT FM;refine F.ok zBp (fun vs H Q E h=>?_) (fun _ A _ s H vs Q E hr h=>?_)
 ·obtain ⟨n,m,rfl,_⟩:=h;rfl
 ·obtain ⟨n,m,rfl,h0,hm,q⟩:=h;have hr1:Room 1 _:=hr;refine ⟨_,QB.out (zH
   (zCk 2 zBp.nd rfl (Or.inr rfl) zN rfl (.inl rfl)) (zH
   (zCk 3 zBp.nd rfl (Or.inr rfl) (zRs (K:=K) rfl zN (ye ["_law_j"] ["_law_number_here","_law_signs"] [0,2] rfl (zCA rfl B.range (qc zF zD rfl) rfl) rfl (by decide+kernel) rfl (by decide+kernel) (zAn rfl (zAn rfl lk0)) rfl (fr2 ⟨rfl,rfl,rfl,_,rfl,rfl⟩ ⟨rfl,rfl,rfl,_,rfl,rfl⟩) (yL rfl) (fun _ _ _ _=>(zm 0 (show (["_law_j","_law_number_here","_law_signs"] :List Str).Nodup by decide+kernel) rfl (.inl rfl) (.inr rfl))) (fun _ _ _ _=>zBh) (fun _ _ _ _=>(zOz (qx 2 rfl) (yJ (zP GM hr1 rfl mM FM.kp bM .nil zO (qc (qx 1 rfl) (qc (zBD zF (qw 0 rfl)) zD rfl) rfl) rfl rfl rfl) zF) (fun _ _=>rfl))) (fun _=>rfl)) rfl rfl rfl) rfl (.inl rfl)) (zH
   (zq (t_w (zDg (zY zAI (yJ (qx 0 rfl) zF) zF rfl) (zCU (zY zDi (qw 1 rfl) zF rfl)))) (zJ
    (zW (ye ["_law_k"] ["_law_rest"] [3] rfl (zCA rfl B.range (qc (qw 1 rfl) zD rfl) rfl) rfl (by decide+kernel) rfl (by decide+kernel) (zAn rfl lk0) rfl (fr1 ⟨rfl,rfl,rfl,_,rfl,rfl⟩) (yL rfl) (fun _ _ _ _=>(zm 0 (show (["_law_k","_law_rest"] :List Str).Nodup by decide+kernel) rfl (.inl rfl) (.inr rfl))) (fun _ _ _ _=>zBh) (fun _ _ _ _=>(zLW (qx 1 rfl) zMW (zGd (zBD (qw 0 rfl) zF)))) (fun _=>rfl)))) zn) (zH
   (zT 4 zBp.nd rfl (yJ (yS (qx 0 rfl) zF) zF) rfl) (zH
   (zT 5 zBp.nd rfl (zy zD) rfl) (zH
   (yt PassesOwn.never rfl (zCA rfl B.range (qc (qw 1 rfl) zD rfl) rfl) (zm 6 zBp.nd rfl (Or.inl rfl) (.inr rfl)) (zH
    (zT 7 zBp.nd rfl (zOz (qx 2 rfl) (yJ (zBD (yS (qx 0 rfl) zF) (zKf zF (qw 6 rfl))) zF) (fun _ _=>rfl)) rfl) (zJ
    (yn (zBT (K:=K) rfl (qw 5 rfl) (zBP zDV (zBP zDV (zLW (qx 3 rfl) zMW (zGd (qw 4 rfl))) (qw 7 rfl)) (zLW (qx 3 rfl) (zGd (qw 4 rfl)) (zGd (zBD (qw 4 rfl) (yJ (yS (qx 0 rfl) zF) zF))))) rfl rfl rfl) rfl))) (fun _=>rfl)) (zJ
   (zW (qw 5 rfl))))))))),?_⟩
  refine ⟨rfl,8,rfl,by decide,by decide,fun D hD=>?_⟩;refine yK 8 (fun i ys H'=> ∃cs:List Nat,i<=8/\cs.length=i/\(∀c∈cs,Cn c)/\ys=(cs.map fun c=>(⟨#[c]⟩:Str)).map V.str/\H'=L2.upd H D (.lst ys)) ⟨[],by decide,rfl,fun _ h=>(nomatch h),rfl,rfl⟩ (by rw [zUV];decide) ?_ ?_ ?_
  ·rintro i ys H' hi ⟨cs,_,hc,_,rfl,rfl⟩;refine ⟨by simp [hc],zC,fun h=>h,fun h=>Nat.le_of_eq h.symm⟩
  ·rintro i ys H' x H'' hi ⟨cs,_,hc,hl,rfl,rfl⟩ ⟨rfl,rfl⟩ pre hpre;obtain ⟨p0,rfl⟩:=zVN.mp hpre;refine ⟨⟨[some (.int (0+i))],rfl,rfl⟩,?_⟩;refine zZ ?_;refine ⟨_,rfl,_,rfl,_,rfl,_,_,rfl,rfl,n,60+(0+(i:Int)),rfl,by omega,by omega,fun r r0 r1=>?_⟩;have m0:0<=r % 21:=zUc r (by decide);have m1:r % 21<21:=zUW r (by decide);obtain ⟨j,hj⟩: ∃j:Nat,r % 21=j:=⟨(r % 21).toNat,by omega⟩;have hj2:j<21:=by omega
   obtain ⟨c,hc1,hc2⟩:=zKW ⟨j,hj2⟩;refine ⟨_,_,rfl,rfl,(by decide:(0:Int)<21),_,_,c,rfl,rfl,by decide+kernel,?_,zC,cs++ [c],hi,by simp [hc],?_,?_,?_⟩
   ·rw [hj];exact zAG hc1
   ·intro c' hc';rcases zVO.mp hc' with z | z
    ·exact hl c' z
    ·rw [zVQ.mp z];exact hc2
   ·simp
   ·rw [zAp]
  ·rintro ys H' ⟨cs,_,hc,hl,rfl,rfl⟩;refine ⟨_,D,_,rfl,rfl,SqL.of zC,?_,?_⟩
   ·have z:=StrLaws.sumLen_le (B:=1) (cs.map fun c=>(⟨#[c]⟩:Str)) (fun y hy=>by obtain ⟨c,_,rfl⟩:=zVR.mp hy;exact zUO 1);rw [zUR] at z⊢;have e0:("" :Str).length=0:=by decide+kernel
    rw [e0,hc];omega
   have hR:=zLR cs;generalize Txt.join "" (cs.map fun c=>(⟨#[c]⟩:Str))=R at hR⊢;have lR:R.length=8:=by rw [zBr,hR,hc]
   have s1:zE H (L2.upd H D (.lst ((cs.map fun c=>(⟨#[c]⟩:Str)).map V.str))):=zE.upd hD;generalize L2.upd H D (.lst ((cs.map fun c=>(⟨#[c]⟩:Str)).map V.str))=H1 at s1⊢;refine ⟨_,rfl,_,_,rfl,rfl,(by decide:(0:Int)<3),rfl,_,rfl,?_⟩;apply zTv
   ·intro rest;refine yB (fun c=>?_) (fun c=>zM rest);refine ⟨_,rfl,_,_,rfl,rfl,_,rfl,?_⟩;rcases hm with rfl | rfl
    ·refine zZ ?_;refine ⟨_,rfl,8,rfl,by decide,by decide,fun D2 hD2=>?_⟩;refine yK 8 (fun i ys H'=> ∃ns:List Str,i<=8/\NmSo i ns/\ys=ns.map V.str/\H'=L2.upd H1 D2 (.lst ys)) ⟨[],by decide,NmSo.nil,rfl,rfl⟩ (by rw [zUV];decide) ?_ ?_ ?_
     ·rintro i ys H' hi ⟨ns,_,hn,rfl,rfl⟩;refine ⟨by simp [hn.len],zC,fun h=>h,fun h=>Nat.le_of_eq h.symm⟩
     ·rintro i ys H' x H'' hi ⟨ns,_,hn,rfl,rfl⟩ ⟨rfl,rfl⟩ pre hpre;obtain ⟨p0,rfl⟩:=zVN.mp hpre;have hcut:=zLr (x:=R) (j:=0+(i:Int)+1) (by omega) (by rw [hR,hc];omega);have lcut:(Txt.slice R none (some (0+(i:Int)+1))).length=i+1:=by rw [zBr,hcut,List.length_take,hR,hc];omega
      refine ⟨⟨[some (.int (0+i))],rfl,rfl⟩,?_⟩;refine zZ ?_;refine ⟨_,rfl,_,rfl,_,_,rfl,rfl,_,rfl,R,rfl,by rw [zUV];omega,zC,ns++ [_],hi,hn.snoc (by rw [lcut];omega) (by rw [lcut];omega) (fun c' hc'=>?_) (fun z=>by rw [lcut];omega),by rw [zUg];rfl,by rw [zAp]⟩;rw [hcut,hR] at hc';exact hl c' (List.mem_of_mem_take hc')
     ·rintro ys H' ⟨ns,_,hn,rfl,rfl⟩;exact q D2 ns _ (s1.trans (zE.upd hD2)) zC hn.len hn.nm hn.one
    ·exact zM rest
   ·refine ⟨_,rfl,_,_,rfl,rfl,yu (by decide) (by decide),_,_,rfl,rfl,(by decide:(0:Int)<6),?_⟩;have a0:0<=n/3 % 6:=zUc _ (by decide);have a1:n/3 % 6<6:=zUW _ (by decide);refine ⟨bs 0,fun D2 hD2=>?_⟩;refine ⟨_,rfl,(m:Int),rfl,by omega,by omega,?_⟩;refine yk m (fun i σ H'=> ∃(v6 v7:Option V) (ns:List Str),σ= [some (.int n),some (.int (m:Int)),some (.str "bcdfghjklmnpqrstvwxyz"),some (.str R),some (.int (n/3 % 6)),some (.ref D2),v6,v7] /\i<=m/\NmSo i ns/\H'=L2.upd H1 D2 (.lst (ns.map V.str))) ⟨none,none,[],rfl,zUZ _,NmSo.nil,rfl⟩ ?_ ?_ ?_ ?_
    ·rintro i σ H' hi ⟨v6,v7,ns,rfl,_,hn,rfl⟩;show i<((m:Int) - 0).toNat;omega
    ·rintro σ H' ⟨v6,v7,ns,rfl,_,hn,rfl⟩;show ((m:Int) - 0).toNat<=m;omega
    ·rintro i σ H' x H'' hi ⟨v6,v7,ns,rfl,_,hn,rfl⟩ ⟨rfl,rfl⟩;have e5:0<=(n/18+5*(0+(i:Int)))% 21:=zUc _ (by decide);have e6:(n/18+5*(0+(i:Int)))% 21<21:=zUW _ (by decide);obtain ⟨j,hj⟩: ∃j:Nat,(n/18+5*(0+(i:Int)))% 21=j:=⟨((n/18+5*(0+(i:Int)))% 21).toNat,by omega⟩;obtain ⟨c,hc1,hc2⟩:=zKW ⟨j,by omega⟩;refine ⟨_,rfl,_,rfl,_,_,rfl,rfl,yu (by decide) (by decide),_,rfl,_,_,rfl,rfl,.inl ⟨by decide,by decide⟩,_,_,rfl,rfl,_,_,rfl,rfl,(by decide:(0:Int)<21),_,_,c,rfl,rfl,by decide+kernel,by rw [hj];exact zAG hc1,?_⟩;have hcut:=zLr (x:=R) (j:=(n/3 % 6)) a0 (by rw [hR,hc];omega);have lcut:(Txt.slice R none (some (n/3 % 6))).length=(n/3 % 6).toNat:=by rw [zBr,hcut,List.length_take,hR,hc];omega
     have b0:0<=n/500 % 2:=zUc _ (by decide);have b1:n/500 % 2<2:=zUW _ (by decide);have hmid:=zPL (x:=R) (i:=(n/3 % 6)) (j:=(n/3 % 6)+n/500 % 2) a0 (by omega) (by rw [hR,hc];omega);have lmid:(Txt.slice R (some (n/3 % 6)) (some ((n/3 % 6)+n/500 % 2))).length<=1:=by rw [zBr,hmid,List.length_take];omega
     have lone:(⟨#[c]⟩:Str).length=1:=rfl;refine ⟨_,rfl,.inl ⟨rfl,_,SqL.of zC⟩,?_⟩;refine ⟨_,rfl,_,rfl,_,rfl,R,rfl,by rw [zUV];omega,_,rfl,_,_,rfl,rfl,by rw [lcut,lone,zUV];omega,_,rfl,_,rfl,_,rfl,_,rfl,_,rfl,_,_,rfl,rfl,yu (by decide) (by decide),_,_,rfl,rfl,(by decide:(0:Int)<2),_,_,rfl,rfl,_,rfl,R,rfl,by rw [zUV];omega,_,_,rfl,rfl,by rw [zBn,lcut,lone,zUV];omega,?_⟩;refine ⟨D2,_,_,rfl,rfl,zC,by rw [zUR,hn.len,zUV];omega,_,_,ns++ [Txt.slice R none (some (n/3 % 6))++⟨#[c]⟩++Txt.slice R (some (n/3 % 6)) (some (n/3 % 6+n/500 % 2))],rfl,hi,hn.snoc (by rw [zBn,zBn,lone];omega) (by rw [zBn,zBn,lone,lcut];omega) (fun c' hc'=>?_) (fun z=>by rw [zBn,zBn,lone,lcut];omega),by rw [zAp,zUg];rfl⟩;rw [Str.cps_append,Array.toList_append,Str.cps_append,Array.toList_append,hcut,hmid,hR] at hc';rcases zVO.mp hc' with z2 | z2
     ·rcases zVO.mp z2 with z3 | z3
      ·exact hl c' (List.mem_of_mem_take z3)
      ·have z4:c'=c:=by simpa using z3
       rw [z4];exact hc2
     ·exact hl c' (List.mem_of_mem_drop (List.mem_of_mem_take z2))
    ·rintro σ H' ⟨v6,v7,ns,rfl,_,hn,rfl⟩;exact ⟨_,rfl,q D2 ns _ (s1.trans (zE.upd hD2)) zC hn.len hn.nm hn.one⟩
def zDJ:Sp:=fun vs H Q _=> ∃a b:Int,vs= [.int a,.int b] /\0<=a/\0<=b/\Sz 1000000 a/\Sz 1000000 b/\Q (.int ((Int.gcd a b:Nat):Int)) H
theorem zPR(F:Fun K "_law_common" "_law_common" zEE f fd)(ht:P.given.tree=none):FnOk P w K mg base CX0 34 f fd ["_law_one","_law_other"] zDJ:=by
 refine F.ok zHz (fun vs H Q E h=>?_) (fun cdv A outer s H vs Q E hr h=>?_)
 ·obtain ⟨a,b,rfl,_⟩:=h;rfl
 ·obtain ⟨a,b,rfl,ha,hb,za,zb,q⟩:=h;have deep:=zDG (CX:=CX0) (P:=P) (w:=w) (K:=K) (mg:=mg) (base:=base) (N:= ["_law_one","_law_other","_law_rest"]) (H:=H) (E:=E) (outer:=outer) hr (by decide) ht rfl rfl |>.nox;refine ⟨_,QB.out (zH
   (zKP PassesOwn.never (zY zAh (qw 1 rfl) zF rfl) (zH
    (zT 2 zHz.nd rfl (zKu (qw 0 rfl) (zCB (zAY deep (qw 0 rfl) (qw 1 rfl)) (qw 1 rfl))) rfl) (zH
    (zT 0 zHz.nd rfl (qw 1 rfl) rfl) (zJ
    (zT 1 zHz.nd rfl (qw 2 rfl) rfl))))) (zJ
   (zW (qw 0 rfl)))),?_⟩
  refine zFS (fun σ H'=>H'=H/\ ∃(g l:Int) (r:Option V),σ= [some (.int g),some (.int l),r] /\0<=g/\0<=l/\Sz 1000000 g/\Sz 1000000 l/\Int.gcd g l=Int.gcd a b)
   (fun (σ:L2.St) _=>match σ[1]? with | some (some (V.int l))=>l.toNat | _=>0) ⟨rfl,a,b,none,rfl,ha,hb,za,zb,rfl⟩ ?_ ?_
  ·rintro σ H' ⟨rfl,g,l,r,rfl,hg,hl,zg,zl,e⟩;refine ⟨_,rfl,_,_,rfl,rfl,_,rfl,?_⟩;refine yB (fun z=>?_) (fun z=>?_)
   ·have hp:0<l:=by simpa using z
    have er:g - g/l*l=g % l:=by rw [Int.emod_def,Int.mul_comm]
    have r0:=zUc g (by omega:l≠0);have r1:=zUW g hp;refine ⟨_,rfl,_,rfl,_,rfl,_,_,rfl,rfl,hp,_,rfl,_,_,rfl,rfl,⟨zg.div hp,zl⟩,_,_,rfl,rfl,_,rfl,_,rfl,⟨rfl,l,g - g/l*l,_,rfl,hl,by omega,zl,?_,?_⟩,?_⟩
    ·rw [er];unfold Sz at*;omega
    ·rw [er,zFR g l hp,e]
    ·show (g - g/l*l).toNat<l.toNat;omega
   ·have hz:l=0:=by
     have: ¬0<l:=by simpa using z
     omega
    subst hz;refine ⟨_,rfl,?_⟩;rw [<-e,zIM g hg] at q;exact q
  ·rintro σ H' R R' hR ⟨v,e1,i,j,e2,e3,k,e4,q'⟩;exact ⟨v,e1,i,j,e2,e3,k,e4,hR _ _ q'⟩
def zKv:Sp:=fun vs H Q _=> ∃n:Int,vs= [.int n] /\ ∀r H' (a b:Nat),zE H H'->zGg H' (.ref r) a b->Q (.ref r) H'
theorem zHo:FnScope ["_law_number_here","_law_above","_law_below","_law_shared"] ["_law_number_here"] (zK zIW):=fs
theorem zQv(F:Fun K "_law_amount" "_law_amount" zIW f fd)(ht:P.given.tree=none)
  (FC:Fun K "_law_common" "_law_common" zEE fC fdC) (bC:zL K fdC ["_law_one","_law_other"] []) (mC:mg "_law_common" =some (.ref fC)) (GC:FnOk P w K mg base CX0 34 fC fdC ["_law_one","_law_other"] zDJ):
  FnOk P w K mg base CX0 35 f fd ["_law_number_here"] zKv:=by
 refine F.ok zHo (fun vs H Q E h=>?_) (fun cdv A outer s H vs Q E hr h=>?_)
 ·obtain ⟨n,rfl,_⟩:=h;rfl
 ·obtain ⟨n,rfl,q⟩:=h;have deep:=zDG (CX:=CX0) (P:=P) (w:=w) (K:=K) (mg:=mg) (base:=base) (N:= ["_law_number_here","_law_above","_law_below","_law_shared"]) (H:=H) (E:=E) (outer:=outer) hr (by decide) ht rfl rfl |>.nox;refine ⟨_,QB.out (zH
   (zT 1 zHo.nd rfl (zBD zF (yH (K:=K) rfl (zy (qc (yJ (qw 0 rfl) zF) (qc (yJ (qw 0 rfl) (zIA zF zF)) zD rfl) rfl)) (yS (yJ (yS (qw 0 rfl) zF) zF) zF) (fun _ _=>rfl))) rfl) (zH
   (zT 2 zHo.nd rfl (zBD zF (yJ (yS (qw 0 rfl) zF) zF)) rfl) (zH
   (zT 3 zHo.nd rfl (zP GC hr rfl mC FC.kp bC .nil zO (qc (qw 1 rfl) (qc (qw 2 rfl) zD rfl) rfl) rfl rfl rfl) rfl) (zJ
   (zW (zQ (qc (zAY deep (qw 1 rfl) (qw 3 rfl)) (qc (zAY deep (qw 2 rfl) (qw 3 rfl)) zD rfl) rfl))))))),?_⟩
  have m1:0<=n % 1000:=zUc _ (by decide);have m2:n % 1000<1000:=zUW _ (by decide);have m3:0<=n % 10^(13:Int).toNat:=zUc _ (by decide);have m4:n % 10^(13:Int).toNat<10^(13:Int).toNat:=zUW _ (by decide);have m5:0<=n/1000 % 8:=zUc _ (by decide);have m6:n/1000 % 8<8:=zUW _ (by decide);have m7:0<=n/8000 % 60:=zUc _ (by decide);have m8:n/8000 % 60<60:=zUW _ (by decide);have m9:(10:Int)^(13:Int).toNat<2^60:=by decide
  have pick: ∃v:Int,atI [V.int (n % 1000),V.int (n % 10^(13:Int).toNat)] (n/1000 % 8/7)=some (.int v)/\0<=v/\v<2^60:=by
   have z:n/1000 % 8/7=0\/n/1000 % 8/7=1:=by omega
   rcases z with z | z
   ·exact ⟨n % 1000,by rw [z];rfl,m1,by omega⟩
   ·exact ⟨n % 10^(13:Int).toNat,by rw [z];rfl,m3,by omega⟩
  obtain ⟨v,hv,v0,v1⟩:=pick;refine ⟨_,rfl,_,_,rfl,rfl,(by decide:(0:Int)<1000),_,rfl,_,_,rfl,rfl,⟨by decide,by decide,by decide⟩,_,_,rfl,rfl,(by decide:(0:Int)<10^(13:Int).toNat),bs 2,fun l hl=>?_⟩;have s1:=zE.upd hl (o:= .lst [.int (n % 1000),.int (n % 10^(13:Int).toNat)]);refine ⟨_,rfl,_,_,rfl,rfl,yu (by decide) (by decide),_,_,rfl,rfl,(by decide:(0:Int)<8),_,_,rfl,rfl,yu (by decide) (by decide),l,_,_,_,rfl,rfl,SqL.of zC,hv,_,_,rfl,rfl,?_⟩;refine ⟨_,rfl,_,_,rfl,rfl,yu (by decide) (by decide),_,_,rfl,rfl,(by decide:(0:Int)<60),_,_,rfl,rfl,?_⟩;have za:Sz 61 (1+v):=Sz.of (by omega) (by omega);have zb:Sz 61 (1+n/8000 % 60):=Sz.of (by omega) (by omega);refine ⟨_,rfl,_,rfl,1+v,1+n/8000 % 60,rfl,by omega,by omega,za.mono (by decide),zb.mono (by decide),?_⟩;have gp:=zCN (1+v) (b:=1+n/8000 % 60) (by omega);refine ⟨_,rfl,_,rfl,_,_,rfl,rfl,gp,_,rfl,_,rfl,_,_,rfl,rfl,gp,bs 2,fun r hr'=>?_⟩;obtain ⟨A,hA⟩: ∃A:Nat,1+v=A:=⟨(1+v).toNat,by omega⟩;obtain ⟨C,hC⟩: ∃C:Nat,1+n/8000 % 60=C:=⟨(1+n/8000 % 60).toNat,by omega⟩;have hA0:0<A:=by omega
  have hC0:0<C:=by omega
  have hA1:A<2^61:=by omega
  have hC1:C<2^61:=by omega
  have g0:0<Nat.gcd A C:=Nat.gcd_pos_of_pos_left _ hA0;rw [hA,hC,Int.gcd_natCast_natCast];refine q r _ (A/Nat.gcd A C) (C/Nat.gcd A C) (s1.trans (zE.upd hr')) ⟨r,rfl,by rw [zC,zVZ,zVZ],Nat.div_pos (Nat.le_of_dvd hA0 (Nat.gcd_dvd_left _ _)) g0,Nat.div_pos (Nat.le_of_dvd hC0 (Nat.gcd_dvd_right _ _)) g0,Nat.gcd_div_gcd_div_gcd_of_pos_left hA0,?_,?_⟩
  ·exact zUb (Nat.div_le_self _ _) (zUT hA1 (zUj (by decide) (by decide)))
  ·exact zUb (Nat.div_le_self _ _) (zUT hC1 (zUj (by decide) (by decide)))
def zEW(K:zVK):Sp:=fun vs H Q _=> ∃(n:Int) (l:Addr) (Ns:List Str),vs= [.int n,.ref l] /\H l=some (.lst (Ns.map V.str))/\0<Ns.length/\Ns.length<=14/\ ∀r us H',zE H H'->zx H' r us->GoodU Ns us->us.length<=3->Q (.ref r) H'
theorem zEu:FnScope ["_law_number_here","_law_names_here","_law_found","_law_k","_law_more"] ["_law_number_here","_law_names_here"] (zK zEZ):=fs
theorem zOH(F:Fun K "_law_unit" "_law_unit" zEZ f fd)(B:Bn mg)
  (FM:Fun K "_law_mixed" "_law_mixed" zDX fM fdM) (bM:zL K fdM ["_law_number_here","_law_k"] []) (mM:mg "_law_mixed" =some (.ref fM)):FnOk P w K mg base CX0 2 f fd ["_law_number_here","_law_names_here"] (zEW K):=by
 have GM:FnOk P w K mg base CX0 1 fM fdM ["_law_number_here","_law_k"] zDc:=zGT FM;refine F.ok zEu (fun vs H Q E h=>?_) (fun _ A _ s H vs Q E hr h=>?_)
 ·obtain ⟨n,l,Ns,rfl,_⟩:=h;rfl
 ·obtain ⟨n,l,Ns,rfl,el,l0,l14,q⟩:=h;have hr1:Room 1 _:=hr;have hu:=zAD hr;refine ⟨_,QB.out (zH
   (zCk 2 zEu.nd rfl (Or.inr rfl) zCE rfl (.inl rfl)) (zH
   (yt PassesOwn.never rfl (zCA rfl B.range (qc (yJ (qw 0 rfl) zF) zD rfl) rfl) (zm 3 zEu.nd rfl (Or.inl rfl) (.inr rfl)) (zH
    (zT 4 zEu.nd rfl (zP GM hr1 rfl mM FM.kp bM .nil zO (qc (qw 0 rfl) (qc (zBD zF (qw 3 rfl)) zD rfl) rfl) rfl rfl rfl) rfl) (zJ
    (zCC hu (qx 2 rfl) (yH (K:=K) rfl (qw 1 rfl) (yJ (qw 4 rfl) (yE (zAy (K:=K) rfl) rfl B.len zAU (qc (qw 1 rfl) zD rfl) rfl)) (fun _ _=>rfl)) (yH (K:=K) rfl (zy (qc (zCd zF) (qc (zCd zF) (qc (zCd zF) (qc zF (qc zF (qc zF (qc zF (qc (zKu (yJ (yS (qw 4 rfl) zF) zF) zF) zD rfl) rfl) rfl) rfl) rfl) rfl) rfl) rfl)) (yJ (yS (qw 4 rfl) zF) zF) (fun _ _=>rfl)) rfl))) (fun _=>rfl)) (zJ
   (zW (zCu (zCr (K:=K) rfl) rfl B.tuple zBs (qc (ye ["_law_name"] ["_law_found"] [2] rfl (zAZ (K:=K) rfl (yE (zBi rfl) rfl B.sorted zCm (qc (qx 2 rfl) zD rfl) rfl)) rfl (by decide+kernel) rfl (by decide+kernel) (zAn rfl lk0) rfl (fr1 ⟨rfl,rfl,rfl,_,rfl,rfl⟩) (yL rfl) (fun _ _ _ _=>(zm 0 (show (["_law_name","_law_found"] :List Str).Nodup by decide+kernel) rfl (.inl rfl) (.inr rfl))) (fun _ _ _ _=>(zBJ (zY zDd (zo hu (qx 1 rfl) (qw 0 rfl) (fun _ _=>rfl)) zF rfl))) (fun _ _ _ _=>(zQ (qc (qw 0 rfl) (qc (zo hu (qx 1 rfl) (qw 0 rfl) (fun _ _=>rfl)) zD rfl) rfl))) (fun _=>rfl)) zD rfl) rfl))))),?_⟩
  refine fun d hd=>?_;have s0:=zE.upd hd (o:= .dK []);have m0:0<=n % 4:=zUc _ (by decide);have m1:n % 4<4:=zUW _ (by decide);refine ⟨_,rfl,_,_,rfl,rfl,(by decide:(0:Int)<4),n % 4,rfl,by omega,by omega,?_⟩;refine yk (n % 4).toNat (fun i σ H'=> ∃(v3 v4:Option V) (ks:List Str) (ps:Prs),σ= [some (.int n),some (.ref l),some (.ref d),v3,v4] /\i<=(n % 4).toNat/\ks.Nodup/\(∀m,m∈ks↔m∈ps.map (·.1))/\ks.length<=i/\(∀p∈ps,p.1∈Ns)/\zE H H'/\H' d=some (.dK (yo ks ps))) ?_ ?_ ?_ ?_ ?_
  ·exact ⟨none,none,[],[],rfl,zUZ _,List.nodup_nil,fun m=>by simp,zUO _,fun p hp=>(nomatch hp),s0,zC⟩
  ·rintro i σ H' hi _;exact hi
  ·rintro σ H' _;exact zUO _
  ·rintro i σ H' x H'' hi ⟨v3,v4,ks,ps,rfl,_,nd,hk,hkl,hns,s1,hd1⟩ ⟨rfl,rfl⟩;refine ⟨_,rfl,_,rfl,_,_,rfl,rfl,n,70+(0+(i:Int)),rfl,by omega,by omega,fun r r0 r1=>?_⟩;have j0:0<=r/9 % 8:=zUc _ (by decide);have j1:r/9 % 8<8:=zUW _ (by decide);have k0:0<=r %(Ns.length:Int):=zUc _ (by omega);have k1:r %(Ns.length:Int)<Ns.length:=zUW _ (by omega);obtain ⟨k,hk'⟩: ∃k:Nat,r %(Ns.length:Int)=k:=⟨(r %(Ns.length:Int)).toNat,by omega⟩;have hkn:k<Ns.length:=by omega
   have pick: ∀x:Int,∃v:Int,atI [V.int (-3),V.int (-2),V.int (-1),V.int 1,V.int 2,V.int 3,V.int 1,V.int x] (r/9 % 8)=some (.int v):=fun x=>by
    have z:r/9 % 8=0\/r/9 % 8=1\/r/9 % 8=2\/r/9 % 8=3\/r/9 % 8=4\/r/9 % 8=5\/r/9 % 8=6\/r/9 % 8=7:=by omega
    rcases z with z | z | z | z | z | z | z | z<;>rw [z] <;>exact ⟨_,rfl⟩
   obtain ⟨v,hv⟩:=pick (r/700 % 61 - 30);refine ⟨_,rfl,_,rfl,_,rfl,_,rfl,_,_,rfl,rfl,yu (by decide) (by decide),_,_,rfl,rfl,(by decide:(0:Int)<61),_,_,rfl,rfl,bs 8,fun l2 hl2=>?_⟩;have s2:=zE.upd hl2 (o:= .lst [.int (-3),.int (-2),.int (-1),.int 1,.int 2,.int 3,.int 1,.int (r/700 % 61 - 30)]);have el2:=(s1.trans s2) _ _ el;refine ⟨_,rfl,_,_,rfl,rfl,yu (by decide) (by decide),_,_,rfl,rfl,(by decide:(0:Int)<8),l2,_,_,_,rfl,rfl,SqL.of zC,hv,?_⟩;refine ⟨_,rfl,_,rfl,_,rfl,_,rfl,l,_,rfl,.inl (SqL.of el2),_,_,rfl,rfl,by rw [zUR];omega,l,_,_,.str Ns[k],rfl,rfl,SqL.of el2,?_,?_⟩
   ·rw [zUR,hk'];exact zAG (by rw [zUP,zUK hkn];rfl)
   obtain ⟨ks',ep,nd',hk2,hkl'⟩:=zGy (e:=v - tot ps Ns[k]) (m:=Ns[k]) hk;have ev:tot ps Ns[k] +(v - tot ps Ns[k])=v:=by omega
   rw [ev] at ep;refine ⟨d,_,rfl,zCH.k (k:=Sum.inr Ns[k]) (s2 _ _ hd1) ?_,?_⟩
   ·unfold yo;rw [zUR,zUV];omega
   rw [ep];refine ⟨_,_,ks',ps++ [(Ns[k],v - tot ps Ns[k])],rfl,hi,nd' nd,hk2,by omega,fun p hp=>?_,zE.store (s1.trans s2) hd,zC⟩;rcases zVO.mp hp with z | z
   ·exact hns p z
   ·rw [zVQ.mp z];exact zUs hkn
  ·rintro σ H2 ⟨v3,v4,ks,ps,rfl,_,nd,hk,hkl,hns,s2,hd2⟩;refine ⟨_,rfl,d,_,ks,rfl,.inl hd2,?_,?_,fun sl ks' hsl hperm hsd=>?_⟩
   ·unfold yo;rw [List.map_map];rfl
   ·unfold yo;rw [zUR];omega
   have hmem: ∀n,n∈ks'↔n∈ks:=fun n=>hperm.mem_iff;have nd':ks'.Nodup:=hperm.nodup_iff.mpr nd;have lk:ks'.length=ks.length:=hperm.length_eq;have ss:zE H2 (L2.upd H2 sl (.lst (ks'.map V.str))):=zE.upd hsl;refine ⟨sl,rfl,⟨_,SqL.of zC⟩,fun D2 hD2=>?_⟩;refine yK ks'.length (fun i ys H'=> ∃us:List Addr,i<=ks'.length/\ys=us.map V.ref/\us.length<=i/\yD H' us (yZ ps (ks'.take i))/\zE (L2.upd H2 sl (.lst (ks'.map V.str))) H'/\H' D2=some (.lst ys)) ⟨[],zUZ _,rfl,zUO _,.nil,zE.upd hD2,zC⟩ (by rw [zUV];omega) ?_ ?_ ?_
   ·rintro i ys H3 hi ⟨us,_,rfl,hul,_,s3,e3⟩;have hq:SqL K H3 sl (ks'.map V.str):=SqL.of (s3 _ _ zC);refine ⟨by simpa using hul,e3,fun h=>⟨_,_,hq,zUK (by simpa using h)⟩,fun h=>⟨_,hq,by simp;omega⟩⟩
   ·rintro i ys H3 x H4 hi ⟨us,_,rfl,hul,hps,s3,e3⟩ ⟨rfl,hx⟩ pre hpre;obtain ⟨p0,rfl⟩:=zVN.mp hpre;have hx':=hx _ (SqL.of (s3 _ _ zC));rw [zUP,zUK hi] at hx';cases hx';have hin:ks'[i] ∈ks:=(hmem _).mp (zUs hi);have hd3:=s3 _ _ (ss _ _ hd2);have dg:yr H4 d (.str ks'[i]) (some (.int (tot ps ks'[i]))):=by
     have z:=yr.k (k:=Sum.inr ks'[i]) hd3;rw [zBk,if_pos hin] at z;exact z
    have etk2:ks'.take (i+1)=ks'.take i++ [ks'[i]] :=by rw [zUh,zUK hi];rfl
    refine ⟨⟨[some (.str ks'[i])],rfl,rfl⟩,_,rfl,_,rfl,d,_,rfl,dg,rfl,_,rfl,?_⟩;refine yB (fun c=>?_) (fun c=>?_)
    ·have hne:tot ps ks'[i] ≠0:=fun z=>by
      rw [z] at c;exact absurd c (by decide)
     refine ⟨_,rfl,_,rfl,_,rfl,d,_,rfl,dg,by show 2<=sizeLine;decide,fun t ht=>⟨?_,us++ [t],hi,by simp,by simp;omega,?_,?_,zC⟩⟩
     ·exact (zE.upd ht) _ _ e3
     ·rw [etk2,zBZ,if_pos hne];have hDt:t≠D2:=fun z=>by rw [z,e3] at ht;cases ht
      have st:zE H4 (L2.upd H4 t (.tup [.str ks'[i],.int (tot ps ks'[i])])):=zE.upd ht;have keep:yD (L2.upd (L2.upd H4 t (.tup [.str ks'[i],.int (tot ps ks'[i])])) D2 (.lst (us.map V.ref++ [.ref t]))) us (yZ ps (ks'.take i)):=(hps.same st).store (st _ _ e3);refine keep.append (.cons ?_ .nil);rw [zG hDt];exact zC
     ·exact zE.store (s3.trans (zE.upd ht)) hD2
    ·have hz:tot ps ks'[i] =0:=by
      have c':decide (V.int (tot ps ks'[i])=V.int 0)=true:=by simpa using c
      have:=zUt c';injection this
     refine ⟨us,hi,rfl,by omega,?_,s3,e3⟩;rw [etk2,zBZ,if_neg (fun z=>z hz),zUm];exact hps
   ·rintro ys H3 ⟨us,_,rfl,_,hps,s3,e3⟩;rw [zUk] at hps;refine ⟨D2,_,rfl,.inl ⟨SqL.of e3,fun u hu2=>?_⟩⟩;have iu:IsU ps (yZ ps ks'):=zFY nd' hsd fun n=>by rw [hmem n];exact hk n
    have ul:=zFb ps ks';have ua:zx (L2.upd H3 u (.tup (us.map V.ref))) u (yZ ps ks'):=⟨us,zC,hps.same (zE.upd hu2)⟩;have sE:zE H2 (L2.upd H3 u (.tup (us.map V.ref))):=(ss.trans s3).trans (zE.upd hu2);exact q u (yZ ps ks') _ (s2.trans sE) ua (IsU.good iu hns) (by omega)
def zGJ(H:Hp)(e:Ent)(p:Key×V):Prop:=p.1= .inr e.nm/\ ∃t un,p.2= .ref t/\H t=some (.tup [.int (e.fa:Int),.int (e.fb:Int),.ref un])/\zx H un e.fu
theorem zGJ.tps{e:Ent}{p:Key×V}(h:zGJ H e p)(s:Tps H H'):zGJ H' e p:=let ⟨a,t,un,b,c,u⟩:=h;⟨a,t,un,b,s _ _ c,u.tps s⟩
theorem fk: ∀e p,zGJ H e p->p.1= .inr e.nm:=fun _ _ h=>h.1
structure Wd(Ns:List Str)(wd ma fl nm:Addr)(H:Hp)(E:List Ent):Prop where
 at_:H wd=some (.dK [(.inr "made",.ref ma),(.inr "flat",.ref fl),(.inr "names",.ref nm)])
 ne:ma≠fl
 wm:wd≠ma
 wf:wd≠fl
 ma: ∃kvs,H ma=some (.dK kvs)/\Paired (zAg H) E kvs
 fl: ∃kvs,H fl=some (.dK kvs)/\Paired (zGJ H) E kvs
 nm:H nm=some (.lst (Ns.map V.str))
 ok: ∀e∈E,EntOk Ns e
 len:E.length<=12
 l14:Ns.length<=14
 l0:0<Ns.length
 nms: ∀n∈Ns,Nm n
 nd:(E.map (·.nm)).Nodup
theorem Wd.same{Ns:List Str}{wd ma fl nm:Addr}{H H':Hp}{E:List Ent}(h:Wd Ns wd ma fl nm H E)(s:zE H H'):Wd Ns wd ma fl nm H' E:=by
 obtain ⟨k1,e1,p1⟩:=h.ma;obtain ⟨k2,e2,p2⟩:=h.fl;exact ⟨s _ _ h.at_,h.ne,h.wm,h.wf,⟨k1,s _ _ e1,Paired.mapP p1 fun a b z=>z.tps (zE.tps s)⟩,⟨k2,s _ _ e2,Paired.mapP p2 fun a b z=>z.tps (zE.tps s)⟩,s _ _ h.nm,h.ok,h.len,h.l14,h.l0,h.nms,h.nd⟩
theorem zKp(a b c:V):yI ([(.inr "made",a),(.inr "flat",b),(.inr "names",c)] :List (Key×V)) (.inr "made")=some a:=zAb rfl
theorem zOZ(a b c:V):yI ([(.inr "made",a),(.inr "flat",b),(.inr "names",c)] :List (Key×V)) (.inr "flat")=some b:=by
 rw [zAd (fun z=>absurd (Sum.inr.inj z) (by decide)),zAb rfl]
theorem zRU(a b c:V):yI ([(.inr "made",a),(.inr "flat",b),(.inr "names",c)] :List (Key×V)) (.inr "names")=some c:=by
 rw [zAd (fun z=>absurd (Sum.inr.inj z) (by decide)),zAd (fun z=>absurd (Sum.inr.inj z) (by decide)),zAb rfl]
theorem Wd.gm{Ns:List Str}{wd ma fl nm:Addr}{H:Hp}{E:List Ent}(h:Wd Ns wd ma fl nm H E):yr H wd (.str "made") (some (.ref ma)):= .inl ⟨_,.inr "made",.inl h.at_,rfl,(zKp _ _ _).symm⟩
theorem Wd.gf{Ns:List Str}{wd ma fl nm:Addr}{H:Hp}{E:List Ent}(h:Wd Ns wd ma fl nm H E):yr H wd (.str "flat") (some (.ref fl)):= .inl ⟨_,.inr "flat",.inl h.at_,rfl,(zOZ _ _ _).symm⟩
theorem Wd.gn{Ns:List Str}{wd ma fl nm:Addr}{H:Hp}{E:List Ent}(h:Wd Ns wd ma fl nm H E):yr H wd (.str "names") (some (.ref nm)):= .inl ⟨_,.inr "names",.inl h.at_,rfl,(zRU _ _ _).symm⟩
theorem yj{σ:L2.St}(h:σ.length=2): ∃a b,σ= [a,b] :=by
 cases σ with
 | nil=>cases h
 | cons a r=>
  obtain ⟨b,rfl⟩:=zVN.mp (show r.length=1 by simpa using h);exact ⟨a,b,rfl⟩
def stp(us:Prs):List Str:=(us.filter fun p=>decide (64<p.2.natAbs)).map (·.1)
theorem zDT(us:Prs)(n:Str)(e:Int):stp (us++ [(n,e)])=stp us++if 64<e.natAbs then [n] else [] :=by
 unfold stp;rw [zVW,zUg];congr 1;by_cases z:64<e.natAbs
 ·rw [if_pos z,zUq (by simpa using z)];rfl
 ·rw [if_neg z,zUr (by simpa using z)];rfl
theorem zKA(us:Prs):(stp us).length<=us.length:=by
 unfold stp;rw [zUR];exact zVc _ _
theorem zJn(us:Prs):(stp us).isEmpty=!yp us:=by
 unfold stp yp
 induction us with
 | nil=>rfl
 | cons p us ih=>
  by_cases z:64<p.2.natAbs
  ·rw [zUq (by simpa using z),List.any_cons,zUi z];rfl
  ·rw [zUr (by simpa using z),List.any_cons,zUl z,ih,Bool.false_or]
def zTI(H:Hp)(Q:VK)(E:List Ent)(us:Prs):Prop:=(∀H',zE H H'->Pl E us none->Q .non H')/\ ∀a b f,Pl E us (some (a,b,f))-> ∀H' r un,zE H H'->H' r=some (.tup [.int (a:Int),.int (b:Int),.ref un])->zx H' un f->Q (.ref r) H'
def zIn:Sp:=fun vs H Q _=> ∃(Ns:List Str) (wd ma fl nm u:Addr) (E:List Ent) (us:Prs),vs= [.ref wd,.ref u] /\Wd Ns wd ma fl nm H E/\zx H u us/\GoodU Ns us/\us.length<=3/\zTI H Q E us
theorem yh:FnScope ["_law_world","_law_unit_here","_law_above","_law_below","_law_found","_law_name","_law_exponent","_law_rate","_law_turn","_law_base","_law_own","_law_shared"] ["_law_world","_law_unit_here"] (zK zDK):=fs
theorem zNI(F:Fun K "_law_plain" "_law_plain" zDK f fd)(B:Bn mg)(ht:P.given.tree=none)
  (FC:Fun K "_law_common" "_law_common" zEE fC fdC) (bC:zL K fdC ["_law_one","_law_other"] []) (mC:mg "_law_common" =some (.ref fC)) (GC:FnOk P w K mg base CX0 34 fC fdC ["_law_one","_law_other"] zDJ):
  FnOk P w K mg base CX0 35 f fd ["_law_world","_law_unit_here"] zIn:=by
 refine F.ok yh (fun vs H Q E h=>?_) (fun cdv A outer s H vs Q E hr h=>?_)
 ·obtain ⟨Ns,wd,ma,fl,na,u,E0,us,rfl,_⟩:=h;rfl
 ·obtain ⟨Ns,wd,ma,fl,na,u,E0,us,rfl,W,⟨ts,eu,pu⟩,gu,h3,q1,q2⟩:=h;have hu:=zAD hr;have huN:=Nat.lt_of_succ_lt (zAD hr);have lu:=Paired.length pu;have deep:=zDG (CX:=CX0) (P:=P) (w:=w) (K:=K) (mg:=mg) (base:=base) (N:= ["_law_world","_law_unit_here","_law_above","_law_below","_law_found","_law_name","_law_exponent","_law_rate","_law_turn","_law_base","_law_own","_law_shared"]) (H:=H) (E:=E) (outer:=outer) hr (by decide) ht rfl rfl |>.nox;refine ⟨_,QB.out (zH
   (zq (zY (zFN huN) (ye (cl:= []) ["_law_name","_law_exponent"] [] [] rfl (zBt (K:=K) rfl (qw 1 rfl)) rfl (by decide+kernel) rfl (by decide+kernel) (fun _ _ h=>nomatch h) rfl (fun j y i h=>nomatch h) (yL rfl) (fun _ _ _ _=>(zEo (K:=K) (n:=2) rfl rfl (zAj (zm 0 (show (["_law_name","_law_exponent"] :List Str).Nodup by decide+kernel) rfl (.inl rfl) (.inr rfl)) (zAj (zm 1 (show (["_law_name","_law_exponent"] :List Str).Nodup by decide+kernel) rfl (.inl rfl) (.inr rfl)) zEh rfl) rfl) rfl rfl)) (fun _ _ _ _=>(zBJ (zY zAh (yE zCZ rfl B.abs zEH (qc (qw 1 rfl) zD rfl) rfl) zF rfl))) (fun _ _ _ _=>(qw 0 rfl)) (fun _=>rfl)) (zy zD) rfl) (zJ
    (zW zBE)) zn) (zH
   (zT 2 yh.nd rfl zF rfl) (zH
   (zT 3 yh.nd rfl zF rfl) (zH
   (zCk 4 yh.nd rfl (Or.inr rfl) zCE rfl (.inl rfl)) (zH
   (yt PassesOwn.never rfl (zBt (K:=K) rfl (qw 1 rfl)) (zEo (K:=K) (n:=2) rfl rfl (zAj (zm 5 yh.nd rfl (Or.inl rfl) (.inr rfl)) (zAj (zm 6 yh.nd rfl (Or.inl rfl) (.inr rfl)) zEh rfl) rfl) rfl rfl) (zH
    (zT 7 yh.nd rfl (zEf hu (zo hu (qw 0 rfl) zN (fun _ _=>rfl)) (qw 5 rfl) (zQ (qc zF (qc zF (qc (zQ (qc (zQ (qc (qw 5 rfl) (qc zF zD rfl) rfl)) zD rfl)) zD rfl) rfl) rfl)) ⟨rfl,rfl,rfl,rfl⟩) rfl) (zH
    (yt PassesOwn.never rfl (zCA rfl B.range (qc (yE zCZ rfl B.abs zEH (qc (qw 6 rfl) zD rfl) rfl) zD rfl) rfl) (zm 8 yh.nd rfl (Or.inl rfl) (.inr rfl)) (zH
     (zT 2 yh.nd rfl (zCB (qw 2 rfl) (zR (K:=K) rfl (qw 7 rfl) (zCu zHa rfl B.int zJN (qc (zBf zDi (qw 6 rfl) zF rfl) zD rfl) rfl) (fun _ _=>rfl))) rfl) (zJ
     (zT 3 yh.nd rfl (zCB (qw 3 rfl) (zR (K:=K) rfl (qw 7 rfl) (zCu zHa rfl B.int zJN (qc (zBf zAh (qw 6 rfl) zF rfl) zD rfl) rfl) (fun _ _=>rfl))) rfl))) (fun _=>rfl)) (zJ
    (yt PassesOwn.never rfl (zBt (K:=K) rfl (zR (K:=K) rfl (qw 7 rfl) zF (fun _ _=>rfl))) (zEo (K:=K) (n:=2) rfl rfl (zAj (zm 9 yh.nd rfl (Or.inl rfl) (.inr rfl)) (zAj (zm 10 yh.nd rfl (Or.inl rfl) (.inr rfl)) zEh rfl) rfl) rfl rfl) (zJ
     (zCC hu (qx 4 rfl) (qw 9 rfl) (zBD (zEf hu (qx 4 rfl) (qw 9 rfl) zF ⟨rfl,rfl,rfl,rfl⟩) (zKf (qw 10 rfl) (qw 6 rfl))) rfl)) (fun _=>rfl))))) (fun _=>rfl)) (zH
   (zT 11 yh.nd rfl (zP GC hr rfl mC FC.kp bC .nil zO (qc (qw 2 rfl) (qc (qw 3 rfl) zD rfl) rfl) rfl rfl rfl) rfl) (zH
   (zT 9 yh.nd rfl (zCu (zCr (K:=K) rfl) rfl B.tuple zBs (qc (ye ["_law_name"] ["_law_found"] [4] rfl (zAZ (K:=K) rfl (yE (zBi rfl) rfl B.sorted zCm (qc (qx 4 rfl) zD rfl) rfl)) rfl (by decide+kernel) rfl (by decide+kernel) (zAn rfl lk0) rfl (fr1 ⟨rfl,rfl,rfl,_,rfl,rfl⟩) (yL rfl) (fun _ _ _ _=>(zm 0 (show (["_law_name","_law_found"] :List Str).Nodup by decide+kernel) rfl (.inl rfl) (.inr rfl))) (fun _ _ _ _=>(zBJ (zY zDd (zo hu (qx 1 rfl) (qw 0 rfl) (fun _ _=>rfl)) zF rfl))) (fun _ _ _ _=>(zQ (qc (qw 0 rfl) (qc (zo hu (qx 1 rfl) (qw 0 rfl) (fun _ _=>rfl)) zD rfl) rfl))) (fun _=>rfl)) zD rfl) rfl) rfl) (zH
   (zq (zY (zFN huN) (ye (cl:= []) ["_law_name","_law_exponent"] [] [] rfl (zBt (K:=K) rfl (qw 9 rfl)) rfl (by decide+kernel) rfl (by decide+kernel) (fun _ _ h=>nomatch h) rfl (fun j y i h=>nomatch h) (yL rfl) (fun _ _ _ _=>(zEo (K:=K) (n:=2) rfl rfl (zAj (zm 0 (show (["_law_name","_law_exponent"] :List Str).Nodup by decide+kernel) rfl (.inl rfl) (.inr rfl)) (zAj (zm 1 (show (["_law_name","_law_exponent"] :List Str).Nodup by decide+kernel) rfl (.inl rfl) (.inr rfl)) zEh rfl) rfl) rfl rfl)) (fun _ _ _ _=>(zBJ (zY zAh (yE zCZ rfl B.abs zEH (qc (qw 1 rfl) zD rfl) rfl) zF rfl))) (fun _ _ _ _=>(qw 0 rfl)) (fun _=>rfl)) (zy zD) rfl) (zJ
    (zW zBE)) zn) (zH
   (zq (zY zLa (zAY deep (yE (zHW rfl) rfl B.max zNF (qc (qw 2 rfl) (qc (qw 3 rfl) zD rfl) rfl) rfl) (qw 11 rfl)) (zMb (zIA zF zF) zF) rfl) (zJ
    (zW zBE)) zn) (zJ
   (zW (zQ (qc (zAY deep (qw 2 rfl) (qw 11 rfl)) (qc (zAY deep (qw 3 rfl) (qw 11 rfl)) (qc (qw 9 rfl) zD rfl) rfl) rfl))))))))))))),?_⟩
  refine yT fun zz=>?_;refine ⟨_,rfl,u,rfl,⟨_,SqT.of eu⟩,fun D hD=>?_⟩;refine yK ts.length (fun i ys H'=>i<=ts.length/\ys=(stp (us.take i)).map V.str/\zE H H'/\H' D=some (.lst ys)) ⟨zUZ _,rfl,zE.upd hD,zC⟩ (by rw [zUV];omega) ?_ ?_ ?_
  ·rintro i ys H' hi ⟨_,rfl,s1,e1⟩;have:=zKA (us.take i);rw [List.length_take] at this;refine ⟨by rw [zUR];omega,e1,fun h=>⟨_,_,SqT.of (s1 _ _ eu),zUK (by simpa using h)⟩,fun h=>⟨_,SqT.of (s1 _ _ eu),by simp;omega⟩⟩
  ·rintro i ys H' x H'' hi ⟨_,rfl,s1,e1⟩ ⟨rfl,hx⟩ pre hpre;obtain ⟨p0,p1,rfl⟩:=yj hpre;have hx':=hx _ (SqT.of (s1 _ _ eu));rw [zUP,zUK hi] at hx';cases hx';obtain ⟨n,e,en,et⟩:=yD.get pu (zUK hi);have etk:us.take (i+1)=us.take i++ [(n,e)] :=by rw [zUh,en];rfl
   refine ⟨ts[i],_,rfl,SqT.of (s1 _ _ et),rfl,_,_,rfl,_,_,rfl,rfl,⟨[some (.str n),some (.int e)],rfl,rfl⟩,_,rfl,e,rfl,_,_,rfl,rfl,_,rfl,?_⟩;have ab:(64<e.natAbs)↔(64:Int)<(if e<0 then -e else e):=by split<;>omega
   refine yB (fun c=>?_) (fun c=>?_)
   ·have c':(64:Int)<(if e<0 then -e else e):=by simpa using c
    refine ⟨_,rfl,e1,hi,?_,zE.store s1 hD,zC⟩;rw [etk,zDT,if_pos (ab.mpr c'),zUg];rfl
   ·have c': ¬(64:Int)<(if e<0 then -e else e):=by simpa using c
    refine ⟨hi,?_,s1,e1⟩;rw [etk,zDT,if_neg (fun z=>c' (ab.mp z)),zUm]
  ·rintro ys G ⟨_,rfl,sD,eD⟩;refine ⟨bs 0,fun lD hlD=>?_⟩;refine ⟨D,lD,_,rfl,rfl,SqL.of (zE.upd hlD _ _ eD),SqL.of zC,_,rfl,?_⟩;rw [lu,zUk,List.isEmpty_map,zJn,Bool.not_not];replace sD:zE H (L2.upd G lD (.lst [])):=sD.trans (zE.upd hlD);generalize L2.upd G lD (.lst [])=G at sD⊢;cases hs0:yp us with
   | true=>exact zZ (q1 _ sD (Pl.su hs0))
   | false=>
   refine zM ?_;refine zz (yT fun zz=>zz (yT fun zz=>zz (yT fun zz=>?_)));refine fun d hd=>?_;have s2:=zE.upd hd (o:= .dK []);have d0:H d=none:=sD.free hd;refine zz (yT fun zz=>?_);refine ⟨_,rfl,u,rfl,⟨_,SqT.of ((sD.trans s2) _ _ eu)⟩,?_⟩;refine yk ts.length (fun i σ H'=> ∃(v5 v6 v7 v8 v9 v10:Option V) (ks:List Str),σ= [some (.ref wd),some (.ref u),some (.int (nm (zw E0 (us.take i)):Nat)),some (.int (dn (zw E0 (us.take i)):Nat)),some (.ref d),v5,v6,v7,v8,v9,v10,none] /\i<=ts.length/\zE H H'/\H' d=some (.dK (yo ks (prs E0 (us.take i))))/\ks.Nodup/\(∀m,m∈ks↔m∈(prs E0 (us.take i)).map (·.1))) ?_ ?_ ?_ ?_ ?_
   ·exact ⟨none,none,none,none,none,none,[],rfl,zUZ _,sD.trans s2,zC,List.nodup_nil,fun m=>by simp [prs]⟩
   ·rintro i σ H' hi ⟨v5,v6,v7,v8,v9,v10,ks,rfl,_,s1,_⟩;exact ⟨_,_,SqT.of (s1 _ _ eu),zUK (by simpa using hi)⟩
   ·rintro σ H' ⟨v5,v6,v7,v8,v9,v10,ks,rfl,_,s1,_⟩;exact ⟨_,SqT.of (s1 _ _ eu),by simp⟩
   ·rintro i σ H' x H1 hi ⟨v5,v6,v7,v8,v9,v10,ks,rfl,_,s1,hd1,nd,hk⟩ ⟨rfl,hx⟩;have hx':=hx _ (SqT.of (s1 _ _ eu));rw [zUP,zUK hi] at hx';cases hx';obtain ⟨n,e,en,et⟩:=pu.get (zUK hi);have etk:us.take (i+1)=us.take i++ [(n,e)] :=by rw [zUh,en];rfl
    have hm:=zUp en;have hnN:n∈Ns:=gu.nn _ hm;have ro:=zEa W.ok hnN;have e64:e.natAbs<=64:=zFZ hs0 _ hm;have ez:e≠0:=gu.ne _ hm;have W1:=W.same s1;obtain ⟨kf,ef,pf⟩:=W1.fl;refine ⟨ts[i],_,rfl,SqT.of (s1 _ _ et),rfl,_,_,rfl,_,_,rfl,rfl,?_⟩;refine yT fun zz=>?_;refine ⟨_,rfl,wd,_,rfl,W1.gf,fl,rfl,.inl ⟨kf,.inl ef⟩,?_⟩;refine ⟨_,rfl,_,rfl,bs 2,fun g1 hg1=>?_⟩;have z1:=zE.upd hg1 (o:= .tup [.str n,.int 1]);have z1q:(L2.upd H1 g1 (.tup [.str n,.int 1])) g1=some (.tup [.str n,.int 1]):=zC;generalize L2.upd H1 g1 (.tup [.str n,.int 1])=G1 at z1 z1q⊢;refine ⟨bs 1,fun g2 hg2=>?_⟩;have z2:=zE.upd hg2 (o:= .tup [.ref g1]);have z2q:(L2.upd G1 g2 (.tup [.ref g1])) g2=some (.tup [.ref g1]):=zC;generalize L2.upd G1 g2 (.tup [.ref g1])=G2 at z2 z2q⊢;refine ⟨bs 3,fun g3 hg3=>?_⟩;have z3:=zE.upd hg3 (o:= .tup [.int 1,.int 1,.ref g2]);have z3q:(L2.upd G2 g3 (.tup [.int 1,.int 1,.ref g2])) g3=some (.tup [.int 1,.int 1,.ref g2]):=zC;generalize L2.upd G2 g3 (.tup [.int 1,.int 1,.ref g2])=G3 at z3 z3q⊢;have z13:=z1.trans (z2.trans z3);refine ⟨_,.inl ⟨kf,.inr n,.inl (z13 _ _ ef),rfl,rfl⟩,?_⟩;have own: ∃ra un,(yI kf (.inr n)).getD (.ref g3)= .ref ra/\G3 ra=some (.tup [.int ((zr E0 n).1:Int),.int ((zr E0 n).2.1:Int),.ref un])/\zx G3 un (zr E0 n).2.2:=by
     rcases yO fk n pf with ⟨a,b⟩|⟨e',v,a,b,c⟩
     ·refine ⟨g3,g2,by rw [a];rfl,?_,?_⟩
      ·unfold zr;rw [b];exact z3q
      ·unfold zr;rw [b];exact ⟨[g1],z3 _ _ z2q,.cons ((z2.trans z3) _ _ z1q) .nil⟩
     ·obtain ⟨_,ra,un,c1,c2,c3⟩:=c;have c1':v= .ref ra:=c1;refine ⟨ra,un,by rw [a,c1'];rfl,?_,?_⟩
      ·unfold zr;rw [b];exact z13 _ _ c2
      ·unfold zr;rw [b];exact c3.same z13
    obtain ⟨ra,un,ow1,ow2,ow3⟩:=own;rw [ow1];have s13:=s1.trans z13;have hd3:=z13 _ _ hd1;have okp:=(zGK W.ok gu.nn hs0).part i;have lti:(us.take i).length<=3:=by rw [List.length_take];omega
    have lpw:=zEe E0 (us.take i);have nA:nm (zw E0 (us.take i))<=2^268800:=zUY okp.nm_le (zUY okp.wt (zUj (by decide) (by omega)));have dA:dn (zw E0 (us.take i))<=2^268800:=zUY okp.dn_le (zUY okp.wt (zUj (by decide) (by omega)));have hx7:(if e<0 then (zr E0 n).2.1 else (zr E0 n).1)<2^700:=by split;exact yi ro.f4;exact yi ro.f3
    have hy7:(if 0<e then (zr E0 n).2.1 else (zr E0 n).1)<2^700:=by split;exact yi ro.f4;exact yi ro.f3
    have atx:atI [V.int ((zr E0 n).1:Int),V.int ((zr E0 n).2.1:Int),V.ref un] (if decide (e<0)=true then 1 else 0)=some (.int ((if e<0 then (zr E0 n).2.1 else (zr E0 n).1:Nat):Int)):=by
     by_cases z:e<0
     ·rw [zUi z,if_pos z];rfl
     ·rw [zUl z,if_neg z];rfl
    have aty:atI [V.int ((zr E0 n).1:Int),V.int ((zr E0 n).2.1:Int),V.ref un] (if decide (0<e)=true then 1 else 0)=some (.int ((if 0<e then (zr E0 n).2.1 else (zr E0 n).1:Nat):Int)):=by
     by_cases z:0<e
     ·rw [zUi z,if_pos z];rfl
     ·rw [zUl z,if_neg z];rfl
    generalize hX:(if e<0 then (zr E0 n).2.1 else (zr E0 n).1)=Xn at hx7 atx;generalize hY:(if 0<e then (zr E0 n).2.1 else (zr E0 n).1)=Yn at hy7 aty;have eabs:(if e<0 then -e else e).toNat=e.natAbs:=by split<;>omega
    refine zz (yT fun zz=>?_);refine ⟨_,rfl,e,rfl,_,rfl,by split<;>omega,by split<;>omega,?_⟩;rw [eabs];refine yk e.natAbs (fun j σ H'=> ∃v8:Option V,σ= [some (.ref wd),some (.ref u),some (.int ((nm (zw E0 (us.take i))*Xn^j:Nat):Int)),some (.int ((dn (zw E0 (us.take i))*Yn^j:Nat):Int)),some (.ref d),some (.str n),some (.int e),some (.ref ra),v8,v9,v10,none] /\j<=e.natAbs/\H'=G3) ?_ ?_ ?_ ?_ ?_
    ·exact ⟨v8,by rw [Nat.pow_zero,Nat.pow_zero,Nat.mul_one,Nat.mul_one];rfl,zUZ _,rfl⟩
    ·rintro j σ H' hj _;exact hj
    ·rintro σ H' _;exact zUO _
    ·rintro j σ H' x H'' hj ⟨v8,rfl,_,rfl⟩ ⟨rfl,rfl⟩;refine yT fun zz=>?_;refine ⟨_,rfl,_,rfl,_,rfl,_,_,rfl,rfl,.inr ⟨_,rfl,ra,_,_,_,rfl,rfl,SqT.of ow2,atx,_,_,rfl,rfl,⟨zBN (zGG nA hx7 (by omega)) (by decide),zBN (zUy hx7) (by decide)⟩,?_⟩⟩;refine zz ?_;refine ⟨_,rfl,_,rfl,_,rfl,_,_,rfl,rfl,.inr ⟨_,rfl,ra,_,_,_,rfl,rfl,SqT.of ow2,aty,_,_,rfl,rfl,⟨zBN (zGG dA hy7 (by omega)) (by decide),zBN (zUy hy7) (by decide)⟩,?_⟩⟩;refine ⟨some (.int (0+(j:Int))),?_,hj,rfl⟩;rw [Nat.pow_succ,Nat.pow_succ,<-Nat.mul_assoc,<-Nat.mul_assoc,Int.natCast_mul,Int.natCast_mul];rfl
    ·rintro σ H' ⟨v8,rfl,_,rfl⟩;rw [<-hX,<-hY,<-zQQ,<-zPV _ _ _ ez,<-etk];obtain ⟨vs',ev,pv⟩:=ow3;have lv:=Paired.length pv;refine zz ?_;refine ⟨_,rfl,ra,_,_,_,rfl,rfl,SqT.of ow2,rfl,un,rfl,⟨_,SqT.of ev⟩,?_⟩;refine yk vs'.length (fun j σ H'=> ∃(v9 v10:Option V) (ks:List Str),σ= [some (.ref wd),some (.ref u),some (.int (nm (zw E0 (us.take (i+1))):Nat)),some (.int (dn (zw E0 (us.take (i+1))):Nat)),some (.ref d),some (.str n),some (.int e),some (.ref ra),v8,v9,v10,none] /\j<=vs'.length/\zE H H'/\Tps H' H'/\H' un=some (.tup (vs'.map V.ref))/\yD H' vs' (zr E0 n).2.2/\H' d=some (.dK (yo ks (prs E0 (us.take i)++((zr E0 n).2.2.take j).map fun q=>(q.1,q.2*e))))/\ks.Nodup/\(∀m,m∈ks↔m∈(prs E0 (us.take i)++((zr E0 n).2.2.take j).map fun q=>(q.1,q.2*e)).map (·.1))) ?_ ?_ ?_ ?_ ?_
     ·exact ⟨v9,v10,ks,rfl,zUZ _,s13,Tps.refl _,ev,pv,by rw [List.take_zero,List.map_nil,zUm];exact hd3,nd,by rw [List.take_zero,List.map_nil,zUm];exact hk⟩
     ·rintro j σ H' hj ⟨v9,v10,ks,rfl,_,_,_,e1,_⟩;exact ⟨_,_,SqT.of e1,zUK (by simpa using hj)⟩
     ·rintro σ H' ⟨v9,v10,ks,rfl,_,_,_,e1,_⟩;exact ⟨_,SqT.of e1,by simp⟩
     ·rintro j σ H' x H'' hj ⟨v9,v10,ks,rfl,_,s4,_,e1,pv4,hd4,nd4,hk4⟩ ⟨rfl,hx⟩;have hx':=hx _ (SqT.of e1);rw [zUP,zUK hj] at hx';cases hx';obtain ⟨b,o,eb,eto⟩:=pv4.get (zUK hj);have etk2:(zr E0 n).2.2.take (j+1)=(zr E0 n).2.2.take j++ [(b,o)] :=by rw [zUh,eb];rfl
      have bN:b∈Ns:=ro.fu.nn _ (zUp eb);have hkN: ∀m∈ks,m∈Ns:=fun m hm=>by
       have z:=(hk4 m).mp hm;rw [zUg,zVO] at z;rcases z with z | z
       ·obtain ⟨q,hq,rfl⟩:=zVR.mp z;exact zIH W.ok (fun p hp=>gu.nn p (List.mem_of_mem_take hp)) q hq
       ·obtain ⟨q,hq,rfl⟩:=zVR.mp z;obtain ⟨q',hq',rfl⟩:=zVR.mp hq;exact ro.fu.nn q' (List.mem_of_mem_take hq')
      have lks:ks.length<=14:=zUY (zCi ks Ns nd4 hkN) W.l14;obtain ⟨ks',ep,nd',hk',_⟩:=zGy (e:=o*e) (m:=b) hk4;refine ⟨vs'[j],_,rfl,SqT.of eto,rfl,_,_,rfl,_,_,rfl,rfl,?_⟩;refine ⟨_,rfl,d,rfl,.inl ⟨_,.inl hd4⟩,_,rfl,_,yr.k (k:=Sum.inr b) hd4,?_⟩;have eg:(yI (yo ks (prs E0 (us.take i)++((zr E0 n).2.2.take j).map fun q=>(q.1,q.2*e))) (Sum.inr b)).getD (V.int 0)= .int (tot (prs E0 (us.take i)++((zr E0 n).2.2.take j).map fun q=>(q.1,q.2*e)) b):=by
       rw [zBk];by_cases hm:b∈ks
       ·rw [if_pos hm];rfl
       ·rw [if_neg hm,zBS fun z=>hm ((hk4 b).mpr z)];rfl
      rw [eg];refine ⟨_,rfl,_,rfl,_,_,rfl,rfl,.inr ⟨by omega,by omega⟩,_,_,rfl,rfl,_,rfl,_,rfl,d,_,rfl,zCH.k (k:=Sum.inr b) hd4 ?_,?_⟩
      ·unfold yo;rw [zUR,zUV];omega
      rw [ep];have em:(prs E0 (us.take i)++((zr E0 n).2.2.take (j+1)).map fun q=>(q.1,q.2*e))=(prs E0 (us.take i)++((zr E0 n).2.2.take j).map fun q=>(q.1,q.2*e))++ [(b,o*e)] :=by rw [etk2,zUg,List.append_assoc];rfl
      have hund:un≠d:=fun z=>by rw [z,hd4] at e1;cases e1
      have tp:Tps H'' (L2.upd H'' d (.dK (yo ks' (prs E0 (us.take i)++((zr E0 n).2.2.take j).map (fun q=>(q.1,q.2*e))++ [(b,o*e)])))):=fun x xs y=>by rw [zG (fun z=>by rw [z,hd4] at y;cases y)];exact y
      refine ⟨_,_,ks',rfl,hj,zE.store s4 d0,Tps.refl _,tp _ _ e1,yD.tps pv4 tp,?_,nd' nd4,?_⟩
      ·rw [zC,em]
      ·rw [em];exact hk'
     ·rintro σ H' ⟨v9,v10,ks,rfl,_,s4,_,e1,pv4,hd4,nd4,hk4⟩;rw [lv,zUk] at hd4 hk4;refine ⟨_,_,_,_,_,_,ks,rfl,hi,s4,?_,nd4,?_⟩
      ·rw [etk,zDm,zGh];exact hd4
      ·rw [etk,zDm,zGh];exact hk4
   ·rintro σ H1 ⟨v5,v6,v7,v8,v9,v10,ks,rfl,_,s1,hd1,nd,hk⟩;rw [lu,zUk] at hd1 hk⊢;have okp:=zGK W.ok gu.nn hs0;have lpw:=zEe E0 us;have nA:nm (zw E0 us)<=2^268800:=zUY okp.nm_le (zUY okp.wt (zUj (by decide) (by omega)));have dA:dn (zw E0 us)<=2^268800:=zUY okp.dn_le (zUY okp.wt (zUj (by decide) (by omega)));have gp0:0<Nat.gcd (nm (zw E0 us)) (dn (zw E0 us)):=Nat.gcd_pos_of_pos_left _ okp.pos.nm;have gp:(0:Int)<((Nat.gcd (nm (zw E0 us)) (dn (zw E0 us)):Nat):Int):=by omega
    have hkN: ∀m∈ks,m∈Ns:=fun m hm=>by
     obtain ⟨q,hq,rfl⟩:=zVR.mp ((hk m).mp hm);exact zIH W.ok gu.nn q hq
    have lks:ks.length<=14:=zUY (zCi ks Ns nd hkN) W.l14;have z50:Sz 4000 ((10:Int)^(50:Int).toNat):=by
     unfold Sz;exact zUT (show ((10:Int)^(50:Int).toNat).natAbs<2^170 by decide+kernel) (zUj (by decide) (by decide))
    refine zz (yT fun zz=>?_);refine ⟨_,rfl,_,rfl,(nm (zw E0 us):Nat),(dn (zw E0 us):Nat),rfl,by omega,by omega,zBN nA (by decide),zBN dA (by decide),?_⟩;rw [Int.gcd_natCast_natCast];refine zz (yT fun zz=>?_);refine ⟨_,rfl,d,_,ks,rfl,.inl hd1,?_,?_,fun sl ks' hsl hperm hsd=>?_⟩
    ·unfold yo;rw [List.map_map];rfl
    ·unfold yo;rw [zUR];omega
    have hmem: ∀n,n∈ks'↔n∈ks:=fun n=>hperm.mem_iff;have nd':ks'.Nodup:=hperm.nodup_iff.mpr nd;have lk:ks'.length=ks.length:=hperm.length_eq;have ss:zE H1 (L2.upd H1 sl (.lst (ks'.map V.str))):=zE.upd hsl;refine ⟨sl,rfl,⟨_,SqL.of zC⟩,fun D2 hD2=>?_⟩;refine yK ks'.length (fun i ys H'=> ∃wv:List Addr,i<=ks'.length/\ys=wv.map V.ref/\wv.length<=i/\yD H' wv (yZ (prs E0 us) (ks'.take i))/\zE (L2.upd H1 sl (.lst (ks'.map V.str))) H'/\H' D2=some (.lst ys)) ⟨[],zUZ _,rfl,zUO _,.nil,zE.upd hD2,zC⟩ (by rw [zUV];omega) ?_ ?_ ?_
    ·rintro i ys H3 hi ⟨wv,_,rfl,hul,_,s3,e3⟩;have hq:SqL K H3 sl (ks'.map V.str):=SqL.of (s3 _ _ zC);refine ⟨by simpa using hul,e3,fun h=>⟨_,_,hq,zUK (by simpa using h)⟩,fun h=>⟨_,hq,by simp;omega⟩⟩
    ·rintro i ys H3 x H4 hi ⟨wv,_,rfl,hul,hps,s3,e3⟩ ⟨rfl,hx⟩ pre hpre;obtain ⟨p0,rfl⟩:=zVN.mp hpre;have hx':=hx _ (SqL.of (s3 _ _ zC));rw [zUP,zUK hi] at hx';cases hx';have hin:ks'[i] ∈ks:=(hmem _).mp (zUs hi);have hd3:=s3 _ _ (ss _ _ hd1);have dg:yr H4 d (.str ks'[i]) (some (.int (tot (prs E0 us) ks'[i]))):=by
      have z:=yr.k (k:=Sum.inr ks'[i]) hd3;rw [zBk,if_pos hin] at z;exact z
     have etk2:ks'.take (i+1)=ks'.take i++ [ks'[i]] :=by rw [zUh,zUK hi];rfl
     refine ⟨⟨[some (.str ks'[i])],rfl,rfl⟩,_,rfl,_,rfl,d,_,rfl,dg,rfl,_,rfl,?_⟩;refine yB (fun c=>?_) (fun c=>?_)
     ·have hne:tot (prs E0 us) ks'[i] ≠0:=fun z=>by
       rw [z] at c;exact absurd c (by decide)
      refine ⟨_,rfl,_,rfl,_,rfl,d,_,rfl,dg,by show 2<=sizeLine;decide,fun t ht=>⟨?_,wv++ [t],hi,by simp,by simp;omega,?_,?_,zC⟩⟩
      ·exact (zE.upd ht) _ _ e3
      ·rw [etk2,zBZ,if_pos hne];have hDt:t≠D2:=fun z=>by rw [z,e3] at ht;cases ht
       have st:zE H4 (L2.upd H4 t (.tup [.str ks'[i],.int (tot (prs E0 us) ks'[i])])):=zE.upd ht;have keep:yD (L2.upd (L2.upd H4 t (.tup [.str ks'[i],.int (tot (prs E0 us) ks'[i])])) D2 (.lst (wv.map V.ref++ [.ref t]))) wv (yZ (prs E0 us) (ks'.take i)):=(hps.same st).store (st _ _ e3);refine keep.append (.cons ?_ .nil);rw [zG hDt];exact zC
      ·exact zE.store (s3.trans (zE.upd ht)) hD2
     ·have hz:tot (prs E0 us) ks'[i] =0:=by
       have c':decide (V.int (tot (prs E0 us) ks'[i])=V.int 0)=true:=by simpa using c
       have:=zUt c';injection this
      refine ⟨wv,hi,rfl,by omega,?_,s3,e3⟩;rw [etk2,zBZ,if_neg (fun z=>z hz),zUm];exact hps
    ·rintro ys H3 ⟨wv,_,rfl,_,hps,s3,e3⟩;rw [zUk] at hps;refine ⟨D2,_,rfl,.inl ⟨SqL.of e3,fun bu hu2=>?_⟩⟩;have iu:IsU (prs E0 us) (yZ (prs E0 us) ks'):=zFY nd' hsd fun n=>by rw [hmem n];exact hk n
     have ul:=zFb (prs E0 us) ks';have ua:zx (L2.upd H3 bu (.tup (wv.map V.ref))) bu (yZ (prs E0 us) ks'):=⟨wv,zC,hps.same (zE.upd hu2)⟩;have sE:zE H1 (L2.upd H3 bu (.tup (wv.map V.ref))):=(ss.trans s3).trans (zE.upd hu2);generalize L2.upd H3 bu (.tup (wv.map V.ref))=Hb at ua sE⊢;generalize yZ (prs E0 us) ks'=F at iu ul ua⊢;obtain ⟨ts2,eu2,pu2⟩:=ua;have lu2:=Paired.length pu2;refine zz (yT fun zz=>?_);refine ⟨_,rfl,bu,rfl,⟨_,SqT.of eu2⟩,fun D3 hD3=>?_⟩;refine yK ts2.length (fun i ys H'=>i<=ts2.length/\ys=(stp (F.take i)).map V.str/\zE Hb H'/\H' D3=some (.lst ys)) ⟨zUZ _,rfl,zE.upd hD3,zC⟩ (by rw [zUV];omega) ?_ ?_ ?_
     ·rintro i ys H' hi ⟨_,rfl,s1,e1⟩;have:=zKA (F.take i);rw [List.length_take] at this;refine ⟨by rw [zUR];omega,e1,fun h=>⟨_,_,SqT.of (s1 _ _ eu2),zUK (by simpa using h)⟩,fun h=>⟨_,SqT.of (s1 _ _ eu2),by simp;omega⟩⟩
     ·rintro i ys H' x H'' hi ⟨_,rfl,s1,e1⟩ ⟨rfl,hx⟩ pre hpre;obtain ⟨p0,p1,rfl⟩:=yj hpre;have hx':=hx _ (SqT.of (s1 _ _ eu2));rw [zUP,zUK hi] at hx';cases hx';obtain ⟨n,e,en,et⟩:=yD.get pu2 (zUK hi);have etk:F.take (i+1)=F.take i++ [(n,e)] :=by rw [zUh,en];rfl
      refine ⟨ts2[i],_,rfl,SqT.of (s1 _ _ et),rfl,_,_,rfl,_,_,rfl,rfl,⟨[some (.str n),some (.int e)],rfl,rfl⟩,_,rfl,e,rfl,_,_,rfl,rfl,_,rfl,?_⟩;have ab:(64<e.natAbs)↔(64:Int)<(if e<0 then -e else e):=by split<;>omega
      refine yB (fun c=>?_) (fun c=>?_)
      ·have c':(64:Int)<(if e<0 then -e else e):=by simpa using c
       refine ⟨_,rfl,e1,hi,?_,zE.store s1 hD3,zC⟩;rw [etk,zDT,if_pos (ab.mpr c'),zUg];rfl
      ·have c': ¬(64:Int)<(if e<0 then -e else e):=by simpa using c
       refine ⟨hi,?_,s1,e1⟩;rw [etk,zDT,if_neg (fun z=>c' (ab.mp z)),zUm]
     ·rintro ys G3 ⟨_,rfl,sD3,eD3⟩;refine ⟨bs 0,fun lD3 hlD3=>?_⟩;refine ⟨D3,lD3,_,rfl,rfl,SqL.of (zE.upd hlD3 _ _ eD3),SqL.of zC,_,rfl,?_⟩;rw [lu2,zUk,List.isEmpty_map,zJn,Bool.not_not];replace sD3:zE Hb (L2.upd G3 lD3 (.lst [])):=sD3.trans (zE.upd hlD3);generalize L2.upd G3 lD3 (.lst [])=G3 at sD3⊢;have sZ:=s1.trans (sE.trans sD3);cases hf:yp F with
      | true=>exact zZ (q1 _ sZ (Pl.sf hs0 iu hf))
      | false=>
      refine zM ?_;have p200:((10:Int)^(50:Int).toNat)^(4:Int).toNat=10^200:=by decide+kernel
      refine zz (yT fun zz=>?_);refine ⟨_,rfl,_,rfl,_,_,rfl,_,rfl,_,_,rfl,rfl,gp,_,_,rfl,rfl,⟨by decide,by decide,by decide⟩,_,_,rfl,rfl,⟨z50,by decide,by decide⟩,_,_,rfl,rfl,_,rfl,?_⟩;refine yB (fun c=>?_) (fun c=>?_)
      ·have c':((10:Int)^(50:Int).toNat)^(4:Int).toNat<=(if ((dn (zw E0 us):Nat):Int)>(nm (zw E0 us):Nat) then ((dn (zw E0 us):Nat):Int) else (nm (zw E0 us):Nat))/((Nat.gcd (nm (zw E0 us)) (dn (zw E0 us)):Nat):Int):=by simpa using c
       rw [p200] at c';exact q1 _ sZ (Pl.gr hs0 iu hf (zCc.mp c'))
      ·have c': ¬((10:Int)^(50:Int).toNat)^(4:Int).toNat<=(if ((dn (zw E0 us):Nat):Int)>(nm (zw E0 us):Nat) then ((dn (zw E0 us):Nat):Int) else (nm (zw E0 us):Nat))/((Nat.gcd (nm (zw E0 us)) (dn (zw E0 us)):Nat):Int):=by simpa using c
       rw [p200] at c';have g12:rA (zw E0 us)<10^200/\rB (zw E0 us)<10^200:=Decidable.not_not.mp fun z=>c' (zCc.mpr z);refine zz ?_;refine ⟨_,rfl,_,rfl,_,_,rfl,rfl,gp,_,rfl,_,rfl,_,_,rfl,rfl,gp,_,rfl,bs 3,fun r hr'=>?_⟩;refine q2 _ _ F (Pl.ok hs0 iu hf g12.1 g12.2) _ r bu (sZ.trans (zE.upd hr')) ?_ ((zx.same ⟨ts2,eu2,pu2⟩ sD3).same (zE.upd hr'));rw [zC];show some (HO.tup [V.int (((nm (zw E0 us):Nat):Int)/((Nat.gcd (nm (zw E0 us)) (dn (zw E0 us)):Nat):Int)),V.int (((dn (zw E0 us):Nat):Int)/((Nat.gcd (nm (zw E0 us)) (dn (zw E0 us)):Nat):Int)),V.ref bu])=_;rw [<-zVZ,<-zVZ];rfl
structure ClsZ(mg:Str->Option Value)(c0 c1 c2 c3 c4 c5 c6 c7 c8 c9 c10 c11 c12:Addr):Prop where
 m0:mg "BadName" =some (.ref c0)
 m1:mg "BadNumber" =some (.ref c1)
 m2:mg "BadUnit" =some (.ref c2)
 m3:mg "BadTable" =some (.ref c3)
 m4:mg "Twice" =some (.ref c4)
 m5:mg "NoName" =some (.ref c5)
 m6:mg "Unlike" =some (.ref c6)
 m7:mg "BadCount" =some (.ref c7)
 m8:mg "BadRate" =some (.ref c8)
 m9:mg "BadText" =some (.ref c9)
 m10:mg "Clash" =some (.ref c10)
 m11:mg "NoRow" =some (.ref c11)
 m12:mg "Steep" =some (.ref c12)
structure LK(K:zVK)(c0 c1 c2 c3 c4 c5 c6 c7 c8 c9 c10 c11 c12 C:Addr)(b0 b1 b2 b3 b4 b5 b6:Bool):Prop where
 xc:XCls K C
 kv:PySem.W.kitOne K (.ref C) (.type "ValueError")=some true
 k0:PySem.W.kitOne K (.ref C) (.ref c0)=some b0
 k1:PySem.W.kitOne K (.ref C) (.ref c1)=some b1
 k2:PySem.W.kitOne K (.ref C) (.ref c2)=some b2
 k3:PySem.W.kitOne K (.ref C) (.ref c3)=some b3
 k4:PySem.W.kitOne K (.ref C) (.ref c4)=some b4
 k5:PySem.W.kitOne K (.ref C) (.ref c5)=some b5
 k6:PySem.W.kitOne K (.ref C) (.ref c6)=some b6
 k7:PySem.W.kitOne K (.ref C) (.ref c7)=some false
 k8:PySem.W.kitOne K (.ref C) (.ref c8)=some false
 k9:PySem.W.kitOne K (.ref C) (.ref c9)=some false
 k10:PySem.W.kitOne K (.ref C) (.ref c10)=some false
 k11:PySem.W.kitOne K (.ref C) (.ref c11)=some false
 k12:PySem.W.kitOne K (.ref C) (.ref c12)=some false
inductive Kd7:Nat->Bool->Bool->Bool->Bool->Bool->Bool->Bool->Prop
 | z0:Kd7 0 true false false false false false false
 | z1:Kd7 1 false true false false false false false
 | z2:Kd7 2 false false true false false false false
 | z3:Kd7 3 false false false true false false false
 | z4:Kd7 4 false false false false true false false
 | z5:Kd7 5 false false false false false true false
 | z6:Kd7 6 false false false false false false true
def wd7:Nat->Str
 | 0=> "name"
 | 1=> "number"
 | 2=> "unit"
 | 3=> "table"
 | 4=> "twice"
 | 5=> "no name"
 | 6=> "unlike"
 | _=> "odd"
def zTi(K:zVK)(H:Hp)(Q:VK)(ea C:Addr)(i:Nat):Prop:=(i<4/\ ∀r H',zE H H'->H' r=some (.tup [.str (wd7 i)])->Q (.ref r) H')\/
 ((i=4\/i=5)/\ ∃dx fs x y,H ea=some (zDv ea (.ref C) (some dx))/\H dx=some (XD dx fs)/\yR K C "row" /\yR K C "name" /\fs.lookup ("row" :Str)=some x/\fs.lookup ("name" :Str)=some y/\ ∀r H',zE H H'->H' r=some (.tup [.str (wd7 i),x,y])->Q (.ref r) H')\/
 (i=6/\ ∃dx fs x y,H ea=some (zDv ea (.ref C) (some dx))/\H dx=some (XD dx fs)/\yR K C "one" /\yR K C "other" /\fs.lookup ("one" :Str)=some x/\fs.lookup ("other" :Str)=some y/\ ∀r H',zE H H'->H' r=some (.tup [.str (wd7 i),x,y])->Q (.ref r) H')
def zKy(K:zVK)(c0 c1 c2 c3 c4 c5 c6 c7 c8 c9 c10 c11 c12:Addr):Sp:=fun vs H Q _=> ∃(ea C:Addr) (φ:Heap->Prop) (i:Nat) (b0 b1 b2 b3 b4 b5 b6:Bool),vs= [.ref ea] /\H ea=some (.ext φ)/\(∀h,φ h->KAt ea (.ref C) h)/\Kd7 i b0 b1 b2 b3 b4 b5 b6/\LK K c0 c1 c2 c3 c4 c5 c6 c7 c8 c9 c10 c11 c12 C b0 b1 b2 b3 b4 b5 b6/\zTi K H Q ea C i
theorem zER:FnScope ["_law_e","_law_found","_law_others","_law_word"] ["_law_e"] (zK zIN):=fs
theorem zRb(F:Fun K "_law_class" "_law_class" zIN f fd)(B:Bn mg)(Z:ClsZ mg c0 c1 c2 c3 c4 c5 c6 c7 c8 c9 c10 c11 c12):FnOkH P w K mg base 1 f fd ["_law_e"] (zKy K c0 c1 c2 c3 c4 c5 c6 c7 c8 c9 c10 c11 c12):=by
 refine F.okH zER (fun vs H Q E h=>?_) (fun _ A _ s H vs Q E hr h=>?_)
 ·obtain ⟨ea,C,φ,i,b0,b1,b2,b3,b4,b5,b6,rfl,_⟩:=h;rfl
 ·obtain ⟨ea,C,φ,i,b0,b1,b2,b3,b4,b5,b6,rfl,he,ka,kd,L,q⟩:=h;refine ⟨_,QB.out (zH
   (zT 1 zER.nd rfl (zy (qc (yE (yP (K:=K) rfl) rfl B.isi ze (qc (qw 0 rfl) (qc (yg (v:= .ref c0) rfl Z.m0 rfl rfl) zD rfl) rfl) rfl) (qc (yE (yP (K:=K) rfl) rfl B.isi ze (qc (qw 0 rfl) (qc (yg (v:= .ref c1) rfl Z.m1 rfl rfl) zD rfl) rfl) rfl) (qc (yE (yP (K:=K) rfl) rfl B.isi ze (qc (qw 0 rfl) (qc (yg (v:= .ref c2) rfl Z.m2 rfl rfl) zD rfl) rfl) rfl) (qc (yE (yP (K:=K) rfl) rfl B.isi ze (qc (qw 0 rfl) (qc (yg (v:= .ref c3) rfl Z.m3 rfl rfl) zD rfl) rfl) rfl) zD rfl) rfl) rfl) rfl)) rfl) (zH
   (zT 1 zER.nd rfl (zHs (qw 1 rfl) (zy (qc (yE (yP (K:=K) rfl) rfl B.isi ze (qc (qw 0 rfl) (qc (yg (v:= .ref c4) rfl Z.m4 rfl rfl) zD rfl) rfl) rfl) (qc (yE (yP (K:=K) rfl) rfl B.isi ze (qc (qw 0 rfl) (qc (yg (v:= .ref c5) rfl Z.m5 rfl rfl) zD rfl) rfl) rfl) (qc (yE (yP (K:=K) rfl) rfl B.isi ze (qc (qw 0 rfl) (qc (yg (v:= .ref c6) rfl Z.m6 rfl rfl) zD rfl) rfl) rfl) zD rfl) rfl) rfl))) rfl) (zH
   (zT 2 zER.nd rfl (zy (qc (yE (yP (K:=K) rfl) rfl B.isi ze (qc (qw 0 rfl) (qc (yg (v:= .ref c7) rfl Z.m7 rfl rfl) zD rfl) rfl) rfl) (qc (yE (yP (K:=K) rfl) rfl B.isi ze (qc (qw 0 rfl) (qc (yg (v:= .ref c8) rfl Z.m8 rfl rfl) zD rfl) rfl) rfl) (qc (yE (yP (K:=K) rfl) rfl B.isi ze (qc (qw 0 rfl) (qc (yg (v:= .ref c9) rfl Z.m9 rfl rfl) zD rfl) rfl) rfl) (qc (yE (yP (K:=K) rfl) rfl B.isi ze (qc (qw 0 rfl) (qc (yg (v:= .ref c10) rfl Z.m10 rfl rfl) zD rfl) rfl) rfl) zD rfl) rfl) rfl) rfl)) rfl) (zH
   (zT 2 zER.nd rfl (zHs (qw 2 rfl) (zy (qc (yE (yP (K:=K) rfl) rfl B.isi ze (qc (qw 0 rfl) (qc (yg (v:= .ref c11) rfl Z.m11 rfl rfl) zD rfl) rfl) rfl) (qc (yE (yP (K:=K) rfl) rfl B.isi ze (qc (qw 0 rfl) (qc (yg (v:= .ref c12) rfl Z.m12 rfl rfl) zD rfl) rfl) rfl) zD rfl) rfl))) rfl) (zH
   (zq (t_w (zAr (zY zDd (zQc (K:=K) rfl (qw 1 rfl) yw rfl rfl rfl) zF rfl) (zAr (zY (zEC (K:=K) rfl) yw (qw 2 rfl) rfl) (zAu (yq (yb (yE (yP (K:=K) rfl) rfl B.isi ze (qc (qw 0 rfl) (qc (zCv (v:= .ty "ValueError") rfl B.verr zHj rfl (by decide) rfl) zD rfl) rfl) rfl) (fun _=>rfl))))))) (zJ
    (zW (zQ (qc zN zD rfl)))) zn) (zH
   (zT 3 zER.nd rfl (yH (K:=K) rfl (zy (qc zN (qc zN (qc zN (qc zN (qc zN (qc zN (qc zN zD rfl) rfl) rfl) rfl) rfl) rfl) rfl)) (zPZ (K:=K) rfl (qw 1 rfl) yw rfl rfl rfl) (fun _ _=>rfl)) rfl) (zH
   (zq (zY zAI (qw 3 rfl) zN rfl) (zJ
    (zW (zQ (qc (qw 3 rfl) (qc (zKk (K:=K) rfl (qw 0 rfl) rfl) (qc (zKk (K:=K) rfl (qw 0 rfl) rfl) zD rfl) rfl) rfl)))) zn) (zH
   (zq (zY (zEC (K:=K) rfl) (qw 3 rfl) (zQ (qc zN (qc zN zD rfl) rfl)) rfl) (zJ
    (zW (zQ (qc (qw 3 rfl) (qc (zKk (K:=K) rfl (qw 0 rfl) rfl) (qc (zKk (K:=K) rfl (qw 0 rfl) rfl) zD rfl) rfl) rfl)))) zn) (zJ
   (zW (zQ (qc (qw 3 rfl) zD rfl)))))))))))),?_⟩
  have f2: ∀{n:Nat},n<=13->n<=sizeLine:=fun h=>by rw [zUV];omega
  refine ⟨_,rfl,ea,C,.ref c0,.ref c0,_,φ,rfl,rfl,he,ka,L.xc,L.k0,_,rfl,ea,C,.ref c1,.ref c1,_,φ,rfl,rfl,he,ka,L.xc,L.k1,_,rfl,ea,C,.ref c2,.ref c2,_,φ,rfl,rfl,he,ka,L.xc,L.k2,_,rfl,ea,C,.ref c3,.ref c3,_,φ,rfl,rfl,he,ka,L.xc,L.k3,bs 4,fun p1 g1=>?_⟩;have s1:zE H (L2.upd H p1 (.lst [.bl b0,.bl b1,.bl b2,.bl b3])):=zE.upd g1;have e1:L2.upd H p1 (.lst [.bl b0,.bl b1,.bl b2,.bl b3]) p1=some (.lst [.bl b0,.bl b1,.bl b2,.bl b3]):=zC;generalize L2.upd H p1 (.lst [.bl b0,.bl b1,.bl b2,.bl b3])=H1 at s1 e1⊢;have he1:=s1 _ _ he;refine ⟨_,rfl,_,rfl,ea,C,.ref c4,.ref c4,_,φ,rfl,rfl,he1,ka,L.xc,L.k4,_,rfl,ea,C,.ref c5,.ref c5,_,φ,rfl,rfl,he1,ka,L.xc,L.k5,_,rfl,ea,C,.ref c6,.ref c6,_,φ,rfl,rfl,he1,ka,L.xc,L.k6,bs 3,fun p2 g2=>?_⟩;have s2:zE H1 (L2.upd H1 p2 (.lst [.bl b4,.bl b5,.bl b6])):=zE.upd g2;have e2:L2.upd H1 p2 (.lst [.bl b4,.bl b5,.bl b6]) p2=some (.lst [.bl b4,.bl b5,.bl b6]):=zC;generalize L2.upd H1 p2 (.lst [.bl b4,.bl b5,.bl b6])=H2 at s2 e2⊢;have he2:=s2 _ _ he1;refine ⟨p1,p2,_,_,rfl,rfl,s2 _ _ e1,e2,bs 7,fun p3 g3=>?_⟩;have s3:zE H2 (L2.upd H2 p3 (.lst ([.bl b0,.bl b1,.bl b2,.bl b3] ++ [.bl b4,.bl b5,.bl b6]))):=zE.upd g3;have e3:L2.upd H2 p3 (.lst ([.bl b0,.bl b1,.bl b2,.bl b3] ++ [.bl b4,.bl b5,.bl b6])) p3=some (.lst ([.bl b0,.bl b1,.bl b2,.bl b3] ++ [.bl b4,.bl b5,.bl b6])):=zC;generalize L2.upd H2 p3 (.lst ([.bl b0,.bl b1,.bl b2,.bl b3] ++ [.bl b4,.bl b5,.bl b6]))=H3 at s3 e3⊢;have he3:=s3 _ _ he2;refine ⟨_,rfl,ea,C,.ref c7,.ref c7,_,φ,rfl,rfl,he3,ka,L.xc,L.k7,_,rfl,ea,C,.ref c8,.ref c8,_,φ,rfl,rfl,he3,ka,L.xc,L.k8,_,rfl,ea,C,.ref c9,.ref c9,_,φ,rfl,rfl,he3,ka,L.xc,L.k9,_,rfl,ea,C,.ref c10,.ref c10,_,φ,rfl,rfl,he3,ka,L.xc,L.k10,bs 4,fun p4 g4=>?_⟩;have s4:zE H3 (L2.upd H3 p4 (.lst [.bl false,.bl false,.bl false,.bl false])):=zE.upd g4;have e4:L2.upd H3 p4 (.lst [.bl false,.bl false,.bl false,.bl false]) p4=some (.lst [.bl false,.bl false,.bl false,.bl false]):=zC;generalize L2.upd H3 p4 (.lst [.bl false,.bl false,.bl false,.bl false])=H4 at s4 e4⊢;have he4:=s4 _ _ he3;refine ⟨_,rfl,_,rfl,ea,C,.ref c11,.ref c11,_,φ,rfl,rfl,he4,ka,L.xc,L.k11,_,rfl,ea,C,.ref c12,.ref c12,_,φ,rfl,rfl,he4,ka,L.xc,L.k12,bs 2,fun p5 g5=>?_⟩;have s5:zE H4 (L2.upd H4 p5 (.lst [.bl false,.bl false])):=zE.upd g5;have e5:L2.upd H4 p5 (.lst [.bl false,.bl false]) p5=some (.lst [.bl false,.bl false]):=zC;generalize L2.upd H4 p5 (.lst [.bl false,.bl false])=H5 at s5 e5⊢;have he5:=s5 _ _ he4;refine ⟨p4,p5,_,_,rfl,rfl,s5 _ _ e4,e5,bs 6,fun p6 g6=>?_⟩;have s6:zE H5 (L2.upd H5 p6 (.lst ([.bl false,.bl false,.bl false,.bl false] ++ [.bl false,.bl false]))):=zE.upd g6;have e6:L2.upd H5 p6 (.lst ([.bl false,.bl false,.bl false,.bl false] ++ [.bl false,.bl false])) p6=some (.lst ([.bl false,.bl false,.bl false,.bl false] ++ [.bl false,.bl false])):=zC;generalize L2.upd H5 p6 (.lst ([.bl false,.bl false,.bl false,.bl false] ++ [.bl false,.bl false]))=H6 at s6 e6⊢;have he6:=s6 _ _ he5;have ef:=s6 _ _ (s5 _ _ (s4 _ _ e3));have sA:zE H H6:=s1.trans (s2.trans (s3.trans (s4.trans (s5.trans s6))));cases kd
  ·refine ⟨_,rfl,.inl ⟨rfl,_,SqL.of ef⟩,p3,_,_,rfl,rfl,SqL.of ef,rfl,rfl,rfl,_,rfl,?_⟩;refine zM ?_;refine ⟨_,rfl,p6,_,rfl,.inl (SqL.of e6),rfl,rfl,_,rfl,?_⟩;refine zM ?_;refine ⟨_,rfl,ea,C,.ty "ValueError",.type "ValueError",_,φ,rfl,rfl,he6,ka,L.xc,L.kv,_,rfl,?_⟩;refine zM ?_;refine ⟨f2 (by decide),fun p7 g7=>?_⟩;have s7:=zE.upd g7 (o:= .lst [.str "name",.str "number",.str "unit",.str "table",.str "twice",.str "no name",.str "unlike"]);have ef7:=s7 _ _ ef;refine ⟨_,rfl,.inl ⟨rfl,_,SqL.of ef7⟩,p3,_,_,0,rfl,rfl,SqL.of ef7,rfl,rfl,⟨by decide,rfl⟩,?_,p7,_,_,_,rfl,rfl,SqL.of zC,rfl,?_⟩
   ·intro m hm hlt
    match m,hlt with
    | n,hl=>exact absurd hl (Nat.not_lt_zero n)
   ·refine ⟨_,rfl,rfl,_,rfl,?_⟩;refine zM ?_;refine ⟨_,rfl,f2 (by decide),fun p8 g8=>?_⟩;have s8:=zE.upd g8 (o:= .tup [.str "twice",.str "no name"]);refine ⟨p8,_,rfl,.inr (SqT.of zC),rfl,rfl,_,rfl,?_⟩;have sB:=(sA.trans s7).trans s8;refine zM ?_;rcases q with ⟨_,q⟩|⟨h | h,_⟩|⟨h,_⟩
    ·refine ⟨_,rfl,f2 (by decide),fun r hr=>?_⟩;exact q r _ (sB.trans (zE.upd hr)) zC
    ·exact absurd h (by decide)
    ·exact absurd h (by decide)
    ·exact absurd h (by decide)
  ·refine ⟨_,rfl,.inl ⟨rfl,_,SqL.of ef⟩,p3,_,_,rfl,rfl,SqL.of ef,rfl,rfl,rfl,_,rfl,?_⟩;refine zM ?_;refine ⟨_,rfl,p6,_,rfl,.inl (SqL.of e6),rfl,rfl,_,rfl,?_⟩;refine zM ?_;refine ⟨_,rfl,ea,C,.ty "ValueError",.type "ValueError",_,φ,rfl,rfl,he6,ka,L.xc,L.kv,_,rfl,?_⟩;refine zM ?_;refine ⟨f2 (by decide),fun p7 g7=>?_⟩;have s7:=zE.upd g7 (o:= .lst [.str "name",.str "number",.str "unit",.str "table",.str "twice",.str "no name",.str "unlike"]);have ef7:=s7 _ _ ef;refine ⟨_,rfl,.inl ⟨rfl,_,SqL.of ef7⟩,p3,_,_,1,rfl,rfl,SqL.of ef7,rfl,rfl,⟨by decide,rfl⟩,?_,p7,_,_,_,rfl,rfl,SqL.of zC,rfl,?_⟩
   ·intro m hm hlt
    match m,hlt with
    | 0,_=>rfl
   ·refine ⟨_,rfl,rfl,_,rfl,?_⟩;refine zM ?_;refine ⟨_,rfl,f2 (by decide),fun p8 g8=>?_⟩;have s8:=zE.upd g8 (o:= .tup [.str "twice",.str "no name"]);refine ⟨p8,_,rfl,.inr (SqT.of zC),rfl,rfl,_,rfl,?_⟩;have sB:=(sA.trans s7).trans s8;refine zM ?_;rcases q with ⟨_,q⟩|⟨h | h,_⟩|⟨h,_⟩
    ·refine ⟨_,rfl,f2 (by decide),fun r hr=>?_⟩;exact q r _ (sB.trans (zE.upd hr)) zC
    ·exact absurd h (by decide)
    ·exact absurd h (by decide)
    ·exact absurd h (by decide)
  ·refine ⟨_,rfl,.inl ⟨rfl,_,SqL.of ef⟩,p3,_,_,rfl,rfl,SqL.of ef,rfl,rfl,rfl,_,rfl,?_⟩;refine zM ?_;refine ⟨_,rfl,p6,_,rfl,.inl (SqL.of e6),rfl,rfl,_,rfl,?_⟩;refine zM ?_;refine ⟨_,rfl,ea,C,.ty "ValueError",.type "ValueError",_,φ,rfl,rfl,he6,ka,L.xc,L.kv,_,rfl,?_⟩;refine zM ?_;refine ⟨f2 (by decide),fun p7 g7=>?_⟩;have s7:=zE.upd g7 (o:= .lst [.str "name",.str "number",.str "unit",.str "table",.str "twice",.str "no name",.str "unlike"]);have ef7:=s7 _ _ ef;refine ⟨_,rfl,.inl ⟨rfl,_,SqL.of ef7⟩,p3,_,_,2,rfl,rfl,SqL.of ef7,rfl,rfl,⟨by decide,rfl⟩,?_,p7,_,_,_,rfl,rfl,SqL.of zC,rfl,?_⟩
   ·intro m hm hlt
    match m,hlt with
    | 0,_=>rfl
    | 1,_=>rfl
   ·refine ⟨_,rfl,rfl,_,rfl,?_⟩;refine zM ?_;refine ⟨_,rfl,f2 (by decide),fun p8 g8=>?_⟩;have s8:=zE.upd g8 (o:= .tup [.str "twice",.str "no name"]);refine ⟨p8,_,rfl,.inr (SqT.of zC),rfl,rfl,_,rfl,?_⟩;have sB:=(sA.trans s7).trans s8;refine zM ?_;rcases q with ⟨_,q⟩|⟨h | h,_⟩|⟨h,_⟩
    ·refine ⟨_,rfl,f2 (by decide),fun r hr=>?_⟩;exact q r _ (sB.trans (zE.upd hr)) zC
    ·exact absurd h (by decide)
    ·exact absurd h (by decide)
    ·exact absurd h (by decide)
  ·refine ⟨_,rfl,.inl ⟨rfl,_,SqL.of ef⟩,p3,_,_,rfl,rfl,SqL.of ef,rfl,rfl,rfl,_,rfl,?_⟩;refine zM ?_;refine ⟨_,rfl,p6,_,rfl,.inl (SqL.of e6),rfl,rfl,_,rfl,?_⟩;refine zM ?_;refine ⟨_,rfl,ea,C,.ty "ValueError",.type "ValueError",_,φ,rfl,rfl,he6,ka,L.xc,L.kv,_,rfl,?_⟩;refine zM ?_;refine ⟨f2 (by decide),fun p7 g7=>?_⟩;have s7:=zE.upd g7 (o:= .lst [.str "name",.str "number",.str "unit",.str "table",.str "twice",.str "no name",.str "unlike"]);have ef7:=s7 _ _ ef;refine ⟨_,rfl,.inl ⟨rfl,_,SqL.of ef7⟩,p3,_,_,3,rfl,rfl,SqL.of ef7,rfl,rfl,⟨by decide,rfl⟩,?_,p7,_,_,_,rfl,rfl,SqL.of zC,rfl,?_⟩
   ·intro m hm hlt
    match m,hlt with
    | 0,_=>rfl
    | 1,_=>rfl
    | 2,_=>rfl
   ·refine ⟨_,rfl,rfl,_,rfl,?_⟩;refine zM ?_;refine ⟨_,rfl,f2 (by decide),fun p8 g8=>?_⟩;have s8:=zE.upd g8 (o:= .tup [.str "twice",.str "no name"]);refine ⟨p8,_,rfl,.inr (SqT.of zC),rfl,rfl,_,rfl,?_⟩;have sB:=(sA.trans s7).trans s8;refine zM ?_;rcases q with ⟨_,q⟩|⟨h | h,_⟩|⟨h,_⟩
    ·refine ⟨_,rfl,f2 (by decide),fun r hr=>?_⟩;exact q r _ (sB.trans (zE.upd hr)) zC
    ·exact absurd h (by decide)
    ·exact absurd h (by decide)
    ·exact absurd h (by decide)
  ·refine ⟨_,rfl,.inl ⟨rfl,_,SqL.of ef⟩,p3,_,_,rfl,rfl,SqL.of ef,rfl,rfl,rfl,_,rfl,?_⟩;refine zM ?_;refine ⟨_,rfl,p6,_,rfl,.inl (SqL.of e6),rfl,rfl,_,rfl,?_⟩;refine zM ?_;refine ⟨_,rfl,ea,C,.ty "ValueError",.type "ValueError",_,φ,rfl,rfl,he6,ka,L.xc,L.kv,_,rfl,?_⟩;refine zM ?_;refine ⟨f2 (by decide),fun p7 g7=>?_⟩;have s7:=zE.upd g7 (o:= .lst [.str "name",.str "number",.str "unit",.str "table",.str "twice",.str "no name",.str "unlike"]);have ef7:=s7 _ _ ef;refine ⟨_,rfl,.inl ⟨rfl,_,SqL.of ef7⟩,p3,_,_,4,rfl,rfl,SqL.of ef7,rfl,rfl,⟨by decide,rfl⟩,?_,p7,_,_,_,rfl,rfl,SqL.of zC,rfl,?_⟩
   ·intro m hm hlt
    match m,hlt with
    | 0,_=>rfl
    | 1,_=>rfl
    | 2,_=>rfl
    | 3,_=>rfl
   ·refine ⟨_,rfl,rfl,_,rfl,?_⟩;refine zM ?_;refine ⟨_,rfl,f2 (by decide),fun p8 g8=>?_⟩;have s8:=zE.upd g8 (o:= .tup [.str "twice",.str "no name"]);refine ⟨p8,_,rfl,.inr (SqT.of zC),rfl,rfl,_,rfl,?_⟩;have sB:=(sA.trans s7).trans s8;refine zZ ?_;rcases q with ⟨h,_⟩|⟨_,dx,fs,x,y,h1,h2,n1,n2,l1,l2,q⟩|⟨h,_⟩
    ·exact absurd h (by decide)
    ·refine ⟨_,rfl,_,rfl,ea,C,dx,fs,x,rfl,sB _ _ h1,sB _ _ h2,L.xc,n1,l1,_,rfl,ea,C,dx,fs,y,rfl,sB _ _ h1,sB _ _ h2,L.xc,n2,l2,bs 3,fun r hr=>?_⟩;exact q r _ (sB.trans (zE.upd hr)) zC
    ·exact absurd h (by decide)
  ·refine ⟨_,rfl,.inl ⟨rfl,_,SqL.of ef⟩,p3,_,_,rfl,rfl,SqL.of ef,rfl,rfl,rfl,_,rfl,?_⟩;refine zM ?_;refine ⟨_,rfl,p6,_,rfl,.inl (SqL.of e6),rfl,rfl,_,rfl,?_⟩;refine zM ?_;refine ⟨_,rfl,ea,C,.ty "ValueError",.type "ValueError",_,φ,rfl,rfl,he6,ka,L.xc,L.kv,_,rfl,?_⟩;refine zM ?_;refine ⟨f2 (by decide),fun p7 g7=>?_⟩;have s7:=zE.upd g7 (o:= .lst [.str "name",.str "number",.str "unit",.str "table",.str "twice",.str "no name",.str "unlike"]);have ef7:=s7 _ _ ef;refine ⟨_,rfl,.inl ⟨rfl,_,SqL.of ef7⟩,p3,_,_,5,rfl,rfl,SqL.of ef7,rfl,rfl,⟨by decide,rfl⟩,?_,p7,_,_,_,rfl,rfl,SqL.of zC,rfl,?_⟩
   ·intro m hm hlt
    match m,hlt with
    | 0,_=>rfl
    | 1,_=>rfl
    | 2,_=>rfl
    | 3,_=>rfl
    | 4,_=>rfl
   ·refine ⟨_,rfl,rfl,_,rfl,?_⟩;refine zM ?_;refine ⟨_,rfl,f2 (by decide),fun p8 g8=>?_⟩;have s8:=zE.upd g8 (o:= .tup [.str "twice",.str "no name"]);refine ⟨p8,_,rfl,.inr (SqT.of zC),rfl,rfl,_,rfl,?_⟩;have sB:=(sA.trans s7).trans s8;refine zZ ?_;rcases q with ⟨h,_⟩|⟨_,dx,fs,x,y,h1,h2,n1,n2,l1,l2,q⟩|⟨h,_⟩
    ·exact absurd h (by decide)
    ·refine ⟨_,rfl,_,rfl,ea,C,dx,fs,x,rfl,sB _ _ h1,sB _ _ h2,L.xc,n1,l1,_,rfl,ea,C,dx,fs,y,rfl,sB _ _ h1,sB _ _ h2,L.xc,n2,l2,bs 3,fun r hr=>?_⟩;exact q r _ (sB.trans (zE.upd hr)) zC
    ·exact absurd h (by decide)
  ·refine ⟨_,rfl,.inl ⟨rfl,_,SqL.of ef⟩,p3,_,_,rfl,rfl,SqL.of ef,rfl,rfl,rfl,_,rfl,?_⟩;refine zM ?_;refine ⟨_,rfl,p6,_,rfl,.inl (SqL.of e6),rfl,rfl,_,rfl,?_⟩;refine zM ?_;refine ⟨_,rfl,ea,C,.ty "ValueError",.type "ValueError",_,φ,rfl,rfl,he6,ka,L.xc,L.kv,_,rfl,?_⟩;refine zM ?_;refine ⟨f2 (by decide),fun p7 g7=>?_⟩;have s7:=zE.upd g7 (o:= .lst [.str "name",.str "number",.str "unit",.str "table",.str "twice",.str "no name",.str "unlike"]);have ef7:=s7 _ _ ef;refine ⟨_,rfl,.inl ⟨rfl,_,SqL.of ef7⟩,p3,_,_,6,rfl,rfl,SqL.of ef7,rfl,rfl,⟨by decide,rfl⟩,?_,p7,_,_,_,rfl,rfl,SqL.of zC,rfl,?_⟩
   ·intro m hm hlt
    match m,hlt with
    | 0,_=>rfl
    | 1,_=>rfl
    | 2,_=>rfl
    | 3,_=>rfl
    | 4,_=>rfl
    | 5,_=>rfl
   ·refine ⟨_,rfl,rfl,_,rfl,?_⟩;refine zZ ?_;rcases q with ⟨h,_⟩|⟨h | h,_⟩|⟨_,dx,fs,x,y,h1,h2,n1,n2,l1,l2,q⟩
    ·exact absurd h (by decide)
    ·exact absurd h (by decide)
    ·exact absurd h (by decide)
    have sB:=sA.trans s7;refine ⟨_,rfl,_,rfl,ea,C,dx,fs,x,rfl,sB _ _ h1,sB _ _ h2,L.xc,n1,l1,_,rfl,ea,C,dx,fs,y,rfl,sB _ _ h1,sB _ _ h2,L.xc,n2,l2,bs 3,fun r hr=>?_⟩;exact q r _ (sB.trans (zE.upd hr)) zC
def zIa(H:Hp)(x:V):Prop:=NoT H x\/(∃p xs,x= .ref p/\H p=some (.tup xs)/\(∀y∈xs,Kd H y)/\zBR xs=false)
def inA(a b:Int)(a1 b1 a2 b2:Nat):Int:=fa (a*fa ((a1:Int)*b2) ((b1:Int)*a2)) (b*fb ((a1:Int)*b2) ((b1:Int)*a2))
def inB(a b:Int)(a1 b1 a2 b2:Nat):Int:=fb (a*fa ((a1:Int)*b2) ((b1:Int)*a2)) (b*fb ((a1:Int)*b2) ((b1:Int)*a2))
def zTb(H:Hp)(Ns:List Str)(E0:List Ent)(Q:VK)(E:XK)(BU BT UN:Addr)(a b:Int)(a1 b1:Nat)(f1:Prs)(z:V):Prop:=(zBl H z/\Rf0 H E BU)\/ ∃v vs,z= .ref v/\zx H v vs/\GoodU Ns vs/\vs.length<=3/\
 ((Pl E0 vs none/\Rf0 H E BT)\/ ∃a2 b2 f2,Pl E0 vs (some (a2,b2,f2))/\
  ((f1≠f2/\ ∀H' dx u v,zE H H'->zx H' u f1->zx H' v f2->H' dx=some (XD dx (ym "other" (.ref v) [("one",.ref u)]))->E (.ref UN) (some dx) H')\/
   (f1=f2/\ ∀r H',zE H H'->H' r=some (.tup [.int (inA a b a1 b1 a2 b2),.int (inB a b a1 b1 a2 b2)])->Q (.ref r) H')))
def zTt(H:Hp)(Ns:List Str)(E0:List Ent)(Q:VK)(E:XK)(BU BT UN:Addr)(a b:Int)(y z:V):Prop:=(zBl H y/\Rf0 H E BU)\/ ∃u us,y= .ref u/\zx H u us/\GoodU Ns us/\us.length<=3/\
 ((Pl E0 us none/\Rf0 H E BT)\/ ∃a1 b1 f1,Pl E0 us (some (a1,b1,f1))/\zTb H Ns E0 Q E BU BT UN a b a1 b1 f1 z)
def zCG(C BN BU BT UN:Addr):Sp:=fun vs H Q E=> ∃(t dx pa ba:Addr) (Ns:List Str) (E0:List Ent) (x y z:V),vs= [.ref t,x,y,z] /\Tb Ns C dx pa ba H t E0/\Ns.length<=14/\(∀n∈Ns,Nm n)/\
 ((zIa H x/\Rf0 H E BN)\/ ∃p a b,x= .ref p/\H p=some (.tup [.int a,.int b])/\zBR [.int a,.int b] =true/\Sz 100 a/\Sz 100 b/\zTt H Ns E0 Q E BU BT UN a b y z)
theorem zIY:FnScope ["self","amount","unit","wanted","one","other"] ["self","amount","unit","wanted"] (zK zHp):=fs
theorem zDr{a:Nat}(h:a<2^700):Sz 700 (a:Int):=by unfold Sz;rw [Int.natAbs_natCast];exact h
theorem zTL(ha:Sz m a)(hb:0<b):Sz m (fa a b):=ha.div (zCN a hb)
theorem zSr(h:Sz m b)(hb:0<b):Sz m (fb a b):=h.div (zCN a hb)
theorem zQV{f fI fR fV fL fUN C BN BU BT UN:Addr}{fd fdI fdR fdV fdL fdUN:FuncData}(F:Fun K "into" "Table.into" zHp f fd)(B:Bn mg)(T:TC K C)(XN:ExN K mg BN)
  (FI:Fun K "is_fraction" "is_fraction" zHE fI fdI) (bI:zL K fdI ["thing"] []) (mI:mg "is_fraction" =some (.ref fI)) (GI:FnOk P w K mg base CX0 2 fI fdI ["thing"] zHl)
  (FR:Fun K "product_of" "product_of" zGL fR fdR) (bR:zL K fdR ["one","other"] []) (mR:mg "product_of" =some (.ref fR)) (GR:FnOk P w K mg base CX0 4 fR fdR ["one","other"] zJA)
  (FV:Fun K "turned_over" "turned_over" zGC fV fdV) (bV:zL K fdV ["one"] []) (mV:mg "turned_over" =some (.ref fV)) (GV:FnOk P w K mg base CX0 1 fV fdV ["one"] zJI)
  (XUN:RX K mg "Unlike" UN fUN "one" "other") (bUN:zL K fdUN ["self","one","other"] []) (GUN:FnOk P w K mg base CX0 1 fUN fdUN ["self","one","other"] (zCp UN "one" "other"))
  (mtL:Meth K C "plain" fL) (bL:zL K fdL ["self","unit"] []) (GL:FnOk P w K mg base (yF P w) 6 fL fdL ["self","unit"] (zAq C BU BT)):
  FnOk P w K mg base (yF P w) 7 f fd ["self","amount","unit","wanted"] (zCG C BN BU BT UN):=by
 refine (Fr.Fun.toD F).okXD zIY (fun vs H Q E h=>?_) (fun _ A _ s H vs Q E hr h=>?_)
 ·obtain ⟨t,dx,pa,ba,Ns,E0,x,y,z,rfl,_⟩:=h;rfl
 ·obtain ⟨t,dx,pa,ba,Ns,E0,x,y,z,rfl,tb,hNs,hN,h⟩:=h;have hr6:Room 6 _:=hr;have hr4:Room 4 _:=hr.mono (by decide);have hr2:Room 2 _:=hr.mono (by decide);have hr1:Room 1 _:=hr.mono (by decide);have cl:=T.cl;have huD:_+8<cLine:=zUb (zVF (by decide:8<=64) _) hr.units;refine ⟨_,QB.out (zH
   (zq (yq (yb (zP GI hr2 rfl mI FI.kp bI .nil zO (qc (qw 1 rfl) zD rfl) rfl rfl rfl) (fun _=>rfl))) (zJ
    (zAa XN.inB yy rfl rfl XN.mgB (qc zN zD rfl) rfl rfl rfl)) zn) (zH
   (zT 4 zIY.nd rfl (zAl (qw 0 rfl) cl mtL GL hr6 bL .nil zAN (qc (qw 2 rfl) zD rfl) rfl rfl rfl) rfl) (zH
   (zT 5 zIY.nd rfl (zAl (qw 0 rfl) cl mtL GL hr6 bL .nil zAN (qc (qw 3 rfl) zD rfl) rfl rfl rfl) rfl) (zH
   (zq (zY (zAc (n:=8) huD) (zR (K:=K) rfl (qw 4 rfl) zF (fun _ _=>rfl)) (zR (K:=K) rfl (qw 5 rfl) zF (fun _ _=>rfl)) rfl) (zJ
    (zFH XUN.mx GUN hr2 rfl XUN.mg bUN zO zCX rfl (qc (zR (K:=K) rfl (qw 4 rfl) zF (fun _ _=>rfl)) (qc (zR (K:=K) rfl (qw 5 rfl) zF (fun _ _=>rfl)) zD rfl) rfl) rfl rfl rfl)) zn) (zJ
   (zW (zP GR hr4 rfl mR FR.kp bR .nil zO (qc (qw 1 rfl) (qc (zP GR hr4 rfl mR FR.kp bR .nil zO (qc (zR (K:=K) rfl (qw 4 rfl) zF (fun _ _=>rfl)) (qc (zP GV hr1 rfl mV FV.kp bV .nil zO (qc (zR (K:=K) rfl (qw 5 rfl) zF (fun _ _=>rfl)) zD rfl) rfl rfl rfl) zD rfl) rfl) rfl rfl rfl) zD rfl) rfl) rfl rfl rfl))))))),?_⟩
  rcases h with ⟨hb,q⟩|⟨p,a,b,rfl,ep,fr,za,zb,h⟩
  ·rcases hb with hb |⟨p,xs,rfl,e1,k1,f1⟩
   ·exact ⟨_,rfl,x,rfl,.inl ⟨hb,_,rfl,zZ ⟨bs 1,q _ (zE.refl H)⟩⟩⟩
   ·refine ⟨_,rfl,.ref p,rfl,.inr ⟨p,xs,rfl,e1,k1,_,rfl,?_⟩⟩;rw [f1];exact zZ ⟨bs 1,q _ (zE.refl H)⟩
  have fr':=fr;unfold zBR at fr';rw [zVM,decide_eq_true_eq,decide_eq_true_eq] at fr';obtain ⟨b0,gc⟩:=fr';refine yT fun zz=>?_;refine ⟨_,rfl,.ref p,rfl,.inr ⟨p,_,rfl,ep,fun y hy=>?_,_,rfl,?_⟩⟩
  ·simp only [zVL,zVV,or_false] at hy;rcases hy with rfl | rfl
   ·exact .int _
   ·exact .int _
  rw [fr];refine zM ?_;refine zz (yT fun zz=>?_);refine ⟨_,rfl,t,dx,_,rfl,tb.at_,rfl,_,rfl,t,dx,pa,ba,Ns,E0,y,rfl,tb,hNs,hN,?_⟩;rcases h with ⟨hb,q⟩|⟨u,us,rfl,ua,gu,h3,⟨pl,q⟩|⟨a1,b1,f1,pl,h⟩⟩
  ·exact .inl ⟨hb,q⟩
  ·exact .inr ⟨u,us,rfl,ua,gu,h3,.inl ⟨pl,q⟩⟩
  refine .inr ⟨u,us,rfl,ua,gu,h3,.inr ⟨a1,b1,f1,pl,fun H1 r1 am1 un1 s1 g1 g2 g3=>?_⟩⟩;obtain ⟨ro1,_⟩:=pl.good tb.ok gu.nn;have tb1:=tb.same s1;refine zz (yT fun zz=>?_);refine ⟨_,rfl,t,dx,_,rfl,tb1.at_,rfl,_,rfl,t,dx,pa,ba,Ns,E0,z,rfl,tb1,hNs,hN,?_⟩;rcases h with ⟨hb,q⟩|⟨v,vs,rfl,va,gv,hv3,⟨pl2,q⟩|⟨a2,b2,f2,pl2,h⟩⟩
  ·exact .inl ⟨hb.same s1,q.same s1⟩
  ·exact .inr ⟨v,vs,rfl,va.same s1,gv,hv3,.inl ⟨pl2,q.same s1⟩⟩
  refine .inr ⟨v,vs,rfl,va.same s1,gv,hv3,.inr ⟨a2,b2,f2,pl2,fun H2 r2 am2 un2 s2 k1 k2 k3=>?_⟩⟩;obtain ⟨ro2,_⟩:=pl2.good tb.ok gv.nn;have s12:=s1.trans s2;have d1:=s2 _ _ g1;refine zz (yT fun zz=>?_);refine ⟨_,rfl,r1,_,_,_,rfl,rfl,SqT.of d1,rfl,_,rfl,r2,_,_,_,rfl,rfl,SqT.of k1,rfl,zBC f1,zBC f2,zBW (g3.same s2),zBW k3,zBV fun q hq=>hN _ (ro1.fu.nn q hq),zBV fun q hq=>hN _ (ro2.fu.nn q hq),_,rfl,?_⟩;rw [zIJ];rcases h with ⟨hf,q⟩|⟨hf,q⟩
  ·rw [zUl hf];refine ⟨_,rfl,r1,_,_,_,rfl,rfl,SqT.of d1,rfl,_,rfl,r2,_,_,_,rfl,rfl,SqT.of k1,rfl,bs 2,fun ea he=>zII (fun H3 dx' s3 e3=>?_) ea he⟩;exact q H3 dx' un1 un2 (s12.trans s3) (g3.same (s2.trans s3)) (k3.same s3) e3
  ·rw [zUi hf];refine zM ?_;have n1: ¬((a2:Int)<0):=by omega
   refine zz ?_;refine ⟨_,rfl,_,rfl,r1,_,_,_,rfl,rfl,SqT.of d1,rfl,_,rfl,r2,_,_,_,rfl,rfl,SqT.of k1,rfl,am2,(a2:Int),(b2:Int),rfl,k2,fun r3 H3 s3 _ h3'=>?_⟩;rw [if_neg n1,if_neg n1] at h3';have x1:=ro1.f1;have x2:=ro1.f2;have x3:=ro2.f1;have x4:=ro2.f2;have zz1:Sz 700 (a1:Int):=zDr (yi ro1.f3);have zz2:Sz 700 (b1:Int):=zDr (yi ro1.f4);have zz3:Sz 700 (a2:Int):=zDr (yi ro2.f3);have zz4:Sz 700 (b2:Int):=zDr (yi ro2.f4);have y1:(0:Int)<b1:=by have:0<b1:=x2;omega
   have y2:(0:Int)<a2:=by have:0<a2:=x3;omega
   have y3:(0:Int)<(b1:Int)*a2:=Int.mul_pos y1 y2;refine ⟨am1,r3,(a1:Int),(b1:Int),(b2:Int),(a2:Int),rfl,s3 _ _ (s2 _ _ g2),h3',y1,y2,zz1.mono (by decide),zz2.mono (by decide),zz4.mono (by decide),zz3.mono (by decide),fun r4 H4 s4 _ h4=>?_⟩;have w1:Sz 1400 (fa ((a1:Int)*b2) ((b1:Int)*a2)):=zTL (zz1.mul zz4) y3;have w2:Sz 1400 (fb ((a1:Int)*b2) ((b1:Int)*a2)):=zSr (zz2.mul zz3) y3;have s14:=s12.trans (s3.trans s4);refine ⟨p,r4,a,b,_,_,rfl,s14 _ _ ep,h4,b0,zRc _ y3,za.mono (by decide),zb.mono (by decide),w1.mono (by decide),w2.mono (by decide),fun r5 H5 s5 _ h5=>?_⟩;exact q r5 H5 (s14.trans s5) h5
theorem zPp{E:List Ent}(nd:(E.map (·.nm)).Nodup){i:Nat}{e:Ent}(h:E[i]?=some e):E.find? (fun x=>x.nm==e.nm)=some e:=by
 induction E generalizing i with
 | nil=>simp at h
 | cons a E ih=>
  rw [zVP,List.nodup_cons] at nd;cases i with
  | zero=>
   simp at h;subst h;rw [zVb,show (a.nm==a.nm)=true from beq_iff_eq.mpr rfl]
  | succ j=>
   have h':E[j]?=some e:=by simpa using h
   have:a.nm≠e.nm:=fun z=>nd.1 (by rw [z];exact zVR.mpr ⟨e,zUp h',rfl⟩);rw [zVb,show (a.nm==e.nm)=false from beq_eq_false_iff_ne.mpr this];exact ih nd.2 h'
theorem zFe(n:Str)(us:Prs):inV (.str n) ((us.map (·.1)).map V.str)=inU us n:=by
 unfold inV inU;rw [List.any_map,List.any_map];congr 1
theorem zSU{kvs:List (Key×V)}(nd:(kvs.map (·.1)).Nodup){i:Nat}{k:Key}{v:V}(h:kvs[i]?=some (k,v)):yI kvs k=some v:=by
 induction kvs generalizing i with
 | nil=>simp at h
 | cons a kvs ih=>
  rw [zVP,List.nodup_cons] at nd;cases i with
  | zero=>
   simp at h;subst h;exact zAb rfl
  | succ j=>
   have h':kvs[j]?=some (k,v):=by simpa using h
   have:a.1≠k:=fun z=>nd.1 (by rw [z];exact zVR.mpr ⟨(k,v),zUp h',rfl⟩);rw [zAd this];exact ih nd.2 h'
theorem zKX{F:Ent->Key×V->Prop}(hk: ∀e p,F e p->p.1= .inr e.nm): ∀{E:List Ent} {kvs:List (Key×V)},Paired F E kvs->kvs.map (·.1)=E.map fun e=>(.inr e.nm:Key)
 | _,_,.nil=>rfl
 | e::E,p::kvs,.cons h t=>by rw [zVP,zVP,zKX hk t,hk e p h]
theorem zPO{F:Ent->Key×V->Prop}(hk: ∀e p,F e p->p.1= .inr e.nm){E:List Ent}{kvs:List (Key×V)}(h:Paired F E kvs)(nd:(E.map (·.nm)).Nodup):(kvs.map (·.1)).Nodup:=by
 rw [zKX hk h,List.Nodup,List.pairwise_map];rw [List.Nodup,List.pairwise_map] at nd;exact nd.imp fun z y=>z (Sum.inr.inj y)
def zGF:Sp:=fun vs H Q _=> ∃(Ns:List Str) (wd ma fl nm:Addr) (E:List Ent) (n:Str),vs= [.ref wd,.str n] /\Wd Ns wd ma fl nm H E/\ ∀H',zE H H'->Q (.bl (zAi E n)) H'
theorem zMQ:FnScope ["_law_world","_law_name","_law_other"] ["_law_world","_law_name"] (zK zES):=fs
theorem zQh{f:Addr}{fd:FuncData}(F:Fun K "_law_is_used" "_law_is_used" zES f fd):FnOk P w K mg base CX0 1 f fd ["_law_world","_law_name"] zGF:=by
 refine F.ok zMQ (fun vs H Q E h=>?_) (fun _ A _ s H vs Q E hr h=>?_)
 ·obtain ⟨Ns,wd,ma,fl,na,E0,n,rfl,_⟩:=h;rfl
 ·obtain ⟨Ns,wd,ma,fl,na,E0,n,rfl,W,q⟩:=h;have hu:=zAD hr;obtain ⟨kvs,e1,p1⟩:=W.ma;have lk:=Paired.length p1;refine ⟨_,QB.out (zKO (zH
   (yt PassesOwn.never rfl (zRP (zo hu (qw 0 rfl) zN (fun _ _=>rfl))) (zm 2 zMQ.nd rfl (Or.inl rfl) (.inr rfl)) (zJ
    (zq (zY (zEC (K:=K) rfl) (qw 1 rfl) (ye (cl:= []) ["_law_own","_law_exponent"] [] [] rfl (zBt (K:=K) rfl (zR (K:=K) rfl (zo hu (zo hu (qw 0 rfl) zN (fun _ _=>rfl)) (qw 2 rfl) (fun _ _=>rfl)) zF (fun _ _=>rfl))) rfl (by decide+kernel) rfl (by decide+kernel) (fun _ _ h=>nomatch h) rfl (fun j y i h=>nomatch h) (yL rfl) (fun _ _ _ _=>(zEo (K:=K) (n:=2) rfl rfl (zAj (zm 0 (show (["_law_own","_law_exponent"] :List Str).Nodup by decide+kernel) rfl (.inl rfl) (.inr rfl)) (zAj (zm 1 (show (["_law_own","_law_exponent"] :List Str).Nodup by decide+kernel) rfl (.inl rfl) (.inr rfl)) zEh rfl) rfl) rfl rfl)) (fun _ _ _ _=>zBh) (fun _ _ _ _=>(qw 0 rfl)) (fun _=>rfl)) rfl) (zJ
     (zW yw)) zn)) (fun _=>rfl)) (zJ
   (zW yw)))),?_⟩
  refine ⟨ma,kvs,e1,_,rfl,wd,_,rfl,W.gm,ma,kvs,rfl,.inl e1,fun ob _=>?_⟩;refine yk kvs.length (fun i σ H'=> ∃v2:Option V,σ= [some (.ref wd),some (.str n),v2] /\i<=kvs.length/\(E0.take i).any (fun e=>inU e.un n)=false/\H' ma=some (.frz ob (.dK kvs))/\ ∀b u,H b=some u->b≠ma->H' b=some u) ?_ ?_ ?_ ?_ ?_
  ·exact ⟨none,rfl,zUZ _,rfl,zC,fun b u hb hp=>by rw [zG hp];exact hb⟩
  ·rintro i σ H' hi ⟨v2,rfl,_,_,h1,_⟩;exact ⟨h1,hi⟩
  ·rintro σ H' ⟨v2,rfl,_,_,h1,_⟩;exact ⟨h1,zUO _⟩
  ·rintro i σ H' x H'' hi ⟨v2,rfl,_,hno,h1,h2⟩ ⟨rfl,k,v,hkv,rfl⟩;obtain ⟨e,ee,ep,t1,am,un,ex,et,ea,eu⟩:=Paired.getR p1 hkv;have ep':k= .inr e.nm:=ep;have ex':v= .ref t1:=ex;subst ep' ex';have tps:Tps H H'':=fun a xs z=>h2 a _ z (fun y=>by rw [y,e1] at z;cases z);have gm:yr H'' wd (.str "made") (some (.ref ma)):= .inl ⟨_,.inr "made",.inl (h2 _ _ W.at_ W.wm),rfl,(zKp _ _ _).symm⟩;have gv:yr H'' ma (.str e.nm) (some (.ref t1)):=by
    exact .inl ⟨kvs,.inr e.nm,.inr ⟨ob,h1⟩,rfl,(zSU (zPO pk p1 W.nd) hkv).symm⟩
   have gu:=(W.ok e (zUp ee)).un;have etk:E0.take (i+1)=E0.take i++ [e] :=by rw [zUh,ee];rfl
   obtain ⟨ts,eu1,eu2⟩:=eu.tps tps;have lt:=Paired.length eu2;have l3:=(W.ok e (zUp ee)).l3;refine ⟨_,rfl,_,rfl,wd,_,rfl,gm,_,rfl,ma,_,rfl,gv,t1,_,_,_,rfl,rfl,SqT.of (tps _ _ et),rfl,un,rfl,⟨_,SqT.of eu1⟩,fun D hD=>?_⟩;refine yK ts.length (fun j ys H3=>j<=ts.length/\ys=((e.un.take j).map (·.1)).map V.str/\H3=L2.upd H'' D (.lst ys)) ⟨zUZ _,rfl,rfl⟩ (by rw [zUV];omega) ?_ ?_ ?_
   ·rintro j ys H3 hj ⟨_,rfl,rfl⟩;have hq: ∀o,SqT K (L2.upd H'' D o) un (ts.map V.ref):=fun o=>SqT.of (zE.upd hD _ _ eu1);refine ⟨by simp;omega,zC,fun h=>⟨_,_,hq _,zUK (by simpa using h)⟩,fun h=>⟨_,hq _,by simp;omega⟩⟩
   ·rintro j ys H3 x H4 hj ⟨_,rfl,rfl⟩ ⟨rfl,hx⟩ pre hpre;obtain ⟨p0,p1',rfl⟩:=yj hpre;have hx':=hx _ (SqT.of (zE.upd hD _ _ eu1));rw [zUP,zUK hj] at hx';cases hx';obtain ⟨b,o,eb,eto⟩:=yD.get eu2 (zUK hj);have etk2:e.un.take (j+1)=e.un.take j++ [(b,o)] :=by rw [zUh,eb];rfl
    refine ⟨ts[j],_,rfl,SqT.of (zE.upd hD _ _ eto),rfl,_,_,rfl,_,_,rfl,rfl,⟨[some (.str b),some (.int o)],rfl,rfl⟩,?_⟩;refine zZ ?_;refine ⟨_,rfl,zC,hj,?_,by rw [zAp]⟩;rw [etk2,zUg,zUg];rfl
   ·rintro ys H3 ⟨_,rfl,rfl⟩;rw [lt,zUk];refine ⟨D,_,rfl,.inl (SqL.of zC),rfl,by simp [zAQ],_,rfl,?_⟩;have hDm:ma≠D:=fun z=>by rw [<-z,h1] at hD;cases hD
    have k3: ∀b u,H b=some u->b≠ma->(L2.upd H'' D (.lst ((e.un.map (·.1)).map V.str))) b=some u:=fun b u hb hp=>by
     rw [zG (zI (h2 b u hb hp) hD)];exact h2 b u hb hp
    refine yB (fun c=>?_) (fun c=>?_)
    ·have c':inU e.un n=true:=by rw [<-zFe];exact c
     refine ⟨ob,by rw [zG hDm];exact h1,?_⟩;have:zAi E0 n=true:=by
      unfold zAi;rw [List.any_eq_true];exact ⟨e,zUp ee,c'⟩
     rw [this] at q;refine q _ fun b u hb=>?_;by_cases z:b=ma
     ·subst z;rw [e1] at hb;cases hb;exact zC
     ·rw [zG z];exact k3 b u hb z
    ·have c':inU e.un n=false:=by
      rw [<-zFe];simpa using c
     refine ⟨_,rfl,hi,?_,by rw [zG hDm];exact h1,k3⟩;rw [etk,List.any_append,hno,Bool.false_or,List.any_cons,c'];rfl
  ·rintro σ H' ⟨v2,rfl,_,hno,h1,h2⟩;refine ⟨ob,h1,?_⟩;rw [<-lk,zUk] at hno;have:zAi E0 n=false:=hno;rw [this] at q;refine q _ fun b u hb=>?_;by_cases z:b=ma
   ·subst z;rw [e1] at hb;cases hb;exact zC
   ·rw [zG z];exact h2 b u hb z
end
structure Rfs(K:zVK)(c0 c1 c2 c3 c4 c5 c6 c7 c8 c9 c10 c11 c12 ME:Addr):Prop where
 l0:LK K c0 c1 c2 c3 c4 c5 c6 c7 c8 c9 c10 c11 c12 c0 true false false false false false false
 l1:LK K c0 c1 c2 c3 c4 c5 c6 c7 c8 c9 c10 c11 c12 c1 false true false false false false false
 l2:LK K c0 c1 c2 c3 c4 c5 c6 c7 c8 c9 c10 c11 c12 c2 false false true false false false false
 l3:LK K c0 c1 c2 c3 c4 c5 c6 c7 c8 c9 c10 c11 c12 c3 false false false true false false false
 l4:LK K c0 c1 c2 c3 c4 c5 c6 c7 c8 c9 c10 c11 c12 c4 false false false false true false false
 l5:LK K c0 c1 c2 c3 c4 c5 c6 c7 c8 c9 c10 c11 c12 c5 false false false false false true false
 l6:LK K c0 c1 c2 c3 c4 c5 c6 c7 c8 c9 c10 c11 c12 c6 false false false false false false true
 x0:PySem.W.exmOne K (.ref c0) (.ref ME)=some true
 x1:PySem.W.exmOne K (.ref c1) (.ref ME)=some true
 x2:PySem.W.exmOne K (.ref c2) (.ref ME)=some true
 x3:PySem.W.exmOne K (.ref c3) (.ref ME)=some true
 x4:PySem.W.exmOne K (.ref c4) (.ref ME)=some true
 x5:PySem.W.exmOne K (.ref c5) (.ref ME)=some true
 x6:PySem.W.exmOne K (.ref c6) (.ref ME)=some true
 n4r:yR K c4 "row"
 n4n:yR K c4 "name"
 n5r:yR K c5 "row"
 n5n:yR K c5 "name"
 n6o:yR K c6 "one"
 n6t:yR K c6 "other"
def Tw(H:Hp)(Q:VK)(xs:List V):Prop:= ∀r H',zE H H'->H' r=some (.tup xs)->Q (.ref r) H'
def EX(c0 c1 c2 c3 c4 c5 c6:Addr)(Q:VK):XK:=fun cls d H=>
 (cls= .ref c0/\d=none/\Tw H Q [.str "name"])\/(cls= .ref c1/\d=none/\Tw H Q [.str "number"])\/(cls= .ref c2/\d=none/\Tw H Q [.str "unit"])\/(cls= .ref c3/\d=none/\Tw H Q [.str "table"])\/
 (cls= .ref c4/\ ∃dx x y,d=some dx/\H dx=some (XD dx (ym "name" y [("row",x)]))/\Tw H Q [.str "twice",x,y])\/
 (cls= .ref c5/\ ∃dx x y,d=some dx/\H dx=some (XD dx (ym "name" y [("row",x)]))/\Tw H Q [.str "no name",x,y])\/
 (cls= .ref c6/\ ∃dx x y,d=some dx/\H dx=some (XD dx (ym "other" y [("one",x)]))/\Tw H Q [.str "unlike",x,y])
theorem Tw.same(h:Tw H Q xs)(s:zE H H1):Tw H1 Q xs:=fun r H' s' e=>h r H' (s.trans s') e
section
variable {H:Hp}{Q:VK}{c0 c1 c2 c3 c4 c5 c6:Addr}
theorem zHA(h:Tw H Q [.str "name"]):Rf0 H (EX c0 c1 c2 c3 c4 c5 c6 Q) c0:=fun H' s=> .inl ⟨rfl,rfl,h.same s⟩
theorem zMc(h:Tw H Q [.str "number"]):Rf0 H (EX c0 c1 c2 c3 c4 c5 c6 Q) c1:=fun H' s=> .inr (.inl ⟨rfl,rfl,h.same s⟩)
theorem zJu(h:Tw H Q [.str "unit"]):Rf0 H (EX c0 c1 c2 c3 c4 c5 c6 Q) c2:=fun H' s=> .inr (.inr (.inl ⟨rfl,rfl,h.same s⟩))
theorem zBm(h:Tw H Q [.str "table"]):Rf0 H (EX c0 c1 c2 c3 c4 c5 c6 Q) c3:=fun H' s=> .inr (.inr (.inr (.inl ⟨rfl,rfl,h.same s⟩)))
theorem zNb(h:Tw H Q [.str "twice",x,y]):Rf2 H (EX c0 c1 c2 c3 c4 c5 c6 Q) c4 "row" "name" x y:=fun H' dx s e=> .inr (.inr (.inr (.inr (.inl ⟨rfl,dx,x,y,rfl,e,h.same s⟩))))
theorem zND(h:Tw H Q [.str "no name",x,y]):Rf2 H (EX c0 c1 c2 c3 c4 c5 c6 Q) c5 "row" "name" x y:=fun H' dx s e=> .inr (.inr (.inr (.inr (.inr (.inl ⟨rfl,dx,x,y,rfl,e,h.same s⟩)))))
end
section
variable {H:Hp}{E E':XK}(f: ∀cls d H,E cls d H->E' cls d H)
include f
theorem Rf0.mono(h:Rf0 H E C):Rf0 H E' C:=fun H' s=>f _ _ _ (h H' s)
theorem Rf2.mono(h:Rf2 H E C n1 n2 x y):Rf2 H E' C n1 n2 x y:=fun H' dx s e=>f _ _ _ (h H' dx s e)
theorem zAv.mono(h:zAv C BA BN BU BT TW vs H Q E):zAv C BA BN BU BT TW vs H Q E':=by
 obtain ⟨t,dx,pa,ba,Ns,E0,x,y,z,e,tb,h1,h2,h3,h4⟩:=h;refine ⟨t,dx,pa,ba,Ns,E0,x,y,z,e,tb,h1,h2,h3,?_⟩;cases h4 with
 | name h q=>exact .name h (q.mono f)
 | num h b q=>exact .num h b (q.mono f)
 | good h ha q=>
  refine .good h ha ?_;rcases q with ⟨hb,q⟩|⟨n,u,us,r,a1,a2,a3,a4,a5,a6,a7,q⟩
  ·exact .inl ⟨hb,q.mono f⟩
  ·refine .inr ⟨n,u,us,r,a1,a2,a3,a4,a5,a6,a7,?_⟩;cases r with
   | ok e=>exact q
   | twice=>exact Rf2.mono f q
   | table=>exact Rf0.mono f q
theorem zBx.mono(h:zBx C BA BT NN vs H Q E):zBx C BA BT NN vs H Q E':=by
 obtain ⟨t,dx,pa,ba,Ns,E0,x,e,tb,h1,h2,h3⟩:=h;refine ⟨t,dx,pa,ba,Ns,E0,x,e,tb,h1,h2,?_⟩;rcases h3 with ⟨hn,q⟩|⟨n,a1,a2,⟨hm,q⟩|⟨hm,hs,q⟩| q⟩
 ·exact .inl ⟨hn,q.mono f⟩
 ·exact .inr ⟨n,a1,a2,.inl ⟨hm,q.mono f⟩⟩
 ·exact .inr ⟨n,a1,a2,.inr (.inl ⟨hm,hs,q.mono f⟩)⟩
 ·exact .inr ⟨n,a1,a2,.inr (.inr q)⟩
theorem zAq.mono(h:zAq C BU BT vs H Q E):zAq C BU BT vs H Q E':=by
 obtain ⟨t,dx,pa,ba,Ns,E0,x,e,tb,h1,h2,h3⟩:=h;refine ⟨t,dx,pa,ba,Ns,E0,x,e,tb,h1,h2,?_⟩;rcases h3 with ⟨hn,q⟩|⟨u,us,a1,a2,a3,a4,⟨pl,q⟩| q⟩
 ·exact .inl ⟨hn,q.mono f⟩
 ·exact .inr ⟨u,us,a1,a2,a3,a4,.inl ⟨pl,q.mono f⟩⟩
 ·exact .inr ⟨u,us,a1,a2,a3,a4,.inr q⟩
theorem zDk.mono(h:zDk C BA NN vs H Q E):zDk C BA NN vs H Q E':=by
 obtain ⟨t,dx,pa,ba,Ns,E0,x,e,tb,h1,h3⟩:=h;refine ⟨t,dx,pa,ba,Ns,E0,x,e,tb,h1,?_⟩;rcases h3 with ⟨hn,q⟩|⟨n,a1,a2,q |⟨hm,q⟩⟩
 ·exact .inl ⟨hn,q.mono f⟩
 ·exact .inr ⟨n,a1,a2,.inl q⟩
 ·exact .inr ⟨n,a1,a2,.inr ⟨hm,q.mono f⟩⟩
theorem zCG.mono(h:zCG C BN BU BT UN vs H Q E):zCG C BN BU BT UN vs H Q E':=by
 obtain ⟨t,dx,pa,ba,Ns,E0,x,y,z,e,tb,h1,h2,h3⟩:=h;refine ⟨t,dx,pa,ba,Ns,E0,x,y,z,e,tb,h1,h2,?_⟩;rcases h3 with ⟨hn,q⟩|⟨p,a,b,a1,a2,a3,a4,a5,h3⟩
 ·exact .inl ⟨hn,q.mono f⟩
 refine .inr ⟨p,a,b,a1,a2,a3,a4,a5,?_⟩;rcases h3 with ⟨hn,q⟩|⟨u,us,b1,b2,b3,b4,⟨pl,q⟩|⟨a1,b1',f1,pl,h3⟩⟩
 ·exact .inl ⟨hn,q.mono f⟩
 ·exact .inr ⟨u,us,b1,b2,b3,b4,.inl ⟨pl,q.mono f⟩⟩
 refine .inr ⟨u,us,b1,b2,b3,b4,.inr ⟨a1,b1',f1,pl,?_⟩⟩;rcases h3 with ⟨hn,q⟩|⟨v,vs,d1,d2,d3,d4,⟨pl,q⟩|⟨a2,b2,f2,pl,⟨ne,q⟩| q⟩⟩
 ·exact .inl ⟨hn,q.mono f⟩
 ·exact .inr ⟨v,vs,d1,d2,d3,d4,.inl ⟨pl,q.mono f⟩⟩
 ·exact .inr ⟨v,vs,d1,d2,d3,d4,.inr ⟨a2,b2,f2,pl,.inl ⟨ne,fun H' dx u v s1 s2 s3 s4=>f _ _ _ (q H' dx u v s1 s2 s3 s4)⟩⟩⟩
 ·exact .inr ⟨v,vs,d1,d2,d3,d4,.inr ⟨a2,b2,f2,pl,.inr q⟩⟩
end
section
variable {P:Program}{w:World}{K:zVK}{mg:Str->Option Value}{base:Heap}
def zCM(C c0 c1 c2 c3 c4 c5 c6:Addr):Sp:=fun vs H Q _=> ∃(way:Int) (t l:Addr) (xs:List V),vs= [.int way,.ref t,.ref l] /\H l=some (.lst xs)/\(∃dx fs,H t=some (.ins C dx fs)/\(∀m∈ [("define" :Str),"drop","plain","into","made_of"],fs.lookup m=none))/\
 ((way=0/\(∃x y z,xs= [x,y,z])/\zAv C c0 c1 c2 c3 c4 (.ref t::xs) H Q (EX c0 c1 c2 c3 c4 c5 c6 Q))\/(way=1/\(∃x,xs= [x])/\zBx C c0 c3 c5 (.ref t::xs) H Q (EX c0 c1 c2 c3 c4 c5 c6 Q))\/(way=2/\(∃x,xs= [x])/\zAq C c2 c3 (.ref t::xs) H Q (EX c0 c1 c2 c3 c4 c5 c6 Q))\/
  (way=3/\(∃x y z,xs= [x,y,z])/\zCG C c1 c2 c3 c6 (.ref t::xs) H Q (EX c0 c1 c2 c3 c4 c5 c6 Q))\/(way=4/\(∃x,xs= [x])/\zDk C c0 c5 (.ref t::xs) H Q (EX c0 c1 c2 c3 c4 c5 c6 Q)))
theorem zKQ:FnScope ["_law_way","_law_table","_law_things","_law_e"] ["_law_way","_law_table","_law_things"] (zK zCF):=fs
theorem zNq(F:Fun K "_law_tried" "_law_tried" zCF f fd)(B:Bn mg)(T:TC K C)(R:Rfs K c0 c1 c2 c3 c4 c5 c6 c7 c8 c9 c10 c11 c12 ME)(mME:mg "MeasureError" =some (.ref ME))
  (FC:Fun K "_law_class" "_law_class" zIN fC fdC) (bC:zL K fdC ["_law_e"] []) (mC:mg "_law_class" =some (.ref fC)) (GC:FnOkH P w K mg base 1 fC fdC ["_law_e"] (zKy K c0 c1 c2 c3 c4 c5 c6 c7 c8 c9 c10 c11 c12))
  (mtD:Meth K C "define" fD) (bD:zL K fdD ["self","name","amount","unit"] []) (GD:FnOk P w K mg base (yF P w) 7 fD fdD ["self","name","amount","unit"] (zAv C c0 c1 c2 c3 c4))
  (mtR:Meth K C "drop" fR) (bR:zL K fdR ["self","name"] []) (GR:FnOk P w K mg base (yF P w) 5 fR fdR ["self","name"] (zBx C c0 c3 c5))
  (mtL:Meth K C "plain" fL) (bL:zL K fdL ["self","unit"] []) (GL:FnOk P w K mg base (yF P w) 6 fL fdL ["self","unit"] (zAq C c2 c3))
  (mtI:Meth K C "into" fI) (bI:zL K fdI ["self","amount","unit","wanted"] []) (GI:FnOk P w K mg base (yF P w) 7 fI fdI ["self","amount","unit","wanted"] (zCG C c1 c2 c3 c6))
  (mtO:Meth K C "made_of" fO) (bO:zL K fdO ["self","name"] []) (GO:FnOk P w K mg base (yF P w) 5 fO fdO ["self","name"] (zDk C c0 c5)):
  FnOk P w K mg base CX0 8 f fd ["_law_way","_law_table","_law_things"] (zCM C c0 c1 c2 c3 c4 c5 c6):=by
 refine F.ok zKQ (fun vs H Q E h=>?_) (fun _ A _ s H vs Q E hr h=>?_)
 ·obtain ⟨way,t,l,xs,rfl,_⟩:=h;rfl
 ·obtain ⟨way,t,l,xs,rfl,el,⟨dx,fs,et,nf⟩,h⟩:=h;have hr7:Room 7 _:=hr;have hr6:Room 6 _:=hr.mono (by decide);have hr5:Room 5 _:=hr.mono (by decide);have hr1:Room 1 _:=hr.mono (by decide);have cl:=T.cl;refine ⟨_,QB.out (zJ
   (zRI (K:=K) 3 rfl rfl rfl zKQ.nd rfl rfl rfl (.inl mME) (fun ps xe E hp=>(zH
    (zq (zY zAI (qw 0 rfl) zF rfl) (zJ
     (zW (zAl (qw 1 rfl) cl mtD GD hr7 bD .nil hp (qc (yH (K:=K) rfl (qw 2 rfl) zF (fun _ _=>rfl)) (qc (yH (K:=K) rfl (qw 2 rfl) zF (fun _ _=>rfl)) (qc (yH (K:=K) rfl (qw 2 rfl) zF (fun _ _=>rfl)) zD rfl) rfl) rfl) rfl rfl rfl))) zn) (zH
    (zq (zY zAI (qw 0 rfl) zF rfl) (zJ
     (zW (zAl (qw 1 rfl) cl mtR GR hr5 bR .nil hp (qc (yH (K:=K) rfl (qw 2 rfl) zF (fun _ _=>rfl)) zD rfl) rfl rfl rfl))) zn) (zH
    (zq (zY zAI (qw 0 rfl) zF rfl) (zJ
     (zW (zAl (qw 1 rfl) cl mtL GL hr6 bL .nil hp (qc (yH (K:=K) rfl (qw 2 rfl) zF (fun _ _=>rfl)) zD rfl) rfl rfl rfl))) zn) (zH
    (zq (zY zAI (qw 0 rfl) zF rfl) (zJ
     (zW (zAl (qw 1 rfl) cl mtI GI hr7 bI .nil hp (qc (yH (K:=K) rfl (qw 2 rfl) zF (fun _ _=>rfl)) (qc (yH (K:=K) rfl (qw 2 rfl) zF (fun _ _=>rfl)) (qc (yH (K:=K) rfl (qw 2 rfl) zF (fun _ _=>rfl)) zD rfl) rfl) rfl) rfl rfl rfl))) zn) (zJ
    (zW (zAl (qw 1 rfl) cl mtO GO hr5 bO .nil hp (qc (yH (K:=K) rfl (qw 2 rfl) zF (fun _ _=>rfl)) zD rfl) rfl rfl rfl)))))))) (fun e=>(zJ
    (zW (zPq GC hr1.mark rfl mC FC.kp bC (qc (qw 3 rfl) zD rfl) rfl rfl rfl)))) rfl)),?_⟩
  unfold zLG;generalize hE:zGN K (Value.ref ME) 3 _ _=EE;have hnd: ∀cls d H',EX c0 c1 c2 c3 c4 c5 c6 Q cls d H'->EE [some (.int way),some (.ref t),some (.ref l),none] cls d H':=by
   intro cls d H' h;rw [<-hE];rcases h with ⟨rfl,rfl,q⟩|⟨rfl,rfl,q⟩|⟨rfl,rfl,q⟩|⟨rfl,rfl,q⟩|⟨rfl,dx,x,y,rfl,e,q⟩|⟨rfl,dx,x,y,rfl,e,q⟩|⟨rfl,dx,x,y,rfl,e,q⟩
   ·refine ⟨R.x0,fun ea hea=>?_⟩;refine ⟨_,rfl,ea,c0,KAt ea (.ref c0),0,_,_,_,_,_,_,_,rfl,zC,fun _ z=>z,.z0,R.l0,.inl ⟨by decide,fun r H2 s2 e2=>?_⟩⟩;exact q r H2 ((zE.upd hea).trans s2) e2
   ·refine ⟨R.x1,fun ea hea=>?_⟩;refine ⟨_,rfl,ea,c1,KAt ea (.ref c1),1,_,_,_,_,_,_,_,rfl,zC,fun _ z=>z,.z1,R.l1,.inl ⟨by decide,fun r H2 s2 e2=>?_⟩⟩;exact q r H2 ((zE.upd hea).trans s2) e2
   ·refine ⟨R.x2,fun ea hea=>?_⟩;refine ⟨_,rfl,ea,c2,KAt ea (.ref c2),2,_,_,_,_,_,_,_,rfl,zC,fun _ z=>z,.z2,R.l2,.inl ⟨by decide,fun r H2 s2 e2=>?_⟩⟩;exact q r H2 ((zE.upd hea).trans s2) e2
   ·refine ⟨R.x3,fun ea hea=>?_⟩;refine ⟨_,rfl,ea,c3,KAt ea (.ref c3),3,_,_,_,_,_,_,_,rfl,zC,fun _ z=>z,.z3,R.l3,.inl ⟨by decide,fun r H2 s2 e2=>?_⟩⟩;exact q r H2 ((zE.upd hea).trans s2) e2
   ·refine ⟨R.x4,fun ea hea=>?_⟩;refine ⟨_,rfl,ea,c4,XCf ea (.ref c4) dx,4,_,_,_,_,_,_,_,rfl,zC,fun h z=>zIy h z,.z4,R.l4,.inr (.inl ⟨.inl rfl,dx,_,x,y,zC,by rw [zG (zI e hea)];exact e,R.n4r,R.n4n,zGt (by decide) (lk1 _ _),zHB _ _ _,fun r H2 s2 e2=>?_⟩)⟩;exact q r H2 ((zE.upd hea).trans s2) e2
   ·refine ⟨R.x5,fun ea hea=>?_⟩;refine ⟨_,rfl,ea,c5,XCf ea (.ref c5) dx,5,_,_,_,_,_,_,_,rfl,zC,fun h z=>zIy h z,.z5,R.l5,.inr (.inl ⟨.inr rfl,dx,_,x,y,zC,by rw [zG (zI e hea)];exact e,R.n5r,R.n5n,zGt (by decide) (lk1 _ _),zHB _ _ _,fun r H2 s2 e2=>?_⟩)⟩;exact q r H2 ((zE.upd hea).trans s2) e2
   ·refine ⟨R.x6,fun ea hea=>?_⟩;refine ⟨_,rfl,ea,c6,XCf ea (.ref c6) dx,6,_,_,_,_,_,_,_,rfl,zC,fun h z=>zIy h z,.z6,R.l6,.inr (.inr ⟨rfl,dx,_,x,y,zC,by rw [zG (zI e hea)];exact e,R.n6o,R.n6t,zGt (by decide) (lk1 _ _),zHB _ _ _,fun r H2 s2 e2=>?_⟩)⟩;exact q r H2 ((zE.upd hea).trans s2) e2
  rcases h with ⟨rfl,⟨x,y,z,rfl⟩,h⟩|⟨rfl,⟨x,rfl⟩,h⟩|⟨rfl,⟨x,rfl⟩,h⟩|⟨rfl,⟨x,y,z,rfl⟩,h⟩|⟨rfl,⟨x,rfl⟩,h⟩
  ·refine ⟨_,rfl,rfl,_,rfl,zZ ?_⟩;refine ⟨_,rfl,t,dx,fs,rfl,et,nf "define" (by decide),_,rfl,l,_,_,_,rfl,rfl,SqL.of el,rfl,_,rfl,l,_,_,_,rfl,rfl,SqL.of el,rfl,_,rfl,l,_,_,_,rfl,rfl,SqL.of el,rfl,?_⟩;exact zAv.mono hnd h
  ·refine ⟨_,rfl,rfl,_,rfl,zM ?_⟩;refine ⟨_,rfl,rfl,_,rfl,zZ ?_⟩;refine ⟨_,rfl,t,dx,fs,rfl,et,nf "drop" (by decide),_,rfl,l,_,_,_,rfl,rfl,SqL.of el,rfl,?_⟩;exact zBx.mono hnd h
  ·refine ⟨_,rfl,rfl,_,rfl,zM ?_⟩;refine ⟨_,rfl,rfl,_,rfl,zM ?_⟩;refine ⟨_,rfl,rfl,_,rfl,zZ ?_⟩;refine ⟨_,rfl,t,dx,fs,rfl,et,nf "plain" (by decide),_,rfl,l,_,_,_,rfl,rfl,SqL.of el,rfl,?_⟩;exact zAq.mono hnd h
  ·refine ⟨_,rfl,rfl,_,rfl,zM ?_⟩;refine ⟨_,rfl,rfl,_,rfl,zM ?_⟩;refine ⟨_,rfl,rfl,_,rfl,zM ?_⟩;refine ⟨_,rfl,rfl,_,rfl,zZ ?_⟩;refine ⟨_,rfl,t,dx,fs,rfl,et,nf "into" (by decide),_,rfl,l,_,_,_,rfl,rfl,SqL.of el,rfl,_,rfl,l,_,_,_,rfl,rfl,SqL.of el,rfl,_,rfl,l,_,_,_,rfl,rfl,SqL.of el,rfl,?_⟩;exact zCG.mono hnd h
  ·refine ⟨_,rfl,rfl,_,rfl,zM ?_⟩;refine ⟨_,rfl,rfl,_,rfl,zM ?_⟩;refine ⟨_,rfl,rfl,_,rfl,zM ?_⟩;refine ⟨_,rfl,rfl,_,rfl,zM ?_⟩;refine ⟨_,rfl,t,dx,fs,rfl,et,nf "made_of" (by decide),_,rfl,l,_,_,_,rfl,rfl,SqL.of el,rfl,?_⟩;exact zDk.mono hnd h
theorem zRW{CX:CXT}{P:Program}{w:World}{K:zVK}{mg:Str->Option Value}{base:Heap}{k:Nat}{f:Addr}{fd:FuncData}{ps:List Str}{sp sp':Sp}(G:FnOk P w K mg base CX k f fd ps sp)(h: ∀vs H Q E,sp' vs H Q E->sp vs H Q E):FnOk P w K mg base CX k f fd ps sp':=
 ⟨fun vs H Q E z=>G.len _ _ _ _ (h _ _ _ _ z),fun A outer s H args us vs Q E a b c d z=>G.run A outer s H args us vs Q E a b c d (h _ _ _ _ z)⟩
def PlV(H:Hp)(v:V):Option (Nat×Nat×Prs)->Prop
 | none=>v= .non
 | some (a,b,f)=> ∃r un,v= .ref r/\H r=some (.tup [.int (a:Int),.int (b:Int),.ref un])/\zx H un f
theorem PlV.same{r:Option (Nat×Nat×Prs)}(h:PlV H v r)(s:zE H H'):PlV H' v r:=by
 cases r with
 | none=>exact h
 | some r=>
  obtain ⟨a,b,f⟩:=r;obtain ⟨r,un,h1,h2,h3⟩:=h;exact ⟨r,un,h1,s _ _ h2,h3.same s⟩
def zCl:Sp:=fun vs H Q _=> ∃(Ns:List Str) (wd ma fl nm u:Addr) (E:List Ent) (us:Prs),vs= [.ref wd,.ref u] /\Wd Ns wd ma fl nm H E/\zx H u us/\GoodU Ns us/\us.length<=3/\ ∀v r H',zE H H'->Pl E us r->PlV H' v r->Q v H'
theorem zPe{CX:CXT}{P:Program}{w:World}{K:zVK}{mg:Str->Option Value}{base:Heap}{k:Nat}{f:Addr}{fd:FuncData}{ps:List Str}(G:FnOk P w K mg base CX k f fd ps zIn):FnOk P w K mg base CX k f fd ps zCl:=
 zRW G fun vs H Q E ⟨Ns,wd,ma,fl,nm,u,E0,us,h1,h2,h3,h4,h5,q⟩=>⟨Ns,wd,ma,fl,nm,u,E0,us,h1,h2,h3,h4,h5,fun H' s pl=>q _ none H' s pl rfl,fun a b f pl H' r un s e1 e2=>q _ (some (a,b,f)) H' s pl ⟨r,un,rfl,e1,e2⟩⟩
def But(ex:List Addr)(H H':Hp):Prop:= ∀b u,H b=some u->b∉ex->H' b=some u
theorem But.tps(h:But ex H H')(hd: ∀a∈ex,∃kvs,H a=some (.dK kvs)):Tps H H':=fun a xs e=>h a _ e fun z=>by
 obtain ⟨kvs,e2⟩:=hd a z;rw [e] at e2;cases e2
theorem But.then_same(h:But ex H H1)(s:zE H1 H2):But ex H H2:=fun b u e z=>s _ _ (h b u e z)
theorem But.more(h:But ex H H')(k: ∀a∈ex,a∈ey):But ey H H':=fun b u e z=>h b u e fun y=>z (k b y)
theorem But.trans(h:But ex H H1)(k:But ex H1 H2):But ex H H2:=fun b u e z=>k b u (h b u e z) z
theorem Tb.but{E:List Ent}(h:Tb Ns C dx pa ba H t E)(k:But ex H H')(hp:pa∉ex)(hb:ba∉ex)(hd: ∀a∈ex,∃kvs,H a=some (.dK kvs)):Tb Ns C dx pa ba H' t E:=by
 obtain ⟨kp,e1,p1⟩:=h.ps;obtain ⟨kb,e2,p2⟩:=h.bs;have tp:=k.tps hd;refine ⟨k _ _ h.at_ (fun z=>?_),h.ne,⟨kp,k _ _ e1 hp,Paired.mapP p1 fun a b z=>z.tps tp⟩,⟨kb,k _ _ e2 hb,Paired.mapP p2 fun a b z=>z.tps tp⟩,h.ok,h.len⟩;obtain ⟨kvs,e⟩:=hd t z;rw [h.at_] at e;cases e
theorem Wd.but{Ns:List Str}{wd ma fl nm:Addr}{H H':Hp}{E:List Ent}{ex:List Addr}(h:Wd Ns wd ma fl nm H E)(k:But ex H H')(hw:wd∉ex)(hm:ma∉ex)(hf:fl∉ex)(hd: ∀a∈ex,∃kvs,H a=some (.dK kvs)):Wd Ns wd ma fl nm H' E:=by
 obtain ⟨k1,e1,p1⟩:=h.ma;obtain ⟨k2,e2,p2⟩:=h.fl;have tp:=k.tps hd;refine ⟨k _ _ h.at_ hw,h.ne,h.wm,h.wf,⟨k1,k _ _ e1 hm,Paired.mapP p1 fun a b z=>z.tps tp⟩,⟨k2,k _ _ e2 hf,Paired.mapP p2 fun a b z=>z.tps tp⟩,k _ _ h.nm (fun z=>?_),h.ok,h.len,h.l14,h.l0,h.nms,h.nd⟩;obtain ⟨kvs,e⟩:=hd nm z;rw [h.nm] at e;cases e
structure Sst(Ns:List Str)(C dx pa ba t wd ma fl nm:Addr)(H:Hp)(E:List Ent):Prop where
 tb:Tb Ns C dx pa ba H t E
 w:Wd Ns wd ma fl nm H E
 ap:pa≠ma/\pa≠fl/\pa≠wd/\ba≠ma/\ba≠fl/\ba≠wd
def nxE(E0:List Ent):DfR->List Ent
 | .ok e=>E0++ [e]
 | _=>E0
inductive Due (H:Hp) (n:Str):DfR->V->Prop
 | tw {r:Addr} (h:H r=some (.tup [.str "twice",.non,.str n])):Due H n .twice (.ref r)
 | tb {r:Addr} (h:H r=some (.tup [.str "table"])):Due H n .table (.ref r)
 | ok {e:Ent}:Due H n (.ok e) .non
def twD(w:Str)(n:Str):PyData:= .tuple [.str w,.none,.str n]
def wdD(w:Str):PyData:= .tuple [.str w]
theorem lkN(x y:V): ∀m∈ [("define" :Str),"drop","plain","into","made_of"],([("pairs",x),("bases",y)] :List (Str×V)).lookup m=none:=by
 intro m hm;have h1:(m==("pairs" :Str))=false:=by
  have: ∀m∈ [("define" :Str),"drop","plain","into","made_of"],(m==("pairs" :Str))=false:=by decide
  exact this m hm
 have h2:(m==("bases" :Str))=false:=by
  have: ∀m∈ [("define" :Str),"drop","plain","into","made_of"],(m==("bases" :Str))=false:=by decide
  exact this m hm
 rw [List.lookup_cons,h1,List.lookup_cons,h2];rfl
theorem zDu(h:Nm n):Ths H (.str n):=⟨.str n,fun z e=>by cases e;have:=h.len;omega⟩
theorem zGg.tps(h:zGg H x a b)(s:Tps H H'):zGg H' x a b:=let ⟨p,e,h1,h2⟩:=h;⟨p,e,s _ _ h1,h2⟩
theorem zFj{w:Str}(h:H r=some (.tup [.str w,.non,.str n])):Dat H (k+1) (.ref r) (twD w n):= .inr ⟨_,_,rfl,h,.cons zEm (.cons zDN (.cons zEm .nil))⟩
theorem zCD{w:Str}(h:H r=some (.tup [.str w])):Dat H (k+1) (.ref r) (wdD w):= .inr ⟨_,_,rfl,h,.cons zEm .nil⟩
theorem zDC{w:Str}(hw:PyData.strOk w=true)(hn:PyData.strOk n=true):(twD w n).canLay0=true:=by unfold twD;simp only [PyData.canLay0,PyData.canLayAll0,hw,hn,Bool.and_self]
theorem zAk{w:Str}(hw:PyData.strOk w=true):(wdD w).canLay0=true:=by unfold wdD;simp only [PyData.canLay0,PyData.canLayAll0,hw,Bool.and_self]
def zJQ(C:Addr):Sp:=fun vs H Q _=> ∃(Ns:List Str) (dx pa ba t wd ma fl nm u:Addr) (E:List Ent) (n:Str) (y:V) (a b:Nat) (us:Prs),vs= [.ref wd,.ref t,.str n,y,.ref u] /\Sst Ns C dx pa ba t wd ma fl nm H E/\n∈Ns/\zGg H y a b/\zx H u us/\GoodU Ns us/\us.length<=3/\
 ∀H' E',But [pa,ba,ma,fl] H H'->Sst Ns C dx pa ba t wd ma fl nm H' E'->Q (.bl true) H'
theorem zBK:FnScope ["_law_world","_law_table","_law_name","_law_amount_here","_law_unit_here","_law_plain_here","_law_due","_law_above","_law_below","_law_shared"] ["_law_world","_law_table","_law_name","_law_amount_here","_law_unit_here"] (zK zIG):=fs
theorem zPJ{f fP fU fC fT C c0 c1 c2 c3 c4 c5 c6:Addr}{fd fdP fdU fdC fdT:FuncData}(F:Fun K "_law_defined" "_law_defined" zIG f fd)(B:Bn mg)(ht:P.given.tree=none)
  (FP:Fun K "_law_plain" "_law_plain" zDK fP fdP) (bP:zL K fdP ["_law_world","_law_unit_here"] []) (mP:mg "_law_plain" =some (.ref fP)) (GP:FnOk P w K mg base CX0 35 fP fdP ["_law_world","_law_unit_here"] zCl)
  (FU:Fun K "_law_is_used" "_law_is_used" zES fU fdU) (bU:zL K fdU ["_law_world","_law_name"] []) (mU:mg "_law_is_used" =some (.ref fU)) (GU:FnOk P w K mg base CX0 1 fU fdU ["_law_world","_law_name"] zGF)
  (FC:Fun K "_law_common" "_law_common" zEE fC fdC) (bC:zL K fdC ["_law_one","_law_other"] []) (mC:mg "_law_common" =some (.ref fC)) (GC:FnOk P w K mg base CX0 34 fC fdC ["_law_one","_law_other"] zDJ)
  (FT:Fun K "_law_tried" "_law_tried" zCF fT fdT) (bT:zL K fdT ["_law_way","_law_table","_law_things"] []) (mT:mg "_law_tried" =some (.ref fT)) (GT:FnOk P w K mg base CX0 8 fT fdT ["_law_way","_law_table","_law_things"] (zCM C c0 c1 c2 c3 c4 c5 c6)):
  FnOk P w K mg base CX0 36 f fd ["_law_world","_law_table","_law_name","_law_amount_here","_law_unit_here"] (zJQ C):=by
 refine F.ok zBK (fun vs H Q E h=>?_) (fun cdv A outer s H vs Q E hr h=>?_)
 ·obtain ⟨Ns,dx,pa,ba,t,wd,ma,fl,na,u,E0,n,y,a,b,us,rfl,_⟩:=h;rfl
 ·obtain ⟨Ns,dx,pa,ba,t,wd,ma,fl,na,u,E0,n,y,a,b,us,rfl,S,hn,am,⟨ts,eu,pu⟩,gu,h3,q⟩:=h;have hr35:Room 35 _:=hr;have hr34:Room 34 _:=hr.mono (by decide);have hr8:Room 8 _:=hr.mono (by decide);have hr1:Room 1 _:=hr.mono (by decide);have hu:=zAD hr;have huD:_+8<cLine:=zUb (zVF (by decide:8<=64) _) hr.units;have lu:=Paired.length pu;have deep:=zDG (CX:=CX0) (P:=P) (w:=w) (K:=K) (mg:=mg) (base:=base) (N:= ["_law_world","_law_table","_law_name","_law_amount_here","_law_unit_here","_law_plain_here","_law_due","_law_above","_law_below","_law_shared"]) (H:=H) (E:=E) (outer:=outer) hr (by decide) ht rfl rfl |>.nox;refine ⟨_,QB.out (zH
   (zT 5 zBK.nd rfl (zP GP hr35 rfl mP FP.kp bP .nil zO (qc (qw 0 rfl) (qc (qw 4 rfl) zD rfl) rfl) rfl rfl rfl) rfl) (zH
   (zT 6 zBK.nd rfl zBE rfl) (zH
   (zq (zLN hu (qw 2 rfl) (zo hu (qw 0 rfl) zN (fun _ _=>rfl)) rfl) (zJ
    (zT 6 zBK.nd rfl (zQ (qc zN (qc zBE (qc (qw 2 rfl) zD rfl) rfl) rfl)) rfl)) (zJ
    (zq (t_w (zAr (zY (zEC (K:=K) rfl) (qw 2 rfl) (ye (cl:= []) ["_law_own","_law_exponent"] [] [] rfl (zBt (K:=K) rfl (qw 4 rfl)) rfl (by decide+kernel) rfl (by decide+kernel) (fun _ _ h=>nomatch h) rfl (fun j y i h=>nomatch h) (yL rfl) (fun _ _ _ _=>(zEo (K:=K) (n:=2) rfl rfl (zAj (zm 0 (show (["_law_own","_law_exponent"] :List Str).Nodup by decide+kernel) rfl (.inl rfl) (.inr rfl)) (zAj (zm 1 (show (["_law_own","_law_exponent"] :List Str).Nodup by decide+kernel) rfl (.inl rfl) (.inr rfl)) zEh rfl) rfl) rfl rfl)) (fun _ _ _ _=>zBh) (fun _ _ _ _=>(qw 0 rfl)) (fun _=>rfl)) rfl) (zAr (yb (zP GU hr1 rfl mU FU.kp bU .nil zO (qc (qw 0 rfl) (qc (qw 2 rfl) zD rfl) rfl) rfl rfl rfl) (fun _=>rfl)) (zAu (zLM (qw 5 rfl) rfl))))) (zJ
     (zT 6 zBK.nd rfl (zQ (qc zN zD rfl)) rfl)) (zJ
     (zq (zY zAI (yE zEF rfl B.len zAU (qc (zo hu (qw 0 rfl) zN (fun _ _=>rfl)) zD rfl) rfl) zF rfl) (zJ
      (zT 6 zBK.nd rfl (zQ (qc zN zD rfl)) rfl)) (zH
      (zT 7 zBK.nd rfl (zCB (zR (K:=K) rfl (qw 3 rfl) zF (fun _ _=>rfl)) (zR (K:=K) rfl (qw 5 rfl) zF (fun _ _=>rfl))) rfl) (zH
      (zT 8 zBK.nd rfl (zCB (zR (K:=K) rfl (qw 3 rfl) zF (fun _ _=>rfl)) (zR (K:=K) rfl (qw 5 rfl) zF (fun _ _=>rfl))) rfl) (zH
      (zT 9 zBK.nd rfl (zP GC hr34 rfl mC FC.kp bC .nil zO (qc (qw 7 rfl) (qc (qw 8 rfl) zD rfl) rfl) rfl rfl rfl) rfl) (zJ
      (zq (zY zLa (zAY deep (yE (zHW rfl) rfl B.max zNF (qc (qw 7 rfl) (qc (qw 8 rfl) zD rfl) rfl) rfl) (qw 9 rfl)) (zMb (zIA zF zF) zF) rfl) (zJ
       (zT 6 zBK.nd rfl (zQ (qc zN zD rfl)) rfl)) (zH
       (zCC hu (zo hu (qw 0 rfl) zN (fun _ _=>rfl)) (qw 2 rfl) (zQ (qc (zAY deep (qw 7 rfl) (qw 9 rfl)) (qc (zAY deep (qw 8 rfl) (qw 9 rfl)) (qc (zR (K:=K) rfl (qw 5 rfl) zF (fun _ _=>rfl)) zD rfl) rfl) rfl)) rfl) (zJ
       (zCC hu (zo hu (qw 0 rfl) zN (fun _ _=>rfl)) (qw 2 rfl) (zQ (qc (qw 3 rfl) (qc (qw 4 rfl) zD rfl) rfl)) rfl))))))))))))) (zJ
   (zW (zBf (zBo (n:=8) huD) (zP GT hr8 rfl mT FT.kp bT .nil zO (qc zF (qc (qw 1 rfl) (qc (zy (qc (qw 2 rfl) (qc (qw 3 rfl) (qc (qw 4 rfl) zD rfl) rfl) rfl)) zD rfl) rfl) rfl) rfl rfl rfl) (qw 6 rfl) rfl)))))),?_⟩
  generalize hT:zLP (tOp (zCs 8 false) _ _)=T2;obtain ⟨ap1,ap2,ap3,ap4,ap5,ap6⟩:=S.ap;have W:=S.w;have nmn:=W.nms n hn;have dM: ∀x∈ [ma,fl],∃kvs,H x=some (.dK kvs):=fun x hx=>by
   obtain ⟨k1,e1,_⟩:=W.ma;obtain ⟨k2,e2,_⟩:=W.fl;simp only [zVL,zVV,or_false] at hx;rcases hx with rfl | rfl
   ·exact ⟨_,e1⟩
   ·exact ⟨_,e2⟩
  have tail: ∀(v5 v7 v8 v9:Option V) (due:V) (r:DfR) (H':Hp),Df E0 n a b us r->Due H' n r due->Wd Ns wd ma fl na H' (nxE E0 r)->But [ma,fl] H H'->
    T2 {nx:=fun _ H'=>Q .non H',rt:=Q} [some (.ref wd),some (.ref t),some (.str n),some y,some (.ref u),v5,some due,v7,v8,v9] H':=by
   intro v5 v7 v8 v9 due r H1 d du W1 bt;rw [<-hT];have tb1:=S.tb.but bt (by simp [ap1,ap2]) (by simp [ap4,ap5]) dM;have tp1:=bt.tps dM;refine ⟨_,rfl,_,rfl,_,rfl,_,rfl,bs 3,fun l hl=>?_⟩;have s2:=zE.upd hl (o:= .lst [.str n,y,.ref u]);have el:(L2.upd H1 l (.lst [.str n,y,.ref u])) l=some (.lst [.str n,y,.ref u]):=zC;generalize L2.upd H1 l (.lst [.str n,y,.ref u])=H2 at s2 el⊢;have tp2:=Tps.trans tp1 (zE.tps s2);have tb2:=tb1.same s2;have W2:=W1.same s2;obtain ⟨kp,ep,_⟩:=tb2.ps;obtain ⟨kb,eb,_⟩:=tb2.bs;have b2:But [pa,ba,ma,fl] H H2:=(bt.then_same s2).more (by simp);refine ⟨0,t,l,_,rfl,el,⟨dx,_,tb2.at_,lkN _ _⟩,.inl ⟨rfl,⟨_,_,_,rfl⟩,t,dx,pa,ba,Ns,E0,.str n,y,.ref u,rfl,tb2,W.l14,W.nms,zDu nmn,.good nmn (am.tps tp2) (.inr ⟨n,u,us,r,rfl,rfl,hn,zx.tps ⟨ts,eu,pu⟩ tp2,gu,h3,d,?_⟩)⟩⟩;cases du with
   | tw h=>
    refine zNb fun r' H3 s3 e3=>?_;refine ⟨_,rfl,twD "twice" n,twD "twice" n,zFj e3,zFj ((s2.trans s3) _ _ h),zDC (by decide+kernel) nmn.ok,zDC (by decide+kernel) nmn.ok,?_⟩;rw [SeqAt.eqv_refl _ (zDC (by decide+kernel) nmn.ok)];exact q H3 E0 (b2.then_same s3) ⟨tb2.same s3,W2.same s3,S.ap⟩
   | tb h=>
    refine zBm fun r' H3 s3 e3=>?_;refine ⟨_,rfl,wdD "table",wdD "table",zCD e3,zCD ((s2.trans s3) _ _ h),zAk (by decide+kernel),zAk (by decide+kernel),?_⟩;rw [SeqAt.eqv_refl _ (zAk (by decide+kernel))];exact q H3 E0 (b2.then_same s3) ⟨tb2.same s3,W2.same s3,S.ap⟩
   | @ok e=>
    refine fun H3 kp3 tb3=>?_;have b3:But [pa,ba] H2 H3:=fun b u hb z=>kp3 b u hb (fun y=>z (by simp [y])) (fun y=>z (by simp [y]));refine ⟨_,rfl,.none,.none,zDN,zDN,rfl,rfl,?_⟩;refine q H3 (E0++ [e]) (b2.trans (b3.more (by simp))) ⟨tb3,W2.but b3 (by simp [ap3.symm,ap6.symm]) (by simp [ap1.symm,ap4.symm]) (by simp [ap2.symm,ap5.symm]) (fun x hx=>?_),S.ap⟩;simp only [zVL,zVV,or_false] at hx;rcases hx with rfl | rfl
    ·exact ⟨_,ep⟩
    ·exact ⟨_,eb⟩
  refine ⟨_,rfl,_,rfl,Ns,wd,ma,fl,na,u,E0,us,rfl,W,⟨ts,eu,pu⟩,gu,h3,fun v r' H1 s1 pl pv=>?_⟩;have W1:=W.same s1;have sb: ∀{H':Hp},zE H H'->But [ma,fl] H H':=fun s b u e _=>s _ _ e;obtain ⟨km,em,pm⟩:=W1.ma;have os:(yI km (.inr n)).isSome=made E0 n:=by
   rw [zAO];rcases yO pk n pm with ⟨a,b⟩|⟨e,v,a,b,_⟩
   ·rw [a,b];rfl
   ·rw [a,b];rfl
  refine ⟨_,rfl,_,rfl,wd,_,rfl,W1.gm,ma,yI km (.inr n),rfl,.inl ⟨km,.inr n,.inl em,rfl,rfl⟩,_,rfl,?_⟩;rw [os];cases hm:made E0 n with
  | true=>
   refine zZ ?_;refine ⟨_,rfl,bs 3,fun r hr'=>?_⟩;have s2:=zE.upd hr' (o:= .tup [.str "twice",.non,.str n]);exact tail _ _ _ _ _ .twice _ (Df.tw hm) (.tw zC) (W1.same s2) (sb (s1.trans s2))
  | false=>
  refine zM ?_;have no: ∀{H':Hp} (v5 v7 v8 v9:Option V),zE H H'->Df E0 n a b us .table->([V.str "table"] :List V).length<=sizeLine/\ ∀r,H' r=none->T2 {nx:=fun _ H'=>Q .non H',rt:=Q} [some (.ref wd),some (.ref t),some (.str n),some y,some (.ref u),v5,some (.ref r),v7,v8,v9] (L2.upd H' r (.tup [.str "table"])):=fun v5 v7 v8 v9 s d=>⟨bs 1,fun r hr'=>by
   have s2:=zE.upd hr' (o:= .tup [.str "table"]);exact tail _ _ _ _ _ .table _ d (.tb zC) (W.same (s.trans s2)) (sb (s.trans s2))⟩
  refine ⟨_,rfl,_,rfl,u,rfl,⟨_,SqT.of (s1 _ _ eu)⟩,fun D hD=>?_⟩;refine yK ts.length (fun j ys H9=>j<=ts.length/\ys=((us.take j).map (·.1)).map V.str/\H9=L2.upd H1 D (.lst ys)) ⟨zUZ _,rfl,rfl⟩ (by rw [zUV];omega) ?_ ?_ ?_
  ·rintro j ys H9 hj ⟨_,rfl,rfl⟩;have hq: ∀o,SqT K (L2.upd H1 D o) u (ts.map V.ref):=fun o=>SqT.of (zE.upd hD _ _ (s1 _ _ eu));refine ⟨by simp;omega,zC,fun h=>⟨_,_,hq _,zUK (by simpa using h)⟩,fun h=>⟨_,hq _,by simp;omega⟩⟩
  ·rintro j ys H9 x H8 hj ⟨_,rfl,rfl⟩ ⟨rfl,hx⟩ pre hpre;obtain ⟨p0,p1',rfl⟩:=yj hpre;have hx':=hx _ (SqT.of (zE.upd hD _ _ (s1 _ _ eu)));rw [zUP,zUK hj] at hx';cases hx';obtain ⟨b9,o9,eb,eto⟩:=yD.get (yD.same pu s1) (zUK hj);have etk2:us.take (j+1)=us.take j++ [(b9,o9)] :=by rw [zUh,eb];rfl
   refine ⟨ts[j],_,rfl,SqT.of (zE.upd hD _ _ eto),rfl,_,_,rfl,_,_,rfl,rfl,⟨[some (.str b9),some (.int o9)],rfl,rfl⟩,?_⟩;refine zZ ?_;refine ⟨_,rfl,zC,hj,?_,by rw [zAp]⟩;rw [etk2,zUg,zUg];rfl
  ·rintro ys H9 ⟨_,rfl,rfl⟩;rw [lu,zUk];refine ⟨D,_,rfl,.inl (SqL.of zC),rfl,by simp [zAQ],_,rfl,?_⟩;rw [show (if false=true then !inV (V.str n) ((us.map (·.1)).map V.str) else inV (V.str n) ((us.map (·.1)).map V.str))=inU us n from zFe n us];have sD:=zE.upd hD (o:= .lst ((us.map (·.1)).map V.str));generalize L2.upd H1 D (.lst ((us.map (·.1)).map V.str))=G at sD⊢;have s2:=s1.trans sD;cases hi:inU us n with
   | true=>exact zZ (zZ (no _ _ _ _ s2 (Df.rm hm (.inr (.inl hi)))))
   | false=>
   refine zM ?_;refine ⟨_,rfl,_,rfl,Ns,wd,ma,fl,na,E0,n,rfl,W.same s2,fun H4 s4=>⟨_,rfl,?_⟩⟩;have s14:=s2.trans s4;cases hs:zAi E0 n with
   | true=>exact zZ (zZ (no _ _ _ _ s14 (Df.rm hm (.inr (.inr hs)))))
   | false=>
   refine zM ?_;have pv4:=pv.same (sD.trans s4);cases r' with
   | none=>
    have pv':v= .non:=pv4;subst pv';refine ⟨_,rfl,_,rfl,zZ ?_⟩;by_cases h12:E0.length=12
    ·exact no _ _ _ _ s14 (Df.rm hm (.inl h12))
    ·exact no _ _ _ _ s14 (Df.pl hm (by rw [hi,hs];simp [h12]) pl)
   | some r'=>
   obtain ⟨a',b',fu⟩:=r';obtain ⟨r1,un,pv',pe,pun⟩:=pv4;subst pv';refine ⟨_,rfl,_,rfl,zM ?_⟩;have W4:=W.same s14;obtain ⟨km4,em4,pm4⟩:=W4.ma;have lkm:=Paired.length pm4;refine ⟨_,rfl,wd,_,rfl,W4.gm,ma,km4,rfl,.inl em4,rfl,_,rfl,?_⟩;refine yB (fun c=>?_) (fun c=>?_)
   ·have c':(km4.length:Int)=12:=by
     have o':=zUt c;injection o'
    exact no _ _ _ _ s14 (Df.rm hm (.inl (by omega)))
   have h12: ¬E0.length=12:=fun z=>c (zUi (by rw [<-lkm,z];rfl));have nk: ¬(E0.length=12\/inU us n=true\/zAi E0 n=true):=by rw [hi,hs];simp [h12]
   obtain ⟨p,py,e1,a1,a2,ac,a3,a4⟩:=am;subst py;obtain ⟨ro,sf⟩:=pl.good W.ok gu.nn;have e14:=s14 _ _ e1;refine yT fun zz=>?_;refine ⟨_,rfl,p,_,_,_,rfl,rfl,SqT.of e14,rfl,_,rfl,r1,_,_,_,rfl,rfl,SqT.of pe,rfl,_,_,rfl,rfl,⟨zBN (zUy a3) (by decide),zBN (zUy (yi ro.f3)) (by decide)⟩,?_⟩;refine zz (yT fun zz=>?_);refine ⟨_,rfl,p,_,_,_,rfl,rfl,SqT.of e14,rfl,_,rfl,r1,_,_,_,rfl,rfl,SqT.of pe,rfl,_,_,rfl,rfl,⟨zBN (zUy a4) (by decide),zBN (zUy (yi ro.f4)) (by decide)⟩,?_⟩;dsimp only;rw [<-Int.natCast_mul,<-Int.natCast_mul];have mA:a*a'<=2^1400:=by
    rw [show 1400=700+700 from rfl,Nat.pow_add];exact Nat.mul_le_mul (zUy a3) (zUy (yi ro.f3))
   have mB:b*b'<=2^1400:=by
    rw [show 1400=700+700 from rfl,Nat.pow_add];exact Nat.mul_le_mul (zUy a4) (zUy (yi ro.f4))
   have pA:0<a*a':=Nat.mul_pos a1 ro.f1;have pB:0<b*b':=Nat.mul_pos a2 ro.f2;have gp0:0<Nat.gcd (a*a') (b*b'):=Nat.gcd_pos_of_pos_left _ pA;have gp:(0:Int)<((Nat.gcd (a*a') (b*b'):Nat):Int):=by omega
   have rAe:rA (dfw a b a' b')=a*a'/Nat.gcd (a*a') (b*b'):=by unfold rA;rw [(zGO a b a' b').1,(zGO a b a' b').2]
   have rBe:rB (dfw a b a' b')=b*b'/Nat.gcd (a*a') (b*b'):=by unfold rB;rw [(zGO a b a' b').1,(zGO a b a' b').2]
   have z50:Sz 4000 ((10:Int)^(50:Int).toNat):=by
    unfold Sz;exact zUT (show ((10:Int)^(50:Int).toNat).natAbs<2^170 by decide+kernel) (zUj (by decide) (by decide))
   refine zz (yT fun zz=>?_);refine ⟨_,rfl,_,rfl,((a*a':Nat):Int),((b*b':Nat):Int),rfl,by omega,by omega,zBN mA (by decide),zBN mB (by decide),?_⟩;rw [Int.gcd_natCast_natCast];have p200:((10:Int)^(50:Int).toNat)^(4:Int).toNat=10^200:=by decide+kernel
   refine zz ?_;refine ⟨_,rfl,_,rfl,_,_,rfl,_,rfl,_,_,rfl,rfl,gp,_,_,rfl,rfl,⟨by decide,by decide,by decide⟩,_,_,rfl,rfl,⟨z50,by decide,by decide⟩,_,_,rfl,rfl,_,rfl,?_⟩;refine yB (fun c2=>?_) (fun c2=>?_)
   ·have c':((10:Int)^(50:Int).toNat)^(4:Int).toNat<=(if ((b*b':Nat):Int)>((a*a':Nat):Int) then ((b*b':Nat):Int) else ((a*a':Nat):Int))/((Nat.gcd (a*a') (b*b'):Nat):Int):=by simpa using c2
    rw [p200] at c';have g:=zCc.mp c';rw [<-rAe,<-rBe] at g;exact no _ _ _ _ s14 (Df.gr hm nk pl g)
   ·have c': ¬((10:Int)^(50:Int).toNat)^(4:Int).toNat<=(if ((b*b':Nat):Int)>((a*a':Nat):Int) then ((b*b':Nat):Int) else ((a*a':Nat):Int))/((Nat.gcd (a*a') (b*b'):Nat):Int):=by simpa using c2
    rw [p200] at c';have g12:a*a'/Nat.gcd (a*a') (b*b')<10^200/\b*b'/Nat.gcd (a*a') (b*b')<10^200:=Decidable.not_not.mp fun z=>c' (zCc.mpr z);rw [<-rAe,<-rBe] at g12;refine yT fun zz=>?_;refine ⟨_,rfl,_,rfl,_,_,rfl,rfl,gp,_,rfl,_,rfl,_,_,rfl,rfl,gp,_,rfl,r1,_,_,_,rfl,rfl,SqT.of pe,rfl,bs 3,fun g1 hg1=>?_⟩;dsimp only;rw [<-zVZ,<-zVZ,<-rAe,<-rBe];have d':=Df.ok hm nk pl g12.1 g12.2;have ok':=Df.good W.ok hn ⟨a1,a3⟩ ⟨a2,a4⟩ gu h3 d';obtain ⟨kf4,ef4,pf4⟩:=W4.fl;have lkf:=Paired.length pf4;have hl:=W.len;have fm:E0.find? (fun e=>e.nm==n)=none:=by
     rw [zAO] at hm;cases z:E0.find? (fun e=>e.nm==n) with
     | none=>rfl
     | some e=>rw [z] at hm;cases hm
    have vm:yI km4 (.inr n)=none:=by
     rcases yO pk n pm4 with ⟨z,_⟩|⟨e,v,_,z,_⟩
     ·exact z
     ·rw [fm] at z;cases z
    have vf:yI kf4 (.inr n)=none:=by
     rcases yO fk n pf4 with ⟨z,_⟩|⟨e,v,_,z,_⟩
     ·exact z
     ·rw [fm] at z;cases z
    have z1:=zE.upd hg1 (o:= .tup [.int (rA (dfw a b a' b'):Nat),.int (rB (dfw a b a' b'):Nat),.ref un]);have z1q:(L2.upd H4 g1 (.tup [.int (rA (dfw a b a' b'):Nat),.int (rB (dfw a b a' b'):Nat),.ref un])) g1=some (.tup [.int (rA (dfw a b a' b'):Nat),.int (rB (dfw a b a' b'):Nat),.ref un]):=zC;generalize L2.upd H4 g1 (.tup [.int (rA (dfw a b a' b'):Nat),.int (rB (dfw a b a' b'):Nat),.ref un])=G1 at z1 z1q⊢;refine ⟨_,rfl,wd,_,rfl,(W4.same z1).gf,_,rfl,fl,_,rfl,zCH.k (k:= .inr n) (z1 _ _ ef4) (by rw [zUV];omega),?_⟩;rw [zDe _ vf];have ne:=W.ne;have t1:Tps G1 (L2.upd G1 fl (.dK (kf4++ [(.inr n,.ref g1)]))):=fun x xs y=>by rw [zG (fun z=>by rw [z,z1 _ _ ef4] at y;cases y)];exact y
    have kp2: ∀b u,H4 b=some u->b≠fl->(L2.upd G1 fl (.dK (kf4++ [(.inr n,.ref g1)]))) b=some u:=fun b u hb hp=>by rw [zG hp];exact z1 _ _ hb
    have fq:(L2.upd G1 fl (.dK (kf4++ [(.inr n,.ref g1)]))) fl=some (.dK (kf4++ [(.inr n,.ref g1)])):=zC;generalize L2.upd G1 fl (.dK (kf4++ [(.inr n,.ref g1)]))=G2 at t1 kp2 fq⊢;refine zz ?_;refine ⟨_,rfl,_,rfl,bs 2,fun g2 hg2=>?_⟩;have z2:=zE.upd hg2 (o:= .tup [.ref p,.ref u]);have z2q:(L2.upd G2 g2 (.tup [.ref p,.ref u])) g2=some (.tup [.ref p,.ref u]):=zC;generalize L2.upd G2 g2 (.tup [.ref p,.ref u])=G3 at z2 z2q⊢;have at3:=z2 _ _ (kp2 _ _ W4.at_ W.wf);have em3:=z2 _ _ (kp2 _ _ em4 ne);refine ⟨_,rfl,wd,_,rfl,.inl ⟨_,.inr "made",.inl at3,rfl,(zKp _ _ _).symm⟩,_,rfl,ma,_,rfl,zCH.k (k:= .inr n) em3 (by rw [zUV];omega),?_⟩;rw [zDe _ vm];have t3:Tps G3 (L2.upd G3 ma (.dK (km4++ [(.inr n,.ref g2)]))):=fun x xs y=>by rw [zG (fun z=>by rw [z,em3] at y;cases y)];exact y
    have t43:Tps H4 (L2.upd G3 ma (.dK (km4++ [(.inr n,.ref g2)]))):=Tps.trans (zE.tps z1) (Tps.trans t1 (Tps.trans (zE.tps z2) t3));have nafl:na≠fl:=fun z=>by have:=W4.nm;rw [z,ef4] at this;cases this
    have nama:na≠ma:=fun z=>by have:=W4.nm;rw [z,em4] at this;cases this
    refine tail _ _ _ _ _ (.ok _) _ d' .ok ⟨?_,ne,W.wm,W.wf,⟨km4++ [(.inr n,.ref g2)],zC,?_⟩,⟨kf4++ [(.inr n,.ref g1)],?_,?_⟩,?_,fun e he=>?_,?_,W.l14,W.l0,W.nms,?_⟩ (fun x v hx hz=>?_)
    ·rw [zG W.wm];exact at3
    ·exact Paired.app (Paired.mapP pm4 fun x y z=>z.tps t43) (.cons ⟨rfl,g2,p,u,rfl,t3 _ _ z2q,t43 _ _ e14,zx.tps ⟨ts,s14 _ _ eu,yD.same pu s14⟩ t43⟩ .nil)
    ·rw [zG ne.symm];exact z2 _ _ fq
    ·exact Paired.app (Paired.mapP pf4 fun x y z=>z.tps t43) (.cons ⟨rfl,g1,un,rfl,Tps.trans t1 (Tps.trans (zE.tps z2) t3) _ _ z1q,pun.tps t43⟩ .nil)
    ·rw [zG nama];exact z2 _ _ (kp2 _ _ W4.nm nafl)
    ·rcases zVO.mp he with z | z
     ·exact W.ok e z
     ·rw [zVQ.mp z];exact ok'.1
    ·show (E0++ [_]).length<=12;rw [zUn];show E0.length+1<=12;omega
    ·show (List.map (fun e:Ent=>e.nm) (E0++ [_])).Nodup;rw [zUg,List.nodup_append];refine ⟨W.nd,by simp,fun x hx y hy=>?_⟩;have hy':y=n:=by simpa using hy
     subst hy';intro z;subst z;obtain ⟨e,he,e2⟩:=zVR.mp hx;have:made E0 x=true:=by
      unfold made;rw [List.any_eq_true];exact ⟨e,he,beq_iff_eq.mpr e2⟩
     rw [hm] at this;cases this
    ·have hz1:x≠ma:=fun y=>hz (by simp [y]);have hz2:x≠fl:=fun y=>hz (by simp [y]);rw [zG hz1];exact z2 _ _ (kp2 _ _ (s14 _ _ hx) hz2)
inductive DueD (H:Hp) (n:Str) (E0:List Ent):List Ent->V->Prop
 | nn {r:Addr} (m:made E0 n=false) (h:H r=some (.tup [.str "no name",.non,.str n])):DueD H n E0 E0 (.ref r)
 | tb {r:Addr} (m:made E0 n=true) (u:zAi E0 n=true) (h:H r=some (.tup [.str "table"])):DueD H n E0 E0 (.ref r)
 | ok (m:made E0 n=true) (u:zAi E0 n=false):DueD H n E0 (zLO E0 n) .non
def zGu(C:Addr):Sp:=fun vs H Q _=> ∃(Ns:List Str) (dx pa ba t wd ma fl nm:Addr) (E:List Ent) (k:Int),vs= [.ref wd,.ref t,.int k] /\Sst Ns C dx pa ba t wd ma fl nm H E/\
 ∀H' E',But [pa,ba,ma,fl] H H'->Sst Ns C dx pa ba t wd ma fl nm H' E'->Q (.bl true) H'
theorem zDP:FnScope ["_law_world","_law_table","_law_number_here","_law_name","_law_due"] ["_law_world","_law_table","_law_number_here"] (zK zGX):=fs
theorem zOJ(F:Fun K "_law_dropped" "_law_dropped" zGX f fd)(B:Bn mg)
  (FU:Fun K "_law_is_used" "_law_is_used" zES fU fdU) (bU:zL K fdU ["_law_world","_law_name"] []) (mU:mg "_law_is_used" =some (.ref fU)) (GU:FnOk P w K mg base CX0 1 fU fdU ["_law_world","_law_name"] zGF)
  (FT:Fun K "_law_tried" "_law_tried" zCF fT fdT) (bT:zL K fdT ["_law_way","_law_table","_law_things"] []) (mT:mg "_law_tried" =some (.ref fT)) (GT:FnOk P w K mg base CX0 8 fT fdT ["_law_way","_law_table","_law_things"] (zCM C c0 c1 c2 c3 c4 c5 c6)):
  FnOk P w K mg base CX0 9 f fd ["_law_world","_law_table","_law_number_here"] (zGu C):=by
 refine F.ok zDP (fun vs H Q E h=>?_) (fun _ A _ s H vs Q E hr h=>?_)
 ·obtain ⟨Ns,dx,pa,ba,t,wd,ma,fl,na,E0,k,rfl,_⟩:=h;rfl
 ·obtain ⟨Ns,dx,pa,ba,t,wd,ma,fl,na,E0,k,rfl,S,q⟩:=h;have hr8:Room 8 _:=hr;have hr1:Room 1 _:=hr.mono (by decide);have hu:=zAD hr;have huD:_+8<cLine:=zUb (zVF (by decide:8<=64) _) hr.units;refine ⟨_,QB.out (zH
   (zT 3 zDP.nd rfl (yH (K:=K) rfl (zo hu (qw 0 rfl) zN (fun _ _=>rfl)) (yJ (qw 2 rfl) (yE (zAy (K:=K) rfl) rfl B.len zAU (qc (zo hu (qw 0 rfl) zN (fun _ _=>rfl)) zD rfl) rfl)) (fun _ _=>rfl)) rfl) (zH
   (zT 4 zDP.nd rfl zBE rfl) (zH
   (zq (zIx hu (qw 3 rfl) (zo hu (qw 0 rfl) zN (fun _ _=>rfl)) rfl) (zJ
    (zT 4 zDP.nd rfl (zQ (qc zN (qc zBE (qc (qw 3 rfl) zD rfl) rfl) rfl)) rfl)) (zJ
    (zq (yb (zP GU hr1 rfl mU FU.kp bU .nil zO (qc (qw 0 rfl) (qc (qw 3 rfl) zD rfl) rfl) rfl rfl rfl) (fun _=>rfl)) (zJ
     (zT 4 zDP.nd rfl (zQ (qc zN zD rfl)) rfl)) (zH
     (yn (zEQ (zo hu (qw 0 rfl) zN (fun _ _=>rfl)) (qw 3 rfl) ⟨rfl,rfl,rfl,rfl⟩) rfl) (zJ
     (yn (zEQ (zo hu (qw 0 rfl) zN (fun _ _=>rfl)) (qw 3 rfl) ⟨rfl,rfl,rfl,rfl⟩) rfl)))))) (zJ
   (zW (zBf (zBo (n:=8) huD) (zP GT hr8 rfl mT FT.kp bT .nil zO (qc zF (qc (qw 1 rfl) (qc (zy (qc (qw 3 rfl) zD rfl)) zD rfl) rfl) rfl) rfl rfl rfl) (qw 4 rfl) rfl)))))),?_⟩
  generalize hT:zLP (tOp (zCs 8 false) _ _)=T2;obtain ⟨ap1,ap2,ap3,ap4,ap5,ap6⟩:=S.ap;have W:=S.w;have dM: ∀x∈ [ma,fl],∃kvs,H x=some (.dK kvs):=fun x hx=>by
   obtain ⟨k1,e1,_⟩:=W.ma;obtain ⟨k2,e2,_⟩:=W.fl;simp only [zVL,zVV,or_false] at hx;rcases hx with rfl | rfl
   ·exact ⟨_,e1⟩
   ·exact ⟨_,e2⟩
  have l0:=W.l0;have k0:0<=k %(Ns.length:Int):=zUc _ (by omega);have k1:k %(Ns.length:Int)<Ns.length:=zUW _ (by omega);obtain ⟨j,hj⟩: ∃j:Nat,k %(Ns.length:Int)=j:=⟨(k %(Ns.length:Int)).toNat,by omega⟩;have hjn:j<Ns.length:=by omega
  have hn:Ns[j] ∈Ns:=zUs hjn;refine yT fun zz=>?_;refine ⟨_,rfl,wd,_,rfl,W.gn,_,rfl,_,rfl,wd,_,rfl,W.gn,na,_,rfl,.inl (SqL.of W.nm),_,_,rfl,rfl,by rw [zUR];omega,na,_,_,.str Ns[j],rfl,rfl,SqL.of W.nm,?_,?_⟩
  ·rw [zUR,hj];exact zAG (by rw [zUP,zUK hjn];rfl)
  generalize Ns[j] =n at hn⊢;have nmn:=W.nms n hn;have tail: ∀(due:V) (E':List Ent) (H':Hp),DueD H' n E0 E' due->Wd Ns wd ma fl na H' E'->But [ma,fl] H H'->
    T2 {nx:=fun _ H'=>Q .non H',rt:=Q} [some (.ref wd),some (.ref t),some (.int k),some (.str n),some due] H':=by
   intro due E' H1 du W1 bt;rw [<-hT];have tb1:=S.tb.but bt (by simp [ap1,ap2]) (by simp [ap4,ap5]) dM;refine ⟨_,rfl,_,rfl,bs 1,fun l hl=>?_⟩;have s2:=zE.upd hl (o:= .lst [.str n]);have el:(L2.upd H1 l (.lst [.str n])) l=some (.lst [.str n]):=zC;generalize L2.upd H1 l (.lst [.str n])=H2 at s2 el⊢;have tb2:=tb1.same s2;have W2:=W1.same s2;obtain ⟨kp,ep,_⟩:=tb2.ps;obtain ⟨kb,eb,_⟩:=tb2.bs;have b2:But [pa,ba,ma,fl] H H2:=(bt.then_same s2).more (by simp);have l14:=W.l14;refine ⟨1,t,l,_,rfl,el,⟨dx,_,tb2.at_,lkN _ _⟩,.inr (.inl ⟨rfl,⟨_,rfl⟩,t,dx,pa,ba,Ns,E0,.str n,rfl,tb2,by omega,zDu nmn,.inr ⟨n,rfl,nmn,?_⟩⟩)⟩;cases du with
   | nn m h=>
    refine .inl ⟨m,zND fun r' H3 s3 e3=>?_⟩;refine ⟨_,rfl,twD "no name" n,twD "no name" n,zFj e3,zFj ((s2.trans s3) _ _ h),zDC (by decide+kernel) nmn.ok,zDC (by decide+kernel) nmn.ok,?_⟩;rw [SeqAt.eqv_refl _ (zDC (by decide+kernel) nmn.ok)];exact q H3 E0 (b2.then_same s3) ⟨tb2.same s3,W2.same s3,S.ap⟩
   | tb m us h=>
    refine .inr (.inl ⟨m,us,zBm fun r' H3 s3 e3=>?_⟩);refine ⟨_,rfl,wdD "table",wdD "table",zCD e3,zCD ((s2.trans s3) _ _ h),zAk (by decide+kernel),zAk (by decide+kernel),?_⟩;rw [SeqAt.eqv_refl _ (zAk (by decide+kernel))];exact q H3 E0 (b2.then_same s3) ⟨tb2.same s3,W2.same s3,S.ap⟩
   | ok m us=>
    refine .inr (.inr ⟨m,us,fun H3 kp3 tb3=>?_⟩);have b3:But [pa,ba] H2 H3:=fun b u hb z=>kp3 b u hb (fun y=>z (by simp [y])) (fun y=>z (by simp [y]));refine ⟨_,rfl,.none,.none,zDN,zDN,rfl,rfl,?_⟩;refine q H3 (zLO E0 n) (b2.trans (b3.more (by simp))) ⟨tb3,W2.but b3 (by simp [ap3.symm,ap6.symm]) (by simp [ap1.symm,ap4.symm]) (by simp [ap2.symm,ap5.symm]) (fun x hx=>?_),S.ap⟩;simp only [zVL,zVV,or_false] at hx;rcases hx with rfl | rfl
    ·exact ⟨_,ep⟩
    ·exact ⟨_,eb⟩
  have sb: ∀{H':Hp},zE H H'->But [ma,fl] H H':=fun s b u e _=>s _ _ e;obtain ⟨km,em,pm⟩:=W.ma;have os:(yI km (.inr n)).isSome=made E0 n:=by
   rw [zAO];rcases yO pk n pm with ⟨a,b⟩|⟨e,v,a,b,_⟩
   ·rw [a,b];rfl
   ·rw [a,b];rfl
  refine zz (yT fun zz=>zz (yT fun zz=>?_));refine ⟨_,rfl,_,rfl,wd,_,rfl,W.gm,ma,yI km (.inr n),rfl,.inl ⟨km,.inr n,.inl em,rfl,rfl⟩,_,rfl,?_⟩;rw [os];cases hm:made E0 n with
  | false=>
   refine zZ ?_;refine ⟨_,rfl,bs 3,fun r hr'=>?_⟩;have s2:=zE.upd hr' (o:= .tup [.str "no name",.non,.str n]);refine zz ?_;exact tail _ _ _ (.nn hm zC) (W.same s2) (sb s2)
  | true=>
  refine zM ?_;refine ⟨_,rfl,_,rfl,Ns,wd,ma,fl,na,E0,n,rfl,W,fun H1 s1=>⟨_,rfl,?_⟩⟩;have W1:=W.same s1;cases hs:zAi E0 n with
  | true=>
   refine zZ ?_;refine ⟨bs 1,fun r hr'=>?_⟩;have s2:=zE.upd hr' (o:= .tup [.str "table"]);refine zz ?_;exact tail _ _ _ (.tb hm hs zC) (W1.same s2) (sb (s1.trans s2))
  | false=>
  refine zM ?_;obtain ⟨km1,em1,pm1⟩:=W1.ma;obtain ⟨kf1,ef1,pf1⟩:=W1.fl;rw [zAO] at hm;have hp1: ∃v,yI km1 (.inr n)=some v:=by
   rcases yO pk n pm1 with ⟨a,b⟩|⟨e,v,a,b,c⟩
   ·rw [b] at hm;cases hm
   ·exact ⟨v,a⟩
  have hp2: ∃v,yI kf1 (.inr n)=some v:=by
   rcases yO fk n pf1 with ⟨a,b⟩|⟨e,v,a,b,c⟩
   ·rw [b] at hm;cases hm
   ·exact ⟨v,a⟩
  rw [<-zAO] at hm;obtain ⟨v1,hv1⟩:=hp1;obtain ⟨v2,hv2⟩:=hp2;have ne:=W.ne;have nafl:na≠fl:=fun z=>by have:=W1.nm;rw [z,ef1] at this;cases this
  have nama:na≠ma:=fun z=>by have:=W1.nm;rw [z,em1] at this;cases this
  refine ⟨_,rfl,wd,_,rfl,W1.gm,ma,rfl,.inl ⟨km1,.inl em1⟩,_,rfl,km1,.inr n,v1,em1,rfl,hv1,?_⟩;have at2:(L2.upd H1 ma (.dK (zAf km1 (.inr n)))) wd=some (.dK [(.inr "made",.ref ma),(.inr "flat",.ref fl),(.inr "names",.ref na)]):=by rw [zG W.wm];exact W1.at_
  have ef2:(L2.upd H1 ma (.dK (zAf km1 (.inr n)))) fl=some (.dK kf1):=by rw [zG ne.symm];exact ef1
  refine ⟨_,rfl,wd,_,rfl,.inl ⟨_,.inr "flat",.inl at2,rfl,(zOZ _ _ _).symm⟩,fl,rfl,.inl ⟨kf1,.inl ef2⟩,_,rfl,kf1,.inr n,v2,ef2,rfl,hv2,?_⟩;have t2:Tps H1 (L2.upd (L2.upd H1 ma (.dK (zAf km1 (.inr n)))) fl (.dK (zAf kf1 (.inr n)))):=fun a xs z=>by
   rw [zG (fun y=>by rw [y,ef1] at z;cases z),zG (fun y=>by rw [y,em1] at z;cases z)];exact z
  refine zz ?_;refine tail _ _ _ (.ok hm hs) ⟨?_,ne,W.wm,W.wf,⟨zAf km1 (.inr n),?_,?_⟩,⟨zAf kf1 (.inr n),zC,?_⟩,?_,fun e he=>W.ok e (zVY.mp he).1,?_,W.l14,W.l0,W.nms,?_⟩ (fun x v hx hz=>?_)
  ·rw [zG W.wf];exact at2
  ·rw [zG ne,zC]
  ·exact Paired.mapP (Paired.drop' pk n pm1) fun a b z=>z.tps t2
  ·exact Paired.mapP (Paired.drop' fk n pf1) fun a b z=>z.tps t2
  ·rw [zG nafl,zG nama];exact W1.nm
  ·exact zUY (zVc _ _) W.len
  ·exact W.nd.sublist (List.Sublist.map _ List.filter_sublist)
  ·have hz1:x≠ma:=fun y=>hz (by simp [y]);have hz2:x≠fl:=fun y=>hz (by simp [y]);rw [zG hz2,zG hz1];exact s1 _ _ hx
theorem zGs{H:Hp}{r r':Addr}{w:Str}{Q:VK}(h:H r=some (.tup [.str w]))(h':H r'=some (.tup [.str w]))(ok:PyData.strOk w=true)(q:Q (.bl false) H):zCs 8 true (.ref r) (.ref r') H Q:=by
 refine ⟨wdD w,wdD w,zCD h,zCD h',zAk ok,zAk ok,?_⟩;rw [SeqAt.eqv_refl _ (zAk ok)];exact q
theorem ls(n:Nat)(h:n<1000:=by decide):n<sizeLine:=zUT h (by decide)
theorem zNi{H:Hp}{r r':Addr}{w:Str}{Q:VK}(h:H r=some (.tup [.str w]))(h':H r'=some (.tup [.str w]))(ok:PyData.strOk w=true)(q:Q (.bl true) H):zCs 8 false (.ref r) (.ref r') H Q:=by
 refine ⟨wdD w,wdD w,zCD h,zCD h',zAk ok,zAk ok,?_⟩;rw [SeqAt.eqv_refl _ (zAk ok)];exact q
def Lw(H H':Hp):Prop:= ∀b u,H b=some u->H' b=some u\/ ∃xs ys,u= .lst xs/\H' b=some (.lst ys)
theorem Lw.of{H H':Hp}(s:zE H H'):Lw H H':=fun b u e=> .inl (s _ _ e)
theorem Lw.upd{H:Hp}{a:Addr}{xs ys:List V}(h:H a=some (.lst xs)):Lw H (L2.upd H a (.lst ys)):=fun b u e=>by
 by_cases z:b=a
 ·subst z;rw [h] at e;cases e;exact .inr ⟨xs,ys,rfl,zC⟩
 ·exact .inl (by rw [zG z];exact e)
theorem Lw.tup{H H':Hp}(s:Lw H H'){a:Addr}{xs:List V}(h:H a=some (.tup xs)):H' a=some (.tup xs):=by
 rcases s _ _ h with e |⟨_,_,e,_⟩
 ·exact e
 ·cases e
theorem Lw.lst{H H':Hp}(s:Lw H H'){a:Addr}{xs:List V}(h:H a=some (.lst xs)): ∃ys,H' a=some (.lst ys):=by
 rcases s _ _ h with e |⟨_,ys,_,e⟩
 ·exact ⟨_,e⟩
 ·exact ⟨ys,e⟩
theorem zE.none{H H':Hp}(s:zE H H'){a:Addr}(h:H' a=none):H a=none:=by
 cases e:H a with
 | none=>rfl
 | some u=>rw [s _ _ e] at h;cases h
def zGq(H:Hp)(x:V):Prop:=yY x=false/\Ths H x
theorem Kd.lw{H H':Hp}{x:V}(h:Kd H x)(s:Lw H H'):Kd H' x:=by
 cases h with
 | non=>exact .non
 | bl b=>exact .bl b
 | int i=>exact .int i
 | str x=>exact .str x
 | lst e=>obtain ⟨_,e⟩:=s.lst e;exact .lst e
 | tup e=>exact .tup (s.tup e)
theorem NoT.lw{H H':Hp}{x:V}(h:NoT H x)(s:Lw H H'):NoT H' x:=by
 cases h with
 | non=>exact .non
 | int i=>exact .int i
 | str x=>exact .str x
 | lst e=>obtain ⟨_,e⟩:=s.lst e;exact .lst e
theorem NoTp.lw{H H':Hp}{x:V}(h:NoTp H x)(s:Lw H H'):NoTp H' x:=by
 cases h with
 | non=>exact .non
 | int i=>exact .int i
 | str x=>exact .str x
 | lst e=>obtain ⟨_,e⟩:=s.lst e;exact .lst e
theorem Pr.lw{H H':Hp}{x:V}{b:Bool}(h:Pr H x b)(s:Lw H H'):Pr H' x b:=by
 cases h with
 | good h hl=>exact .good (s.tup h) hl
 | noT h=>exact .noT (h.lw s)
 | len h hl=>exact .len (s.tup h) hl
 | noW h hl k hw=>exact .noW (s.tup h) hl (k.lw s) hw
theorem UW.lw{H H':Hp}{a:Str}{xs:List V}{b:Bool}(h:UW H a xs b)(s:Lw H H'):UW H' a xs b:=by
 induction h with
 | nil a=>exact .nil a
 | bad h=>exact .bad (h.lw s)
 | stop h nm hs=>exact .stop (s.tup h) nm hs
 | step h nm he hl _ ih=>exact .step (s.tup h) nm he hl ih
theorem zGq.lw{H H':Hp}{x:V}(h:zGq H x)(s:Lw H H'):zGq H' x:=⟨h.1,Kd.lw h.2.1 s,h.2.2⟩
theorem zFF.lw{H H':Hp}{x:V}(h:zFF H x)(s:Lw H H'):zFF H' x:=by
 rcases h with h |⟨p,xs,a,b,c,d⟩|⟨p,a,b,h1,h2,h3⟩
 ·exact .inl (h.lw s)
 ·exact .inr (.inl ⟨p,xs,a,s.tup b,fun y hy=>Kd.lw (c y hy) s,d⟩)
 ·exact .inr (.inr ⟨p,a,b,h1,s.tup h2,h3⟩)
theorem zBl.lw{H H':Hp}{x:V}(h:zBl H x)(s:Lw H H'):zBl H' x:=by
 rcases h with h |⟨t,xs,a,b,c,d⟩
 ·exact .inl (h.lw s)
 ·exact .inr ⟨t,xs,a,s.tup b,c,d.lw s⟩
theorem zIa.lw{H H':Hp}{x:V}(h:zIa H x)(s:Lw H H'):zIa H' x:=by
 rcases h with h |⟨p,xs,a,b,c,d⟩
 ·exact .inl (h.lw s)
 ·exact .inr ⟨p,xs,a,s.tup b,fun y hy=>Kd.lw (c y hy) s,d⟩
theorem six{z:Int}(h0:0<=z)(h1:z<6):z=0\/z=1\/z=2\/z=3\/z=4\/z=5:=by omega
theorem zTO{H:Hp}{la:Addr}{xs:List V}(h:H la=some (.lst xs)){z:Int}(h0:0<=z)(h1:z<6): ∃b,atI [V.str "",V.str "A",V.non,V.str "if",V.int 5,V.ref la] z=some b/\zGq H b:=by
 rcases six h0 h1 with rfl | rfl | rfl | rfl | rfl | rfl
 ·exact ⟨_,rfl,by decide+kernel,.str _,fun z e=>by cases e;decide+kernel⟩
 ·exact ⟨_,rfl,by decide+kernel,.str _,fun z e=>by cases e;decide+kernel⟩
 ·exact ⟨_,rfl,rfl,.non,fun z e=>by cases e⟩
 ·exact ⟨_,rfl,by decide+kernel,.str _,fun z e=>by cases e;decide+kernel⟩
 ·exact ⟨_,rfl,rfl,.int _,fun z e=>by cases e⟩
 ·exact ⟨_,rfl,rfl,.lst h,fun z e=>by cases e⟩
theorem kd2{H:Hp}{x y:V}(hx:Kd H x)(hy:Kd H y): ∀z∈ [x,y],Kd H z:=by
 intro z hz;simp only [zVL,zVV,or_false] at hz;rcases hz with rfl | rfl
 ·exact hx
 ·exact hy
theorem zSx{H:Hp}{p1 p2 p3 p4:Addr}(e1:H p1=some (.tup [.int 0,.int 1]))(e2:H p2=some (.tup [.int (-1),.int 2]))(e3:H p3=some (.tup [.int 2,.int 4]))(e4:H p4=some (.tup [.bl true,.int 1])){z:Int}(h0:0<=z)(h1:z<6): ∃b,atI [V.ref p1,V.ref p2,V.ref p3,V.non,V.int 3,V.ref p4] z=some b/\zFF H b:=by
 rcases six h0 h1 with rfl | rfl | rfl | rfl | rfl | rfl
 ·exact ⟨_,rfl,.inr (.inr ⟨p1,0,1,rfl,e1,by decide+kernel,by decide⟩)⟩
 ·exact ⟨_,rfl,.inr (.inr ⟨p2,-1,2,rfl,e2,by decide+kernel,by decide⟩)⟩
 ·exact ⟨_,rfl,.inr (.inl ⟨p3,_,rfl,e3,kd2 (.int _) (.int _),by decide+kernel⟩)⟩
 ·exact ⟨_,rfl,.inl .non⟩
 ·exact ⟨_,rfl,.inl (.int 3)⟩
 ·exact ⟨_,rfl,.inr (.inl ⟨p4,_,rfl,e4,kd2 (.bl _) (.int _),rfl⟩)⟩
theorem zLA:Nm "m" :=show yY (.str "m")=true by decide+kernel
theorem zRq:Nm "z" :=show yY (.str "z")=true by decide+kernel
theorem zTl:Nm "b" :=show yY (.str "b")=true by decide+kernel
theorem zSu{H:Hp}{q0 q1 q2 q3 q4 q5 q6 q7 q8 q9 q10:Addr}(e0:H q0=some (.lst []))(e1:H q1=some (.tup [.str "m",.int 0]))(e2:H q2=some (.tup [.ref q1]))(e3:H q3=some (.tup [.str "m",.int 1]))(e4:H q4=some (.tup [.str "m",.int 2]))(e5:H q5=some (.tup [.ref q3,.ref q4]))
  (e6:H q6=some (.tup [.str "z",.int 1])) (e7:H q7=some (.tup [.str "b",.int 1])) (e8:H q8=some (.tup [.ref q6,.ref q7])) (e9:H q9=some (.tup [.str "m",.bl true])) (e10:H q10=some (.tup [.ref q9])) {z:Int} (h0:0<=z) (h1:z<6): ∃b,atI [V.ref q0,V.ref q2,V.ref q5,V.ref q8,V.non,V.ref q10] z=some b/\zBl H b:=by
 rcases six h0 h1 with rfl | rfl | rfl | rfl | rfl | rfl
 ·exact ⟨_,rfl,.inl (.lst e0)⟩
 ·exact ⟨_,rfl,.inr ⟨q2,_,rfl,e2,by simp,.stop e1 zLA (.inl rfl)⟩⟩
 ·exact ⟨_,rfl,.inr ⟨q5,_,rfl,e5,by simp,.step e3 zLA (by decide) (zEG zLA) (.stop e4 zLA (.inr (zCJ _)))⟩⟩
 ·exact ⟨_,rfl,.inr ⟨q8,_,rfl,e8,by simp,.step e6 zRq (by decide) (zEG zRq) (.stop e7 zTl (.inr (zHO (by unfold ltS;decide+kernel))))⟩⟩
 ·exact ⟨_,rfl,.inl .non⟩
 ·exact ⟨_,rfl,.inr ⟨q10,_,rfl,e10,by simp,.bad (.noW e9 (by decide+kernel) (.bl _) rfl)⟩⟩
theorem zTN{H:Hp}{p1 p2:Addr}(e1:H p1=some (.tup [.int 2,.int 4]))(e2:H p2=some (.tup [.int 1,.int 0])){z:Int}(h0:0<=z)(h1:z<4): ∃b,atI [V.non,V.int 5,V.ref p1,V.ref p2] z=some b/\zIa H b:=by
 have h:z=0\/z=1\/z=2\/z=3:=by omega
 rcases h with rfl | rfl | rfl | rfl
 ·exact ⟨_,rfl,.inl .non⟩
 ·exact ⟨_,rfl,.inl (.int 5)⟩
 ·exact ⟨_,rfl,.inr ⟨p1,_,rfl,e1,kd2 (.int _) (.int _),by decide+kernel⟩⟩
 ·exact ⟨_,rfl,.inr ⟨p2,_,rfl,e2,kd2 (.int _) (.int _),by decide+kernel⟩⟩
theorem nmq{n:Str}(h1:1<=n.length)(h:n.length<=7)(hc: ∀c∈n.cps.toList,Cn c):Nm (n++ "q"):=by
 have e:("q" :Str).cps.toList= [113] :=by decide+kernel
 have el:(n++ "q" :Str).cps.toList=n.cps.toList++ [113] :=by rw [Str.cps_append,Array.toList_append,e]
 have ll:(n++ "q" :Str).length=n.length+1:=by rw [zBr,el,zUn,<-zBr];rfl
 refine zOw (by omega) (by omega) fun c hm=>?_;rw [el] at hm;rcases zVO.mp hm with z | z
 ·exact hc c z
 ·rw [zVQ.mp z];decide
theorem zQM{n:Str}{e:Int}(h:e≠0):IsU [(n,e)] [(n,e)] :=by
 refine ⟨List.pairwise_singleton _ _,fun m k=>?_⟩;unfold tot tot;rw [zVQ];by_cases z:n=m
 ·subst z;rw [if_pos rfl];constructor
  ·intro y;injection y with _ y;subst y;exact ⟨by omega,h⟩
  ·rintro ⟨y,_⟩;rw [y];simp
 ·rw [if_neg z];constructor
  ·intro y;injection y with y _;exact absurd y.symm z
  ·rintro ⟨y,y'⟩;exact absurd y (by omega)
theorem zDU{Ns:List Str}{n:Str}{e:Int}(hn:n∈Ns)(h:e≠0):GoodU Ns [(n,e)] :=⟨zQM h,fun p hp=>by rw [zVQ.mp hp];exact hn⟩
theorem zGa{H:Hp}{u t:Addr}{n:Str}{e:Int}(h:H u=some (.tup [.ref t]))(k:H t=some (.tup [.str n,.int e])):zx H u [(n,e)] :=⟨[t],h,.cons k .nil⟩
def SpI(wd t lb lt tp:Addr)(k fi:Int)(n0:Str)(b0 b1 b2:V)(H:Hp)(i:Nat)(σ:L2.St)(H':Hp):Prop:=
 ∃(v6:Option V) (x y z:V),σ= [some (.ref wd),some (.ref t),some (.int k),some (.ref lb),some (.ref lt),some (.int fi),v6,none] /\i<=(3 - fi).toNat/\H' lt=some (.lst [x,y,z])/\zE H H'/\H' lb=some (.lst [b0,b1,b2])/\zGq H' b0/\zFF H' b1/\zBl H' b2/\H' tp=some (.tup [.int 1,.int 2])/\
  (fi≠0->x= .str (n0++ "q"))/\(fi=2->y= .ref tp)/\(0<i->fi=0->x=b0)/\(0<i->fi=1->y=b1)/\(0<i->fi=2->z=b2)
theorem SpI.put{wd t lb lt tp:Addr}{k fi:Int}{n0:Str}{b0 b1 b2:V}{H:Hp}{i:Nat}{H':Hp}{x y z:V}{v6:Option V}(f0:0<=fi)(hi:i<(3 - fi).toNat)(nt:H lt=none)(ntb:lb≠lt)(elt:H' lt=some (.lst [x,y,z]))(sA:zE H H')(elb:H' lb=some (.lst [b0,b1,b2]))(B0:zGq H' b0)(B1:zFF H' b1)(B2:zBl H' b2)(etp:H' tp=some (.tup [.int 1,.int 2]))
  (i1:fi≠0->x= .str (n0++ "q")) (i2:fi=2->y= .ref tp) (i3:0<i->fi=0->x=b0) (i4:0<i->fi=1->y=b1) (i5:0<i->fi=2->z=b2):
  ∃(j:Nat) (v:V),fi+(i:Int)=(j:Int)/\atI [b0,b1,b2] (fi+(i:Int))=some v/\ixN ([x,y,z] :List V).length (fi+(i:Int))=some j/\j<3/\
   SpI wd t lb lt tp k fi n0 b0 b1 b2 H (i+1) [some (.ref wd),some (.ref t),some (.int k),some (.ref lb),some (.ref lt),some (.int fi),v6,none] (L2.upd H' lt (.lst (([x,y,z] :List V).set j v))):=by
 have lw: ∀{ys},Lw H' (L2.upd H' lt (.lst ys)):=Lw.upd elt;have h3:fi+(i:Int)=0\/fi+(i:Int)=1\/fi+(i:Int)=2:=by omega
 rcases h3 with e | e | e<;>rw [e]
 ·exact ⟨0,b0,rfl,rfl,rfl,by decide,v6,_,_,_,rfl,hi,zC,zE.store sA nt,by rw [zG ntb];exact elb,B0.lw lw,B1.lw lw,B2.lw lw,lw.tup etp,fun z=>absurd (by omega:fi=0) z,i2,fun _ _=>rfl,fun _ z=>by omega,fun _ z=>by omega⟩
 ·exact ⟨1,b1,rfl,rfl,rfl,by decide,v6,_,_,_,rfl,hi,zC,zE.store sA nt,by rw [zG ntb];exact elb,B0.lw lw,B1.lw lw,B2.lw lw,lw.tup etp,i1,fun z=>by omega,fun _ z=>i3 (by omega) z,fun _ _=>rfl,fun _ z=>by omega⟩
 ·exact ⟨2,b2,rfl,rfl,rfl,by decide,v6,_,_,_,rfl,hi,zC,zE.store sA nt,by rw [zG ntb];exact elb,B0.lw lw,B1.lw lw,B2.lw lw,lw.tup etp,i1,i2,fun _ z=>i3 (by omega) z,fun _ z=>i4 (by omega) z,fun _ _=>rfl⟩
theorem _root_.L2.Fun.okQ{P:Program}{w:World}{K:zVK}{mg:Str->Option Value}{base:Heap}{x qual:Str}{st:Stmt}{f:Addr}{fd:FuncData}{N ps:List Str}{k:Nat}{sp:Sp}(F:L2.Fun K x qual st f fd)(S:FnScope N ps (zK st))(len: ∀vs H Q E,sp vs H Q E->vs.length=ps.length)
  (hbody: ∀(cdv:Value) (A:Around) (outer:List Env) (s:Shared) (H:Hp) (vs:List V) (Q:VK) (E:XK),Room k (A.deeper (envOfC qual (zK st) s.heap.objs.size f cdv))->sp vs H Q E->
   ∃t,QB (zAx CX0 P w K mg base N qual (zK st) f cdv A outer s H E).nox (yd st) t/\t {nx:=fun _ H'=>Q .non H',rt:=Q} (start N vs) H):FnOk P w K mg base CX0 (k+1) f fd ps sp:=
 F.ok S len fun cdv A outer s H vs Q E hr h=>by
  obtain ⟨t,b,q⟩:=hbody cdv A outer s H vs Q E hr h;exact ⟨t,b.out,q⟩
theorem zX{H:Hp}{a:Addr}(h:H a=none)(o:HO): ∃G,L2.upd H a o=G/\zE H G/\G a=some o:=⟨_,rfl,zE.upd h,zC⟩
def zKg(C:Addr):Sp:=fun vs H Q _=> ∃(Ns:List Str) (dx pa ba t wd ma fl nm:Addr) (E:List Ent) (k:Int),vs= [.ref wd,.ref t,.int k] /\Sst Ns C dx pa ba t wd ma fl nm H E/\(∀x,Ns[0]?=some x->x.length<=7/\ ∀c∈x.cps.toList,Cn c)/\
 ∀H',zE H H'->Q (.bl true) H'
theorem zEU:FnScope ["_law_world","_law_table","_law_number_here","_law_bad","_law_things","_law_first","_law_at","_law_due"] ["_law_world","_law_table","_law_number_here"] (zK zDL):=fs
theorem zQy(F:Fun K "_law_spoilt" "_law_spoilt" zDL f fd)(B:Bn mg)
  (FT:Fun K "_law_tried" "_law_tried" zCF fT fdT) (bT:zL K fdT ["_law_way","_law_table","_law_things"] []) (mT:mg "_law_tried" =some (.ref fT)) (GT:FnOk P w K mg base CX0 8 fT fdT ["_law_way","_law_table","_law_things"] (zCM C c0 c1 c2 c3 c4 c5 c6)):
  FnOk P w K mg base CX0 9 f fd ["_law_world","_law_table","_law_number_here"] (zKg C):=by
 refine F.okQ zEU (fun vs H Q E h=>?_) (fun _ A _ s H vs Q E hr h=>?_)
 ·obtain ⟨Ns,dx,pa,ba,t,wd,ma,fl,na,E0,k,rfl,_⟩:=h;rfl
 ·obtain ⟨Ns,dx,pa,ba,t,wd,ma,fl,na,E0,k,rfl,S,h7,q⟩:=h;have hr8:Room 8 _:=hr;have hu:=zAD hr;have huD:_+8<cLine:=zUb (zVF (by decide:8<=64) _) hr.units;refine ⟨_,(zH
   (zT 3 zEU.nd rfl (zy (qc (yH (K:=K) rfl (zy (qc zN (qc zN (qc zBE (qc zN (qc zF (qc (zy (qc zN zD rfl)) zD rfl) rfl) rfl) rfl) rfl) rfl)) (yJ (yS (qw 2 rfl) zF) zF) (fun _ _=>rfl)) zD rfl)) rfl) (zH
   (yn (zBT (K:=K) rfl (qw 3 rfl) (yH (K:=K) rfl (zy (qc (zQ (qc zF (qc zF zD rfl) rfl)) (qc (zQ (qc (zCd zF) (qc zF zD rfl) rfl)) (qc (zQ (qc zF (qc zF zD rfl) rfl)) (qc zBE (qc zF (qc (zQ (qc yw (qc zF zD rfl) rfl)) zD rfl) rfl) rfl) rfl) rfl) rfl)) (yJ (yS (qw 2 rfl) zF) zF) (fun _ _=>rfl)) rfl rfl rfl) rfl) (zH
   (yn (zBT (K:=K) rfl (qw 3 rfl) (yH (K:=K) rfl (zy (qc (zy zD) (qc (zQ (qc (zQ (qc zN (qc zF zD rfl) rfl)) zD rfl)) (qc (zQ (qc (zQ (qc zN (qc zF zD rfl) rfl)) (qc (zQ (qc zN (qc zF zD rfl) rfl)) zD rfl) rfl)) (qc (zQ (qc (zQ (qc zN (qc zF zD rfl) rfl)) (qc (zQ (qc zN (qc zF zD rfl) rfl)) zD rfl) rfl)) (qc zBE (qc (zQ (qc (zQ (qc zN (qc yw zD rfl) rfl)) zD rfl)) zD rfl) rfl) rfl) rfl) rfl) rfl)) (yJ (yS (qw 2 rfl) zF) zF) (fun _ _=>rfl)) rfl rfl rfl) rfl) (zH
   (zT 4 zEU.nd rfl (zy (qc (zBP zDV (yH (K:=K) rfl (zo hu (qw 0 rfl) zN (fun _ _=>rfl)) zF (fun _ _=>rfl)) zN) (qc (zQ (qc zF (qc zF zD rfl) rfl)) (qc (zQ zD) zD rfl) rfl) rfl)) rfl) (zH
   (zT 5 zEU.nd rfl (yJ (qw 2 rfl) zF) rfl) (zH
   (yt PassesOwn.never rfl (zSY rfl B.range (qc (qw 5 rfl) (qc zF zD rfl) rfl) rfl rfl) (zm 6 zEU.nd rfl (Or.inl rfl) (.inr rfl)) (zJ
    (zq (t_w (zAr (zY zAI (qw 6 rfl) (qw 5 rfl) rfl) (zAu (zY zAI (yJ (yS (qw 2 rfl) zF) zF) zF rfl)))) (zJ
     (zSf (qw 4 rfl) (qw 6 rfl) (yH (K:=K) rfl (qw 3 rfl) (qw 6 rfl) (fun _ _=>rfl)) rfl)) zn)) (fun _=>rfl)) (zH
   (zT 7 zEU.nd rfl (yH (K:=K) rfl (zy (qc (zQ (qc zN zD rfl)) (qc (zQ (qc zN zD rfl)) (qc (zQ (qc zN zD rfl)) zD rfl) rfl) rfl)) (qw 5 rfl) (fun _ _=>rfl)) rfl) (zH
   (zq (t_w (zAr (zY (zAc (n:=8) huD) (zP GT hr8 rfl mT FT.kp bT .nil zO (qc zF (qc (qw 1 rfl) (qc (qw 4 rfl) zD rfl) rfl) rfl) rfl rfl rfl) (qw 7 rfl) rfl) (zAu (zY (zAc (n:=8) huD) (zP GT hr8 rfl mT FT.kp bT .nil zO (qc zF (qc (qw 1 rfl) (qc (zy (qc (yH (K:=K) rfl (qw 3 rfl) zF (fun _ _=>rfl)) zD rfl)) zD rfl) rfl) rfl) rfl rfl rfl) (zQ (qc zN zD rfl)) rfl)))) (zJ
    (zW yw)) zn) (zH
   (zq (t_w (zAr (zY (zAc (n:=8) huD) (zP GT hr8 rfl mT FT.kp bT .nil zO (qc zF (qc (qw 1 rfl) (qc (zy (qc (yH (K:=K) rfl (qw 3 rfl) zF (fun _ _=>rfl)) zD rfl)) zD rfl) rfl) rfl) rfl rfl rfl) (zQ (qc zN zD rfl)) rfl) (zAu (zY (zAc (n:=8) huD) (zP GT hr8 rfl mT FT.kp bT .nil zO (qc zF (qc (qw 1 rfl) (qc (zy (qc (yH (K:=K) rfl (qw 3 rfl) zF (fun _ _=>rfl)) zD rfl)) zD rfl) rfl) rfl) rfl rfl rfl) (zQ (qc zN zD rfl)) rfl)))) (zJ
    (zW yw)) zn) (zH
   (zq (zY (zAc (n:=8) huD) (zP GT hr8 rfl mT FT.kp bT .nil zO (qc zF (qc (qw 1 rfl) (qc (zy (qc (zQ (qc zF (qc zF zD rfl) rfl)) (qc (zQ (qc (zQ (qc (yH (K:=K) rfl (zo hu (qw 0 rfl) zN (fun _ _=>rfl)) zF (fun _ _=>rfl)) (qc zF zD rfl) rfl)) zD rfl)) (qc (yH (K:=K) rfl (qw 3 rfl) zF (fun _ _=>rfl)) zD rfl) rfl) rfl)) zD rfl) rfl) rfl) rfl rfl rfl) (zQ (qc zN zD rfl)) rfl) (zJ
    (zW yw)) zn) (zJ
   (zW (zBf (zBo (n:=8) huD) (zP GT hr8 rfl mT FT.kp bT .nil zO (qc zF (qc (qw 1 rfl) (qc (zy (qc (yH (K:=K) rfl (zy (qc zBE (qc zF (qc (zQ (qc zF (qc zF zD rfl) rfl)) (qc (zQ (qc zF (qc zF zD rfl) rfl)) zD rfl) rfl) rfl) rfl)) (yJ (yS (qw 2 rfl) zF) zF) (fun _ _=>rfl)) (qc (yH (K:=K) rfl (qw 3 rfl) zF (fun _ _=>rfl)) (qc (zQ zD) zD rfl) rfl) rfl)) zD rfl) rfl) rfl) rfl rfl rfl) (zQ (qc zN zD rfl)) rfl))))))))))))),?_⟩
  have W:=S.w;have l0:=W.l0;have l14:=W.l14;have hn:Ns[0] ∈Ns:=zUs l0;have h7':=h7 Ns[0] (zUK l0);have n0at:atI (Ns.map V.str) 0=some (.str Ns[0]):=zAG (j:=0) (by rw [zUP,zUK l0];rfl);generalize Ns[0] =n0 at hn h7' n0at;have nm0:=W.nms n0 hn;have n1:1<=n0.length:=by
   have z:=nm0;unfold Nm yY at z;simp only [zVM,decide_eq_true_eq] at z;exact z.1.1.1
  have nmq0:=nmq n1 h7'.1 h7'.2;have sA:zE H H:=zE.refl H;refine yT fun zz=>?_;refine ⟨bs 1,fun la hla=>?_⟩;obtain ⟨G1,gs1,s1,ela⟩:=zX hla (.lst [.str "m"]);rw [gs1];have sA:=sA.trans s1;refine ⟨bs 6,fun l6 hl6=>?_⟩;obtain ⟨G2,gs2,s2,el6⟩:=zX hl6 (.lst [V.str "",V.str "A",V.non,V.str "if",V.int 5,V.ref la]);rw [gs2];have ela:=s2 _ _ ela;have sA:=sA.trans s2;obtain ⟨b0,pb0,B0⟩:=zTO ela (zUc (k/3) (by decide:(6:Int)≠0)) (zUW (k/3) (by decide:(0:Int)<6));refine ⟨_,rfl,_,_,rfl,rfl,yu (by decide) (by decide),_,_,rfl,rfl,(by decide:(0:Int)<6),l6,_,_,b0,rfl,rfl,SqL.of el6,pb0,?_⟩;have sN:=sA;refine ⟨bs 1,fun lb hlb=>?_⟩;obtain ⟨G3,gs3,s3,elb⟩:=zX hlb (.lst [b0]);rw [gs3];have B0:=B0.lw (Lw.of s3);have sA:=sA.trans s3;have nb:=zE.none sN hlb;refine zz (yT fun zz=>?_);refine ⟨_,rfl,.inl ⟨rfl,_,SqL.of elb⟩,?_⟩;refine ⟨bs 2,fun p1 hp1=>?_⟩;obtain ⟨G4,gs4,s4,ep1⟩:=zX hp1 (.tup [.int 0,.int 1]);rw [gs4];have elb:=s4 _ _ elb;have B0:=B0.lw (Lw.of s4);have sA:=sA.trans s4;refine ⟨_,rfl,bs 2,fun p2 hp2=>?_⟩;obtain ⟨G5,gs5,s5,ep2⟩:=zX hp2 (.tup [.int (-1),.int 2]);rw [gs5];have elb:=s5 _ _ elb;have ep1:=s5 _ _ ep1;have B0:=B0.lw (Lw.of s5);have sA:=sA.trans s5;refine ⟨bs 2,fun p3 hp3=>?_⟩;obtain ⟨G6,gs6,s6,ep3⟩:=zX hp3 (.tup [.int 2,.int 4]);rw [gs6];have elb:=s6 _ _ elb;have ep1:=s6 _ _ ep1;have ep2:=s6 _ _ ep2;have B0:=B0.lw (Lw.of s6);have sA:=sA.trans s6;refine ⟨bs 2,fun p4 hp4=>?_⟩;obtain ⟨G7,gs7,s7,ep4⟩:=zX hp4 (.tup [.bl true,.int 1]);rw [gs7];have elb:=s7 _ _ elb;have ep1:=s7 _ _ ep1;have ep2:=s7 _ _ ep2;have ep3:=s7 _ _ ep3;have B0:=B0.lw (Lw.of s7);have sA:=sA.trans s7;refine ⟨bs 6,fun l7 hl7=>?_⟩;obtain ⟨G8,gs8,s8,el7⟩:=zX hl7 (.lst [V.ref p1,V.ref p2,V.ref p3,V.non,V.int 3,V.ref p4]);rw [gs8];have elb:=s8 _ _ elb;have ep1:=s8 _ _ ep1;have ep2:=s8 _ _ ep2;have ep3:=s8 _ _ ep3;have ep4:=s8 _ _ ep4;have B0:=B0.lw (Lw.of s8);have sA:=sA.trans s8;obtain ⟨b1,pb1,B1⟩:=zSx ep1 ep2 ep3 ep4 (zUc (k/18) (by decide:(6:Int)≠0)) (zUW (k/18) (by decide:(0:Int)<6));refine ⟨_,rfl,_,_,rfl,rfl,yu (by decide) (by decide),_,_,rfl,rfl,(by decide:(0:Int)<6),l7,_,_,b1,rfl,rfl,SqL.of el7,pb1,?_⟩;refine ⟨lb,_,b1,rfl,rfl,elb,ls 1,?_⟩;have s9:=Lw.upd elb (ys:= [b0,b1]);have elb':(L2.upd G8 lb (.lst [b0,b1])) lb=some (.lst [b0,b1]):=zC;have sA:=zE.store (o:= .lst [b0,b1]) sA nb;have eapp: [b0] ++ [b1] = [b0,b1] :=rfl;rw [eapp];generalize L2.upd G8 lb (.lst [b0,b1])=G9 at sA elb' s9⊢;have elb:=elb';clear elb';have B0:=B0.lw s9;have B1:=B1.lw s9;refine zz (yT fun zz=>?_);refine ⟨_,rfl,.inl ⟨rfl,_,SqL.of elb⟩,?_⟩;refine ⟨bs 0,fun q0 hq0=>?_⟩;obtain ⟨G10,gs10,s10,eq0⟩:=zX hq0 (.lst []);rw [gs10];have elb:=s10 _ _ elb;have B0:=B0.lw (Lw.of s10);have B1:=B1.lw (Lw.of s10);have sA:=sA.trans s10;refine ⟨bs 2,fun q1 hq1=>?_⟩;obtain ⟨G11,gs11,s11,eq1⟩:=zX hq1 (.tup [.str "m",.int 0]);rw [gs11];have elb:=s11 _ _ elb;have eq0:=s11 _ _ eq0;have B0:=B0.lw (Lw.of s11);have B1:=B1.lw (Lw.of s11);have sA:=sA.trans s11;refine ⟨bs 1,fun q2 hq2=>?_⟩;obtain ⟨G12,gs12,s12,eq2⟩:=zX hq2 (.tup [.ref q1]);rw [gs12];have elb:=s12 _ _ elb;have eq0:=s12 _ _ eq0;have eq1:=s12 _ _ eq1;have B0:=B0.lw (Lw.of s12);have B1:=B1.lw (Lw.of s12);have sA:=sA.trans s12;refine ⟨bs 2,fun q3 hq3=>?_⟩;obtain ⟨G13,gs13,s13,eq3⟩:=zX hq3 (.tup [.str "m",.int 1]);rw [gs13];have elb:=s13 _ _ elb;have eq0:=s13 _ _ eq0;have eq1:=s13 _ _ eq1;have eq2:=s13 _ _ eq2;have B0:=B0.lw (Lw.of s13);have B1:=B1.lw (Lw.of s13);have sA:=sA.trans s13;refine ⟨bs 2,fun q4 hq4=>?_⟩;obtain ⟨G14,gs14,s14,eq4⟩:=zX hq4 (.tup [.str "m",.int 2]);rw [gs14];have elb:=s14 _ _ elb;have eq0:=s14 _ _ eq0;have eq1:=s14 _ _ eq1;have eq2:=s14 _ _ eq2;have eq3:=s14 _ _ eq3;have B0:=B0.lw (Lw.of s14);have B1:=B1.lw (Lw.of s14);have sA:=sA.trans s14;refine ⟨bs 2,fun q5 hq5=>?_⟩;obtain ⟨G15,gs15,s15,eq5⟩:=zX hq5 (.tup [.ref q3,.ref q4]);rw [gs15];have elb:=s15 _ _ elb;have eq0:=s15 _ _ eq0;have eq1:=s15 _ _ eq1;have eq2:=s15 _ _ eq2;have eq3:=s15 _ _ eq3;have eq4:=s15 _ _ eq4;have B0:=B0.lw (Lw.of s15);have B1:=B1.lw (Lw.of s15);have sA:=sA.trans s15;refine ⟨bs 2,fun q6 hq6=>?_⟩;obtain ⟨G16,gs16,s16,eq6⟩:=zX hq6 (.tup [.str "z",.int 1]);rw [gs16];have elb:=s16 _ _ elb;have eq0:=s16 _ _ eq0;have eq1:=s16 _ _ eq1;have eq2:=s16 _ _ eq2;have eq3:=s16 _ _ eq3;have eq4:=s16 _ _ eq4;have eq5:=s16 _ _ eq5;have B0:=B0.lw (Lw.of s16);have B1:=B1.lw (Lw.of s16);have sA:=sA.trans s16;refine ⟨bs 2,fun q7 hq7=>?_⟩;obtain ⟨G17,gs17,s17,eq7⟩:=zX hq7 (.tup [.str "b",.int 1]);rw [gs17];have elb:=s17 _ _ elb;have eq0:=s17 _ _ eq0;have eq1:=s17 _ _ eq1;have eq2:=s17 _ _ eq2;have eq3:=s17 _ _ eq3;have eq4:=s17 _ _ eq4;have eq5:=s17 _ _ eq5;have eq6:=s17 _ _ eq6;have B0:=B0.lw (Lw.of s17);have B1:=B1.lw (Lw.of s17);have sA:=sA.trans s17;refine ⟨bs 2,fun q8 hq8=>?_⟩;obtain ⟨G18,gs18,s18,eq8⟩:=zX hq8 (.tup [.ref q6,.ref q7]);rw [gs18];have elb:=s18 _ _ elb;have eq0:=s18 _ _ eq0;have eq1:=s18 _ _ eq1;have eq2:=s18 _ _ eq2;have eq3:=s18 _ _ eq3;have eq4:=s18 _ _ eq4;have eq5:=s18 _ _ eq5;have eq6:=s18 _ _ eq6;have eq7:=s18 _ _ eq7;have B0:=B0.lw (Lw.of s18);have B1:=B1.lw (Lw.of s18);have sA:=sA.trans s18;refine ⟨bs 2,fun q9 hq9=>?_⟩;obtain ⟨G19,gs19,s19,eq9⟩:=zX hq9 (.tup [.str "m",.bl true]);rw [gs19];have elb:=s19 _ _ elb;have eq0:=s19 _ _ eq0;have eq1:=s19 _ _ eq1;have eq2:=s19 _ _ eq2;have eq3:=s19 _ _ eq3;have eq4:=s19 _ _ eq4;have eq5:=s19 _ _ eq5;have eq6:=s19 _ _ eq6;have eq7:=s19 _ _ eq7;have eq8:=s19 _ _ eq8;have B0:=B0.lw (Lw.of s19);have B1:=B1.lw (Lw.of s19);have sA:=sA.trans s19;refine ⟨bs 1,fun q10 hq10=>?_⟩;obtain ⟨G20,gs20,s20,eq10⟩:=zX hq10 (.tup [.ref q9]);rw [gs20];have elb:=s20 _ _ elb;have eq0:=s20 _ _ eq0;have eq1:=s20 _ _ eq1;have eq2:=s20 _ _ eq2;have eq3:=s20 _ _ eq3;have eq4:=s20 _ _ eq4;have eq5:=s20 _ _ eq5;have eq6:=s20 _ _ eq6;have eq7:=s20 _ _ eq7;have eq8:=s20 _ _ eq8;have eq9:=s20 _ _ eq9;have B0:=B0.lw (Lw.of s20);have B1:=B1.lw (Lw.of s20);have sA:=sA.trans s20;refine ⟨bs 6,fun l8 hl8=>?_⟩;obtain ⟨G21,gs21,s21,el8⟩:=zX hl8 (.lst [V.ref q0,V.ref q2,V.ref q5,V.ref q8,V.non,V.ref q10]);rw [gs21];have elb:=s21 _ _ elb;have eq0:=s21 _ _ eq0;have eq1:=s21 _ _ eq1;have eq2:=s21 _ _ eq2;have eq3:=s21 _ _ eq3;have eq4:=s21 _ _ eq4;have eq5:=s21 _ _ eq5;have eq6:=s21 _ _ eq6;have eq7:=s21 _ _ eq7;have eq8:=s21 _ _ eq8;have eq9:=s21 _ _ eq9;have eq10:=s21 _ _ eq10;have B0:=B0.lw (Lw.of s21);have B1:=B1.lw (Lw.of s21);have sA:=sA.trans s21;obtain ⟨b2,pb2,B2⟩:=zSu eq0 eq1 eq2 eq3 eq4 eq5 eq6 eq7 eq8 eq9 eq10 (zUc (k/108) (by decide:(6:Int)≠0)) (zUW (k/108) (by decide:(0:Int)<6));refine ⟨_,rfl,_,_,rfl,rfl,yu (by decide) (by decide),_,_,rfl,rfl,(by decide:(0:Int)<6),l8,_,_,b2,rfl,rfl,SqL.of el8,pb2,?_⟩;refine ⟨lb,_,b2,rfl,rfl,elb,ls 2,?_⟩;have s22:=Lw.upd elb (ys:= [b0,b1,b2]);have elb':(L2.upd G21 lb (.lst [b0,b1,b2])) lb=some (.lst [b0,b1,b2]):=zC;have sA:=zE.store (o:= .lst [b0,b1,b2]) sA nb;have eapp: [b0,b1] ++ [b2] = [b0,b1,b2] :=rfl;rw [eapp];generalize L2.upd G21 lb (.lst [b0,b1,b2])=G22 at sA elb' s22⊢;have elb:=elb';clear elb';have B0:=B0.lw s22;have B1:=B1.lw s22;have B2:=B2.lw s22;have W1:=W.same sA;refine zz (yT fun zz=>?_);refine ⟨_,rfl,wd,_,rfl,W1.gn,na,_,_,.str n0,rfl,rfl,SqL.of W1.nm,n0at,_,_,rfl,rfl,?_,?_⟩
  ·have e1:("q" :Str).length=1:=by decide+kernel
   have:=h7'.1;rw [zUV];omega
  refine ⟨bs 2,fun tp htp=>?_⟩;obtain ⟨G23,gs23,s23,etp⟩:=zX htp (.tup [.int 1,.int 2]);rw [gs23];have elb:=s23 _ _ elb;have B0:=B0.lw (Lw.of s23);have B1:=B1.lw (Lw.of s23);have B2:=B2.lw (Lw.of s23);have sA:=sA.trans s23;refine ⟨bs 0,fun te hte=>?_⟩;obtain ⟨G24,gs24,s24,ete⟩:=zX hte (.tup []);rw [gs24];have elb:=s24 _ _ elb;have etp:=s24 _ _ etp;have B0:=B0.lw (Lw.of s24);have B1:=B1.lw (Lw.of s24);have B2:=B2.lw (Lw.of s24);have sA:=sA.trans s24;have sN2:=sA;have elbN:=elb;refine ⟨bs 3,fun lt hlt=>?_⟩;obtain ⟨G25,gs25,s25,elt⟩:=zX hlt (.lst [.str (n0++ "q"),.ref tp,.ref te]);rw [gs25];have elb:=s25 _ _ elb;have etp:=s25 _ _ etp;have B0:=B0.lw (Lw.of s25);have B1:=B1.lw (Lw.of s25);have B2:=B2.lw (Lw.of s25);have sA:=sA.trans s25;have nt:=zE.none sN2 hlt;have ntb:lb≠lt:=fun z=>by rw [<-z] at hlt;rw [elbN] at hlt;cases hlt
  have f0:0<=k % 3:=zUc _ (by decide);have f3:k % 3<3:=zUW _ (by decide);refine zz (yT fun zz=>?_);refine ⟨_,rfl,_,_,rfl,rfl,(by decide:(0:Int)<3),?_⟩;dsimp only;generalize k % 3=fi at f0 f3⊢;refine zz (yT fun zz=>?_);refine ⟨_,rfl,_,3,rfl,⟨by omega,by omega,by decide,by decide⟩,?_⟩;refine yk (3 - fi).toNat (SpI wd t lb lt tp k fi n0 b0 b1 b2 H) ?_ ?_ ?_ ?_ ?_
  ·exact ⟨none,_,_,_,rfl,zUZ _,elt,sA,elb,B0,B1,B2,etp,fun _=>rfl,fun _=>rfl,fun z=>absurd z (by decide),fun z=>absurd z (by decide),fun z=>absurd z (by decide)⟩
  ·rintro i σ H' hi _;exact hi
  ·rintro σ H' _;exact zUO _
  ·rintro i σ H' x H'' hi ⟨v6,x,y,z,rfl,hi',elt,sA,elb,B0,B1,B2,etp,i1,i2,i3,i4,i5⟩ ⟨rfl,rfl⟩;obtain ⟨j,v,hj,hjv,hjx,hjs,put⟩:=SpI.put (v6:=some (.int (fi+(i:Int)))) f0 hi nt ntb elt sA elb B0 B1 B2 etp i1 i2 i3 i4 i5;refine ⟨_,rfl,_,rfl,rfl,_,rfl,?_⟩;refine yB (fun c=>?_) (fun c=>?_)
   ·refine zZ ?_;refine ⟨_,rfl,_,rfl,lb,_,_,v,rfl,rfl,SqL.of elb,hjv,?_⟩;exact ⟨_,rfl,_,rfl,lt,_,_,j,rfl,rfl,elt,hjx,put⟩
   ·refine ⟨_,rfl,_,_,rfl,rfl,yu (by decide) (by decide),_,_,rfl,rfl,(by decide:(0:Int)<2),rfl,_,rfl,?_⟩;refine yB (fun c2=>?_) (fun c2=>?_)
    ·refine ⟨_,rfl,_,rfl,lb,_,_,v,rfl,rfl,SqL.of elb,hjv,?_⟩;exact ⟨_,rfl,_,rfl,lt,_,_,j,rfl,rfl,elt,hjx,put⟩
    ·have ic:0<i:=by
      rcases Nat.eq_zero_or_pos i with z | z
      ·subst z;exact absurd (zUi (by simp)) c
      ·exact z
     exact ⟨some (.int (fi+(i:Int))),x,y,z,rfl,hi,elt,sA,elb,B0,B1,B2,etp,i1,i2,fun _=>i3 ic,fun _=>i4 ic,fun _=>i5 ic⟩
  ·rintro σ H9 ⟨v6,x,y,z,rfl,_,elt,sA,elb,B0,B1,B2,etp,i1,i2,i3,i4,i5⟩;have i3:=i3 (by omega);have i4:=i4 (by omega);have i5:=i5 (by omega);refine zz (yT fun zz=>?_);refine ⟨bs 1,fun r0 hr0=>?_⟩;obtain ⟨G26,gs26,s26,er0⟩:=zX hr0 (.tup [.str "name"]);rw [gs26];have elt:=s26 _ _ elt;have elb:=s26 _ _ elb;have etp:=s26 _ _ etp;have B0:=B0.lw (Lw.of s26);have B1:=B1.lw (Lw.of s26);have B2:=B2.lw (Lw.of s26);have sA:=sA.trans s26;refine ⟨bs 1,fun r1 hr1=>?_⟩;obtain ⟨G27,gs27,s27,er1⟩:=zX hr1 (.tup [.str "number"]);rw [gs27];have elt:=s27 _ _ elt;have elb:=s27 _ _ elb;have etp:=s27 _ _ etp;have er0:=s27 _ _ er0;have B0:=B0.lw (Lw.of s27);have B1:=B1.lw (Lw.of s27);have B2:=B2.lw (Lw.of s27);have sA:=sA.trans s27;refine ⟨bs 1,fun r2 hr2=>?_⟩;obtain ⟨G28,gs28,s28,er2⟩:=zX hr2 (.tup [.str "unit"]);rw [gs28];have elt:=s28 _ _ elt;have elb:=s28 _ _ elb;have etp:=s28 _ _ etp;have er0:=s28 _ _ er0;have er1:=s28 _ _ er1;have B0:=B0.lw (Lw.of s28);have B1:=B1.lw (Lw.of s28);have B2:=B2.lw (Lw.of s28);have sA:=sA.trans s28;refine ⟨bs 3,fun l9 hl9=>?_⟩;obtain ⟨G29,gs29,s29,el9⟩:=zX hl9 (.lst [V.ref r0,V.ref r1,V.ref r2]);rw [gs29];have elt:=s29 _ _ elt;have elb:=s29 _ _ elb;have etp:=s29 _ _ etp;have er0:=s29 _ _ er0;have er1:=s29 _ _ er1;have er2:=s29 _ _ er2;have B0:=B0.lw (Lw.of s29);have B1:=B1.lw (Lw.of s29);have B2:=B2.lw (Lw.of s29);have sA:=sA.trans s29;obtain ⟨wo,r,hr9,er,okw,din⟩: ∃(wo:Str) (r:Addr),atI [V.ref r0,V.ref r1,V.ref r2] fi=some (.ref r)/\G29 r=some (.tup [.str wo])/\PyData.strOk wo=true/\(∀Q,Tw G29 Q [.str wo] ->Ths G29 x/\DIn G29 Ns E0 Q (EX c0 c1 c2 c3 c4 c5 c6 Q) C dx pa ba t c0 c1 c2 c3 c4 x y z):=by
    have h3:fi=0\/fi=1\/fi=2:=by omega
    rcases h3 with z' | z' | z'
    ·obtain rfl:=i3 z';exact ⟨_,r0,by rw [z'];rfl,er0,by decide+kernel,fun Q tw=>⟨B0.2,.name B0.1 (zHA tw)⟩⟩
    ·obtain rfl:=i4 z';obtain rfl:=i1 (by omega);exact ⟨_,r1,by rw [z'];rfl,er1,by decide+kernel,fun Q tw=>⟨zDu nmq0,.num nmq0 B1 (zMc tw)⟩⟩
    ·obtain rfl:=i5 z';obtain rfl:=i1 (by omega);obtain rfl:=i2 z';exact ⟨_,r2,by rw [z'];rfl,er2,by decide+kernel,fun Q tw=>⟨zDu nmq0,.good (a:=1) (b:=2) nmq0 ⟨tp,rfl,etp,by decide,by decide,by decide,by decide+kernel,by decide+kernel⟩ (.inl ⟨B2,zJu tw⟩)⟩⟩
   refine ⟨_,rfl,l9,_,_,.ref r,rfl,rfl,SqL.of el9,hr9,?_⟩;have tb:=S.tb.same sA;refine zz (yT fun zz=>?_);refine ⟨_,rfl,_,rfl,0,t,lt,_,rfl,elt,⟨dx,_,tb.at_,lkN _ _⟩,.inl ⟨rfl,⟨_,_,_,rfl⟩,t,dx,pa,ba,Ns,E0,x,y,z,rfl,tb,l14,W.nms,?_⟩⟩;refine din _ (fun ra K30 z30 ea30=>?_);have elb:=z30 _ _ elb;have er:=z30 _ _ er;have B0:=B0.lw (Lw.of z30);have B2:=B2.lw (Lw.of z30);have sA:=sA.trans z30;refine ⟨_,rfl,zGs ea30 er okw ?_⟩;refine ⟨_,rfl,zM ?_⟩;refine ⟨_,rfl,_,rfl,lb,_,_,b2,rfl,rfl,SqL.of elb,rfl,?_⟩;refine ⟨bs 1,fun x30 hx30=>?_⟩;obtain ⟨G31,gs31,s31,ex30⟩:=zX hx30 (.lst [b2]);rw [gs31];have elb:=s31 _ _ elb;have B0:=B0.lw (Lw.of s31);have B2:=B2.lw (Lw.of s31);have sA:=sA.trans s31;have tb:=S.tb.same sA;refine ⟨2,t,x30,_,rfl,ex30,⟨dx,_,tb.at_,lkN _ _⟩,.inr (.inr (.inl ⟨rfl,⟨_,rfl⟩,t,dx,pa,ba,Ns,E0,b2,rfl,tb,l14,W.nms,.inl ⟨B2,zJu (fun ra K32 z32 ea32=>?_)⟩⟩))⟩;have elb:=z32 _ _ elb;have B0:=B0.lw (Lw.of z32);have sA:=sA.trans z32;refine ⟨bs 1,fun w32 hw32=>?_⟩;obtain ⟨G33,gs33,s33,ew32⟩:=zX hw32 (.tup [.str "unit"]);rw [gs33];have elb:=s33 _ _ elb;have ea32:=s33 _ _ ea32;have B0:=B0.lw (Lw.of s33);have sA:=sA.trans s33;refine zGs ea32 ew32 (by decide+kernel) ?_;refine ⟨_,rfl,zM ?_⟩;refine zz (yT fun zz=>?_);refine ⟨_,rfl,_,rfl,lb,_,_,b0,rfl,rfl,SqL.of elb,rfl,?_⟩;refine ⟨bs 1,fun x33 hx33=>?_⟩;obtain ⟨G34,gs34,s34,ex33⟩:=zX hx33 (.lst [b0]);rw [gs34];have elb:=s34 _ _ elb;have B0:=B0.lw (Lw.of s34);have sA:=sA.trans s34;have tb:=S.tb.same sA;refine ⟨1,t,x33,_,rfl,ex33,⟨dx,_,tb.at_,lkN _ _⟩,.inr (.inl ⟨rfl,⟨_,rfl⟩,t,dx,pa,ba,Ns,E0,b0,rfl,tb,by omega,B0.2,.inl ⟨B0.1,zHA (fun ra K35 z35 ea35=>?_)⟩⟩)⟩;have elb:=z35 _ _ elb;have B0:=B0.lw (Lw.of z35);have sA:=sA.trans z35;refine ⟨bs 1,fun w35 hw35=>?_⟩;obtain ⟨G36,gs36,s36,ew35⟩:=zX hw35 (.tup [.str "name"]);rw [gs36];have elb:=s36 _ _ elb;have ea35:=s36 _ _ ea35;have B0:=B0.lw (Lw.of s36);have sA:=sA.trans s36;refine zGs ea35 ew35 (by decide+kernel) ?_;refine ⟨_,rfl,zM ?_⟩;refine ⟨_,rfl,_,rfl,lb,_,_,b0,rfl,rfl,SqL.of elb,rfl,?_⟩;refine ⟨bs 1,fun x36 hx36=>?_⟩;obtain ⟨G37,gs37,s37,ex36⟩:=zX hx36 (.lst [b0]);rw [gs37];have elb:=s37 _ _ elb;have B0:=B0.lw (Lw.of s37);have sA:=sA.trans s37;have tb:=S.tb.same sA;refine ⟨4,t,x36,_,rfl,ex36,⟨dx,_,tb.at_,lkN _ _⟩,.inr (.inr (.inr (.inr ⟨rfl,⟨_,rfl⟩,t,dx,pa,ba,Ns,E0,b0,rfl,tb,B0.2,.inl ⟨B0.1,zHA (fun ra K38 z38 ea38=>?_)⟩⟩)))⟩;have elb:=z38 _ _ elb;have sA:=sA.trans z38;refine ⟨bs 1,fun w38 hw38=>?_⟩;obtain ⟨G39,gs39,s39,ew38⟩:=zX hw38 (.tup [.str "name"]);rw [gs39];have elb:=s39 _ _ elb;have ea38:=s39 _ _ ea38;have sA:=sA.trans s39;refine zGs ea38 ew38 (by decide+kernel) ?_;refine ⟨_,rfl,zM ?_⟩;refine zz (yT fun zz=>?_);refine ⟨_,rfl,bs 2,fun u1 hu1=>?_⟩;obtain ⟨G40,gs40,s40,eu1⟩:=zX hu1 (.tup [.int 1,.int 2]);rw [gs40];have elb:=s40 _ _ elb;have sA:=sA.trans s40;have W2:=W.same sA;refine ⟨_,rfl,wd,_,rfl,W2.gn,na,_,_,.str n0,rfl,rfl,SqL.of W2.nm,n0at,?_⟩;refine ⟨bs 2,fun u2 hu2=>?_⟩;obtain ⟨G41,gs41,s41,eu2⟩:=zX hu2 (.tup [.str n0,.int 65]);rw [gs41];have elb:=s41 _ _ elb;have eu1:=s41 _ _ eu1;have sA:=sA.trans s41;refine ⟨bs 1,fun u3 hu3=>?_⟩;obtain ⟨G42,gs42,s42,eu3⟩:=zX hu3 (.tup [.ref u2]);rw [gs42];have elb:=s42 _ _ elb;have eu1:=s42 _ _ eu1;have eu2:=s42 _ _ eu2;have sA:=sA.trans s42;refine ⟨_,rfl,lb,_,_,b2,rfl,rfl,SqL.of elb,rfl,?_⟩;refine ⟨bs 3,fun u4 hu4=>?_⟩;obtain ⟨G43,gs43,s43,eu4⟩:=zX hu4 (.lst [.ref u1,.ref u3,b2]);rw [gs43];have elb:=s43 _ _ elb;have eu1:=s43 _ _ eu1;have eu2:=s43 _ _ eu2;have eu3:=s43 _ _ eu3;have sA:=sA.trans s43;have tb:=S.tb.same sA;refine ⟨3,t,u4,_,rfl,eu4,⟨dx,_,tb.at_,lkN _ _⟩,.inr (.inr (.inr (.inl ⟨rfl,⟨_,_,_,rfl⟩,t,dx,pa,ba,Ns,E0,.ref u1,.ref u3,b2,rfl,tb,l14,W.nms,.inr ⟨u1,1,2,rfl,eu1,by decide+kernel,by unfold Sz;decide,by unfold Sz;decide,.inr ⟨u3,_,rfl,zGa eu3 eu2,zDU hn (by decide),by simp,.inl ⟨.su rfl,zBm (fun ra K44 z44 ea44=>?_)⟩⟩⟩⟩)))⟩;have elb:=z44 _ _ elb;have sA:=sA.trans z44;refine ⟨bs 1,fun w9 hw9=>?_⟩;obtain ⟨G45,gs45,s45,ew9⟩:=zX hw9 (.tup [.str "table"]);rw [gs45];have elb:=s45 _ _ elb;have ea44:=s45 _ _ ea44;have sA:=sA.trans s45;refine zGs ea44 ew9 (by decide+kernel) ?_;refine ⟨_,rfl,zM ?_⟩;refine zz ?_;refine ⟨_,rfl,bs 2,fun v1 hv1=>?_⟩;obtain ⟨G46,gs46,s46,ev1⟩:=zX hv1 (.tup [.int 2,.int 4]);rw [gs46];have elb:=s46 _ _ elb;have sA:=sA.trans s46;refine ⟨bs 2,fun v2 hv2=>?_⟩;obtain ⟨G47,gs47,s47,ev2⟩:=zX hv2 (.tup [.int 1,.int 0]);rw [gs47];have elb:=s47 _ _ elb;have ev1:=s47 _ _ ev1;have sA:=sA.trans s47;refine ⟨bs 4,fun v3 hv3=>?_⟩;obtain ⟨G48,gs48,s48,ev3⟩:=zX hv3 (.lst [V.non,V.int 5,V.ref v1,V.ref v2]);rw [gs48];have elb:=s48 _ _ elb;have ev1:=s48 _ _ ev1;have ev2:=s48 _ _ ev2;have sA:=sA.trans s48;obtain ⟨bf,pbf,BF⟩:=zTN ev1 ev2 (zUc (k/7) (by decide:(4:Int)≠0)) (zUW (k/7) (by decide:(0:Int)<4));refine ⟨_,rfl,_,_,rfl,rfl,yu (by decide) (by decide),_,_,rfl,rfl,(by decide:(0:Int)<4),v3,_,_,bf,rfl,rfl,SqL.of ev3,pbf,?_⟩;refine ⟨_,rfl,lb,_,_,b2,rfl,rfl,SqL.of elb,rfl,?_⟩;refine ⟨bs 0,fun v4 hv4=>?_⟩;obtain ⟨G49,gs49,s49,ev4⟩:=zX hv4 (.tup []);rw [gs49];have BF:=BF.lw (Lw.of s49);have sA:=sA.trans s49;refine ⟨bs 3,fun v5 hv5=>?_⟩;obtain ⟨G50,gs50,s50,ev5⟩:=zX hv5 (.lst [bf,b2,.ref v4]);rw [gs50];have BF:=BF.lw (Lw.of s50);have sA:=sA.trans s50;have tb:=S.tb.same sA;refine ⟨3,t,v5,_,rfl,ev5,⟨dx,_,tb.at_,lkN _ _⟩,.inr (.inr (.inr (.inl ⟨rfl,⟨_,_,_,rfl⟩,t,dx,pa,ba,Ns,E0,bf,b2,.ref v4,rfl,tb,l14,W.nms,.inl ⟨BF,zMc (fun ra K51 z51 ea51=>?_)⟩⟩)))⟩;have sA:=sA.trans z51;refine ⟨bs 1,fun w10 hw10=>?_⟩;obtain ⟨G52,gs52,s52,ew10⟩:=zX hw10 (.tup [.str "number"]);rw [gs52];have ea51:=s52 _ _ ea51;have sA:=sA.trans s52;exact zNi ea51 ew10 (by decide+kernel) (q _ sA)
theorem zLy(hg:0<g):((Int.gcd (g*p) (g*q):Nat):Int)=g*((Int.gcd p q:Nat):Int):=by
 rw [Int.gcd_mul_left,Int.natCast_mul,Int.natAbs_of_nonneg (Int.le_of_lt hg)]
theorem zQI(x y:Int):Int.gcd (if x<0 then -x else x) y=Int.gcd x y:=by
 split
 ·rw [Int.neg_gcd]
 ·rfl
theorem zTQ(a:Int)(h1:0<b1)(h2:0<a2):
  inA a 1 a1 b1 a2 b2=(a*a1*b2)/((Int.gcd (if a*a1*b2<0 then -(a*a1*b2) else a*a1*b2) ((b1:Int)*a2):Nat):Int)/\
  inB a 1 a1 b1 a2 b2=((b1:Int)*a2)/((Int.gcd (if a*a1*b2<0 then -(a*a1*b2) else a*a1*b2) ((b1:Int)*a2):Nat):Int):=by
 rw [zQI];unfold inA inB;rw [Int.mul_assoc a];generalize hx:(a1:Int)*b2=x;have hy0:(0:Int)<(b1:Int)*a2:=Int.mul_pos (by omega) (by omega);generalize hy:(b1:Int)*a2=y at hy0⊢;have g0:(0:Int)<((Int.gcd x y:Nat):Int):=by
  have:=Int.gcd_pos_of_ne_zero_right x (b:=y) (by omega);omega
 have ex:x=((Int.gcd x y:Nat):Int)*fa x y:=(Int.mul_ediv_cancel' (Int.gcd_dvd_left x y)).symm;have ey:y=((Int.gcd x y:Nat):Int)*fb x y:=(Int.mul_ediv_cancel' (Int.gcd_dvd_right x y)).symm;rw [Int.one_mul];generalize fa x y=x' at ex⊢;generalize fb x y=y' at ey⊢;generalize ((Int.gcd x y:Nat):Int)=g at g0 ex ey;subst ex;have e3:a*(g*x')=g*(a*x'):=by rw [<-Int.mul_assoc,Int.mul_comm a g,Int.mul_assoc]
 rw [e3,ey,zLy g0];unfold fa fb;exact ⟨(Int.mul_ediv_mul_of_pos _ _ g0).symm,(Int.mul_ediv_mul_of_pos _ _ g0).symm⟩
def plD(a b:Int)(f:Prs):PyData:= .tuple [frD a b,zBC f]
def unD(f g:Prs):PyData:= .tuple [.str "unlike",zBC f,zBC g]
theorem zMy{f:Prs}(h:H r=some (.tup [.ref am,.ref un]))(h1:H am=some (.tup [.int a,.int b]))(h2:zx H un f):Dat H (k+3) (.ref r) (plD a b f):= .inr ⟨_,_,rfl,h,.cons (zJS h1) (.cons (zBW h2) .nil)⟩
theorem zNG{f g:Prs}(h:H r=some (.tup [.str "unlike",.ref u,.ref v]))(h1:zx H u f)(h2:zx H v g):Dat H (k+3) (.ref r) (unD f g):= .inr ⟨_,_,rfl,h,.cons zEm (.cons (zBW h1) (.cons (zBW h2) .nil))⟩
theorem zJG{f:Prs}(h: ∀p∈f,Nm p.1):(plD a b f).canLay0=true:=by unfold plD;simp only [PyData.canLay0,PyData.canLayAll0,zFk,zBV h,Bool.and_self]
theorem zIr{f g:Prs}(h: ∀p∈f,Nm p.1)(k: ∀p∈g,Nm p.1):(unD f g).canLay0=true:=by
 have e:PyData.strOk "unlike" =true:=by decide+kernel
 unfold unD;simp only [PyData.canLay0,PyData.canLayAll0,e,zBV h,zBV k,Bool.and_self]
theorem zSL{f:Prs}(h:H r=some (.tup [.ref am,.ref un]))(h1:H am=some (.tup [.int a,.int b]))(h2:zx H un f)(k:H r'=some (.tup [.ref am',.ref un']))(k1:H am'=some (.tup [.int a,.int b]))(k2:zx H un' f)
  (ok: ∀p∈f,Nm p.1) (q:Q (.bl false) H):zCs 8 true (.ref r) (.ref r') H Q:=by
 refine ⟨plD a b f,plD a b f,zMy h h1 h2,zMy k k1 k2,zJG ok,zJG ok,?_⟩;rw [SeqAt.eqv_refl _ (zJG ok)];exact q
theorem zTm{f g:Prs}(h:H r=some (.tup [.str "unlike",.ref u,.ref v]))(h1:zx H u f)(h2:zx H v g)(k:H r'=some (.tup [.str "unlike",.ref u',.ref v']))(k1:zx H u' f)(k2:zx H v' g)
  (ok: ∀p∈f,Nm p.1) (ok': ∀p∈g,Nm p.1) (q:Q (.bl true) H):zCs 8 false (.ref r) (.ref r') H Q:=by
 refine ⟨unD f g,unD f g,zNG h h1 h2,zNG k k1 k2,zIr ok ok',zIr ok ok',?_⟩;rw [SeqAt.eqv_refl _ (zIr ok ok')];exact q
theorem zTu(h:H r=some (.tup [.int a,.int b]))(h':H r'=some (.tup [.int a',.int b']))(e1:a=a')(e2:b=b')(q:Q (.bl true) H):zCs 8 false (.ref r) (.ref r') H Q:=by
 subst e1 e2;refine ⟨frD a b,frD a b,zJS h,zJS h',zFk a b,zFk a b,?_⟩;rw [SeqAt.eqv_refl _ (zFk a b)];exact q
theorem zMp{f g:Prs}(h1:zx H u f)(h2:zx H v g)(ok: ∀p∈f,Nm p.1)(ok': ∀p∈g,Nm p.1)(q:Q (.bl (!decide (f=g))) H):zCs 8 true (.ref u) (.ref v) H Q:=by
 refine ⟨zBC f,zBC g,zBW h1,zBW h2,zBV ok,zBV ok',?_⟩;rw [zIJ];exact q
theorem zNM(e:H dx=some (XD dx (ym "other" y [("one",x)])))(h:Tw H Q [.str "unlike",x,y]):EX c0 c1 c2 c3 c4 c5 c6 Q (.ref c6) (some dx) H:= .inr (.inr (.inr (.inr (.inr (.inr ⟨rfl,dx,x,y,rfl,e,h⟩)))))
theorem zFw(a:Int):zBR [.int a,.int 1] =true:=by unfold zBR;simp
theorem zIp(h1: -100<=a)(h2:a<=100):Sz 100 a:=by
 unfold Sz;have:a.natAbs<=100:=by omega
 exact zUb this (by decide)
theorem zKC: ∀{E:List Ent} {kvs:List (Key×V)},Paired (zAg H) E kvs->kvs.map (·.1)=(E.map (·.nm)).map Sum.inr
 | _,_,.nil=>rfl
 | _,_,.cons h t=>by rw [zVP,zVP,zVP,zKC t,h.1]
theorem zNy{E:List Ent}{e:Ent}(h:E.find? (fun e=>e.nm==n)=some e):e∈E:=List.mem_of_find?_eq_some h
theorem zMl{E:List Ent}(h:n∈E.map (·.nm)):E.find? (fun e=>e.nm==n)≠none:=by
 rw [ne_eq,List.find?_eq_none];intro z;obtain ⟨e,he,rfl⟩:=zVR.mp h;exact z e he (by simp)
def zGr(C:Addr):Sp:=fun vs H Q _=> ∃(Ns:List Str) (dx pa ba t wd ma fl nm:Addr) (E:List Ent) (k:Int),vs= [.ref wd,.ref t,.int k] /\Sst Ns C dx pa ba t wd ma fl nm H E/\ ∀H',zE H H'->Q (.bl true) H'
theorem yc:FnScope ["_law_world","_law_table","_law_number_here","_law_unit_here","_law_wanted","_law_name","_law_one","_law_other","_law_due","_law_amount_here","_law_found","_law_above","_law_below","_law_shared"] ["_law_world","_law_table","_law_number_here"] (zK zFu):=fs
theorem zNR{f fN fM fP fT fC C c0 c1 c2 c3 c4 c5 c6:Addr}{fd fdN fdM fdP fdT fdC:FuncData}(F:Fun K "_law_told" "_law_told" zFu f fd)(B:Bn mg)(ht:P.given.tree=none)
  (FN:Fun K "_law_unit" "_law_unit" zEZ fN fdN) (bN:zL K fdN ["_law_number_here","_law_names_here"] []) (mN:mg "_law_unit" =some (.ref fN)) (GN:FnOk P w K mg base CX0 2 fN fdN ["_law_number_here","_law_names_here"] (zEW K))
  (FM:Fun K "_law_mixed" "_law_mixed" zDX fM fdM) (bM:zL K fdM ["_law_number_here","_law_k"] []) (mM:mg "_law_mixed" =some (.ref fM)) (GM:FnOk P w K mg base CX0 1 fM fdM ["_law_number_here","_law_k"] zDc)
  (FP:Fun K "_law_plain" "_law_plain" zDK fP fdP) (bP:zL K fdP ["_law_world","_law_unit_here"] []) (mP:mg "_law_plain" =some (.ref fP)) (GP:FnOk P w K mg base CX0 35 fP fdP ["_law_world","_law_unit_here"] zCl)
  (FT:Fun K "_law_tried" "_law_tried" zCF fT fdT) (bT:zL K fdT ["_law_way","_law_table","_law_things"] []) (mT:mg "_law_tried" =some (.ref fT)) (GT:FnOk P w K mg base CX0 8 fT fdT ["_law_way","_law_table","_law_things"] (zCM C c0 c1 c2 c3 c4 c5 c6))
  (FC:Fun K "_law_common" "_law_common" zEE fC fdC) (bC:zL K fdC ["_law_one","_law_other"] []) (mC:mg "_law_common" =some (.ref fC)) (GC:FnOk P w K mg base CX0 34 fC fdC ["_law_one","_law_other"] zDJ):
  FnOk P w K mg base CX0 36 f fd ["_law_world","_law_table","_law_number_here"] (zGr C):=by
 refine F.okQ yc (fun vs H Q E h=>?_) (fun cdv A outer s H vs Q E hr h=>?_)
 ·obtain ⟨Ns,dx,pa,ba,t,wd,ma,fl,na,E0,k,rfl,_⟩:=h;rfl
 ·obtain ⟨Ns,dx,pa,ba,t,wd,ma,fl,na,E0,k,rfl,S,q⟩:=h;have hr35:Room 35 _:=hr;have hr34:Room 34 _:=hr.mono (by decide);have hr8:Room 8 _:=hr.mono (by decide);have hr2:Room 2 _:=hr.mono (by decide);have hr1:Room 1 _:=hr.mono (by decide);have hu:=zAD hr;have huN:_<cLine:=Nat.lt_of_succ_lt hu;have huD:_+8<cLine:=zUb (zVF (by decide:8<=64) _) hr.units;have deep:=zDG (CX:=CX0) (P:=P) (w:=w) (K:=K) (mg:=mg) (base:=base) (N:= ["_law_world","_law_table","_law_number_here","_law_unit_here","_law_wanted","_law_name","_law_one","_law_other","_law_due","_law_amount_here","_law_found","_law_above","_law_below","_law_shared"]) (H:=H) (E:=E) (outer:=outer) hr (by decide) ht rfl rfl |>.nox;refine ⟨_,(zH
   (zT 3 yc.nd rfl (zP GN hr2 rfl mN FN.kp bN .nil zO (qc (qw 2 rfl) (qc (zo hu (qw 0 rfl) zN (fun _ _=>rfl)) zD rfl) rfl) rfl rfl rfl) rfl) (zH
   (zT 4 yc.nd rfl (zP GN hr2 rfl mN FN.kp bN .nil zO (qc (zP GM hr1 rfl mM FM.kp bM .nil zO (qc (qw 2 rfl) (qc zF zD rfl) rfl) rfl rfl rfl) (qc (zo hu (qw 0 rfl) zN (fun _ _=>rfl)) zD rfl) rfl) rfl rfl rfl) rfl) (zH
   (zq (zY zAI (yJ (yS (qw 2 rfl) zF) zF) zF rfl) (zH
    (zT 5 yc.nd rfl (yH (K:=K) rfl (zo hu (qw 0 rfl) zN (fun _ _=>rfl)) (yJ (yS (qw 2 rfl) zF) (yE (zAy (K:=K) rfl) rfl B.len zAU (qc (zo hu (qw 0 rfl) zN (fun _ _=>rfl)) zD rfl) rfl)) (fun _ _=>rfl)) rfl) (zJ
    (zT 3 yc.nd rfl (zQ (qc (zQ (qc (qw 5 rfl) (qc (yH (K:=K) rfl (zy (qc zF (qc (zCd zF) (qc zF (qc (zCd zF) (qc (zIA zF zF) zD rfl) rfl) rfl) rfl) rfl)) (yJ (yS (qw 2 rfl) zF) zF) (fun _ _=>rfl)) zD rfl) rfl)) zD rfl)) rfl))) (zJ
    (zq (t_w (zDg (zY zAI (yJ (yS (qw 2 rfl) zF) zF) zF rfl) (zCU (zY (zPl huN) (zo hu (qw 0 rfl) zN (fun _ _=>rfl)) zCE rfl)))) (zH
     (zT 5 yc.nd rfl (yH (K:=K) rfl (yE (zBi rfl) rfl B.sorted zCm (qc (zo hu (qw 0 rfl) zN (fun _ _=>rfl)) zD rfl) rfl) (yJ (yS (qw 2 rfl) zF) (yE zEF rfl B.len zAU (qc (zo hu (qw 0 rfl) zN (fun _ _=>rfl)) zD rfl) rfl)) (fun _ _=>rfl)) rfl) (zH
     (zT 3 yc.nd rfl (zQ (qc (zQ (qc (qw 5 rfl) (qc zF zD rfl) rfl)) zD rfl)) rfl) (zJ
     (zT 4 yc.nd rfl (zR (K:=K) rfl (zo hu (zo hu (qw 0 rfl) zN (fun _ _=>rfl)) (qw 5 rfl) (fun _ _=>rfl)) zF (fun _ _=>rfl)) rfl)))) zn))) (zH
   (zT 6 yc.nd rfl (zP GP hr35 rfl mP FP.kp bP .nil zO (qc (qw 0 rfl) (qc (qw 3 rfl) zD rfl) rfl) rfl rfl rfl) rfl) (zH
   (zT 7 yc.nd rfl (zP GP hr35 rfl mP FP.kp bP .nil zO (qc (qw 0 rfl) (qc (qw 4 rfl) zD rfl) rfl) rfl rfl rfl) rfl) (zH
   (zT 8 yc.nd rfl (zQ (qc zN zD rfl)) rfl) (zH
   (zq (zRi (qw 6 rfl) rfl) (zJ
    (zT 8 yc.nd rfl (zQ (qc (zQ (qc (zR (K:=K) rfl (qw 6 rfl) zF (fun _ _=>rfl)) (qc (zR (K:=K) rfl (qw 6 rfl) zF (fun _ _=>rfl)) zD rfl) rfl)) (qc (zR (K:=K) rfl (qw 6 rfl) zF (fun _ _=>rfl)) zD rfl) rfl)) rfl)) zn) (zH
   (zq (zY (zAc (n:=8) huD) (zP GT hr8 rfl mT FT.kp bT .nil zO (qc zF (qc (qw 1 rfl) (qc (zy (qc (qw 3 rfl) zD rfl)) zD rfl) rfl) rfl) rfl rfl rfl) (qw 8 rfl) rfl) (zJ
    (zW yw)) zn) (zH
   (zT 9 yc.nd rfl (zQ (qc (zKu (yJ (qw 2 rfl) zF) zF) (qc zF zD rfl) rfl)) rfl) (zH
   (zT 10 yc.nd rfl (zP GT hr8 rfl mT FT.kp bT .nil zO (qc zF (qc (qw 1 rfl) (qc (zy (qc (qw 9 rfl) (qc (qw 3 rfl) (qc (qw 4 rfl) zD rfl) rfl) rfl)) zD rfl) rfl) rfl) rfl rfl rfl) rfl) (zH
   (zq (t_w (zAr (zLM (qw 6 rfl) rfl) (zAu (zLM (qw 7 rfl) rfl)))) (zJ
    (zW (zBf (zBo (n:=8) huD) (qw 10 rfl) (zQ (qc zN zD rfl)) rfl))) zn) (zH
   (zq (zY (zAc (n:=8) huD) (zR (K:=K) rfl (qw 6 rfl) zF (fun _ _=>rfl)) (zR (K:=K) rfl (qw 7 rfl) zF (fun _ _=>rfl)) rfl) (zJ
    (zW (zBf (zBo (n:=8) huD) (qw 10 rfl) (zQ (qc zN (qc (zR (K:=K) rfl (qw 6 rfl) zF (fun _ _=>rfl)) (qc (zR (K:=K) rfl (qw 7 rfl) zF (fun _ _=>rfl)) zD rfl) rfl) rfl)) rfl))) zn) (zH
   (zT 11 yc.nd rfl (zCB (zCB (zR (K:=K) rfl (qw 9 rfl) zF (fun _ _=>rfl)) (zR (K:=K) rfl (qw 6 rfl) zF (fun _ _=>rfl))) (zR (K:=K) rfl (qw 7 rfl) zF (fun _ _=>rfl))) rfl) (zH
   (zT 12 yc.nd rfl (zCB (zR (K:=K) rfl (qw 6 rfl) zF (fun _ _=>rfl)) (zR (K:=K) rfl (qw 7 rfl) zF (fun _ _=>rfl))) rfl) (zH
   (zT 13 yc.nd rfl (zP GC hr34 rfl mC FC.kp bC .nil zO (qc (yE zCZ rfl B.abs zEH (qc (qw 11 rfl) zD rfl) rfl) (qc (qw 12 rfl) zD rfl) rfl) rfl rfl rfl) rfl) (zJ
   (zW (zBf (zBo (n:=8) huD) (qw 10 rfl) (zQ (qc (zAY deep (qw 11 rfl) (qw 13 rfl)) (qc (zAY deep (qw 12 rfl) (qw 13 rfl)) zD rfl) rfl)) rfl)))))))))))))))))),?_⟩
  have W:=S.w;have l0:=W.l0;have l14:=W.l14;generalize hT2:zCn (zDz _ (zBM 6)) _=T2;have tail: ∀(u v:Addr) (us vs:Prs) (v5:Option V) (H1:Hp),zE H H1->zx H1 u us->GoodU Ns us->us.length<=3->zx H1 v vs->GoodU Ns vs->vs.length<=3->
    T2 {nx:=fun _ H'=>Q .non H',rt:=Q} [some (.ref wd),some (.ref t),some (.int k),some (.ref u),some (.ref v),v5,none,none,none,none,none,none,none,none] H1:=by
   intro u v us vs v5 H1 sA un gu u3 vn gv v3;rw [<-hT2];refine ⟨_,rfl,_,rfl,Ns,wd,ma,fl,na,u,E0,us,rfl,W.same sA,un,gu,u3,fun p1 r1 H2 z1 pl1 pv1=>?_⟩;have un:=un.same z1;have vn:=vn.same z1;have sA:=sA.trans z1;refine ⟨_,rfl,_,rfl,Ns,wd,ma,fl,na,v,E0,vs,rfl,W.same sA,vn,gv,v3,fun p2 r2 H3 z2 pl2 pv2=>?_⟩;have un:=un.same z2;have vn:=vn.same z2;have pv1:=pv1.same z2;have sA:=sA.trans z2;cases r1 with
   | none=>
    have pv':p1= .non:=pv1;subst pv';refine ⟨bs 1,fun d0 hd0=>?_⟩;obtain ⟨G1,gs1,s1,ed0⟩:=zX hd0 (.tup [.str "table"]);rw [gs1];have un:=un.same s1;have vn:=vn.same s1;have pv2:=pv2.same s1;have sA:=sA.trans s1;refine ⟨_,rfl,_,rfl,zM ?_⟩;refine ⟨_,rfl,_,rfl,bs 1,fun l1 hl1=>?_⟩;obtain ⟨G2,gs2,s2,el1⟩:=zX hl1 (.lst [.ref u]);rw [gs2];have ed0:=s2 _ _ ed0;have un:=un.same s2;have vn:=vn.same s2;have pv2:=pv2.same s2;have sA:=sA.trans s2;have tb:=S.tb.same sA;refine ⟨2,t,l1,_,rfl,el1,⟨dx,_,tb.at_,lkN _ _⟩,.inr (.inr (.inl ⟨rfl,⟨_,rfl⟩,t,dx,pa,ba,Ns,E0,.ref u,rfl,tb,l14,W.nms,.inr ⟨u,us,rfl,un,gu,u3,.inl ⟨pl1,zBm (fun ra K3 z3 ea=>?_)⟩⟩⟩))⟩;have ed0:=z3 _ _ ed0;have el1:=z3 _ _ el1;have un:=un.same z3;have vn:=vn.same z3;have pv2:=pv2.same z3;have sA:=sA.trans z3;refine ⟨_,rfl,zGs ea ed0 (by decide+kernel) ?_⟩;refine ⟨_,rfl,zM ?_⟩;refine ⟨_,rfl,_,_,rfl,rfl,(by decide:(0:Int)<41),_,_,rfl,rfl,bs 2,fun am ham=>?_⟩;obtain ⟨G4,gs4,s4,eam⟩:=zX ham (.tup [.int (k % 41 - 20),.int 1]);rw [gs4];have un:=un.same s4;have vn:=vn.same s4;have pv2:=pv2.same s4;have sA:=sA.trans s4;have m0:0<=k % 41:=zUc _ (by decide);have m1:k % 41<41:=zUW _ (by decide);have za:Sz 100 (k % 41 - 20):=zIp (by omega) (by omega);refine ⟨_,rfl,_,rfl,_,rfl,_,rfl,bs 3,fun l2 hl2=>?_⟩;obtain ⟨G5,gs5,s5,el2⟩:=zX hl2 (.lst [.ref am,.ref u,.ref v]);rw [gs5];have eam:=s5 _ _ eam;have un:=un.same s5;have vn:=vn.same s5;have pv2:=pv2.same s5;have sA:=sA.trans s5;have tb:=S.tb.same sA;refine ⟨3,t,l2,_,rfl,el2,⟨dx,_,tb.at_,lkN _ _⟩,.inr (.inr (.inr (.inl ⟨rfl,⟨_,_,_,rfl⟩,t,dx,pa,ba,Ns,E0,.ref am,.ref u,.ref v,rfl,tb,l14,W.nms,.inr ⟨am,k % 41 - 20,1,rfl,eam,zFw _,za,by unfold Sz;decide,.inr ⟨u,us,rfl,un,gu,u3,.inl ⟨pl1,zBm (fun rb K6 z6 eb=>?_)⟩⟩⟩⟩)))⟩;have eam:=z6 _ _ eam;have el2:=z6 _ _ el2;have un:=un.same z6;have vn:=vn.same z6;have pv2:=pv2.same z6;have sA:=sA.trans z6;refine ⟨_,rfl,_,rfl,zZ (zZ ?_)⟩;refine ⟨_,rfl,bs 1,fun we hwe=>?_⟩;obtain ⟨G7,gs7,s7,ewe⟩:=zX hwe (.tup [.str "table"]);rw [gs7];have eb:=s7 _ _ eb;have un:=un.same s7;have vn:=vn.same s7;have pv2:=pv2.same s7;have sA:=sA.trans s7;exact zNi eb ewe (by decide+kernel) (q _ sA)
   | some r1=>
   obtain ⟨a1,b1,f1⟩:=r1;obtain ⟨r,u1,pv',er,ur⟩:=pv1;subst pv';obtain ⟨ro1,sf1⟩:=pl1.good W.ok gu.nn;have ok1: ∀p∈f1,Nm p.1:=fun p hp=>W.nms _ (ro1.fu.nn p hp);refine ⟨bs 1,fun d0 hd0=>?_⟩;obtain ⟨G1,gs1,s1,ed0⟩:=zX hd0 (.tup [.str "table"]);rw [gs1];have er:=s1 _ _ er;have un:=un.same s1;have vn:=vn.same s1;have pv2:=pv2.same s1;have ur:=ur.same s1;have sA:=sA.trans s1;refine ⟨_,rfl,_,rfl,zZ ?_⟩;refine ⟨_,rfl,r,_,_,_,rfl,rfl,SqT.of er,rfl,_,rfl,r,_,_,_,rfl,rfl,SqT.of er,rfl,bs 2,fun d1 hd1=>?_⟩;obtain ⟨G2,gs2,s2,ed1⟩:=zX hd1 (.tup [.int (a1:Int),.int (b1:Int)]);rw [gs2];have er:=s2 _ _ er;have un:=un.same s2;have vn:=vn.same s2;have pv2:=pv2.same s2;have ur:=ur.same s2;have sA:=sA.trans s2;refine ⟨_,rfl,r,_,_,_,rfl,rfl,SqT.of er,rfl,bs 2,fun d2 hd2=>?_⟩;obtain ⟨G3,gs3,s3,ed2⟩:=zX hd2 (.tup [.ref d1,.ref u1]);rw [gs3];have er:=s3 _ _ er;have ed1:=s3 _ _ ed1;have un:=un.same s3;have vn:=vn.same s3;have pv2:=pv2.same s3;have ur:=ur.same s3;have sA:=sA.trans s3;refine ⟨_,rfl,_,rfl,bs 1,fun l1 hl1=>?_⟩;obtain ⟨G4,gs4,s4,el1⟩:=zX hl1 (.lst [.ref u]);rw [gs4];have er:=s4 _ _ er;have ed1:=s4 _ _ ed1;have ed2:=s4 _ _ ed2;have un:=un.same s4;have vn:=vn.same s4;have pv2:=pv2.same s4;have ur:=ur.same s4;have sA:=sA.trans s4;have tb:=S.tb.same sA;refine ⟨2,t,l1,_,rfl,el1,⟨dx,_,tb.at_,lkN _ _⟩,.inr (.inr (.inl ⟨rfl,⟨_,rfl⟩,t,dx,pa,ba,Ns,E0,.ref u,rfl,tb,l14,W.nms,.inr ⟨u,us,rfl,un,gu,u3,.inr ⟨a1,b1,f1,pl1,fun K5 ra am' un' z5 ea ea1 ea2=>?_⟩⟩⟩))⟩;have er:=z5 _ _ er;have ed1:=z5 _ _ ed1;have ed2:=z5 _ _ ed2;have un:=un.same z5;have vn:=vn.same z5;have pv2:=pv2.same z5;have ur:=ur.same z5;have sA:=sA.trans z5;refine ⟨_,rfl,zSL ea ea1 ea2 ed2 ed1 ur ok1 ?_⟩;refine ⟨_,rfl,zM ?_⟩;cases r2 with
   | none=>
    have pv':p2= .non:=pv2;subst pv';refine ⟨_,rfl,_,_,rfl,rfl,(by decide:(0:Int)<41),_,_,rfl,rfl,bs 2,fun am ham=>?_⟩;obtain ⟨G6,gs6,s6,eam⟩:=zX ham (.tup [.int (k % 41 - 20),.int 1]);rw [gs6];have er:=s6 _ _ er;have un:=un.same s6;have vn:=vn.same s6;have ur:=ur.same s6;have sA:=sA.trans s6;have m0:0<=k % 41:=zUc _ (by decide);have m1:k % 41<41:=zUW _ (by decide);have za:Sz 100 (k % 41 - 20):=zIp (by omega) (by omega);refine ⟨_,rfl,_,rfl,_,rfl,_,rfl,bs 3,fun l2 hl2=>?_⟩;obtain ⟨G7,gs7,s7,el2⟩:=zX hl2 (.lst [.ref am,.ref u,.ref v]);rw [gs7];have er:=s7 _ _ er;have eam:=s7 _ _ eam;have un:=un.same s7;have vn:=vn.same s7;have ur:=ur.same s7;have sA:=sA.trans s7;have tb:=S.tb.same sA;refine ⟨3,t,l2,_,rfl,el2,⟨dx,_,tb.at_,lkN _ _⟩,.inr (.inr (.inr (.inl ⟨rfl,⟨_,_,_,rfl⟩,t,dx,pa,ba,Ns,E0,.ref am,.ref u,.ref v,rfl,tb,l14,W.nms,.inr ⟨am,k % 41 - 20,1,rfl,eam,zFw _,za,by unfold Sz;decide,.inr ⟨u,us,rfl,un,gu,u3,.inr ⟨a1,b1,f1,pl1,.inr ⟨v,vs,rfl,vn,gv,v3,.inl ⟨pl2,zBm (fun rb K8 z8 eb=>?_)⟩⟩⟩⟩⟩⟩)))⟩;have er:=z8 _ _ er;have eam:=z8 _ _ eam;have el2:=z8 _ _ el2;have un:=un.same z8;have vn:=vn.same z8;have ur:=ur.same z8;have sA:=sA.trans z8;refine ⟨_,rfl,_,rfl,zM ⟨_,rfl,_,rfl,zZ ?_⟩⟩;refine ⟨_,rfl,bs 1,fun we hwe=>?_⟩;obtain ⟨G9,gs9,s9,ewe⟩:=zX hwe (.tup [.str "table"]);rw [gs9];have eb:=s9 _ _ eb;have un:=un.same s9;have vn:=vn.same s9;have ur:=ur.same s9;have sA:=sA.trans s9;exact zNi eb ewe (by decide+kernel) (q _ sA)
   | some r2=>
   obtain ⟨a2,b2,f2⟩:=r2;obtain ⟨r',u2,pv',er',ur'⟩:=pv2;subst pv';obtain ⟨ro2,sf2⟩:=pl2.good W.ok gv.nn;have ok2: ∀p∈f2,Nm p.1:=fun p hp=>W.nms _ (ro2.fu.nn p hp);refine ⟨_,rfl,_,_,rfl,rfl,(by decide:(0:Int)<41),_,_,rfl,rfl,bs 2,fun am ham=>?_⟩;obtain ⟨G6,gs6,s6,eam⟩:=zX ham (.tup [.int (k % 41 - 20),.int 1]);rw [gs6];have er:=s6 _ _ er;replace er':=s6 _ _ er';have un:=un.same s6;have vn:=vn.same s6;have ur:=ur.same s6;replace ur':=ur'.same s6;have sA:=sA.trans s6;have m0:0<=k % 41:=zUc _ (by decide);have m1:k % 41<41:=zUW _ (by decide);have za:Sz 100 (k % 41 - 20):=zIp (by omega) (by omega);refine ⟨_,rfl,_,rfl,_,rfl,_,rfl,bs 3,fun l2 hl2=>?_⟩;obtain ⟨G7,gs7,s7,el2⟩:=zX hl2 (.lst [.ref am,.ref u,.ref v]);rw [gs7];have er:=s7 _ _ er;replace er':=s7 _ _ er';have eam:=s7 _ _ eam;have un:=un.same s7;have vn:=vn.same s7;have ur:=ur.same s7;replace ur':=ur'.same s7;have sA:=sA.trans s7;by_cases hf:f1=f2
   ·subst hf;have tb:=S.tb.same sA;refine ⟨3,t,l2,_,rfl,el2,⟨dx,_,tb.at_,lkN _ _⟩,.inr (.inr (.inr (.inl ⟨rfl,⟨_,_,_,rfl⟩,t,dx,pa,ba,Ns,E0,.ref am,.ref u,.ref v,rfl,tb,l14,W.nms,.inr ⟨am,k % 41 - 20,1,rfl,eam,zFw _,za,by unfold Sz;decide,.inr ⟨u,us,rfl,un,gu,u3,.inr ⟨a1,b1,f1,pl1,.inr ⟨v,vs,rfl,vn,gv,v3,.inr ⟨a2,b2,f1,pl2,.inr ⟨rfl,fun rb K8 z8 eb=>?_⟩⟩⟩⟩⟩⟩⟩)))⟩;have er:=z8 _ _ er;replace er':=z8 _ _ er';have eam:=z8 _ _ eam;have el2:=z8 _ _ el2;have un:=un.same z8;have vn:=vn.same z8;have ur:=ur.same z8;replace ur':=ur'.same z8;have sA:=sA.trans z8;refine ⟨_,rfl,_,rfl,zM ⟨_,rfl,_,rfl,zM ?_⟩⟩;refine ⟨_,rfl,r,_,_,_,rfl,rfl,SqT.of er,rfl,_,rfl,r',_,_,_,rfl,rfl,SqT.of er',rfl,zMp ur ur' ok1 ok2 ?_⟩;rw [zUi rfl];refine ⟨_,rfl,zM ?_⟩;have zs: ∀{n:Nat},n<10^200->Sz 700 (n:Int):=fun h=>zDr (yi h);refine ⟨_,rfl,am,_,_,_,rfl,rfl,SqT.of eam,rfl,_,rfl,r,_,_,_,rfl,rfl,SqT.of er,rfl,_,_,rfl,rfl,⟨za.mono (by decide),(zs ro1.f3).mono (by decide)⟩,_,rfl,r',_,_,_,rfl,rfl,SqT.of er',rfl,_,_,rfl,rfl,⟨(za.mul (zs ro1.f3)).mono (by decide),(zs ro2.f4).mono (by decide)⟩,?_⟩;refine ⟨_,rfl,r,_,_,_,rfl,rfl,SqT.of er,rfl,_,rfl,r',_,_,_,rfl,rfl,SqT.of er',rfl,_,_,rfl,rfl,⟨(zs ro1.f4).mono (by decide),(zs ro2.f3).mono (by decide)⟩,?_⟩;dsimp only;have zA:Sz 1500 ((k % 41 - 20)*(a1:Int)*(b2:Int)):=((za.mul (zs ro1.f3)).mul (zs ro2.f4)).mono (by decide);have zB:Sz 1500 ((b1:Int)*(a2:Int)):=((zs ro1.f4).mul (zs ro2.f3)).mono (by decide);have pB:(0:Int)<(b1:Int)*(a2:Int):=Int.mul_pos (by have:0<b1:=ro1.f2;omega) (by have:0<a2:=ro2.f1;omega);obtain ⟨i1,i2⟩:=zTQ (k % 41 - 20) (a1:=a1) (b1:=b1) (a2:=a2) (b2:=b2) ro1.f2 ro2.f1;generalize (k % 41 - 20)*(a1:Int)*(b2:Int)=X at zA i1 i2⊢;generalize (b1:Int)*(a2:Int)=Y at zB pB i1 i2⊢;refine ⟨_,rfl,X,rfl,_,rfl,_,Y,rfl,by split<;>omega,by omega,?_,zB.mono (by decide),?_⟩
    ·have z:=zA.mono (show 1500<=1000000 by decide);unfold Sz at z⊢;split
     ·rw [Int.natAbs_neg];exact z
     ·exact z
    have gp:=zCN (if X<0 then -X else X) pB;generalize ((Int.gcd (if X<0 then -X else X) Y:Nat):Int)=G at gp i1 i2⊢;refine ⟨_,rfl,_,rfl,_,rfl,_,_,rfl,rfl,gp,_,rfl,_,rfl,_,_,rfl,rfl,gp,bs 2,fun we hwe=>?_⟩;obtain ⟨G9,gs9,s9,ewe⟩:=zX hwe (.tup [.int (X/G),.int (Y/G)]);rw [gs9];have eb:=s9 _ _ eb;have un:=un.same s9;have vn:=vn.same s9;have ur:=ur.same s9;replace ur':=ur'.same s9;have sA:=sA.trans s9;exact zTu eb ewe i1 i2 (q _ sA)
   ·have hne:decide (f1=f2)=false:=zUl hf;have tb:=S.tb.same sA;refine ⟨3,t,l2,_,rfl,el2,⟨dx,_,tb.at_,lkN _ _⟩,.inr (.inr (.inr (.inl ⟨rfl,⟨_,_,_,rfl⟩,t,dx,pa,ba,Ns,E0,.ref am,.ref u,.ref v,rfl,tb,l14,W.nms,.inr ⟨am,k % 41 - 20,1,rfl,eam,zFw _,za,by unfold Sz;decide,.inr ⟨u,us,rfl,un,gu,u3,.inr ⟨a1,b1,f1,pl1,.inr ⟨v,vs,rfl,vn,gv,v3,.inr ⟨a2,b2,f2,pl2,.inl ⟨hf,fun H88 dx' u' v' z88 un8 vn8 e8=>zNM e8 (fun rb K8 z8 eb=>?_)⟩⟩⟩⟩⟩⟩⟩)))⟩;have un8:=un8.same z8;have vn8:=vn8.same z8;have z8:=z88.trans z8;have er:=z8 _ _ er;replace er':=z8 _ _ er';have un:=un.same z8;have vn:=vn.same z8;have ur:=ur.same z8;replace ur':=ur'.same z8;have sA:=sA.trans z8;refine ⟨_,rfl,_,rfl,zM ⟨_,rfl,_,rfl,zM ?_⟩⟩;refine ⟨_,rfl,r,_,_,_,rfl,rfl,SqT.of er,rfl,_,rfl,r',_,_,_,rfl,rfl,SqT.of er',rfl,zMp ur ur' ok1 ok2 ?_⟩;rw [hne];refine ⟨_,rfl,zZ ?_⟩;refine ⟨_,rfl,_,rfl,r,_,_,_,rfl,rfl,SqT.of er,rfl,_,rfl,r',_,_,_,rfl,rfl,SqT.of er',rfl,bs 3,fun we hwe=>?_⟩;obtain ⟨G9,gs9,s9,ewe⟩:=zX hwe (.tup [.str "unlike",.ref u1,.ref u2]);rw [gs9];have eb:=s9 _ _ eb;have un8:=un8.same s9;have vn8:=vn8.same s9;have ur:=ur.same s9;replace ur':=ur'.same s9;have sA:=sA.trans s9;exact zTm eb un8 vn8 ewe ur ur' ok1 ok2 (q _ sA)
  refine ⟨_,rfl,_,rfl,wd,_,rfl,W.gn,k,na,Ns,rfl,W.nm,l0,l14,fun u us H1 sA un gu u3=>?_⟩;refine ⟨_,rfl,k,2,rfl,by decide,by decide,fun m _ _=>?_⟩;refine ⟨_,rfl,wd,_,rfl,(W.same sA).gn,m,na,Ns,rfl,(W.same sA).nm,l0,l14,fun v vs H2 z2 vn gv v3=>?_⟩;have un:=un.same z2;have sA:=sA.trans z2;have W1:=W.same sA;refine ⟨_,rfl,_,_,rfl,rfl,yu (by decide) (by decide),_,_,rfl,rfl,(by decide:(0:Int)<16),rfl,_,rfl,?_⟩;refine yB (fun c=>?_) (fun c=>?_)
  ·have k0:0<=k/48 %(Ns.length:Int):=zUc _ (by omega);have k1:k/48 %(Ns.length:Int)<Ns.length:=zUW _ (by omega);obtain ⟨j,hj⟩: ∃j:Nat,k/48 %(Ns.length:Int)=j:=⟨(k/48 %(Ns.length:Int)).toNat,by omega⟩;have hjn:j<Ns.length:=by omega
   have hn:Ns[j] ∈Ns:=zUs hjn;refine ⟨_,rfl,wd,_,rfl,W1.gn,_,rfl,_,_,rfl,rfl,yu (by decide) (by decide),_,rfl,wd,_,rfl,W1.gn,na,_,rfl,.inl (SqL.of W1.nm),_,_,rfl,rfl,by rw [zUR];omega,na,_,_,.str Ns[j],rfl,rfl,SqL.of W1.nm,?_,?_⟩
   ·rw [zUR,hj];exact zAG (by rw [zUP,zUK hjn];rfl)
   generalize Ns[j] =n at hn⊢;refine ⟨_,rfl,_,rfl,_,rfl,_,_,rfl,rfl,⟨by decide,by decide,by decide⟩,bs 5,fun l5 hl5=>?_⟩;obtain ⟨G1,gs1,s1,el5⟩:=zX hl5 (.lst [.int 65,.int (-65),.int 64,.int (-64),.int (10^(9:Int).toNat)]);rw [gs1];have vn:=vn.same s1;have sA:=sA.trans s1;obtain ⟨e,he,e0⟩: ∃e:Int,atI [V.int 65,V.int (-65),V.int 64,V.int (-64),V.int (10^(9:Int).toNat)] (k/700 % 5)=some (.int e)/\e≠0:=by
    have m0:0<=k/700 % 5:=zUc _ (by decide);have m1:k/700 % 5<5:=zUW _ (by decide);have z:k/700 % 5=0\/k/700 % 5=1\/k/700 % 5=2\/k/700 % 5=3\/k/700 % 5=4:=by omega
    rcases z with z | z | z | z | z<;>rw [z] <;>exact ⟨_,rfl,by decide⟩
   refine ⟨_,rfl,_,_,rfl,rfl,yu (by decide) (by decide),_,_,rfl,rfl,(by decide:(0:Int)<5),l5,_,_,.int e,rfl,rfl,SqL.of el5,he,?_⟩;refine ⟨bs 2,fun tp htp=>?_⟩;obtain ⟨G2,gs2,s2,etp⟩:=zX htp (.tup [.str n,.int e]);rw [gs2];have vn:=vn.same s2;have sA:=sA.trans s2;refine ⟨bs 1,fun tu htu=>?_⟩;obtain ⟨G3,gs3,s3,etu⟩:=zX htu (.tup [.ref tp]);rw [gs3];have etp:=s3 _ _ etp;have vn:=vn.same s3;have sA:=sA.trans s3;exact tail _ _ _ _ _ _ sA (zGa etu etp) (zDU hn e0) (by simp) vn gv v3
  ·have go:T2 {nx:=fun _ H'=>Q .non H',rt:=Q} [some (.ref wd),some (.ref t),some (.int k),some (.ref u),some (.ref v),none,none,none,none,none,none,none,none,none] H2:=tail _ _ _ _ _ _ sA un gu u3 vn gv v3;refine ⟨_,rfl,_,_,rfl,rfl,yu (by decide) (by decide),_,_,rfl,rfl,(by decide:(0:Int)<2),rfl,_,rfl,?_⟩;refine yB (fun c2=>?_) (fun c2=>zM go);obtain ⟨km,em,pm⟩:=W1.ma;refine ⟨_,rfl,wd,_,rfl,W1.gm,fun d hd=>?_⟩;have sd:=zE.upd hd (o:= .dK []);refine ⟨ma,d,km,rfl,rfl,.inl (sd _ _ em),zC,_,rfl,?_⟩;generalize L2.upd H2 d (.dK [])=H4 at sd⊢;have un:=un.same sd;have vn:=vn.same sd;have sA:=sA.trans sd;refine yB (fun c3=>?_) (fun c3=>tail _ _ _ _ _ _ sA un gu u3 vn gv v3);have W2:=W.same sA;have em:=sd _ _ em;have pm:=Paired.mapP pm fun a b z=>zAg.tps z (zE.tps sd);have lk:=Paired.length pm;have hl:=W.len;have km0:0<km.length:=by
    cases km with
    | nil=>cases c3
    | cons a b=>simp
   refine ⟨_,rfl,wd,_,rfl,W2.gm,ma,km,E0.map (·.nm),rfl,.inl em,zKC pm,by omega,fun sl ks' hsl hperm hsd=>?_⟩;obtain ⟨H5,gss,ss,esl⟩:=zX hsl (.lst (ks'.map V.str));rw [gss];have W3:=W2.same ss;have em5:=ss _ _ em;have lks:ks'.length=km.length:=by rw [hperm.length_eq,zUR];exact lk.symm▸rfl
   have k0:0<=k/10 %(km.length:Int):=zUc _ (by omega);have k1:k/10 %(km.length:Int)<km.length:=zUW _ (by omega);obtain ⟨j,hj⟩: ∃j:Nat,k/10 %(km.length:Int)=j:=⟨(k/10 %(km.length:Int)).toNat,by omega⟩;have hjn:j<ks'.length:=by omega
   have hn:ks'[j] ∈E0.map (·.nm):=hperm.mem_iff.mp (zUs hjn);refine ⟨_,rfl,_,_,rfl,rfl,yu (by decide) (by decide),_,rfl,wd,_,rfl,W3.gm,ma,km,rfl,.inl em5,_,_,rfl,rfl,(by omega:(0:Int)<(km.length:Int)),sl,_,_,.str ks'[j],rfl,rfl,SqL.of esl,?_,?_⟩
   ·rw [hj];exact zAG (by rw [zUP,zUK hjn];rfl)
   generalize ks'[j] =n at hn⊢;have pm5:=Paired.mapP pm fun a b z=>zAg.tps z (zE.tps ss);obtain ⟨e,v9,hv9,hf9,pe⟩: ∃e v9,yI km (.inr n)=some v9/\E0.find? (fun e=>e.nm==n)=some e/\zAg H5 e (.inr n,v9):=by
    rcases yO pk n pm5 with ⟨_,z⟩|⟨e,v,a,b,c⟩
    ·exact absurd z (zMl hn)
    ·exact ⟨e,v,a,b,c⟩
   have eok:=W.ok e (zNy hf9);have hnN:n∈Ns:=by
    obtain ⟨x,hx,hx2⟩:=zVR.mp hn;rw [<-hx2];exact (W.ok x hx).n
   obtain ⟨_,t9,am9,un9,hv',et9,eam9,eun9⟩:=pe;have hv':v9= .ref t9:=hv';subst hv';have sA:=sA.trans ss;refine ⟨_,rfl,bs 2,fun tp htp=>?_⟩;obtain ⟨G1,gs1,s1,etp⟩:=zX htp (.tup [.str n,.int 1]);rw [gs1];have et9:=s1 _ _ et9;have em5:=s1 _ _ em5;have eun9:=eun9.same s1;have sA:=sA.trans s1;refine ⟨bs 1,fun tu htu=>?_⟩;obtain ⟨G2,gs2,s2,etu⟩:=zX htu (.tup [.ref tp]);rw [gs2];have et9:=s2 _ _ et9;have em5:=s2 _ _ em5;have etp:=s2 _ _ etp;have eun9:=eun9.same s2;have sA:=sA.trans s2;have W4:=W.same sA;refine ⟨_,rfl,wd,_,rfl,W4.gm,_,rfl,ma,_,rfl,.inl ⟨km,.inr n,.inl em5,rfl,hv9.symm⟩,t9,_,_,.ref un9,rfl,rfl,SqT.of et9,rfl,?_⟩;exact tail _ _ _ _ _ _ sA (zGa etu etp) (zDU hnN (by decide)) (by simp) eun9 eok.un eok.l3
def zPA(C:Addr):Sp:=fun vs H Q _=> ∃(t dx pa ba:Addr) (Ns:List Str) (E0:List Ent) (n:Str) (e:Ent),vs= [.ref t,.str n] /\Tb Ns C dx pa ba H t E0/\Nm n/\E0.find? (fun e=>e.nm==n)=some e/\ ∀H' v,zE H H'->zAg H' e (.inr n,v)->Q v H'
theorem zSX(G:FnOk P w K mg base (yF P w) 5 f fd ["self","name"] (zDk C BA NN)):FnOk P w K mg base CX0 5 f fd ["self","name"] (zPA C):=
 ⟨fun vs H Q E ⟨t,dx,pa,ba,Ns,E0,n,e,h,_⟩=>by rw [h];rfl,fun A outer s H args us vs Q E hr he hb hv hs=>by
  obtain ⟨t,dx,pa,ba,Ns,E0,n,e,rfl,tb,nm,hf,q⟩:=hs;refine zVI (G.run A outer s H args us _ Q (fun _ _ _=>False) hr he hb hv ⟨t,dx,pa,ba,Ns,E0,.str n,rfl,tb,zDu nm,.inr ⟨n,rfl,nm,.inl ⟨e,hf,q⟩⟩⟩) fun r s' h=>?_;cases r with
  | ok fl=>cases fl<;>exact h
  | error e=>
   obtain ⟨ea,cls,a0,H',B,h1,h2,h3,h4,h5,h6,z |⟨_,_,_,_,z⟩⟩:=h
   ·exact z.elim
   ·exact z.elim⟩
end
theorem zRK(a b c:V):zCy [] ([(.inr "made",a),(.inr "flat",b),(.inr "names",c)] :List (Key×V))= [(.inr "made",a),(.inr "flat",b),(.inr "names",c)] :=rfl
theorem zTd(a b c d:V):zAP ([(.inr "made",a),(.inr "flat",b),(.inr "names",c)] :List (Key×V)) (.inr "names") d= [(.inr "made",a),(.inr "flat",b),(.inr "names",d)] :=rfl
theorem lkA(x y:V):([("pairs",x),("bases",y)] :List (Str×V)).lookup ("all_made" :Str)=none:=rfl
theorem lkO(x y:V):([("pairs",x),("bases",y)] :List (Str×V)).lookup ("made_of" :Str)=none:=rfl
theorem zMG(ht:H t=none)(hdx:H dx=none)(hne:dx≠t)(hpa:(L2.upd (L2.upd H dx (.own t)) t (.ins C dx [])) pa=none)(hba:(L2.upd (L2.upd H dx (.own t)) t (.ins C dx [])) ba=none)(hpb:pa≠ba)
  (e:H'=L2.upd (L2.upd (L2.upd (L2.upd (L2.upd H dx (.own t)) t (.ins C dx [])) pa (.dK [])) ba (.dK [])) t (.ins C dx [("pairs",.ref pa),("bases",.ref ba)])):
  zE H H'/\(∀Ns,Tb Ns C dx pa ba H' t [])/\H pa=none/\H ba=none:=by
 have pt:pa≠t:=fun z=>by rw [z,zC] at hpa;cases hpa
 have bt:ba≠t:=fun z=>by rw [z,zC] at hba;cases hba
 have pd:pa≠dx:=fun z=>by rw [zG pt,z,zC] at hpa;cases hpa
 have bd:ba≠dx:=fun z=>by rw [zG bt,z,zC] at hba;cases hba
 rw [zG pt,zG pd] at hpa;rw [zG bt,zG bd] at hba;refine ⟨fun b u hb=>?_,fun Ns=>⟨?_,hpb,⟨[],?_,.nil⟩,⟨[],?_,.nil⟩,fun e he=>(nomatch he),by decide⟩,hpa,hba⟩
 ·rw [e,zG (zI hb ht),zG (zI hb hba),zG (zI hb hpa),zG (zI hb ht),zG (zI hb hdx)];exact hb
 ·rw [e,zC]
 ·rw [e,zG pt,zG hpb,zC]
 ·rw [e,zG bt,zC]
structure Ads where
 (a dx pa ba t wd ma fl nm dx2 pa2 ba2 t2 hd:Addr)
theorem But.nd(k:But ex H H')(hd: ∀a∈ex,∃kvs,H a=some (.dK kvs))(h:H a=some u)(n: ∀kvs,u≠ .dK kvs):H' a=some u:=k a u h fun z=>by
 obtain ⟨kvs,e⟩:=hd a z;rw [h] at e;cases e;exact n _ rfl
structure Lst(K:zVK)(C:Addr)(ns:List Int)(Ns:List Str)(A:Ads)(H:Hp)(E:List Ent)(hs:List Addr):Prop where
 sq:SqL K H A.a (ns.map V.int)
 S:Sst Ns C A.dx A.pa A.ba A.t A.wd A.ma A.fl A.nm H E
 b:Tb Ns C A.dx2 A.pa2 A.ba2 H A.t2 []
 bp:A.pa2∉ [A.pa,A.ba,A.ma,A.fl]
 bb:A.ba2∉ [A.pa,A.ba,A.ma,A.fl]
 hd:H A.hd=some (.lst (hs.map V.ref))
 hp: ∀p∈hs,∃l1 l2 xs,H p=some (.tup [.ref l1,.ref l2])/\l1≠A.hd/\l2≠A.hd/\H l1=some (.lst (List.map V.str xs))/\H l2=some (.lst (List.map V.str xs))
 nh:A.nm≠A.hd
 ah:A.a≠A.hd\/ ∀H',SqL K H' A.a (ns.map V.int)
 n7: ∀x,Ns[0]?=some x->x.length<=7/\ ∀c∈x.cps.toList,Cn c
section
variable {K:zVK}{C:Addr}{ns:List Int}{Ns:List Str}{A:Ads}{H H':Hp}{E E':List Ent}{hs:List Addr}
theorem Lst.same(h:Lst K C ns Ns A H E hs)(s:zE H H'):Lst K C ns Ns A H' E hs:=
 ⟨s.seq h.sq,⟨h.S.tb.same s,h.S.w.same s,h.S.ap⟩,h.b.same s,h.bp,h.bb,s _ _ h.hd,fun p hp=>by
  obtain ⟨l1,l2,xs,a,b,c,d,e⟩:=h.hp p hp;exact ⟨l1,l2,xs,s _ _ a,b,c,s _ _ d,s _ _ e⟩,h.nh,h.ah,h.n7⟩
theorem Lst.but(h:Lst K C ns Ns A H E hs)(k:But [A.pa,A.ba,A.ma,A.fl] H H')(S':Sst Ns C A.dx A.pa A.ba A.t A.wd A.ma A.fl A.nm H' E'):Lst K C ns Ns A H' E' hs:=by
 have hd: ∀a∈ [A.pa,A.ba,A.ma,A.fl],∃kvs,H a=some (.dK kvs):=by
  intro x hx;obtain ⟨_,e1,_⟩:=h.S.tb.ps;obtain ⟨_,e2,_⟩:=h.S.tb.bs;obtain ⟨_,e3,_⟩:=h.S.w.ma;obtain ⟨_,e4,_⟩:=h.S.w.fl;simp only [zVL,zVV,or_false] at hx;rcases hx with rfl | rfl | rfl | rfl
  ·exact ⟨_,e1⟩
  ·exact ⟨_,e2⟩
  ·exact ⟨_,e3⟩
  ·exact ⟨_,e4⟩
 refine ⟨?_,S',h.b.but k h.bp h.bb hd,h.bp,h.bb,k.nd hd h.hd (fun _=>by simp),fun p hp=>?_,h.nh,h.ah,h.n7⟩
 ·rcases h.sq with (z |⟨o,z⟩)| z
  ·exact .inl (.inl (k.nd hd z (fun _=>by simp)))
  ·exact .inl (.inr ⟨o,k.nd hd z (fun _=>by simp)⟩)
  ·exact .inr z
 ·obtain ⟨l1,l2,xs,a,b,c,d,e⟩:=h.hp p hp;exact ⟨l1,l2,xs,k.nd hd a (fun _=>by simp),b,c,k.nd hd d (fun _=>by simp),k.nd hd e (fun _=>by simp)⟩
theorem Tb.keep(h:Tb Ns C dx pa ba H t E)(k: ∀b u,H b=some u->(∀xs,u≠ .lst xs)->H' b=some u):Tb Ns C dx pa ba H' t E:=by
 obtain ⟨kp,e1,p1⟩:=h.ps;obtain ⟨kb,e2,p2⟩:=h.bs;have tp:Tps H H':=fun a xs e=>k _ _ e (fun _=>by simp);exact ⟨k _ _ h.at_ (fun _=>by simp),h.ne,⟨kp,k _ _ e1 (fun _=>by simp),Paired.mapP p1 fun a b z=>z.tps tp⟩,⟨kb,k _ _ e2 (fun _=>by simp),Paired.mapP p2 fun a b z=>z.tps tp⟩,h.ok,h.len⟩
theorem Wd.keep{wd ma fl nm:Addr}(h:Wd Ns wd ma fl nm H E)(k: ∀b u,H b=some u->(∀xs,u≠ .lst xs)->H' b=some u)(hn:H' nm=some (.lst (Ns.map V.str))):Wd Ns wd ma fl nm H' E:=by
 obtain ⟨k1,e1,p1⟩:=h.ma;obtain ⟨k2,e2,p2⟩:=h.fl;have tp:Tps H H':=fun a xs e=>k _ _ e (fun _=>by simp);exact ⟨k _ _ h.at_ (fun _=>by simp),h.ne,h.wm,h.wf,⟨k1,k _ _ e1 (fun _=>by simp),Paired.mapP p1 fun a b z=>z.tps tp⟩,⟨k2,k _ _ e2 (fun _=>by simp),Paired.mapP p2 fun a b z=>z.tps tp⟩,hn,h.ok,h.len,h.l14,h.l0,h.nms,h.nd⟩
theorem Lst.put(h:Lst K C ns Ns A H E hs){p l1 l2:Addr}{xs:List Str}(e:H p=some (.tup [.ref l1,.ref l2]))(n1:l1≠A.hd)(n2:l2≠A.hd)(e1:H l1=some (.lst (xs.map V.str)))(e2:H l2=some (.lst (xs.map V.str))):Lst K C ns Ns A (L2.upd H A.hd (.lst (hs.map V.ref++ [.ref p]))) E (hs++ [p]):=by
 have k: ∀b u,H b=some u->(∀xs,u≠ .lst xs)->(L2.upd H A.hd (.lst (hs.map V.ref++ [.ref p]))) b=some u:=fun b u hb hu=>by
  rw [zG fun z=>?_]
  ·exact hb
  ·rw [z,h.hd] at hb;cases hb;exact hu _ rfl
 refine ⟨?_,⟨h.S.tb.keep k,h.S.w.keep k (by rw [zG h.nh];exact h.S.w.nm),h.S.ap⟩,h.b.keep k,h.bp,h.bb,by rw [zC,zUg];rfl,fun q hq=>?_,h.nh,h.ah,h.n7⟩
 ·rcases h.ah with ah | ah
  ·rcases h.sq with (z |⟨o,z⟩)| z
   ·exact .inl (.inl (by rw [zG ah];exact z))
   ·exact .inl (.inr ⟨o,by rw [zG ah];exact z⟩)
   ·exact .inr z
  ·exact ah _
 ·have go: ∀q,(∃l1 l2 xs,H q=some (.tup [.ref l1,.ref l2])/\l1≠A.hd/\l2≠A.hd/\H l1=some (.lst (List.map V.str xs))/\H l2=some (.lst (List.map V.str xs)))-> ∃l1 l2 xs,(L2.upd H A.hd (.lst (hs.map V.ref++ [.ref p]))) q=some (.tup [.ref l1,.ref l2])/\l1≠A.hd/\l2≠A.hd/\(L2.upd H A.hd (.lst (hs.map V.ref++ [.ref p]))) l1=some (.lst (List.map V.str xs))/\(L2.upd H A.hd (.lst (hs.map V.ref++ [.ref p]))) l2=some (.lst (List.map V.str xs)):=by
   rintro q ⟨l1,l2,xs,a,b,c,d,e⟩;exact ⟨l1,l2,xs,k _ _ a (fun _=>by simp),b,c,by rw [zG b];exact d,by rw [zG c];exact e⟩
  rcases zVO.mp hq with z | z
  ·exact go q (h.hp q z)
  ·rw [zVQ.mp z];exact go p ⟨l1,l2,xs,e,n1,n2,e1,e2⟩
end
theorem zIk: ∀{E:List Ent} {kvs:List (Key×V)},Paired (zAg H) E kvs->kvs.map (fun p=>kV p.1)=(E.map (·.nm)).map V.str
 | _,_,.nil=>rfl
 | _,_,.cons h t=>by rw [zVP,zVP,zVP,zIk t,h.1];rfl
section
variable {P:Program}{w:World}{K:zVK}{mg:Str->Option Value}{base:Heap}
def zHn(K:zVK):Sp:=fun vs H Q _=> ∃(a:Addr) (ns:List Int),vs= [.ref a] /\SqL K H a (ns.map V.int)/\ns.length<=63/\ ∀H',Q (.bl true) H'
theorem zAJ:FnScope ["_law_script","_law_world","_law_table","_law_beside","_law_held","_law_k","_law_unit_here","_law_amount_here","_law_number_here","_law_way","_law_name","_law_names_here","_law_own"] ["_law_script"] (zK zFE):=fs
theorem zRw(F:Fun K "law" "law" zFE f fd)(B:Bn mg)(T:TC K C)(mT:mg "Table" =some (.ref C))(MT:Mk K C fI)
  (bI:zL K fdI ["self"] []) (GI:FnOk P w K mg base CX0 1 fI fdI ["self"] (zJL C))
  (mtL:Meth K C "all_made" fL) (bL:zL K fdL ["self"] []) (GL:FnOk P w K mg base CX0 1 fL fdL ["self"] (zKt C))
  (mtO:Meth K C "made_of" fO) (bO:zL K fdO ["self","name"] []) (GO:FnOk P w K mg base CX0 5 fO fdO ["self","name"] (zPA C))
  (FNa:Fun K "_law_names" "_law_names" zEP fNa fdNa) (bNa:zL K fdNa ["_law_number_here","_law_many"] []) (mNa:mg "_law_names" =some (.ref fNa)) (GNa:FnOk P w K mg base CX0 2 fNa fdNa ["_law_number_here","_law_many"] zGp)
  (FNu:Fun K "_law_number" "_law_number" zJR fNu fdNu) (bNu:zL K fdNu ["_law_script","_law_k"] []) (mNu:mg "_law_number" =some (.ref fNu)) (GNu:FnOk P w K mg base CX0 2 fNu fdNu ["_law_script","_law_k"] (zLV K))
  (FA:Fun K "_law_amount" "_law_amount" zIW fA fdA) (bA:zL K fdA ["_law_number_here"] []) (mA:mg "_law_amount" =some (.ref fA)) (GA:FnOk P w K mg base CX0 35 fA fdA ["_law_number_here"] zKv)
  (FDe:Fun K "_law_defined" "_law_defined" zIG fDe fdDe) (bDe:zL K fdDe ["_law_world","_law_table","_law_name","_law_amount_here","_law_unit_here"] []) (mDe:mg "_law_defined" =some (.ref fDe)) (GDe:FnOk P w K mg base CX0 36 fDe fdDe ["_law_world","_law_table","_law_name","_law_amount_here","_law_unit_here"] (zJQ C))
  (FUn:Fun K "_law_unit" "_law_unit" zEZ fUn fdUn) (bUn:zL K fdUn ["_law_number_here","_law_names_here"] []) (mUn:mg "_law_unit" =some (.ref fUn)) (GUn:FnOk P w K mg base CX0 2 fUn fdUn ["_law_number_here","_law_names_here"] (zEW K))
  (FM:Fun K "_law_mixed" "_law_mixed" zDX fM fdM) (bM:zL K fdM ["_law_number_here","_law_k"] []) (mM:mg "_law_mixed" =some (.ref fM)) (GM:FnOk P w K mg base CX0 1 fM fdM ["_law_number_here","_law_k"] zDc)
  (FDr:Fun K "_law_dropped" "_law_dropped" zGX fDr fdDr) (bDr:zL K fdDr ["_law_world","_law_table","_law_number_here"] []) (mDr:mg "_law_dropped" =some (.ref fDr)) (GDr:FnOk P w K mg base CX0 9 fDr fdDr ["_law_world","_law_table","_law_number_here"] (zGu C))
  (FSp:Fun K "_law_spoilt" "_law_spoilt" zDL fSp fdSp) (bSp:zL K fdSp ["_law_world","_law_table","_law_number_here"] []) (mSp:mg "_law_spoilt" =some (.ref fSp)) (GSp:FnOk P w K mg base CX0 9 fSp fdSp ["_law_world","_law_table","_law_number_here"] (zKg C))
  (FTo:Fun K "_law_told" "_law_told" zFu fTo fdTo) (bTo:zL K fdTo ["_law_world","_law_table","_law_number_here"] []) (mTo:mg "_law_told" =some (.ref fTo)) (GTo:FnOk P w K mg base CX0 36 fTo fdTo ["_law_world","_law_table","_law_number_here"] (zGr C)):
  FnOk P w K mg base CX0 37 f fd ["_law_script"] (zHn K):=by
 refine F.okQ zAJ (fun vs H Q E h=>?_) (fun _ A _ s H vs Q E hr h=>?_)
 ·obtain ⟨a,ns,rfl,_⟩:=h;rfl
 ·obtain ⟨a,ns,rfl,ha,hn,q⟩:=h;have cl:=T.cl;have hr36:Room 36 _:=hr;have hr35:Room 35 _:=hr.mono (by decide);have hr9:Room 9 _:=hr.mono (by decide);have hr5:Room 5 _:=hr.mono (by decide);have hr2:Room 2 _:=hr.mono (by decide);have hr1:Room 1 _:=hr.mono (by decide);have hu:=zAD hr;have huN:_<cLine:=Nat.lt_of_succ_lt hu;have huD:_+8<cLine:=zUb (zVF (by decide:8<=64) _) hr.units;refine ⟨_,(zH
   (zT 1 zAJ.nd rfl (zRH (zHC zN zCE (zHC zN zCE (zHC zN (zP GNa hr2 rfl mNa FNa.kp bNa .nil zO (qc (zP GNu hr2 rfl mNu FNu.kp bNu .nil zO (qc (qw 0 rfl) (qc zF zD rfl) rfl) rfl rfl rfl) (qc zF zD rfl) rfl) rfl rfl rfl) zQp))) rfl rfl (by simp) (by decide)) rfl) (zH
   (zT 2 zAJ.nd rfl (zJs MT GI hr2 rfl mT bI .nil zO rfl) rfl) (zH
   (zT 3 zAJ.nd rfl (zJs MT GI hr2 rfl mT bI .nil zO rfl) rfl) (zH
   (zT 4 zAJ.nd rfl (zy zD) rfl) (zH
   (zq (zY zAI (yJ (yS (zP GNu hr2 rfl mNu FNu.kp bNu .nil zO (qc (qw 0 rfl) (qc zF zD rfl) rfl) rfl rfl rfl) zF) zF) zF rfl) (zH
    (zCC hu (qw 1 rfl) zN (zP GNa hr2 rfl mNa FNa.kp bNa .nil zO (qc (zP GNu hr2 rfl mNu FNu.kp bNu .nil zO (qc (qw 0 rfl) (qc zF zD rfl) rfl) rfl rfl rfl) (qc zF zD rfl) rfl) rfl rfl rfl) rfl) (zJ
    (yt PassesOwn.never rfl (zCA rfl B.range (qc zF zD rfl) rfl) (zm 5 zAJ.nd rfl (Or.inl rfl) (.inr rfl)) (zH
     (zT 6 zAJ.nd rfl (zQ (qc (zQ (qc (yH (K:=K) rfl (zo hu (qw 1 rfl) zN (fun _ _=>rfl)) zF (fun _ _=>rfl)) (qc (zBD zF (yJ (qw 5 rfl) zF)) zD rfl) rfl)) zD rfl)) rfl) (zH
     (zT 7 zAJ.nd rfl (zP GA hr35 rfl mA FA.kp bA .nil zO (qc (zP GNu hr2 rfl mNu FNu.kp bNu .nil zO (qc (qw 0 rfl) (qc (zBD zF (qw 5 rfl)) zD rfl) rfl) rfl rfl rfl) zD rfl) rfl rfl rfl) rfl) (zJ
     (zq (yq (yb (zP GDe hr36 rfl mDe FDe.kp bDe .nil zO (qc (qw 1 rfl) (qc (qw 2 rfl) (qc (yH (K:=K) rfl (zo hu (qw 1 rfl) zN (fun _ _=>rfl)) (qw 5 rfl) (fun _ _=>rfl)) (qc (qw 7 rfl) (qc (qw 6 rfl) zD rfl) rfl) rfl) rfl) rfl) rfl rfl rfl) (fun _=>rfl))) (zJ
      (zW yw)) zn)))) (fun _=>rfl)))) zn) (zH
   (yt PassesOwn.never rfl (zCA rfl B.range (qc (yJ (zP GNu hr2 rfl mNu FNu.kp bNu .nil zO (qc (qw 0 rfl) (qc zF zD rfl) rfl) rfl rfl rfl) zF) zD rfl) rfl) (zm 5 zAJ.nd rfl (Or.inl rfl) (.inr rfl)) (zH
    (zT 8 zAJ.nd rfl (zP GNu hr2 rfl mNu FNu.kp bNu .nil zO (qc (qw 0 rfl) (qc (zBD zF (qw 5 rfl)) zD rfl) rfl) rfl rfl rfl) rfl) (zH
    (zT 9 zAJ.nd rfl (yJ (qw 8 rfl) zF) rfl) (zH
    (zT 10 zAJ.nd rfl (yH (K:=K) rfl (zo hu (qw 1 rfl) zN (fun _ _=>rfl)) (yJ (yS (qw 8 rfl) zF) (yE (zAy (K:=K) rfl) rfl B.len zAU (qc (zo hu (qw 1 rfl) zN (fun _ _=>rfl)) zD rfl) rfl)) (fun _ _=>rfl)) rfl) (zH
    (zT 6 zAJ.nd rfl (zP GUn hr2 rfl mUn FUn.kp bUn .nil zO (qc (zP GM hr1 rfl mM FM.kp bM .nil zO (qc (qw 8 rfl) (qc zF zD rfl) rfl) rfl rfl rfl) (qc (zo hu (qw 1 rfl) zN (fun _ _=>rfl)) zD rfl) rfl) rfl rfl rfl) rfl) (zH
    (zT 7 zAJ.nd rfl (zP GA hr35 rfl mA FA.kp bA .nil zO (qc (yS (qw 8 rfl) zF) zD rfl) rfl rfl rfl) rfl) (zH
    (zq (t_w (zDg (zY zDi (qw 9 rfl) zF rfl) (zCU (yq (yb (zP GDe hr36 rfl mDe FDe.kp bDe .nil zO (qc (qw 1 rfl) (qc (qw 2 rfl) (qc (qw 10 rfl) (qc (qw 7 rfl) (qc (qw 6 rfl) zD rfl) rfl) rfl) rfl) rfl) rfl rfl rfl) (fun _=>rfl)))))) (zJ
     (zW yw)) zn) (zH
    (zq (t_w (zDg (zY (zEC (K:=K) rfl) (qw 9 rfl) (zQ (qc zF (qc zF zD rfl) rfl)) rfl) (zCU (yq (yb (zP GDr hr9 rfl mDr FDr.kp bDr .nil zO (qc (qw 1 rfl) (qc (qw 2 rfl) (qc (yS (qw 8 rfl) zF) zD rfl) rfl) rfl) rfl rfl rfl) (fun _=>rfl)))))) (zJ
     (zW yw)) zn) (zH
    (zq (t_w (zDg (zY zAh (qw 9 rfl) zF rfl) (zCU (yq (yb (zP GSp hr9 rfl mSp FSp.kp bSp .nil zO (qc (qw 1 rfl) (qc (qw 2 rfl) (qc (yS (qw 8 rfl) zF) zD rfl) rfl) rfl) rfl rfl rfl) (fun _=>rfl)))))) (zJ
     (zW yw)) zn) (zH
    (zT 8 zAJ.nd rfl (zP GM hr1 rfl mM FM.kp bM .nil zO (qc (qw 8 rfl) (qc zF zD rfl) rfl) rfl rfl rfl) rfl) (zH
    (zq (t_w (zDg (zY zAI (yJ (yS (qw 8 rfl) zF) zF) zF rfl) (zCU (yq (yb (zP GTo hr36 rfl mTo FTo.kp bTo .nil zO (qc (qw 1 rfl) (qc (qw 2 rfl) (qc (qw 8 rfl) zD rfl) rfl) rfl) rfl rfl rfl) (fun _=>rfl)))))) (zJ
     (zW yw)) zn) (zH
    (zT 11 zAJ.nd rfl (zKT (qw 2 rfl) cl mtL GL hr1 bL .nil zO rfl) rfl) (zH
    (zq (t_w (zAr (yq (yb (yE (zBu (K:=K) rfl) rfl B.isi ze (qc (qw 11 rfl) (qc (zCv (v:= .ty "list") rfl B.list zDD rfl (by decide) rfl) zD rfl) rfl) rfl) (fun _=>rfl))) (zAu (zY (zKU (K:=K) rfl huN) (qw 11 rfl) (zCu (zGR rfl) rfl B.list zDD (qc (zo hu (qw 1 rfl) zN (fun _ _=>rfl)) zD rfl) rfl) rfl)))) (zJ
     (zW yw)) zn) (zH
    (yn (zBT (K:=K) rfl (qw 4 rfl) (zQ (qc (qw 11 rfl) (qc (zCu (zKc (K:=K) rfl) rfl B.list zDD (qc (qw 11 rfl) zD rfl) rfl) zD rfl) rfl)) rfl rfl rfl) rfl) (zJ
    (yt PassesOwn.never rfl (zAZ (K:=K) rfl (qw 11 rfl)) (zm 12 zAJ.nd rfl (Or.inl rfl) (.inr rfl)) (zJ
     (zq (zY (zAc (n:=8) huD) (zIZ (qw 2 rfl) cl mtO GO hr5 bO .nil zO (qc (qw 12 rfl) zD rfl) rfl rfl rfl) (zo hu (zo hu (qw 1 rfl) zN (fun _ _=>rfl)) (qw 12 rfl) (fun _ _=>rfl)) rfl) (zJ
      (zW yw)) zn)) (fun _=>rfl)))))))))))))))) (fun _=>rfl)) (zH
   (zq (t_w (zAr (yq (yb (zP GTo hr36 rfl mTo FTo.kp bTo .nil zO (qc (qw 1 rfl) (qc (qw 2 rfl) (qc (zP GNu hr2 rfl mNu FNu.kp bNu .nil zO (qc (qw 0 rfl) (qc zF zD rfl) rfl) rfl rfl rfl) zD rfl) rfl) rfl) rfl rfl rfl) (fun _=>rfl))) (zAu (zY (zFN huN) (zKT (qw 3 rfl) cl mtL GL hr1 bL .nil zO rfl) (zy zD) rfl)))) (zJ
    (zW yw)) zn) (zJ
   (zW (zBf (zJP huN) (ye (cl:= []) ["_law_pair"] [] [] rfl (zAZ (K:=K) rfl (qw 4 rfl)) rfl (by decide+kernel) rfl (by decide+kernel) (fun _ _ h=>nomatch h) rfl (fun j y i h=>nomatch h) (yL rfl) (fun _ _ _ _=>(zm 0 (show (["_law_pair"] :List Str).Nodup by decide+kernel) rfl (.inl rfl) (.inr rfl))) (fun _ _ _ _=>(zBJ (zY (zKU (K:=K) rfl huN) (zR (K:=K) rfl (qw 0 rfl) zF (fun _ _=>rfl)) (zR (K:=K) rfl (qw 0 rfl) zF (fun _ _=>rfl)) rfl))) (fun _ _ _ _=>(qw 0 rfl)) (fun _=>rfl)) (zy zD) rfl)))))))))),?_⟩
  generalize hT2:zCn (zOb _ _ _) _=T2;have tail: ∀(A:Ads) (Ns:List Str) (E:List Ent) (v5 v6 v7:Option V) (H1:Hp),Lst K C ns Ns A H1 E [] ->
    T2 {nx:=fun _ H'=>Q .non H',rt:=Q} [some (.ref A.a),some (.ref A.wd),some (.ref A.t),some (.ref A.t2),some (.ref A.hd),v5,v6,v7,none,none,none,none,none] H1:=by
   intro A Ns E v5 v6 v7 H1 L;rw [<-hT2];refine ⟨_,rfl,A.a,ns,1,rfl,L.sq,hn,by decide,by decide,fun m H2 s2 m0 m1=>?_⟩;have L:=L.same s2;have q0:0<=m % 17:=zUc _ (by decide);have q1:m % 17<17:=zUW _ (by decide);refine ⟨_,_,rfl,rfl,(by decide:(0:Int)<17),m % 17,rfl,by omega,by omega,?_⟩;refine yk (m % 17).toNat (fun i σ H'=> ∃(E:List Ent) (hs:List Addr) (v5 v6 v7 v8 v9 v10 v11 v12:Option V),σ= [some (.ref A.a),some (.ref A.wd),some (.ref A.t),some (.ref A.t2),some (.ref A.hd),v5,v6,v7,v8,v9,v10,v11,v12] /\i<=(m % 17).toNat/\Lst K C ns Ns A H' E hs/\hs.length<=i) ?_ ?_ ?_ ?_ ?_
   ·exact ⟨E,[],_,_,_,_,_,_,_,_,rfl,zUZ _,L,zUO _⟩
   ·rintro i σ H' hi _;exact hi
   ·rintro σ H' _;exact zUO _
   ·rintro i σ H3 x H4 hi ⟨E,hs,v5,v6,v7,v8,v9,v10,v11,v12,rfl,_,L,lh⟩ ⟨rfl,rfl⟩;generalize hT6:zCn (zDz _ (zBM 11)) _=T6;generalize hT5:zCn (zDz _ (zBM 8)) (zCn _ T6)=T5;generalize hT4:zCn _ T5=T4;generalize hT3:zCn _ T4=T3;have tail6: ∀(D:Ends) (hnx: ∀(E:List Ent) (hs:List Addr) (v5 v6 v7 v8 v9 v10 v11 v12:Option V) (H':Hp),Lst K C ns Ns A H' E hs->hs.length<=i+1->D.nx [some (.ref A.a),some (.ref A.wd),some (.ref A.t),some (.ref A.t2),some (.ref A.hd),v5,v6,v7,v8,v9,v10,v11,v12] H') (E:List Ent) (v5 v6 v7 v8 v9 v10 v11 v12:Option V) (H0:Hp),Lst K C ns Ns A H0 E hs->T6 D [some (.ref A.a),some (.ref A.wd),some (.ref A.t),some (.ref A.t2),some (.ref A.hd),v5,v6,v7,v8,v9,v10,v11,v12] H0:=by
     intro D hnx E v5 v6 v7 v8 v9 v10 v11 v12 H0 L;rw [<-hT6];have tb:=L.S.tb;refine ⟨_,rfl,A.t,A.dx,_,rfl,tb.at_,lkA _ _,A.t,A.dx,A.pa,A.ba,Ns,E,rfl,tb,fun l hl=>?_⟩;have ex:(E.map fun e=>V.str e.nm)=(E.map (·.nm)).map V.str:=by rw [List.map_map];rfl
     rw [ex];have n1:=zI L.hd hl;obtain ⟨G1,gs1,s1,el⟩:=zX hl (.lst ((E.map (·.nm)).map V.str));rw [gs1];have L:=L.same s1;refine ⟨_,rfl,_,.ty "list",_,.type "list",_,rfl,rfl,.lst el,zFD K,_,rfl,zM ?_⟩;obtain ⟨km,em,pm⟩:=L.S.w.ma;refine ⟨_,rfl,_,rfl,A.wd,_,rfl,L.S.w.gm,A.ma,km,rfl,.inl em,fun l2 hl2=>?_⟩;rw [zIk pm];obtain ⟨G2,gs2,s2,el2⟩:=zX hl2 (.lst ((E.map (·.nm)).map V.str));rw [gs2];have el:=s2 _ _ el;have L:=L.same s2;refine ⟨l,l2,_,rfl,rfl,SqL.of el,SqL.of el2,fun x hx=>?_,_,rfl,zM ?_⟩
     ·obtain ⟨z,_,rfl⟩:=zVR.mp hx;rfl
     refine ⟨_,rfl,.inl ⟨rfl,_,SqL.of L.hd⟩,_,rfl,_,rfl,l,_,rfl,.inl (SqL.of el),fun l3 hl3=>?_⟩;have n3:=zI L.hd hl3;obtain ⟨G3,gs3,s3,el3⟩:=zX hl3 (.lst ((E.map (·.nm)).map V.str));rw [gs3];have el:=s3 _ _ el;have L:=L.same s3;refine ⟨bs 2,fun p hp=>?_⟩;obtain ⟨G4,gs4,s4,ep⟩:=zX hp (.tup [.ref l,.ref l3]);rw [gs4];have el:=s4 _ _ el;have el3:=s4 _ _ el3;have L:=L.same s4;refine ⟨A.hd,_,.ref p,rfl,rfl,L.hd,by rw [zUR,zUV];omega,?_⟩;have L5:=L.put ep n1.symm n3.symm el el3;have el5:(L2.upd G4 A.hd (.lst (hs.map V.ref++ [.ref p]))) l=some (.lst ((E.map (·.nm)).map V.str)):=by rw [zG n1.symm];exact el
     generalize L2.upd G4 A.hd (.lst (hs.map V.ref++ [.ref p]))=G5 at L5 el5⊢;refine ⟨_,rfl,l,rfl,⟨_,SqL.of el5⟩,?_⟩;refine yk E.length (fun j σ H'=> ∃v12:Option V,σ= [some (.ref A.a),some (.ref A.wd),some (.ref A.t),some (.ref A.t2),some (.ref A.hd),v5,v6,v7,v8,v9,v10,some (.ref l),v12] /\zE G5 H') ?_ ?_ ?_ ?_ ?_
     ·exact ⟨_,rfl,zE.refl _⟩
     ·rintro j σ H' hj ⟨_,_,s5⟩;exact ⟨_,_,SqL.of (s5 _ _ el5),zUK (by simpa using hj)⟩
     ·rintro σ H' ⟨_,_,s5⟩;exact ⟨_,SqL.of (s5 _ _ el5),by simp⟩
     ·rintro j σ H6 x H7 hj ⟨v12,rfl,s5⟩ ⟨rfl,hx⟩;have hx':=hx _ (SqL.of (s5 _ _ el5));rw [zUP,zUP,zUK hj] at hx';cases hx';have L6:=L5.same s5;have fnd:=zPp L6.S.w.nd (zUK hj);have eok:=L6.S.w.ok _ (zUs hj);generalize E[j] =e at fnd eok⊢;refine ⟨_,rfl,A.t,A.dx,_,rfl,L6.S.tb.at_,lkO _ _,_,rfl,A.t,A.dx,A.pa,A.ba,Ns,E,e.nm,e,rfl,L6.S.tb,L6.S.w.nms _ eok.n,fnd,fun H8 v s8 pe=>?_⟩;obtain ⟨_,t9,am9,un9,hv,e1,e2,e3⟩:=pe;have hv:v= .ref t9:=hv;subst hv;have L7:=L6.same s8;obtain ⟨km7,em7,pm7⟩:=L7.S.w.ma;obtain ⟨v',hv',c⟩: ∃v',yI km7 (.inr e.nm)=some v'/\zAg H8 e (.inr e.nm,v'):=by
       rcases yO pk e.nm pm7 with ⟨_,z⟩|⟨e',v',z1,z2,z3⟩
       ·rw [fnd] at z;cases z
       ·rw [fnd] at z2;cases z2;exact ⟨v',z1,z3⟩
      obtain ⟨_,t8,am8,un8,hv8,c1,c2,c3⟩:=c;have hv8:v'= .ref t8:=hv8;subst hv8;refine ⟨_,rfl,A.wd,_,rfl,L7.S.w.gm,_,rfl,A.ma,_,rfl,.inl ⟨km7,.inr e.nm,.inl em7,rfl,hv'.symm⟩,zSL e1 e2 e3 c1 c2 c3 (fun p hp=>L6.S.w.nms _ (eok.un.nn p hp)) ?_⟩;refine ⟨_,rfl,zM ?_⟩;exact ⟨_,rfl,s5.trans s8⟩
     ·rintro σ H' ⟨v12,rfl,s5⟩;exact hnx _ _ _ _ _ _ _ _ _ _ _ (L5.same s5) (by rw [zUn];simp;omega)
    have tail5: ∀(D:Ends) (hnx: ∀(E:List Ent) (hs:List Addr) (v5 v6 v7 v8 v9 v10 v11 v12:Option V) (H':Hp),Lst K C ns Ns A H' E hs->hs.length<=i+1->D.nx [some (.ref A.a),some (.ref A.wd),some (.ref A.t),some (.ref A.t2),some (.ref A.hd),v5,v6,v7,v8,v9,v10,v11,v12] H') (E:List Ent) (v5 v6 v7:Option V) (n:Int) (v9 v10 v11 v12:Option V) (H0:Hp),Lst K C ns Ns A H0 E hs->T5 D [some (.ref A.a),some (.ref A.wd),some (.ref A.t),some (.ref A.t2),some (.ref A.hd),v5,v6,v7,some (.int n),v9,v10,v11,v12] H0:=by
     intro D hnx E v5 v6 v7 n v9 v10 v11 v12 H0 L;rw [<-hT5];refine ⟨_,rfl,n,3,rfl,by decide,by decide,fun r r0 r1=>?_⟩;refine ⟨_,rfl,_,_,rfl,rfl,yu (by decide) (by decide),_,_,rfl,rfl,(by decide:(0:Int)<2),rfl,_,rfl,?_⟩;refine yB (fun c=>?_) (fun c=>zM (tail6 _ hnx _ _ _ _ _ _ _ _ _ _ L));exact ⟨_,rfl,_,rfl,_,rfl,Ns,A.dx,A.pa,A.ba,A.t,A.wd,A.ma,A.fl,A.nm,E,r,rfl,L.S,fun H' s'=>⟨_,rfl,zM (tail6 _ hnx _ _ _ _ _ _ _ _ _ _ (L.same s'))⟩⟩
    have tail4: ∀(D:Ends) (hnx: ∀(E:List Ent) (hs:List Addr) (v5 v6 v7 v8 v9 v10 v11 v12:Option V) (H':Hp),Lst K C ns Ns A H' E hs->hs.length<=i+1->D.nx [some (.ref A.a),some (.ref A.wd),some (.ref A.t),some (.ref A.t2),some (.ref A.hd),v5,v6,v7,v8,v9,v10,v11,v12] H') (E:List Ent) (v5 v6 v7:Option V) (n wy:Int) (v10 v11 v12:Option V) (H0:Hp),Lst K C ns Ns A H0 E hs->T4 D [some (.ref A.a),some (.ref A.wd),some (.ref A.t),some (.ref A.t2),some (.ref A.hd),v5,v6,v7,some (.int n),some (.int wy),v10,v11,v12] H0:=by
     intro D hnx E v5 v6 v7 n wy v10 v11 v12 H0 L;rw [<-hT4];refine ⟨_,rfl,_,_,rfl,rfl,_,rfl,?_⟩;refine yB (fun c=>?_) (fun c=>zM (tail5 _ hnx _ _ _ _ _ _ _ _ _ _ L));exact ⟨_,rfl,_,rfl,_,rfl,_,_,rfl,rfl,yu (by decide) (by decide),Ns,A.dx,A.pa,A.ba,A.t,A.wd,A.ma,A.fl,A.nm,E,_,rfl,L.S,L.n7,fun H' s'=>⟨_,rfl,zM (tail5 _ hnx _ _ _ _ _ _ _ _ _ _ (L.same s'))⟩⟩
    have tail3: ∀(D:Ends) (hnx: ∀(E:List Ent) (hs:List Addr) (v5 v6 v7 v8 v9 v10 v11 v12:Option V) (H':Hp),Lst K C ns Ns A H' E hs->hs.length<=i+1->D.nx [some (.ref A.a),some (.ref A.wd),some (.ref A.t),some (.ref A.t2),some (.ref A.hd),v5,v6,v7,v8,v9,v10,v11,v12] H') (E:List Ent) (v5 v6 v7:Option V) (n wy:Int) (v10 v11 v12:Option V) (H0:Hp),Lst K C ns Ns A H0 E hs->T3 D [some (.ref A.a),some (.ref A.wd),some (.ref A.t),some (.ref A.t2),some (.ref A.hd),v5,v6,v7,some (.int n),some (.int wy),v10,v11,v12] H0:=by
     intro D hnx E v5 v6 v7 n wy v10 v11 v12 H0 L;rw [<-hT3];refine ⟨_,rfl,bs 2,fun tp htp=>?_⟩;have L:=L.same (zE.upd htp (o:= .tup [.int 8,.int 9]));refine ⟨tp,_,rfl,.inr (SqT.of zC),rfl,rfl,_,rfl,?_⟩;refine yB (fun c=>?_) (fun c=>zM (tail4 _ hnx _ _ _ _ _ _ _ _ _ _ L));exact ⟨_,rfl,_,rfl,_,rfl,_,_,rfl,rfl,yu (by decide) (by decide),Ns,A.dx,A.pa,A.ba,A.t,A.wd,A.ma,A.fl,A.nm,E,_,rfl,L.S,fun H' E' bt S'=>⟨_,rfl,zM (tail4 _ hnx _ _ _ _ _ _ _ _ _ _ (L.but bt S'))⟩⟩
    refine ⟨_,rfl,_,rfl,_,_,rfl,rfl,A.a,ns,2+(0+(i:Int)),rfl,L.sq,hn,by omega,by omega,fun n H5 s5 n0 n1=>?_⟩;have L:=L.same s5;refine ⟨_,rfl,_,_,rfl,rfl,(by decide:(0:Int)<12),?_⟩;have W:=L.S.w;have l0:=W.l0;have l14:=W.l14;have k0:0<=n/12 %(Ns.length:Int):=zUc _ (by omega);have k1:n/12 %(Ns.length:Int)<Ns.length:=zUW _ (by omega);obtain ⟨j,hj⟩: ∃j:Nat,n/12 %(Ns.length:Int)=j:=⟨(n/12 %(Ns.length:Int)).toNat,by omega⟩;have hjn:j<Ns.length:=by omega
    have hnN:Ns[j] ∈Ns:=zUs hjn;refine ⟨_,rfl,A.wd,_,rfl,W.gn,_,rfl,_,_,rfl,rfl,yu (by decide) (by decide),_,rfl,A.wd,_,rfl,W.gn,A.nm,_,rfl,.inl (SqL.of W.nm),_,_,rfl,rfl,by rw [zUR];omega,A.nm,_,_,.str Ns[j],rfl,rfl,SqL.of W.nm,?_,?_⟩
    ·rw [zUR,hj];exact zAG (by rw [zUP,zUK hjn];rfl)
    generalize Ns[j] =nam at hnN⊢;refine ⟨_,rfl,n,1,rfl,by decide,by decide,fun m' _ _=>?_⟩;refine ⟨_,rfl,A.wd,_,rfl,W.gn,m',A.nm,Ns,rfl,W.nm,l0,l14,fun u us H6 s6 un gu u3=>?_⟩;have L:=L.same s6;refine ⟨_,rfl,_,_,rfl,rfl,yu (by decide) (by decide),n/108,rfl,fun am H7 aa ab s7 ama=>?_⟩;have L:=L.same s7;have un:=un.same s7;have hnx: ∀(E:List Ent) (hs:List Addr) (v5 v6 v7 v8 v9 v10 v11 v12:Option V) (H':Hp),Lst K C ns Ns A H' E hs->hs.length<=i+1-> ∃(E:List Ent) (hs:List Addr) (w5 w6 w7 w8 w9 w10 w11 w12:Option V),[some (.ref A.a),some (.ref A.wd),some (.ref A.t),some (.ref A.t2),some (.ref A.hd),v5,v6,v7,v8,v9,v10,v11,v12] = [some (.ref A.a),some (.ref A.wd),some (.ref A.t),some (.ref A.t2),some (.ref A.hd),w5,w6,w7,w8,w9,w10,w11,w12] /\i+1<=(m % 17).toNat/\Lst K C ns Ns A H' E hs/\hs.length<=i+1:=fun E hs v5 v6 v7 v8 v9 v10 v11 v12 H' L l=>⟨E,hs,_,_,_,_,_,_,_,_,rfl,hi,L,l⟩;refine ⟨_,rfl,_,_,rfl,rfl,_,rfl,?_⟩;refine yB (fun c=>?_) (fun c=>zM (tail3 _ hnx _ _ _ _ _ _ _ _ _ _ L));exact ⟨_,rfl,_,rfl,_,rfl,_,rfl,_,rfl,Ns,A.dx,A.pa,A.ba,A.t,A.wd,A.ma,A.fl,A.nm,u,E,nam,.ref am,aa,ab,us,rfl,L.S,hnN,ama,un,gu,u3,fun H' E' bt S'=>⟨_,rfl,zM (tail3 _ hnx _ _ _ _ _ _ _ _ _ _ (L.but bt S'))⟩⟩
   ·rintro σ H3 ⟨E,hs,v5,v6,v7,v8,v9,v10,v11,v12,rfl,_,L,lh⟩;refine ⟨_,rfl,_,rfl,_,rfl,A.a,ns,30,rfl,L.sq,hn,by decide,by decide,fun r H4 s4 r0 r1=>?_⟩;have L:=L.same s4;refine ⟨Ns,A.dx,A.pa,A.ba,A.t,A.wd,A.ma,A.fl,A.nm,E,r,rfl,L.S,fun H5 s5=>?_⟩;have L:=L.same s5;refine ⟨_,rfl,zM ?_⟩;refine ⟨_,rfl,A.t2,A.dx2,_,rfl,L.b.at_,lkA _ _,A.t2,A.dx2,A.pa2,A.ba2,Ns,[],rfl,L.b,fun l hl=>?_⟩;obtain ⟨G1,gs6,s6,el⟩:=zX hl (.lst (([] :List Ent).map fun e=>V.str e.nm));rw [gs6];have L:=L.same s6;refine ⟨bs 0,fun l0 hl0=>?_⟩;obtain ⟨G2,gs7,s7,el0⟩:=zX hl0 (.lst []);rw [gs7];have L:=L.same s7;refine ⟨l,l0,[],rfl,rfl,SqL.of (s7 _ _ el),SqL.of el0,_,rfl,zM ?_⟩;refine ⟨_,rfl,A.hd,rfl,⟨_,SqL.of L.hd⟩,fun D hD=>?_⟩;refine yK hs.length (fun i ys H'=>i<=hs.length/\ys= [] /\zE G2 H'/\H' D=some (.lst [])) ⟨zUZ _,rfl,zE.upd hD,zC⟩ (by rw [zUV];omega) ?_ ?_ ?_
    ·rintro i ys H' hi ⟨_,rfl,s8,e8⟩;exact ⟨zUZ _,e8,fun h=>⟨_,_,SqL.of (s8 _ _ L.hd),zUK (by simpa using h)⟩,fun h=>⟨_,SqL.of (s8 _ _ L.hd),by simp;omega⟩⟩
    ·rintro i ys H' x H'' hi ⟨_,rfl,s8,e8⟩ ⟨rfl,hx⟩ pre hpre;obtain ⟨p0,rfl⟩:=zVN.mp hpre;have hx':=hx _ (SqL.of (s8 _ _ L.hd));rw [zUP,zUK hi] at hx';cases hx';obtain ⟨l1,l2,xs,c1,_,_,c4,c5⟩:=L.hp _ (zUs hi);refine ⟨⟨[some (.ref hs[i])],rfl,rfl⟩,_,rfl,hs[i],_,_,_,rfl,rfl,SqT.of (s8 _ _ c1),rfl,_,rfl,hs[i],_,_,_,rfl,rfl,SqT.of (s8 _ _ c1),rfl,l1,l2,_,rfl,rfl,SqL.of (s8 _ _ c4),SqL.of (s8 _ _ c5),fun x hx=>?_,_,rfl,zM ?_⟩
     ·obtain ⟨z,_,rfl⟩:=zVR.mp hx;rfl
     ·exact ⟨hi,rfl,s8,e8⟩
    ·rintro ys H' ⟨_,rfl,s8,e8⟩;refine ⟨bs 0,fun l9 hl9=>?_⟩;exact ⟨D,l9,[],rfl,rfl,SqL.of (zE.upd hl9 _ _ e8),SqL.of zC,q _⟩
  refine fun wd hwd=>?_;obtain ⟨G1,gsA,sA,ewd⟩:=zX hwd (.dK []);rw [gsA];refine fun ma hma=>?_;have nwm:=zI ewd hma;obtain ⟨G2,gs2,s2,ema⟩:=zX hma (.dK []);rw [gs2];have ewd:=s2 _ _ ewd;have sA:=sA.trans s2;refine fun fl hfl=>?_;have nwf:=zI ewd hfl;have nmf:=zI ema hfl;obtain ⟨G3,gs3,s3,efl⟩:=zX hfl (.dK []);rw [gs3];have ewd:=s3 _ _ ewd;have ema:=s3 _ _ ema;have sA:=sA.trans s3;refine ⟨_,rfl,a,ns,0,rfl,sA.seq ha,hn,by decide,by decide,fun n G4 s4 n0 n1=>?_⟩;have sA:=sA.trans s4;refine ⟨n,8,rfl,n0,.inl rfl,fun nm Ns G5 s5 enm lnm nms n7=>?_⟩;have sA:=sA.trans s5;have ewd:=s5 _ _ (s4 _ _ ewd);have ema:=s5 _ _ (s4 _ _ ema);have efl:=s5 _ _ (s4 _ _ efl);refine ⟨ewd,[(.inr "made",.ref ma),(.inr "flat",.ref fl),(.inr "names",.ref nm)],rfl,by simp,?_⟩;rw [zRK];have nnw:nm≠wd:=fun z=>by rw [z,ewd] at enm;cases enm
  have sA:=zE.store (o:= .dK [(.inr "made",.ref ma),(.inr "flat",.ref fl),(.inr "names",.ref nm)]) sA hwd;have ewd':(L2.upd G5 wd (.dK [(.inr "made",.ref ma),(.inr "flat",.ref fl),(.inr "names",.ref nm)])) wd=some (.dK [(.inr "made",.ref ma),(.inr "flat",.ref fl),(.inr "names",.ref nm)]):=zC;have ema':(L2.upd G5 wd (.dK [(.inr "made",.ref ma),(.inr "flat",.ref fl),(.inr "names",.ref nm)])) ma=some (.dK []):=by rw [zG nwm.symm];exact ema
  have efl':(L2.upd G5 wd (.dK [(.inr "made",.ref ma),(.inr "flat",.ref fl),(.inr "names",.ref nm)])) fl=some (.dK []):=by rw [zG nwf.symm];exact efl
  have enm':(L2.upd G5 wd (.dK [(.inr "made",.ref ma),(.inr "flat",.ref fl),(.inr "names",.ref nm)])) nm=some (.lst (Ns.map V.str)):=by rw [zG nnw];exact enm
  generalize L2.upd G5 wd (.dK [(.inr "made",.ref ma),(.inr "flat",.ref fl),(.inr "names",.ref nm)])=G6 at sA ewd' ema' efl' enm'⊢;clear ewd ema efl enm;have W:Wd Ns wd ma fl nm G6 [] :=⟨ewd',nmf,nwm,nwf,⟨[],ema',.nil⟩,⟨[],efl',.nil⟩,enm',fun e he=>(nomatch he),by decide,by omega,by omega,nms,List.nodup_nil⟩;refine fun t dx ht hdx hne=>⟨t,dx,rfl,zC,fun pa ba G7 hpa hba hpb e7=>⟨rfl,?_⟩⟩;obtain ⟨s7,tb,fpa,fba⟩:=zMG ht hdx hne hpa hba hpb e7;clear e7;have ap:pa≠ma/\pa≠fl/\pa≠wd/\ba≠ma/\ba≠fl/\ba≠wd:=⟨(zI ema' fpa).symm,(zI efl' fpa).symm,(zI ewd' fpa).symm,(zI ema' fba).symm,(zI efl' fba).symm,(zI ewd' fba).symm⟩;have W:=W.same s7;have sA:=sA.trans s7;refine fun t2 dx2 ht2 hdx2 hne2=>⟨t2,dx2,rfl,zC,fun pa2 ba2 G8 hpa2 hba2 hpb2 e8=>⟨rfl,?_⟩⟩;obtain ⟨s8,tb2,fpa2,fba2⟩:=zMG ht2 hdx2 hne2 hpa2 hba2 hpb2 e8;clear e8;obtain ⟨_,ep,_⟩:=(tb []).ps;obtain ⟨_,eb,_⟩:=(tb []).bs;have bp:pa2∉ [pa,ba,ma,fl] :=by simp [(zI ep fpa2).symm,(zI eb fpa2).symm,(zI (s7 _ _ ema') fpa2).symm,(zI (s7 _ _ efl') fpa2).symm]
  have bb:ba2∉ [pa,ba,ma,fl] :=by simp [(zI ep fba2).symm,(zI eb fba2).symm,(zI (s7 _ _ ema') fba2).symm,(zI (s7 _ _ efl') fba2).symm]
  have bw1:pa2≠wd:=(zI W.at_ fpa2).symm;have bw2:ba2≠wd:=(zI W.at_ fba2).symm;have W:=W.same s8;have sA:=sA.trans s8;have tb': ∀Ns,Tb Ns C dx pa ba G8 t [] :=fun Ns=>(tb Ns).same s8;refine ⟨bs 0,fun hd hhd=>?_⟩;have s9:=zE.upd hhd (o:= .lst []);have ehd:(L2.upd G8 hd (.lst [])) hd=some (.lst []):=zC;have nh:nm≠hd:=zI W.nm hhd;have ah:a≠hd\/ ∀H',SqL K H' a (ns.map V.int):=by
   rcases sA.seq ha with (z |⟨o,z⟩)| z
   ·exact .inl (zI z hhd)
   ·exact .inl (zI z hhd)
   ·exact .inr fun H'=> .inr z
  generalize L2.upd G8 hd (.lst [])=G9 at s9 ehd⊢;have L:Lst K C ns Ns ⟨a,dx,pa,ba,t,wd,ma,fl,nm,dx2,pa2,ba2,t2,hd⟩ G9 [] [] :=⟨(sA.trans s9).seq ha,⟨(tb' Ns).same s9,W.same s9,ap⟩,(tb2 Ns).same s9,bp,bb,ehd,fun p hp=>(nomatch hp),nh,ah,n7⟩;refine ⟨_,rfl,a,ns,1,rfl,L.sq,hn,by decide,by decide,fun m G10 s10 m0 m1=>?_⟩;have L:=L.same s10;refine ⟨_,_,rfl,rfl,yu (by decide) (by decide),_,_,rfl,rfl,(by decide:(0:Int)<5),rfl,_,rfl,?_⟩;refine yB (fun c=>?_) (fun c=>tail ⟨a,dx,pa,ba,t,wd,ma,fl,nm,dx2,pa2,ba2,t2,hd⟩ _ _ _ _ _ _ L);refine ⟨_,rfl,a,ns,0,rfl,L.sq,hn,by decide,by decide,fun n2 G11 s11 n20 n21=>?_⟩;refine ⟨n2,14,rfl,n20,.inr rfl,fun nm' Ns' G12 s12 enm lnm' nms' n7'=>?_⟩;have sB:=((s9.trans s10).trans s11).trans s12;have L:=L.same (s11.trans s12);refine ⟨_,rfl,wd,_,rfl,zCH.k (k:= .inr "names") L.S.w.at_ (ls 3),?_⟩;rw [zTd];have nhd:nm'≠hd:=fun z=>by
   have z2:=L.hd;rw [show (Ads.hd ⟨a,dx,pa,ba,t,wd,ma,fl,nm,dx2,pa2,ba2,t2,hd⟩)=hd from rfl,<-z,enm] at z2;have z3:Ns'.map V.str= [] :=by
    injection z2 with z2;injection z2
   rw [List.map_eq_nil_iff] at z3;rw [z3] at lnm';exact absurd lnm' (by decide)
  have nwd:nm'≠wd:=fun z=>by
   have z2:=L.S.w.at_;rw [show (Ads.wd ⟨a,dx,pa,ba,t,wd,ma,fl,nm,dx2,pa2,ba2,t2,hd⟩)=wd from rfl,<-z,enm] at z2;cases z2
  have ema2:=(s8.trans sB) _ _ (s7 _ _ ema');have efl2:=(s8.trans sB) _ _ (s7 _ _ efl');have hdw: ∀x∈ [wd],∃kvs,G12 x=some (.dK kvs):=fun x hx=>by rw [zVQ.mp hx];exact ⟨_,L.S.w.at_⟩
  have bt:But [wd] G12 (L2.upd G12 wd (.dK [(.inr "made",.ref ma),(.inr "flat",.ref fl),(.inr "names",.ref nm')])):=fun b u e z=>by rw [zG (by simpa using z)];exact e
  have ewd2:(L2.upd G12 wd (.dK [(.inr "made",.ref ma),(.inr "flat",.ref fl),(.inr "names",.ref nm')])) wd=some (.dK [(.inr "made",.ref ma),(.inr "flat",.ref fl),(.inr "names",.ref nm')]):=zC;generalize L2.upd G12 wd (.dK [(.inr "made",.ref ma),(.inr "flat",.ref fl),(.inr "names",.ref nm')])=G13 at bt ewd2⊢;have sq13:SqL K G13 a (ns.map V.int):=by
   rcases L.sq with (z |⟨o,z⟩)| z
   ·exact .inl (.inl (bt.nd hdw z (fun _=>by simp)))
   ·exact .inl (.inr ⟨o,bt.nd hdw z (fun _=>by simp)⟩)
   ·exact .inr z
  have L1:Lst K C ns Ns' ⟨a,dx,pa,ba,t,wd,ma,fl,nm',dx2,pa2,ba2,t2,hd⟩ G13 [] [] :=⟨sq13,⟨((tb' Ns').same sB).but bt (by simp [ap.2.2.1]) (by simp [ap.2.2.2.2.2]) hdw,⟨ewd2,nmf,nwm,nwf,⟨[],bt _ _ ema2 (by simp [nwm.symm]),.nil⟩,⟨[],bt _ _ efl2 (by simp [nwf.symm]),.nil⟩,bt _ _ enm (by simp [nwd]),fun e he=>(nomatch he),by decide,by omega,by omega,nms',List.nodup_nil⟩,ap⟩,((tb2 Ns').same sB).but bt (by simp [bw1]) (by simp [bw2]) hdw,bp,bb,bt.nd hdw L.hd (fun _=>by simp),fun p hp=>(nomatch hp),nhd,ah,n7'⟩;have ll:Ns'.length=14:=lnm';obtain ⟨A,ea⟩: ∃A:Ads,A=⟨a,dx,pa,ba,t,wd,ma,fl,nm',dx2,pa2,ba2,t2,hd⟩:=⟨_,rfl⟩;have eas:([some (.ref a),some (.ref wd),some (.ref t),some (.ref t2),some (.ref hd),none,none,none,none,none,none,none,none] :L2.St)= [some (.ref A.a),some (.ref A.wd),some (.ref A.t),some (.ref A.t2),some (.ref A.hd),none,none,none,none,none,none,none,none] :=by rw [ea]
  rw [<-ea] at L1;clear L;refine ⟨_,rfl,by decide,by decide,?_⟩;refine yk 13 (fun i σ H'=> ∃(E:List Ent) (v5 v6 v7:Option V),σ= [some (.ref A.a),some (.ref A.wd),some (.ref A.t),some (.ref A.t2),some (.ref A.hd),v5,v6,v7,none,none,none,none,none] /\i<=13/\Lst K C ns Ns' A H' E []) ?_ ?_ ?_ ?_ ?_
  ·exact ⟨[],none,none,none,eas,zUZ _,L1⟩
  ·rintro i σ H' hi _;exact hi
  ·rintro σ H' _;exact zUO _
  ·rintro i σ H3 x H4 hi ⟨E,v5,v6,v7,rfl,_,L⟩ ⟨rfl,rfl⟩;have W:=L.S.w;have h13:13<Ns'.length:=by omega
   have at13:atI (Ns'.map V.str) 13=some (.str Ns'[13]):=zAG (j:=13) (by rw [zUP,zUK h13];rfl);have hn13:Ns'[13] ∈Ns':=zUs h13;have hiN:i<Ns'.length:=by omega
   have ati:atI (Ns'.map V.str) (0+(i:Int))=some (.str Ns'[i]):=by rw [Int.zero_add];exact zAG (by rw [zUP,zUK hiN];rfl)
   have hni:Ns'[i] ∈Ns':=zUs hiN;generalize Ns'[13] =n13 at at13 hn13;generalize Ns'[i] =ni at ati hni;have m3:0<=(0+(i:Int))% 3:=zUc _ (by decide);refine ⟨_,rfl,A.wd,_,rfl,W.gn,A.nm,_,_,.str n13,rfl,rfl,SqL.of W.nm,at13,_,rfl,_,_,rfl,rfl,(by decide:(0:Int)<3),_,_,rfl,rfl,?_⟩;dsimp only;generalize he:1+(0+(i:Int))% 3=ex;have ex0:ex≠0:=by omega
   refine ⟨bs 2,fun tp htp=>?_⟩;have z1:=zE.upd htp (o:= .tup [.str n13,.int ex]);have etp:(L2.upd H4 tp (.tup [.str n13,.int ex])) tp=some (.tup [.str n13,.int ex]):=zC;generalize L2.upd H4 tp (.tup [.str n13,.int ex])=J1 at z1 etp⊢;refine ⟨bs 1,fun tu htu=>?_⟩;have z2:=zE.upd htu (o:= .tup [.ref tp]);have etu:(L2.upd J1 tu (.tup [.ref tp])) tu=some (.tup [.ref tp]):=zC;generalize L2.upd J1 tu (.tup [.ref tp])=J2 at z2 etu⊢;have un:=zGa etu (z2 _ _ etp);have L:=L.same (z1.trans z2);refine ⟨_,rfl,_,rfl,_,_,rfl,rfl,A.a,ns,40+(0+(i:Int)),rfl,L.sq,hn,by omega,by omega,fun r J3 z3 r0 r1=>?_⟩;refine ⟨r,rfl,fun am J4 aa ab z4 ama=>?_⟩;have L:=L.same (z3.trans z4);have un:=un.same (z3.trans z4);refine ⟨_,rfl,_,rfl,_,rfl,A.wd,_,rfl,L.S.w.gn,_,rfl,A.nm,_,_,.str ni,rfl,rfl,SqL.of L.S.w.nm,ati,_,rfl,_,rfl,Ns',A.dx,A.pa,A.ba,A.t,A.wd,A.ma,A.fl,A.nm,tu,E,ni,.ref am,aa,ab,_,rfl,L.S,hni,ama,un,zDU hn13 ex0,by simp,fun J5 E' bt5 S5=>⟨_,rfl,zM ?_⟩⟩;exact ⟨E',_,_,_,rfl,hi,L.but bt5 S5⟩
  ·rintro σ H3 ⟨E,v5,v6,v7,rfl,_,L⟩;exact tail A _ _ _ _ _ _ L
end
def GA(K:zVK)(n:Str)(f:Addr):Prop:=PySem.W.nsIn K mainGlobals n=some (some (.ref f))
def LF(K:zVK)(f:Addr)(n q:Str)(st:Stmt)(dv oc:Value)(od:Option Addr)(kV dc pm:Value)(an:Option Addr)(cd ct:Value)(sl:Array (Option Value)):Prop:=K.lookup f=some ⟨oc,od,.func (PySem.W.fnOf n q (zAH st) (yd st) (zK st) dv kV dc pm an cd ct),sl⟩
def CF(K:zVK)(cd:Value)(q:Str):Prop:=PySem.W.codeIn K cd q=true
def KF(K:zVK)(f:Addr):Prop:=PySem.W.keepIn K (.ref f)=true
def xOk(K:zVK)(C:Addr):Bool:=(PySem.W.clsIn K C).any (fun cd=>PySem.W.excMro cd.mro)&&PySem.W.hasDictIn K C&&
 PySem.W.findIn K (.ref C) "__getattribute__" ==some (some (.builtin "BaseException.__getattribute__"))&&PySem.W.findIn K (.ref C) "__getattr__" ==some none&&PySem.W.findIn K (.ref C) "__setattr__" ==some (some (.builtin "object.__setattr__"))&&
 PySem.W.mroIn K C (.type "BaseException")==some true&&PySem.W.mroIn K C (.type "object")==some true&&PySem.W.findIn K (.ref C) "__class__" ==some (some (.builtin "object.__class__"))
theorem zIj{K:zVK}{C:Addr}(cg:PySem.W.specialIn K (.builtin "object.__class__") "__get__" =some (some (.builtin "getset_descriptor.__get__")))(ct:PySem.W.takesIn K (.builtin "object.__class__")=some true)(h:xOk K C=true):XCls K C:=by
 unfold xOk at h;simp only [zVM,beq_iff_eq] at h;obtain ⟨⟨⟨⟨⟨⟨⟨h4,h5⟩,h6⟩,h7⟩,h8⟩,h9⟩,h10⟩,h11⟩:=h;exact ⟨h6,h7,h8,h9,h10,h4,h5,h11,cg,ct⟩
def zFi(K:zVK)(C f:Addr)(fs:List Str):Bool:=zGf K C f&&PySem.W.isFn K (.ref f)&&PySem.W.keepIn K (.ref C)&&xOk K C&&fs.all fun n=>PySem.W.findIn K (.ref C) n==some none
theorem zIL{K:zVK}{C f:Addr}{fs:List Str}(cg:PySem.W.specialIn K (.builtin "object.__class__") "__get__" =some (some (.builtin "getset_descriptor.__get__")))(ct:PySem.W.takesIn K (.builtin "object.__class__")=some true)(h:zFi K C f fs=true):MkX K C f/\XCls K C/\ ∀n∈fs,yR K C n:=by
 unfold zFi at h;simp only [zVM] at h;obtain ⟨⟨⟨⟨h1,h2⟩,h3⟩,h4⟩,h5⟩:=h;exact ⟨⟨h1,h2,h3⟩,zIj cg ct h4,fun n hn=>beq_iff_eq.mp (List.all_eq_true.mp h5 n hn)⟩
def zDZ(K:zVK)(C:Addr)(cs:List Addr)(bs:List Bool):Bool:=PySem.W.kitOne K (.ref C) (.type "ValueError")==some true&&(cs.zip bs).all fun p=>PySem.W.kitOne K (.ref C) (.ref p.1)==some p.2
theorem zDR{K:zVK}{c0 c1 c2 c3 c4 c5 c6 c7 c8 c9 c10 c11 c12 C:Addr}{b0 b1 b2 b3 b4 b5 b6:Bool}(x:XCls K C)(h:zDZ K C [c0,c1,c2,c3,c4,c5,c6,c7,c8,c9,c10,c11,c12] [b0,b1,b2,b3,b4,b5,b6,false,false,false,false,false,false] =true):
  LK K c0 c1 c2 c3 c4 c5 c6 c7 c8 c9 c10 c11 c12 C b0 b1 b2 b3 b4 b5 b6:=by
 unfold zDZ at h;simp only [List.zip_cons_cons,List.zip_nil_left,List.all_cons,List.all_nil,Bool.and_true,zVM,beq_iff_eq] at h;obtain ⟨h,k0,k1,k2,k3,k4,k5,k6,k7,k8,k9,k10,k11,k12⟩:=h;exact ⟨x,h,k0,k1,k2,k3,k4,k5,k6,k7,k8,k9,k10,k11,k12⟩
theorem zAz{us:List Value}(h:us.length=1): ∃a,us= [a] :=zVN.mp h
theorem zAX{us:List Value}(h:us.length=2): ∃a b,us= [a,b] :=by
 cases us with
 | nil=>cases h
 | cons a r=>
  obtain ⟨b,rfl⟩:=zAz (us:=r) (by simpa using h);exact ⟨a,b,rfl⟩
theorem zCt{us:List Value}(h:us.length=3): ∃a b c,us= [a,b,c] :=by
 cases us with
 | nil=>cases h
 | cons a r=>
  obtain ⟨b,c,rfl⟩:=zAX (us:=r) (by simpa using h);exact ⟨a,b,c,rfl⟩
theorem zOD{us:List Value}(h:us.length=4): ∃a b c d,us= [a,b,c,d] :=by
 cases us with
 | nil=>cases h
 | cons a r=>
  obtain ⟨b,c,d,rfl⟩:=zCt (us:=r) (by simpa using h);exact ⟨a,b,c,d,rfl⟩
theorem zTw{us:List Value}(h:us.length=5): ∃a b c d e,us= [a,b,c,d,e] :=by
 cases us with
 | nil=>cases h
 | cons a r=>
  obtain ⟨b,c,d,e,rfl⟩:=zOD (us:=r) (by simpa using h);exact ⟨a,b,c,d,e,rfl⟩
theorem zQj{l:PySem.W.OpenLaw}{w:World}{K:zVK}{h:Heap}{mg:Str->Option Value}{fa:Addr}(ht:l.prog.given.tree=none)(X:K.In h)(G:h.Ns mainGlobals mg)(hfa:mg "law" =some (.ref fa))
  (a0:GA K "is_whole" f0)
  (l0:LF K f0 "is_whole" "is_whole" zBz .none oc0 od0 kV0 dc0 pm0 an0 cd0 ct0 sl0)
  (c0:CF K cd0 "is_whole")
  (k0:KF K f0)
  (a1:GA K "is_small_letter" f1)
  (l1:LF K f1 "is_small_letter" "is_small_letter" zCz .none oc1 od1 kV1 dc1 pm1 an1 cd1 ct1 sl1)
  (c1:CF K cd1 "is_small_letter")
  (k1:KF K f1)
  (a2:GA K "is_name" f2)
  (l2:LF K f2 "is_name" "is_name" zEk .none oc2 od2 kV2 dc2 pm2 an2 cd2 ct2 sl2)
  (c2:CF K cd2 "is_name")
  (k2:KF K f2)
  (a3:GA K "need_whole" f3)
  (l3:LF K f3 "need_whole" "need_whole" zBg (.ref T3) oc3 od3 kV3 dc3 pm3 an3 cd3 ct3 sl3)
  (c3:CF K cd3 "need_whole")
  (k3:KF K f3)
  (d3:K.lookup T3=some ⟨to3,td3,.seq #[.none] tn3,ts3⟩)
  (a4:GA K "need_name" f4)
  (l4:LF K f4 "need_name" "need_name" zDA .none oc4 od4 kV4 dc4 pm4 an4 cd4 ct4 sl4)
  (c4:CF K cd4 "need_name")
  (k4:KF K f4)
  (a5:GA K "common_divisor" f5)
  (l5:LF K f5 "common_divisor" "common_divisor" zFK .none oc5 od5 kV5 dc5 pm5 an5 cd5 ct5 sl5)
  (c5:CF K cd5 "common_divisor")
  (k5:KF K f5)
  (a6:GA K "fraction" f6)
  (l6:LF K f6 "fraction" "fraction" zCg (.ref T6) oc6 od6 kV6 dc6 pm6 an6 cd6 ct6 sl6)
  (c6:CF K cd6 "fraction")
  (k6:KF K f6)
  (d6:K.lookup T6=some ⟨to6,td6,.seq #[.int 1 tk6] tn6,ts6⟩)
  (a7:GA K "is_fraction" f7)
  (l7:LF K f7 "is_fraction" "is_fraction" zHE .none oc7 od7 kV7 dc7 pm7 an7 cd7 ct7 sl7)
  (c7:CF K cd7 "is_fraction")
  (k7:KF K f7)
  (a8:GA K "product_of" f8)
  (l8:LF K f8 "product_of" "product_of" zGL .none oc8 od8 kV8 dc8 pm8 an8 cd8 ct8 sl8)
  (c8:CF K cd8 "product_of")
  (k8:KF K f8)
  (a9:GA K "whole_power" f9)
  (l9:LF K f9 "whole_power" "whole_power" zGQ .none oc9 od9 kV9 dc9 pm9 an9 cd9 ct9 sl9)
  (c9:CF K cd9 "whole_power")
  (k9:KF K f9)
  (a10:GA K "turned_over" f10)
  (l10:LF K f10 "turned_over" "turned_over" zGC .none oc10 od10 kV10 dc10 pm10 an10 cd10 ct10 sl10)
  (c10:CF K cd10 "turned_over")
  (k10:KF K f10)
  (a11:GA K "is_pair" f11)
  (l11:LF K f11 "is_pair" "is_pair" zEp .none oc11 od11 kV11 dc11 pm11 an11 cd11 ct11 sl11)
  (c11:CF K cd11 "is_pair")
  (k11:KF K f11)
  (a12:GA K "is_unit" f12)
  (l12:LF K f12 "is_unit" "is_unit" zGk .none oc12 od12 kV12 dc12 pm12 an12 cd12 ct12 sl12)
  (c12:CF K cd12 "is_unit")
  (k12:KF K f12)
  (a13:GA K "unit_of" f13)
  (l13:LF K f13 "unit_of" "unit_of" zEs .none oc13 od13 kV13 dc13 pm13 an13 cd13 ct13 sl13)
  (c13:CF K cd13 "unit_of")
  (k13:KF K f13)
  (a14:GA K "powered" f14)
  (l14:LF K f14 "powered" "powered" zFl .none oc14 od14 kV14 dc14 pm14 an14 cd14 ct14 sl14)
  (c14:CF K cd14 "powered")
  (k14:KF K f14)
  (a15:GA K "with_power" f15)
  (l15:LF K f15 "with_power" "with_power" zFp .none oc15 od15 kV15 dc15 pm15 an15 cd15 ct15 sl15)
  (c15:CF K cd15 "with_power")
  (k15:KF K f15)
  (a16:GA K "multiplied_out" f16)
  (l16:LF K f16 "multiplied_out" "multiplied_out" zGY .none oc16 od16 kV16 dc16 pm16 an16 cd16 ct16 sl16)
  (c16:CF K cd16 "multiplied_out")
  (k16:KF K f16)
  (a17:GA K "product_of_powers" f17)
  (l17:LF K f17 "product_of_powers" "product_of_powers" zGz .none oc17 od17 kV17 dc17 pm17 an17 cd17 ct17 sl17)
  (c17:CF K cd17 "product_of_powers")
  (k17:KF K f17)
  (a18:GA K "powers_of" f18)
  (l18:LF K f18 "powers_of" "powers_of" zEc .none oc18 od18 kV18 dc18 pm18 an18 cd18 ct18 sl18)
  (c18:CF K cd18 "powers_of")
  (k18:KF K f18)
  (a19:GA K "is_too_steep" f19)
  (l19:LF K f19 "is_too_steep" "is_too_steep" zEL .none oc19 od19 kV19 dc19 pm19 an19 cd19 ct19 sl19)
  (c19:CF K cd19 "is_too_steep")
  (k19:KF K f19)
  (a20:GA K "_law_mixed" f20)
  (l20:LF K f20 "_law_mixed" "_law_mixed" zDX .none oc20 od20 kV20 dc20 pm20 an20 cd20 ct20 sl20)
  (c20:CF K cd20 "_law_mixed")
  (k20:KF K f20)
  (a21:GA K "_law_number" f21)
  (l21:LF K f21 "_law_number" "_law_number" zJR .none oc21 od21 kV21 dc21 pm21 an21 cd21 ct21 sl21)
  (c21:CF K cd21 "_law_number")
  (k21:KF K f21)
  (a22:GA K "_law_names" f22)
  (l22:LF K f22 "_law_names" "_law_names" zEP .none oc22 od22 kV22 dc22 pm22 an22 cd22 ct22 sl22)
  (c22:CF K cd22 "_law_names")
  (k22:KF K f22)
  (a23:GA K "_law_common" f23)
  (l23:LF K f23 "_law_common" "_law_common" zEE .none oc23 od23 kV23 dc23 pm23 an23 cd23 ct23 sl23)
  (c23:CF K cd23 "_law_common")
  (k23:KF K f23)
  (a24:GA K "_law_class" f24)
  (l24:LF K f24 "_law_class" "_law_class" zIN .none oc24 od24 kV24 dc24 pm24 an24 cd24 ct24 sl24)
  (c24:CF K cd24 "_law_class")
  (k24:KF K f24)
  (a25:GA K "_law_unit" f25)
  (l25:LF K f25 "_law_unit" "_law_unit" zEZ .none oc25 od25 kV25 dc25 pm25 an25 cd25 ct25 sl25)
  (c25:CF K cd25 "_law_unit")
  (k25:KF K f25)
  (a26:GA K "_law_amount" f26)
  (l26:LF K f26 "_law_amount" "_law_amount" zIW .none oc26 od26 kV26 dc26 pm26 an26 cd26 ct26 sl26)
  (c26:CF K cd26 "_law_amount")
  (k26:KF K f26)
  (a27:GA K "_law_plain" f27)
  (l27:LF K f27 "_law_plain" "_law_plain" zDK .none oc27 od27 kV27 dc27 pm27 an27 cd27 ct27 sl27)
  (c27:CF K cd27 "_law_plain")
  (k27:KF K f27)
  (a28:GA K "_law_tried" f28)
  (l28:LF K f28 "_law_tried" "_law_tried" zCF .none oc28 od28 kV28 dc28 pm28 an28 cd28 ct28 sl28)
  (c28:CF K cd28 "_law_tried")
  (k28:KF K f28)
  (a29:GA K "_law_is_used" f29)
  (l29:LF K f29 "_law_is_used" "_law_is_used" zES .none oc29 od29 kV29 dc29 pm29 an29 cd29 ct29 sl29)
  (c29:CF K cd29 "_law_is_used")
  (k29:KF K f29)
  (a30:GA K "_law_defined" f30)
  (l30:LF K f30 "_law_defined" "_law_defined" zIG .none oc30 od30 kV30 dc30 pm30 an30 cd30 ct30 sl30)
  (c30:CF K cd30 "_law_defined")
  (k30:KF K f30)
  (a31:GA K "_law_dropped" f31)
  (l31:LF K f31 "_law_dropped" "_law_dropped" zGX .none oc31 od31 kV31 dc31 pm31 an31 cd31 ct31 sl31)
  (c31:CF K cd31 "_law_dropped")
  (k31:KF K f31)
  (a32:GA K "_law_spoilt" f32)
  (l32:LF K f32 "_law_spoilt" "_law_spoilt" zDL .none oc32 od32 kV32 dc32 pm32 an32 cd32 ct32 sl32)
  (c32:CF K cd32 "_law_spoilt")
  (k32:KF K f32)
  (a33:GA K "_law_told" f33)
  (l33:LF K f33 "_law_told" "_law_told" zFu .none oc33 od33 kV33 dc33 pm33 an33 cd33 ct33 sl33)
  (c33:CF K cd33 "_law_told")
  (k33:KF K f33)
  (a34:GA K "law" f34)
  (l34:LF K f34 "law" "law" zFE .none oc34 od34 kV34 dc34 pm34 an34 cd34 ct34 sl34)
  (c34:CF K cd34 "law")
  (k34:KF K f34)
  (mCT:GA K "Table" CT)
  (atI:PySem.W.findIn K (.ref CT) "__init__" =some (some (.ref ftI)))
  (itI:PySem.W.isFn K (.ref ftI)=true)
  (ltI:LF K ftI "__init__" "Table.__init__" zHr .none octI odtI kVtI dctI pmtI antI cdtI cttI sltI)
  (ctI:CF K cdtI "Table.__init__")
  (ktI:KF K ftI)
  (atM:PySem.W.findIn K (.ref CT) "need_made" =some (some (.ref ftM)))
  (itM:PySem.W.isFn K (.ref ftM)=true)
  (ltM:LF K ftM "need_made" "Table.need_made" zFx .none octM odtM kVtM dctM pmtM antM cdtM cttM sltM)
  (ctM:CF K cdtM "Table.need_made")
  (ktM:KF K ftM)
  (atS:PySem.W.findIn K (.ref CT) "stands_in_one" =some (some (.ref ftS)))
  (itS:PySem.W.isFn K (.ref ftS)=true)
  (ltS:LF K ftS "stands_in_one" "Table.stands_in_one" zEi .none octS odtS kVtS dctS pmtS antS cdtS cttS sltS)
  (ctS:CF K cdtS "Table.stands_in_one")
  (ktS:KF K ftS)
  (atD:PySem.W.findIn K (.ref CT) "define" =some (some (.ref ftD)))
  (itD:PySem.W.isFn K (.ref ftD)=true)
  (ltD:LF K ftD "define" "Table.define" zEv .none octD odtD kVtD dctD pmtD antD cdtD cttD sltD)
  (ctD:CF K cdtD "Table.define")
  (ktD:KF K ftD)
  (atR:PySem.W.findIn K (.ref CT) "drop" =some (some (.ref ftR)))
  (itR:PySem.W.isFn K (.ref ftR)=true)
  (ltR:LF K ftR "drop" "Table.drop" zHw .none octR odtR kVtR dctR pmtR antR cdtR cttR sltR)
  (ctR:CF K cdtR "Table.drop")
  (ktR:KF K ftR)
  (atA:PySem.W.findIn K (.ref CT) "all_made" =some (some (.ref ftA)))
  (itA:PySem.W.isFn K (.ref ftA)=true)
  (ltA:LF K ftA "all_made" "Table.all_made" zKd .none octA odtA kVtA dctA pmtA antA cdtA cttA sltA)
  (ctA:CF K cdtA "Table.all_made")
  (ktA:KF K ftA)
  (atO:PySem.W.findIn K (.ref CT) "made_of" =some (some (.ref ftO)))
  (itO:PySem.W.isFn K (.ref ftO)=true)
  (ltO:LF K ftO "made_of" "Table.made_of" mOf .none octO odtO kVtO dctO pmtO antO cdtO cttO sltO)
  (ctO:CF K cdtO "Table.made_of")
  (ktO:KF K ftO)
  (atP:PySem.W.findIn K (.ref CT) "plain" =some (some (.ref ftP)))
  (itP:PySem.W.isFn K (.ref ftP)=true)
  (ltP:LF K ftP "plain" "Table.plain" zGe .none octP odtP kVtP dctP pmtP antP cdtP cttP sltP)
  (ctP:CF K cdtP "Table.plain")
  (ktP:KF K ftP)
  (atT:PySem.W.findIn K (.ref CT) "into" =some (some (.ref ftT)))
  (itT:PySem.W.isFn K (.ref ftT)=true)
  (ltT:LF K ftT "into" "Table.into" zHp .none octT odtT kVtT dctT pmtT antT cdtT cttT sltT)
  (ctT:CF K cdtT "Table.into")
  (ktT:KF K ftT)
  (pgT:PySem.W.plainGet K CT Str.empty=true)
  (hdT:PySem.W.hasDictIn K CT=true)
  (poT:PySem.W.plainOver K CT=true)
  (saT:PySem.W.findIn K (.ref CT) "__setattr__" =some (some (.builtin "object.__setattr__")))
  (mkT:PySem.W.makesIn K CT=true)
  (kcT:PySem.W.keepIn K (.ref CT)=true)
  (naP:PySem.W.findIn K (.ref CT) "pairs" =some none)
  (naB:PySem.W.findIn K (.ref CT) "bases" =some none)
  (mc0:GA K "BadName" y0)
  (mc1:GA K "BadNumber" y1)
  (mc2:GA K "BadUnit" y2)
  (mc3:GA K "BadTable" y3)
  (mc4:GA K "Twice" y4)
  (mc5:GA K "NoName" y5)
  (mc6:GA K "Unlike" y6)
  (mc7:GA K "BadCount" y7)
  (mc8:GA K "BadRate" y8)
  (mc9:GA K "BadText" y9)
  (mc10:GA K "Clash" y10)
  (mc11:GA K "NoRow" y11)
  (mc12:GA K "Steep" y12)
  (mME:GA K "MeasureError" ME)
  (aEy4:PySem.W.findIn K (.ref y4) "__init__" =some (some (.ref fEy4)))
  (lEy4:LF K fEy4 "__init__" "Twice.__init__" (yM (top 10) 0) .none ocEy4 odEy4 kVEy4 dcEy4 pmEy4 anEy4 cdEy4 ctEy4 slEy4)
  (cEy4:CF K cdEy4 "Twice.__init__")
  (kEy4:KF K fEy4)
  (oEy4:zFi K y4 fEy4 ["row","name"] =true)
  (aEy5:PySem.W.findIn K (.ref y5) "__init__" =some (some (.ref fEy5)))
  (lEy5:LF K fEy5 "__init__" "NoName.__init__" (yM (top 9) 0) .none ocEy5 odEy5 kVEy5 dcEy5 pmEy5 anEy5 cdEy5 ctEy5 slEy5)
  (cEy5:CF K cdEy5 "NoName.__init__")
  (kEy5:KF K fEy5)
  (oEy5:zFi K y5 fEy5 ["row","name"] =true)
  (aEy6:PySem.W.findIn K (.ref y6) "__init__" =some (some (.ref fEy6)))
  (lEy6:LF K fEy6 "__init__" "Unlike.__init__" (yM (top 14) 0) .none ocEy6 odEy6 kVEy6 dcEy6 pmEy6 anEy6 cdEy6 ctEy6 slEy6)
  (cEy6:CF K cdEy6 "Unlike.__init__")
  (kEy6:KF K fEy6)
  (oEy6:zFi K y6 fEy6 ["one","other"] =true)
  (iny0:PySem.W.excIn K y0 [.type "ValueError",.type "Exception",.type "BaseException",.type "object"] "ValueError.__new__" =true)
  (xy0:xOk K y0=true)
  (iny1:PySem.W.excIn K y1 [.type "ValueError",.type "Exception",.type "BaseException",.type "object"] "ValueError.__new__" =true)
  (xy1:xOk K y1=true)
  (iny2:PySem.W.excIn K y2 [.type "ValueError",.type "Exception",.type "BaseException",.type "object"] "ValueError.__new__" =true)
  (xy2:xOk K y2=true)
  (iny3:PySem.W.excIn K y3 [.type "ValueError",.type "Exception",.type "BaseException",.type "object"] "ValueError.__new__" =true)
  (xy3:xOk K y3=true)
  (exy0:PySem.W.exmOne K (.ref y0) (.ref ME)=some true)
  (kky0:zDZ K y0 [y0,y1,y2,y3,y4,y5,y6,y7,y8,y9,y10,y11,y12] [true,false,false,false,false,false,false,false,false,false,false,false,false] =true)
  (exy1:PySem.W.exmOne K (.ref y1) (.ref ME)=some true)
  (kky1:zDZ K y1 [y0,y1,y2,y3,y4,y5,y6,y7,y8,y9,y10,y11,y12] [false,true,false,false,false,false,false,false,false,false,false,false,false] =true)
  (exy2:PySem.W.exmOne K (.ref y2) (.ref ME)=some true)
  (kky2:zDZ K y2 [y0,y1,y2,y3,y4,y5,y6,y7,y8,y9,y10,y11,y12] [false,false,true,false,false,false,false,false,false,false,false,false,false] =true)
  (exy3:PySem.W.exmOne K (.ref y3) (.ref ME)=some true)
  (kky3:zDZ K y3 [y0,y1,y2,y3,y4,y5,y6,y7,y8,y9,y10,y11,y12] [false,false,false,true,false,false,false,false,false,false,false,false,false] =true)
  (exy4:PySem.W.exmOne K (.ref y4) (.ref ME)=some true)
  (kky4:zDZ K y4 [y0,y1,y2,y3,y4,y5,y6,y7,y8,y9,y10,y11,y12] [false,false,false,false,true,false,false,false,false,false,false,false,false] =true)
  (exy5:PySem.W.exmOne K (.ref y5) (.ref ME)=some true)
  (kky5:zDZ K y5 [y0,y1,y2,y3,y4,y5,y6,y7,y8,y9,y10,y11,y12] [false,false,false,false,false,true,false,false,false,false,false,false,false] =true)
  (exy6:PySem.W.exmOne K (.ref y6) (.ref ME)=some true)
  (kky6:zDZ K y6 [y0,y1,y2,y3,y4,y5,y6,y7,y8,y9,y10,y11,y12] [false,false,false,false,false,false,true,false,false,false,false,false,false] =true)
  (cg:PySem.W.specialIn K (.builtin "object.__class__") "__get__" =some (some (.builtin "getset_descriptor.__get__")))
  (ct:PySem.W.takesIn K (.builtin "object.__class__")=some true)
  (mW:GA K "WORDS" W)
  (mO:GA K "ONE" O)
  (mL:PySem.W.nsIn K mainGlobals "MOST_LETTERS" =some (some (.int 8 tL)))
  (mM:PySem.W.nsIn K mainGlobals "MOST_MADE" =some (some (.int 12 tM)))
  (mE:PySem.W.nsIn K mainGlobals "MOST_EXPONENT" =some (some (.int 64 tE)))
  (mF:PySem.W.nsIn K mainGlobals "MOST_FIGURES" =some (some (.int 200 tF)))
  (lW:K.lookup W=some ⟨.type "tuple",odW,.seq #[.str "unit" tw0,.str "take" tw1,.str "let" tw2,.str "fun" tw3,.str "show" tw4,.str "if" tw5,.str "then" tw6,.str "else" tw7,.str "loop" tw8,.str "for" tw9,.str "do" tw10] nW,slW⟩)
  (lO:K.lookup O=some ⟨.type "tuple",odO,.seq #[.int 1 tO1,.int 1 tO2] nO,slO⟩)
  (zisi:PySem.W.nsIn K mainGlobals "isinstance" =some none)
  (zint:PySem.W.nsIn K mainGlobals "int" =some none)
  (zbool:PySem.W.nsIn K mainGlobals "bool" =some none)
  (ztuple:PySem.W.nsIn K mainGlobals "tuple" =some none)
  (zlen:PySem.W.nsIn K mainGlobals "len" =some none)
  (zrange:PySem.W.nsIn K mainGlobals "range" =some none)
  (zstr:PySem.W.nsIn K mainGlobals "str" =some none)
  (zabs:PySem.W.nsIn K mainGlobals "abs" =some none)
  (zverr:PySem.W.nsIn K mainGlobals "ValueError" =some none)
  (zlist:PySem.W.nsIn K mainGlobals "list" =some none)
  (zdict:PySem.W.nsIn K mainGlobals "dict" =some none)
  (zall:PySem.W.nsIn K mainGlobals "all" =some none)
  (zsorted:PySem.W.nsIn K mainGlobals "sorted" =some none)
  (zany:PySem.W.nsIn K mainGlobals "any" =some none)
  (zmax:PySem.W.nsIn K mainGlobals "max" =some none):
  ∃fd:FuncData,(∀(s:Shared) (v:Value),BindsTo s fd ⟨[v],[]⟩ [("_law_script",v)])/\ ∀base:Heap,K.In base->base.Ns mainGlobals mg->FnOk l.prog w K mg base CX0 37 fa fd ["_law_script"] (zHn K):=by
 have e:=hfa.symm.trans (zUN X G a34);cases e;have B:Bn mg:=⟨zUo X G zisi,zUo X G zint,zUo X G zbool,zUo X G ztuple,zUo X G zlen,zUo X G zrange,zUo X G zstr,zUo X G zabs,zUo X G zverr,zUo X G zlist,zUo X G zdict,zUo X G zall,zUo X G zsorted,zUo X G zany,zUo X G zmax⟩;have V:Gv K mg W O:=⟨zUN X G mW,fun H=> .inr ⟨_,_,_,lW,rfl,rfl,by show 11<=sizeLine;decide,(.cons ⟨_,rfl⟩ (.cons ⟨_,rfl⟩ (.cons ⟨_,rfl⟩ (.cons ⟨_,rfl⟩ (.cons ⟨_,rfl⟩ (.cons ⟨_,rfl⟩ (.cons ⟨_,rfl⟩ (.cons ⟨_,rfl⟩ (.cons ⟨_,rfl⟩ (.cons ⟨_,rfl⟩ (.cons ⟨_,rfl⟩ .nil)))))))))))⟩,⟨_,zUN X G mL⟩,zUN X G mO,fun H=> .inr ⟨_,_,_,lO,rfl,rfl,by show 2<=sizeLine;decide,.cons ⟨_,rfl⟩ (.cons ⟨_,rfl⟩ .nil)⟩,⟨_,zUN X G mM⟩,⟨_,zUN X G mE⟩,⟨_,zUN X G mF⟩⟩;have EX:Ex K mg y0 y2:=⟨zUN X G mc0,iny0,zUN X G mc2,iny2⟩;have XN:ExN K mg y1:=⟨zUN X G mc1,iny1⟩;have XT:ExT K mg y3:=⟨zUN X G mc3,iny3⟩;have T:TC K CT:=⟨⟨pgT,hdT,poT,saT⟩,naP,naB⟩;have MT:Mk K CT ftI:=⟨mkT,atI,itI,kcT⟩;have Z:ClsZ mg y0 y1 y2 y3 y4 y5 y6 y7 y8 y9 y10 y11 y12:=⟨zUN X G mc0,zUN X G mc1,zUN X G mc2,zUN X G mc3,zUN X G mc4,zUN X G mc5,zUN X G mc6,zUN X G mc7,zUN X G mc8,zUN X G mc9,zUN X G mc10,zUN X G mc11,zUN X G mc12⟩;have FEy4:=zi (st:=yM (top 10) 0) lEy4 cEy4 kEy4;have BEy4:=FEy4.binds (ps:= ["self","row","name"]) fun _ _ _ _ _ _ us hl=>by
  obtain ⟨v0,v1,v2,rfl⟩:=zCt hl;rfl
 obtain ⟨MKEy4,XCEy4,NAEy4⟩:=zIL cg ct oEy4;have N1Ey4:=NAEy4 "row" (by simp);have N2Ey4:=NAEy4 "name" (by simp);have REy4:RX K mg "Twice" y4 fEy4 "row" "name" :=⟨MKEy4,XCEy4,N1Ey4,N2Ey4,zUN X G mc4⟩;have FEy5:=zi (st:=yM (top 9) 0) lEy5 cEy5 kEy5;have BEy5:=FEy5.binds (ps:= ["self","row","name"]) fun _ _ _ _ _ _ us hl=>by
  obtain ⟨v0,v1,v2,rfl⟩:=zCt hl;rfl
 obtain ⟨MKEy5,XCEy5,NAEy5⟩:=zIL cg ct oEy5;have N1Ey5:=NAEy5 "row" (by simp);have N2Ey5:=NAEy5 "name" (by simp);have REy5:RX K mg "NoName" y5 fEy5 "row" "name" :=⟨MKEy5,XCEy5,N1Ey5,N2Ey5,zUN X G mc5⟩;have FEy6:=zi (st:=yM (top 14) 0) lEy6 cEy6 kEy6;have BEy6:=FEy6.binds (ps:= ["self","one","other"]) fun _ _ _ _ _ _ us hl=>by
  obtain ⟨v0,v1,v2,rfl⟩:=zCt hl;rfl
 obtain ⟨MKEy6,XCEy6,NAEy6⟩:=zIL cg ct oEy6;have N1Ey6:=NAEy6 "one" (by simp);have N2Ey6:=NAEy6 "other" (by simp);have REy6:RX K mg "Unlike" y6 fEy6 "one" "other" :=⟨MKEy6,XCEy6,N1Ey6,N2Ey6,zUN X G mc6⟩;have R:Rfs K y0 y1 y2 y3 y4 y5 y6 y7 y8 y9 y10 y11 y12 ME:=⟨zDR (zIj cg ct xy0) kky0,zDR (zIj cg ct xy1) kky1,zDR (zIj cg ct xy2) kky2,zDR (zIj cg ct xy3) kky3,zDR XCEy4 kky4,zDR XCEy5 kky5,zDR XCEy6 kky6,exy0,exy1,exy2,exy3,exy4,exy5,exy6,N1Ey4,N2Ey4,N1Ey5,N2Ey5,N1Ey6,N2Ey6⟩;have FtI:=zi (st:=zHr) ltI ctI ktI;have BtI:=FtI.binds (ps:= ["self"]) fun _ _ _ _ _ _ us hl=>by
  obtain ⟨v0,rfl⟩:=zAz hl;rfl
 have QtI:Meth K CT "__init__" ftI:=⟨atI,itI,ktI⟩;have FtM:=zi (st:=zFx) ltM ctM ktM;have BtM:=FtM.binds (ps:= ["self","name"]) fun _ _ _ _ _ _ us hl=>by
  obtain ⟨v0,v1,rfl⟩:=zAX hl;rfl
 have QtM:Meth K CT "need_made" ftM:=⟨atM,itM,ktM⟩;have FtS:=zi (st:=zEi) ltS ctS ktS;have BtS:=FtS.binds (ps:= ["self","name"]) fun _ _ _ _ _ _ us hl=>by
  obtain ⟨v0,v1,rfl⟩:=zAX hl;rfl
 have QtS:Meth K CT "stands_in_one" ftS:=⟨atS,itS,ktS⟩;have FtD:=zi (st:=zEv) ltD ctD ktD;have BtD:=FtD.binds (ps:= ["self","name","amount","unit"]) fun _ _ _ _ _ _ us hl=>by
  obtain ⟨v0,v1,v2,v3,rfl⟩:=zOD hl;rfl
 have QtD:Meth K CT "define" ftD:=⟨atD,itD,ktD⟩;have FtR:=zi (st:=zHw) ltR ctR ktR;have BtR:=FtR.binds (ps:= ["self","name"]) fun _ _ _ _ _ _ us hl=>by
  obtain ⟨v0,v1,rfl⟩:=zAX hl;rfl
 have QtR:Meth K CT "drop" ftR:=⟨atR,itR,ktR⟩;have FtA:=zi (st:=zKd) ltA ctA ktA;have BtA:=FtA.binds (ps:= ["self"]) fun _ _ _ _ _ _ us hl=>by
  obtain ⟨v0,rfl⟩:=zAz hl;rfl
 have QtA:Meth K CT "all_made" ftA:=⟨atA,itA,ktA⟩;have FtO:=zi (st:=mOf) ltO ctO ktO;have BtO:=FtO.binds (ps:= ["self","name"]) fun _ _ _ _ _ _ us hl=>by
  obtain ⟨v0,v1,rfl⟩:=zAX hl;rfl
 have QtO:Meth K CT "made_of" ftO:=⟨atO,itO,ktO⟩;have FtP:=zi (st:=zGe) ltP ctP ktP;have BtP:=FtP.binds (ps:= ["self","unit"]) fun _ _ _ _ _ _ us hl=>by
  obtain ⟨v0,v1,rfl⟩:=zAX hl;rfl
 have QtP:Meth K CT "plain" ftP:=⟨atP,itP,ktP⟩;have FtT:=zi (st:=zHp) ltT ctT ktT;have BtT:=FtT.binds (ps:= ["self","amount","unit","wanted"]) fun _ _ _ _ _ _ us hl=>by
  obtain ⟨v0,v1,v2,v3,rfl⟩:=zOD hl;rfl
 have QtT:Meth K CT "into" ftT:=⟨atT,itT,ktT⟩;have F0:=zi (st:=zBz) l0 c0 k0;have B0:=F0.binds (ps:= ["thing"]) fun _ _ _ _ _ _ us hl=>by
  obtain ⟨v0,rfl⟩:=zAz hl;rfl
 have M0:=zUN X G a0;have F1:=zi (st:=zCz) l1 c1 k1;have B1:=F1.binds (ps:= ["sign"]) fun _ _ _ _ _ _ us hl=>by
  obtain ⟨v0,rfl⟩:=zAz hl;rfl
 have M1:=zUN X G a1;have F2:=zi (st:=zEk) l2 c2 k2;have B2:=F2.binds (ps:= ["thing"]) fun _ _ _ _ _ _ us hl=>by
  obtain ⟨v0,rfl⟩:=zAz hl;rfl
 have M2:=zUN X G a2;have F3:=zJv (st:=zBg) l3 c3 k3;have B3:L2.zL K _ ["thing","least","most"] [] :=fun s us KX hl=>by
  rw [zUm] at hl⊢;obtain ⟨v0,v1,v2,rfl⟩:=zCt hl;exact PySem.W.binds_K (fd:=PySem.W.fnOf "need_whole" "need_whole" (zAH zBg) (yd zBg) (zK zBg) (.ref T3) kV3 dc3 pm3 an3 cd3 ct3) KX rfl d3 rfl rfl rfl
 have D3:L2.zL K _ ["thing","least","most"] [.none] :=fun s us KX hl=>by
  have hl:us.length=2:=by simpa using hl
  obtain ⟨v0,v1,rfl⟩:=zAX hl;exact PySem.W.binds_K (fd:=PySem.W.fnOf "need_whole" "need_whole" (zAH zBg) (yd zBg) (zK zBg) (.ref T3) kV3 dc3 pm3 an3 cd3 ct3) KX rfl d3 rfl rfl rfl
 have M3:=zUN X G a3;have F4:=zi (st:=zDA) l4 c4 k4;have B4:=F4.binds (ps:= ["thing"]) fun _ _ _ _ _ _ us hl=>by
  obtain ⟨v0,rfl⟩:=zAz hl;rfl
 have M4:=zUN X G a4;have F5:=zi (st:=zFK) l5 c5 k5;have B5:=F5.binds (ps:= ["above","below"]) fun _ _ _ _ _ _ us hl=>by
  obtain ⟨v0,v1,rfl⟩:=zAX hl;rfl
 have M5:=zUN X G a5;have F6:=zJv (st:=zCg) l6 c6 k6;have B6:L2.zL K _ ["above","below"] [] :=fun s us KX hl=>by
  rw [zUm] at hl⊢;obtain ⟨v0,v1,rfl⟩:=zAX hl;exact PySem.W.binds_K (fd:=PySem.W.fnOf "fraction" "fraction" (zAH zCg) (yd zCg) (zK zCg) (.ref T6) kV6 dc6 pm6 an6 cd6 ct6) KX rfl d6 rfl rfl rfl
 have M6:=zUN X G a6;have F7:=zi (st:=zHE) l7 c7 k7;have B7:=F7.binds (ps:= ["thing"]) fun _ _ _ _ _ _ us hl=>by
  obtain ⟨v0,rfl⟩:=zAz hl;rfl
 have M7:=zUN X G a7;have F8:=zi (st:=zGL) l8 c8 k8;have B8:=F8.binds (ps:= ["one","other"]) fun _ _ _ _ _ _ us hl=>by
  obtain ⟨v0,v1,rfl⟩:=zAX hl;rfl
 have M8:=zUN X G a8;have F9:=zi (st:=zGQ) l9 c9 k9;have B9:=F9.binds (ps:= ["base","exponent"]) fun _ _ _ _ _ _ us hl=>by
  obtain ⟨v0,v1,rfl⟩:=zAX hl;rfl
 have M9:=zUN X G a9;have F10:=zi (st:=zGC) l10 c10 k10;have B10:=F10.binds (ps:= ["one"]) fun _ _ _ _ _ _ us hl=>by
  obtain ⟨v0,rfl⟩:=zAz hl;rfl
 have M10:=zUN X G a10;have F11:=zi (st:=zEp) l11 c11 k11;have B11:=F11.binds (ps:= ["thing"]) fun _ _ _ _ _ _ us hl=>by
  obtain ⟨v0,rfl⟩:=zAz hl;rfl
 have M11:=zUN X G a11;have F12:=zi (st:=zGk) l12 c12 k12;have B12:=F12.binds (ps:= ["thing"]) fun _ _ _ _ _ _ us hl=>by
  obtain ⟨v0,rfl⟩:=zAz hl;rfl
 have M12:=zUN X G a12;have F13:=zi (st:=zEs) l13 c13 k13;have B13:=F13.binds (ps:= ["pairs"]) fun _ _ _ _ _ _ us hl=>by
  obtain ⟨v0,rfl⟩:=zAz hl;rfl
 have M13:=zUN X G a13;have F14:=zi (st:=zFl) l14 c14 k14;have B14:=F14.binds (ps:= ["unit","exponent"]) fun _ _ _ _ _ _ us hl=>by
  obtain ⟨v0,v1,rfl⟩:=zAX hl;rfl
 have M14:=zUN X G a14;have F15:=zi (st:=zFp) l15 c15 k15;have B15:=F15.binds (ps:= ["parts","base","exponent"]) fun _ _ _ _ _ _ us hl=>by
  obtain ⟨v0,v1,v2,rfl⟩:=zCt hl;rfl
 have M15:=zUN X G a15;have F16:=zi (st:=zGY) l16 c16 k16;have B16:=F16.binds (ps:= ["parts"]) fun _ _ _ _ _ _ us hl=>by
  obtain ⟨v0,rfl⟩:=zAz hl;rfl
 have M16:=zUN X G a16;have F17:=zi (st:=zGz) l17 c17 k17;have B17:=F17.binds (ps:= ["powers"]) fun _ _ _ _ _ _ us hl=>by
  obtain ⟨v0,rfl⟩:=zAz hl;rfl
 have M17:=zUN X G a17;have F18:=zi (st:=zEc) l18 c18 k18;have B18:=F18.binds (ps:= ["amount","exponent"]) fun _ _ _ _ _ _ us hl=>by
  obtain ⟨v0,v1,rfl⟩:=zAX hl;rfl
 have M18:=zUN X G a18;have F19:=zi (st:=zEL) l19 c19 k19;have B19:=F19.binds (ps:= ["unit"]) fun _ _ _ _ _ _ us hl=>by
  obtain ⟨v0,rfl⟩:=zAz hl;rfl
 have M19:=zUN X G a19;have F20:=zi (st:=zDX) l20 c20 k20;have B20:=F20.binds (ps:= ["_law_number_here","_law_k"]) fun _ _ _ _ _ _ us hl=>by
  obtain ⟨v0,v1,rfl⟩:=zAX hl;rfl
 have M20:=zUN X G a20;have F21:=zi (st:=zJR) l21 c21 k21;have B21:=F21.binds (ps:= ["_law_script","_law_k"]) fun _ _ _ _ _ _ us hl=>by
  obtain ⟨v0,v1,rfl⟩:=zAX hl;rfl
 have M21:=zUN X G a21;have F22:=zi (st:=zEP) l22 c22 k22;have B22:=F22.binds (ps:= ["_law_number_here","_law_many"]) fun _ _ _ _ _ _ us hl=>by
  obtain ⟨v0,v1,rfl⟩:=zAX hl;rfl
 have M22:=zUN X G a22;have F23:=zi (st:=zEE) l23 c23 k23;have B23:=F23.binds (ps:= ["_law_one","_law_other"]) fun _ _ _ _ _ _ us hl=>by
  obtain ⟨v0,v1,rfl⟩:=zAX hl;rfl
 have M23:=zUN X G a23;have F24:=zi (st:=zIN) l24 c24 k24;have B24:=F24.binds (ps:= ["_law_e"]) fun _ _ _ _ _ _ us hl=>by
  obtain ⟨v0,rfl⟩:=zAz hl;rfl
 have M24:=zUN X G a24;have F25:=zi (st:=zEZ) l25 c25 k25;have B25:=F25.binds (ps:= ["_law_number_here","_law_names_here"]) fun _ _ _ _ _ _ us hl=>by
  obtain ⟨v0,v1,rfl⟩:=zAX hl;rfl
 have M25:=zUN X G a25;have F26:=zi (st:=zIW) l26 c26 k26;have B26:=F26.binds (ps:= ["_law_number_here"]) fun _ _ _ _ _ _ us hl=>by
  obtain ⟨v0,rfl⟩:=zAz hl;rfl
 have M26:=zUN X G a26;have F27:=zi (st:=zDK) l27 c27 k27;have B27:=F27.binds (ps:= ["_law_world","_law_unit_here"]) fun _ _ _ _ _ _ us hl=>by
  obtain ⟨v0,v1,rfl⟩:=zAX hl;rfl
 have M27:=zUN X G a27;have F28:=zi (st:=zCF) l28 c28 k28;have B28:=F28.binds (ps:= ["_law_way","_law_table","_law_things"]) fun _ _ _ _ _ _ us hl=>by
  obtain ⟨v0,v1,v2,rfl⟩:=zCt hl;rfl
 have M28:=zUN X G a28;have F29:=zi (st:=zES) l29 c29 k29;have B29:=F29.binds (ps:= ["_law_world","_law_name"]) fun _ _ _ _ _ _ us hl=>by
  obtain ⟨v0,v1,rfl⟩:=zAX hl;rfl
 have M29:=zUN X G a29;have F30:=zi (st:=zIG) l30 c30 k30;have B30:=F30.binds (ps:= ["_law_world","_law_table","_law_name","_law_amount_here","_law_unit_here"]) fun _ _ _ _ _ _ us hl=>by
  obtain ⟨v0,v1,v2,v3,v4,rfl⟩:=zTw hl;rfl
 have M30:=zUN X G a30;have F31:=zi (st:=zGX) l31 c31 k31;have B31:=F31.binds (ps:= ["_law_world","_law_table","_law_number_here"]) fun _ _ _ _ _ _ us hl=>by
  obtain ⟨v0,v1,v2,rfl⟩:=zCt hl;rfl
 have M31:=zUN X G a31;have F32:=zi (st:=zDL) l32 c32 k32;have B32:=F32.binds (ps:= ["_law_world","_law_table","_law_number_here"]) fun _ _ _ _ _ _ us hl=>by
  obtain ⟨v0,v1,v2,rfl⟩:=zCt hl;rfl
 have M32:=zUN X G a32;have F33:=zi (st:=zFu) l33 c33 k33;have B33:=F33.binds (ps:= ["_law_world","_law_table","_law_number_here"]) fun _ _ _ _ _ _ us hl=>by
  obtain ⟨v0,v1,v2,rfl⟩:=zCt hl;rfl
 have M33:=zUN X G a33;have F34:=zi (st:=zFE) l34 c34 k34;refine ⟨PySem.W.fnOf "law" "law" (zAH zFE) (yd zFE) (zK zFE) .none kV34 dc34 pm34 an34 cd34 ct34,fun s v=> .of_eq rfl,fun base _ _=>?_⟩;have GN:FnOk l.prog w K mg base CX0 2 f2 _ ["thing"] zFz:=zQA F2 B V F1 B1 M1;have GD:FnOk l.prog w K mg base (yF l.prog w) 3 f4 _ ["thing"] (zEn y0):=FnOk.toD (zNV F4 B EX F2 B2 M2 GN);have GP:FnOk l.prog w K mg base CX0 3 f11 _ ["thing"] zGc:=zQY F11 B F2 B2 M2 GN F0 B0 M0;have GI:FnOk l.prog w K mg base CX0 4 f12 _ ["thing"] zHm:=zRg F12 B F11 B11 M11 GP;have GU:FnOk l.prog w K mg base (Fly l.prog w) 4 f13 _ ["pairs"] (zIQ y2):=zQL F13 B EX F11 B11 M11 GP;have GU0:FnOk l.prog w K mg base CX0 4 f13 _ ["pairs"] zEt:=zNu GU;have GPo:FnOk l.prog w K mg base CX0 5 f14 _ ["unit","exponent"] zJH:=zQJ F14 B F13 B13 M13 GU0;have GW:FnOk l.prog w K mg base CX0 2 f15 _ ["parts","base","exponent"] zIl:=zQg F15 B F5 B5 M5;have GMu:FnOk l.prog w K mg base (Fly l.prog w) 2 f16 _ ["parts"] (zIo y3):=zQG F16 B V XT F9 B9 M9;have GO:FnOk l.prog w K mg base (yF l.prog w) 3 f17 _ ["powers"] (zHu y3):=FnOk.toD (zRY F17 B F15 B15 M15 GW F16 B16 M16 GMu);have GPs:FnOk l.prog w K mg base CX0 1 f18 _ ["amount","exponent"] (zGI K):=zQP F18 B;have GSt:FnOk l.prog w K mg base CX0 1 f19 _ ["unit"] (zGx K):=zOK F19 B V;have GF:FnOk l.prog w K mg base CX0 2 f7 _ ["thing"] zHl:=zSh F7 B F0 B0 M0 F5 B5 M5;have GFr:FnOk l.prog w K mg base (Fly l.prog w) 3 f6 _ ["above","below"] (zFt y1):=zQT F6 B XN F0 B0 M0 F3 D3 M3 F5 B5 M5;have GR:FnOk l.prog w K mg base CX0 4 f8 _ ["one","other"] zJA:=zPW F8 F6 B6 M6 GFr;have GV:FnOk l.prog w K mg base CX0 1 f10 _ ["one"] zJI:=zPd F10;have GNN:FnOk l.prog w K mg base CX0 1 fEy5 _ ["self","row","name"] (zCp y5 "row" "name"):=zSq FEy5 REy5;have GTW:FnOk l.prog w K mg base CX0 1 fEy4 _ ["self","row","name"] (zCp y4 "row" "name"):=zTG FEy4 REy4;have GUN:FnOk l.prog w K mg base CX0 1 fEy6 _ ["self","one","other"] (zCp y6 "one" "other"):=zTU FEy6 REy6;have Hi:FnOk l.prog w K mg base CX0 1 ftI _ ["self"] (zJL CT):=zPt FtI T;have Ha:FnOk l.prog w K mg base CX0 1 ftA _ ["self"] (zKt CT):=zRz FtA B T;have Hm:FnOk l.prog w K mg base (yF l.prog w) 4 ftM _ ["self","name"] (zEY CT y0 y5):=zNj FtM B T F4 B4 M4 GD REy5 BEy5 GNN;have Hs:FnOk l.prog w K mg base CX0 1 ftS _ ["self","name"] (zDQ CT):=zNC FtS B T;have Ho:FnOk l.prog w K mg base (yF l.prog w) 5 ftO _ ["self","name"] (zDk CT y0 y5):=zSs FtO B T QtM BtM Hm;have Hr:FnOk l.prog w K mg base (yF l.prog w) 5 ftR _ ["self","name"] (zBx CT y0 y3 y5):=zPu FtR B T XT QtM BtM Hm QtS BtS Hs;have Hp:FnOk l.prog w K mg base (yF l.prog w) 6 ftP _ ["self","unit"] (zAq CT y2 y3):=zOB FtP B T V EX XT F12 B12 M12 GI F19 B19 M19 GSt F14 B14 M14 GPo F18 B18 M18 GPs F13 B13 M13 GU0 F17 B17 M17 GO;have Hd:FnOk l.prog w K mg base (yF l.prog w) 7 ftD _ ["self","name","amount","unit"] (zAv CT y0 y1 y2 y3 y4):=zMA FtD B T V EX XN XT F4 B4 M4 GD F7 B7 M7 GF F12 B12 M12 GI F18 B18 M18 GPs F17 B17 M17 GO REy4 BEy4 GTW QtS BtS Hs QtP BtP Hp;have Ht:FnOk l.prog w K mg base (yF l.prog w) 7 ftT _ ["self","amount","unit","wanted"] (zCG CT y1 y2 y3 y6):=zQV FtT B T XN F7 B7 M7 GF F8 B8 M8 GR F10 B10 M10 GV REy6 BEy6 GUN QtP BtP Hp;have GNu:FnOk l.prog w K mg base CX0 2 f21 _ ["_law_script","_law_k"] (zLV K):=zRQ F21 B F20 B20 M20;have GMi:FnOk l.prog w K mg base CX0 1 f20 _ ["_law_number_here","_law_k"] zDc:=zGT F20;have GNa:FnOk l.prog w K mg base CX0 2 f22 _ ["_law_number_here","_law_many"] zGp:=zNv F22 B F20 B20 M20;have GC:FnOk l.prog w K mg base CX0 34 f23 _ ["_law_one","_law_other"] zDJ:=zPR F23 ht;have GA:FnOk l.prog w K mg base CX0 35 f26 _ ["_law_number_here"] zKv:=zQv F26 ht F23 B23 M23 GC;have GUn:FnOk l.prog w K mg base CX0 2 f25 _ ["_law_number_here","_law_names_here"] (zEW K):=zOH F25 B F20 B20 M20;have GCl:FnOkH l.prog w K mg base 1 f24 _ ["_law_e"] (zKy K y0 y1 y2 y3 y4 y5 y6 y7 y8 y9 y10 y11 y12):=zRb F24 B Z;have GPl:FnOk l.prog w K mg base CX0 35 f27 _ ["_law_world","_law_unit_here"] zCl:=zPe (zNI F27 B ht F23 B23 M23 GC);have GTr:FnOk l.prog w K mg base CX0 8 f28 _ ["_law_way","_law_table","_law_things"] (zCM CT y0 y1 y2 y3 y4 y5 y6):=zNq F28 B T R (zUN X G mME) F24 B24 M24 GCl QtD BtD Hd QtR BtR Hr QtP BtP Hp QtT BtT Ht QtO BtO Ho;have GUs:FnOk l.prog w K mg base CX0 1 f29 _ ["_law_world","_law_name"] zGF:=zQh F29;have GDe:FnOk l.prog w K mg base CX0 36 f30 _ ["_law_world","_law_table","_law_name","_law_amount_here","_law_unit_here"] (zJQ CT):=zPJ F30 B ht F27 B27 M27 GPl F29 B29 M29 GUs F23 B23 M23 GC F28 B28 M28 GTr;have GDr:FnOk l.prog w K mg base CX0 9 f31 _ ["_law_world","_law_table","_law_number_here"] (zGu CT):=zOJ F31 B F29 B29 M29 GUs F28 B28 M28 GTr;have GSp:FnOk l.prog w K mg base CX0 9 f32 _ ["_law_world","_law_table","_law_number_here"] (zKg CT):=zQy F32 B F28 B28 M28 GTr;have GTo:FnOk l.prog w K mg base CX0 36 f33 _ ["_law_world","_law_table","_law_number_here"] (zGr CT):=zNR F33 B ht F25 B25 M25 GUn F20 B20 M20 GMi F27 B27 M27 GPl F28 B28 M28 GTr F23 B23 M23 GC;exact zRw F34 B T (zUN X G mCT) MT BtI Hi QtA BtA Ha QtO BtO (zSX Ho) F22 B22 M22 GNa F21 B21 M21 GNu F26 B26 M26 GA F30 B30 M30 GDe F25 B25 M25 GUn F20 B20 M20 GMi F31 B31 M31 GDr F32 B32 M32 GSp F33 B33 M33 GTo
theorem zTx{l:PySem.W.OpenLaw}{q:Program}{loose:List Str}{XP:(Str->Option Value)->Heap->Prop}{YP:World->Heap->Prop}{d:DefRec}{K:Params->zVK}(hn:l.most=some 63)(hdf:d.params.defaults= [])(hI:importsNone q=true)
  (hY: ∀(w:World) (h:Heap),YP w h->(K w.params).In h)
  (F: ∀(w:World) (mg:Str->Option Value) (fa:Addr) (h:Heap),(K w.params).In h->h.Ns mainGlobals mg->mg d.name=some (.ref fa)->
   ∃fd:FuncData,(∀(s:Shared) (u:Value),BindsTo s fd ⟨[u],[]⟩ [("_law_script",u)])/\ ∀base:Heap,(K w.params).In base->base.Ns mainGlobals mg->FnOk l.prog w (K w.params) mg base CX0 37 fa fd ["_law_script"] (zHn (K w.params))):
  PySem.W.WalkO q loose XP YP l.row.toRowW d [] (fun f vs=>PySem.call f vs):=
 L2.zQE (n:=63) (k:=37) (x:= "_law_script") (CX:=fun _=>CX0) (sp:=fun w=>zHn (K w.params)) hn (by decide) hdf hI ⟨rfl,by decide,by decide,rfl⟩ hY F (fun _ _ a ns hl _ hS=>⟨a,ns,rfl,hS,hl,fun _=>rfl⟩) fun _ _ _ _ _ z=>z
end Fr
open PySem PySem.W PyProof.Rows
namespace PySem.W.Fast
def tw10483350087702839112:=0
def tw12709778826238154118:=0
def tw17212475025057535239:=0
def tw4021145433650088381:=0
def tw3940633912470430620:=0
def tw10813901726056771275:=0
def tw765217375625234288:=0
def tw10655228414927369299:=0
def tw2478510388411764816:=0
def tw1322208185971572638:=0
def tw17508205970723192130:=0
def tw11026480764423084029:=0
def tw14958894261384370300:=0
def tw9418054594788145345:=0
def tw14563122035979083476:=0
def tw5113283266685866418:=0
def tw14341268407408451204:=0
def tw1117428994300648626:=0
def tw3089369155432369300:=0
def tw16431200698230466515:=0
def tw6363273774067614464:=0
def tw4433401071661215000:=0
def tw13425406565109227048:=0
def tw17788649173964232529:=0
def tw12866536339382920758:=0
def tw17421879930394529650:=0
def tw11216625020937583248:=0
def tw2606859578517087905:=0
def tw3546267023660415528:=0
def tw2739149942268357588:=0
def tw13937222642783823327:=0
def tw6209295736507077008:=0
def tw6246999449153881904:=0
def tw15380564725807751621:=0
def tw16478260714876105588:=0
def tw14374238233960119472:=0
def tw9037418618147424248:=0
def tw1855324520711831659:=0
def tw8133409154212284024:=0
def tw7798025795975628579:=0
def tw13365306927441509971:=0
def tw16061004393208531720:=0
def tw6784507982999683825:=0
def tw14580948578417377898:=0
def tw16178894136606505914:=0
def tw12487426676552558365:=0
def tw12605534033468553094:=0
def tw10909660129266884163:=0
def tw11676371021364612413:=0
def tw17183899458600327480:=0
def tw9202025763821307465:=0
def tw9279730471758733954:=0
def tw15599860499305234854:=0
def tw12471317563245162926:=0
def tw1032040324116663386:=0
def tw16450419321571329885:=0
def tw13744772725329476917:=0
def tw5163659742394684166:=0
def tw16669849035500266937:=0
def tw897151260116813236:=0
def tw1956694720096064280:=0
def tw4073632537198302316:=0
def tw8409815161238999985:=0
def tw11259490516973487726:=0
def tw18145149249090260185:=0
def tw5071880608620387337:=0
def tw156505009941254745:=0
def tw16184980355882839501:=0
def tw9937866098306829893:=0
def tw10016165621112899664:=0
def tw7314741575942666596:=0
def tw13438157730551847383:=0
def tw910953197125832657:=0
def tw12521671626114239659:=0
def tw3523647300993419636:=0
def tw9751431534101770046:=0
def tw8526513364738756047:=0
def tw17949923459531021780:=0
def tw2073516166926125469:=0
def tw10141521199843068016:=0
def tw6516861370619916667:=0
def tw16937474362359432852:=0
def tw2472722005381911734:=0
def tw17807996832591530577:=0
def tw7231106306410151107:=0
def tw10053340581481326756:=0
def tw3282674090706988679:=0
def tw14635292874450774398:=0
def tw8067073175858594201:=0
def tw2108945642348487754:=0
def tw5161628471156567606:=0
def tw15486351642931551669:=0
def tw15576192064239026006:=0
def tw18239014048204198735:=0
def tw10860271113936882246:=0
def tw1563609623828410042:=0
def tw11877975643073724147:=0
def tw8072785265003380231:=0
def tw8741915409543747796:=0
def tw13055546560025898000:=0
def tw1305557449127476141:=0
def tw8316197670876379527:=0
def tw9136743531067925665:=0
def tw7662344741984750893:=0
def tw6160796748051077004:=0
def tw4574554078076502348:=0
def tw3724769996919076963:=0
def tw15339968787396321837:=0
def tw4782960713714208505:=0
def tw14255749769920722988:=0
def tw2963090337616793024:=0
def tw14185440584273702146:=0
def tw4345118038352644255:=0
def tw935194874183164772:=0
def tw17091786116956554131:=0
def tw14177228996143939778:=0
def tw5313246155298275594:=0
def tw4746373050915083918:=0
def tw9852009018740861796:=0
def tw2355895254396694931:=0
def tw6810550544274589096:=0
def tw12002292640486142319:=0
def tw3322664150358817686:=0
def tw5347767623538336237:=0
def tw6144810275287425145:=0
def tw17660340258670452497:=0
def tw14825190052649778575:=0
def tw17636390189065240072:=0
def tw9466635056002071519:=0
def tw3317859111503379318:=0
def tw9053413695619829071:=0
def tw732810681458449341:=0
def tw16283820121786577480:=0
def tw9926390114584606129:=0
def tw4091748766821688259:=0
def tw1418390628923152077:=0
def tw16091541219956774522:=0
def tw8129544216501462346:=0
def tw846942808724564421:=0
def tw1012985460613533218:=0
def tw3964256926768977209:=0
def tw1320996439725838570:=0
def tw210304652431018547:=0
def tw12615839416332042368:=0
def tw16714550610450371172:=0
def tw5646934123309891867:=0
def tw10814822219534026479:=0
def tw1545686369375914925:=0
def tw364269764209211468:=0
def tw15418034910980649276:=0
def tw873999994429411427:=0
def tw11104801137851814897:=0
def tw15077503037446240687:=0
def tw3212161238729293083:=0
def tw8178756420451317530:=0
def tw5337903584867316900:=0
def tw11967298989987896608:=0
def tw1747642705126480657:=0
def tw9440032508493691953:=0
def tw15372871702726421357:=0
def tw10755180006637279512:=0
def tw8812940498653550181:=0
def tw7700173529935743947:=0
def tw4110424104835736499:=0
def tw8959124024165627314:=0
def tw4953550010190752969:=0
def tw12636642633806844528:=0
def tw2633955929211368520:=0
def tw575514569829932608:=0
def tw7522772509064540360:=0
def tw9024764588576714907:=0
def tw2205063505093191836:=0
def tw10024677609776736775:=0
def tw16479458606280544230:=0
def tw4886673244447422966:=0
def tw11968028108940794850:=0
def tw171164020924496926:=0
def tw13110307370865280608:=0
def tw10433973012882182841:=0
def tw8589180004534636628:=0
def tw4606840420353602354:=0
def tw14504398030414277920:=0
def tw15930063939956767506:=0
def tw8349407354727688722:=0
def tw15766345705427969299:=0
def tw6394696000397043885:=0
def tw18373399164624811830:=0
def tw14121738236998903498:=0
def tw10322609024475657738:=0
def tw7674647538284741997:=0
def tw5019900483455726907:=0
def tw3529729845567326567:=0
def tw14682957277100790413:=0
def tw11231213577829212527:=0
def tw5887696941820447525:=0
def tw3163720211266392355:=0
def tw17258605086519582273:=0
def tw3754120394187380141:=0
def tw17259617934695829930:=0
def tw6776499330433282280:=0
def tw7948020862514580895:=0
def tw5655692458179843375:=0
def tw9832141983065451287:=0
def tw17320624318965123179:=0
def tw14983903957965524795:=0
def tw10617562495793056093:=0
def tw1522642453202715707:=0
def tw16177723523618784086:=0
def tw4748629074998935109:=0
def tw7958640307238450378:=0
def tw2186896352444511867:=0
def tw15664296902966986904:=0
def tw147147019868656417:=0
def tw5222167020424807405:=0
def tw6421685957993892597:=0
def tw2170396906328951833:=0
def tw16847643937723165906:=0
def tw8359262250414351574:=0
def tw9962663133617644132:=0
def tw5814188949243850695:=0
def tw4746023719315340235:=0
def tw7661636344360291019:=0
def tw5292205316862654971:=0
def tw399997653688211425:=0
def tw13010063708285405197:=0
def tw4749993342770736043:=0
def tw613802637201658406:=0
def tw10426367756294177179:=0
def tw7273529237201981170:=0
def tw3703658887606324029:=0
def tw4600281693689744167:=0
def tw13974401264512934092:=0
def tw14745297599217065416:=0
def tw417094562050090735:=0
def tw2325559195397601633:=0
def tw10928427967960145321:=0
def tw16714196419150727883:=0
def tw5140924957257141250:=0
def tw14263083362759159814:=0
def tw3845315094738572215:=0
def tw596294181616299186:=0
def tw151253707372408656:=0
def tw13269069672371937815:=0
def tw7979581639927295834:=0
def tw2092291352647296583:=0
def tw4576993209647605988:=0
def tw9521620204923038011:=0
def tw9803780773164736117:=0
def tw9757543419689775034:=0
def tw563015863448981225:=0
def tw11872190873040040956:=0
def tw2557311088426326271:=0
def tw8571145048114814487:=0
def tw11005200095248504615:=0
def tw13779808653389331736:=0
def tw10841146126270285819:=0
def tw9772010998748637337:=0
def tw7476833821016962438:=0
def tw16478250578826714742:=0
def tw8475349507894214263:=0
def tw14709230414413196092:=0
def tw10277084114162027730:=0
def tw4851767758361766468:=0
def tw5157309798724922252:=0
def tw15988764936598060070:=0
def tw12280434008586815508:=0
def tw9984800237514889461:=0
def tw11069549837607572902:=0
end PySem.W.Fast
set_option maxRecDepth 100000 in
set_option maxHeartbeats 0 in
theorem PySem.Challenge.cw_measurewise_k24_tables_holds : PySem.Challenge.rw_measurewise_k24_tables.Holds := by
 w_on;o_law;k_head;(case hw=>w_witness2)
 k_fill
 refine Fr.zTx (l:=PySem.Challenge.rw_measurewise_k24_tables) rfl rfl ?hI (fun w h Y=>PySem.W.kIn_of Y) ?F
 case hI=>first | rfl | kernel_rfl | decide+kernel
 case F=>
  intro w mg fa h KX G hmg;apply Fr.zQj rfl KX G hmg
  all_goals first |(unfold Fr.LF;k_is)|(unfold Fr.GA;k_is)|(unfold Fr.CF;k_is)|(unfold Fr.KF;k_is)| k_is | kernel_rfl
