import PyProof.Rows.All
import Wide.All
import OpenK.AllK
import Wide.FinOn
import Lean
import PyProof.EqAt
import PyProof.EqKinds
import PyProof.TupleCall
import OpenK.KMore
import PyProof.ExcInit
import PyProof.ExcClass2
import PyProof.InstStoreFacts
import PyProof.ExcArgsOwn
import PyProof.ExcAttrAll.ValueError
import KE.KRevIter
import PyProof.Rows.ZipGen
import PyProof.ListMulRoad
import PyProof.AutoListH
import KE.IntBitsLaws
import PySem.Challenge.RW_measurewise_k07_what_names_stand_for
set_option Elab.async false
set_option linter.all false
set_option maxRecDepth 100000
set_option maxHeartbeats 4000000
section
open PySem PySem.Spec PyProof PyProof.Rows
def zTy:=@List.getElem?_eq_getElem
def zTz:=@wpAny_bind
def zUA:=@Heap.get?_push_of_some
def zUB:=@PySem.W.mg_of
def zUC:=@Nat.le_refl
def zUD:=@List.getElem?_map
def zUE:=@wpAny_pure
def zUF:=@List.length_map
def zUG:=@Nat.ne_of_lt
def zUH:=@Nat.lt_of_lt_of_le
def zUI:=@Heap.lt_size
def zUJ:=@sizeLine_eq
def zUK:=@Int.emod_lt_of_pos
def zUL:=@Bool.false_ne_true
def zUM:=@Nat.le_trans
def zUN:=@Nat.zero_le
def zUO:=@List.mem_append_right
def zUP:=@Int.emod_nonneg
def zUQ:=@Heap.get?_push_size
def zUR:=@List.size_toArray
def zUS:=@wpAny_mono
def zUT:=@List.map_append
def zUU:=@List.take_add_one
def zUV:=@decide_eq_true
def zUW:=@decide_eq_false
def zUX:=@List.append_nil
def zUY:=@List.length_append
def zUZ:=@PySem.W.mg_none_of
def zUa:=@List.mem_of_getElem?
def zUb:=@List.getElem_mem
def zUc:=@PySem.W.hideAll_get
def zUd:=@List.mem_cons_of_mem
def zUe:=@Heap.get?_update_other
def zUf:=@Heap.get?_update_self
def zUg:=@Nat.ne_of_gt
def zUh:=@PySem.W.kia_one
def zUi:=@wpAny_holding
def zUj:=@wpAny_truthy_bool
def zUk:=@wpAny_Call_Name_kw
def zUl:=@codeAny_mono
def zUm:=@PySem.W.of_hideAll
abbrev zUn:=@PySem.W.Frag
def zUo:=@List.mem_cons
def zUp:=@Bool.and_eq_true
def zUq:=@List.mem_append
def zUr:=@List.map_cons
def zUs:=@List.mem_singleton
def zUt:=@List.mem_map
def zUu:=@List.length_cons
def zUv:=@Bool.eq_iff_iff
def zUw:=@List.not_mem_nil
def zUx:=@List.filter_append
def zUy:=@List.getElem?_eq_some_iff
def zUz:=@List.mem_filter
def zVA:=@Bool.not_eq_true'
def zVB:=@List.find?_cons
def zVC:=@List.length_filter_le
end
namespace L2
open PySem PySem.Spec PyProof.Rows
abbrev Key:=Sum Int Str
def zEH:Key->Value->Bool
 | .inl k,v=>Value.isInt k v
 | .inr x,v=>Value.isStrOf x v
def zTh(w:World):Key->Int
 | .inl k=>hashInt k
 | .inr x=>hashStr w x
theorem yd: ∀{k:Key} {v:Value},zEH k v=true->(∃i t,k=Sum.inl i/\v=Value.int i t)\/(∃x t,k=Sum.inr x/\v=Value.str x t)
 | .inl i,v,h=>by
  obtain ⟨t,e⟩:=Value.isInt_shape (k:=i) (v:=v) h;exact .inl ⟨i,t,rfl,e⟩
 | .inr x,v,h=>by
  obtain ⟨t,e⟩:=Value.isStrOf_shape (x:=x) (v:=v) h;exact .inr ⟨x,t,rfl,e⟩
theorem zKZ(i:Int)(t:Tok):zEH (.inl i) (.int i t)=true:=by simp [zEH,Value.isInt]
theorem zLe(x:Str)(t:Tok):zEH (.inr x) (.str x t)=true:=by simp [zEH,Value.isStrOf]
theorem zQo(a b:Int):decide ((Sum.inl a:Key)=Sum.inl b)=(a==b):=by
 by_cases e:a=b
 ·subst e;simp
 ·have h: ¬(Sum.inl a:Key)=Sum.inl b:=fun q=>e (Sum.inl.inj q);rw [zUW h];exact (beq_eq_false_iff_ne.mpr e).symm
theorem zQI(a b:Str):decide ((Sum.inr a:Key)=Sum.inr b)=decide (a=b):=by
 by_cases e:a=b
 ·subst e;simp
 ·have h: ¬(Sum.inr a:Key)=Sum.inr b:=fun q=>e (Sum.inr.inj q);rw [zUW h,zUW e]
theorem zQR(a:Int)(b:Str):decide ((Sum.inl a:Key)=Sum.inr b)=false:=zUW (fun q=>nomatch q)
theorem zQs(a:Str)(b:Int):decide ((Sum.inr a:Key)=Sum.inl b)=false:=zUW (fun q=>nomatch q)
def yU(prog:Program)(w:World):PySem.KeyKind prog w Key where
 is:=zEH
 hash:=zTh w
 inj:=fun v a b ha hb=>by
  rcases yd ha with ⟨i,t,rfl,rfl⟩|⟨x,t,rfl,rfl⟩
  ·rcases yd hb with ⟨j,u,rfl,e⟩|⟨y,u,rfl,e⟩
   ·injection e with e1 _;rw [e1]
   ·exact nomatch e
  ·rcases yd hb with ⟨j,u,rfl,e⟩|⟨y,u,rfl,e⟩
   ·exact nomatch e
   ·injection e with e1 _;rw [e1]
 byValue:=fun k v h=>by
  rcases yd h with ⟨i,t,rfl,rfl⟩|⟨x,t,rfl,rfl⟩<;>rfl
 pyHash:=fun hv h=>by
  rcases yd hv with ⟨i,t,rfl,rfl⟩|⟨x,t,rfl,rfl⟩
  ·exact wpAny_pyHash_int h
  ·exact wpAny_pyHash_str h
 eqBool:=fun hu hv h=>by
  rcases yd hu with ⟨i,t,rfl,rfl⟩|⟨x,t,rfl,rfl⟩
  ·rcases yd hv with ⟨j,u,rfl,rfl⟩|⟨y,u,rfl,rfl⟩
   ·rw [zQo] at h;exact wpAny_eqBool_int h
   ·rw [zQR] at h;exact SeqAt.EqAt.int_str i t y u _ _ _ _ h
  ·rcases yd hv with ⟨j,u,rfl,rfl⟩|⟨y,u,rfl,rfl⟩
   ·rw [zQs] at h;exact SeqAt.EqAt.str_int x t j u _ _ _ _ h
   ·rw [zQI] at h;exact wpAny_eqBool_str h
 «strs»:=fun k x t v h=>by
  rcases yd h with ⟨i,u,rfl,e⟩|⟨y,u,rfl,e⟩
  ·exact nomatch e
  ·injection e with e1 _;subst e1;cases v<;>rfl
theorem zIW(prog:Program)(w:World)(i:Int)(t:Tok):(yU prog w).is (.inl i) (.int i t)=true:=zKZ i t
theorem zIN(prog:Program)(w:World)(x:Str)(t:Tok):(yU prog w).is (.inr x) (.str x t)=true:=zLe x t
inductive V where
 | non | bl (b:Bool)| int (i:Int)| str (x:Str)| byt (b:Array UInt8)| flt (b:UInt64)| ref (a:Addr)| ty (n:String)
 deriving DecidableEq
def zX:V->Value->Prop
 | .non,u=>u=Value.none
 | .bl b,u=>u=Value.bool b
 | .int i,u=> ∃t,u=Value.int i t
 | .str x,u=> ∃t,u=Value.str x t
 | .byt b,u=> ∃t,u=Value.bytes b t
 | .flt b,u=> ∃t,u=Value.float b t
 | .ref a,u=>u=Value.ref a
 | .ty n,u=>u=Value.type n
abbrev zT:List V->List Value->Prop:=Paired zX
theorem zT.length(r:zT xs us):xs.length=us.length:=Paired.length r
theorem zT.get: ∀{xs:List V} {us:List Value} {i:Nat} {x:V},zT xs us->xs[i]?=some x-> ∃u,us[i]?=some u/\zX x u
 | _,_,_,_,.nil,e=>by simp at e
 | _,_,0,_,.cons r _,e=>by simp at e;subst e;exact ⟨_,rfl,r⟩
 | _,_,i+1,x,.cons _ t,e=>by
  obtain ⟨u,h1,h2⟩:=zT.get (i:=i) (x:=x) t (by simpa using e);exact ⟨u,by simpa using h1,h2⟩
theorem zT.set(r:zX x u): ∀{xs:List V} {us:List Value} (i:Nat),zT xs us->zT (xs.set i x) (us.set i u)
 | _,_,_,.nil=> .nil
 | _,_,0,.cons _ t=> .cons r t
 | _,_,i+1,.cons q t=> .cons q (zT.set r i t)
theorem zT.append: ∀{xs ys:List V} {us ws:List Value},zT xs us->zT ys ws->zT (xs++ys) (us++ws)
 | _,_,_,_,.nil,s=>s
 | _,_,_,_,.cons r t,s=> .cons r (zT.append t s)
theorem zT.take: ∀{xs:List V} {us:List Value} (n:Nat),zT xs us->zT (xs.take n) (us.take n)
 | _,_,0,_=> .nil
 | _,_,_+1,.nil=> .nil
 | _,_,n+1,.cons r t=> .cons r (zT.take n t)
theorem zT.drop: ∀{xs:List V} {us:List Value} (n:Nat),zT xs us->zT (xs.drop n) (us.drop n)
 | _,_,0,r=>r
 | _,_,_+1,.nil=> .nil
 | _,_,n+1,.cons _ t=>zT.drop n t
def zAQ:Option V->Option Value->Prop
 | some v,some u=>zX v u
 | none,none=>True
 | _,_=>False
def KV{κ:Type}:List (κ×V)->List (κ×Value)->Prop:=Paired fun (p:κ×V) (q:κ×Value)=>p.1=q.1/\zX p.2 q.2
def kV:Key->V
 | .inl i=> .int i
 | .inr x=> .str x
inductive HO where
 | lst (xs:List V)
 | tup (xs:List V)
 | dK (kvs:List (Key×V))| dT (kvs:List (List Key×V))
 | set (S:Int->Bool) (n:Nat)
 | ins (C dx:Addr) (fs:List (Str×V))
 | own (x:Addr)
 | xd (fs:List (Str×V))
 | met (f x:Addr)
 | rng (lo hi:Int)
 | frz (o:Obj) (u:HO)
 | tbl (ps:Array Value)
 | ext (φ:Heap->Prop)
abbrev Hp:=Addr->Option HO
def upd(H:Hp)(a:Addr)(o:HO):Hp:=fun b=>if b=a then some o else H b
theorem zE:upd H a o a=some o:=by unfold upd;rw [if_pos rfl]
theorem zN(h:b≠a):upd H a o b=H b:=by unfold upd;rw [if_neg h]
theorem zEG:upd (upd H a o) a u=upd H a u:=by
 funext b;unfold upd;split<;>rfl
theorem zEQ{H:Hp}{a b:Addr}{o u:HO}(h:H a=some o)(h':H b=some u)(d:o≠u):a≠b:=by
 intro e;subst e;rw [h] at h';exact d (Option.some.inj h')
theorem zh{H:Hp}{a b:Addr}{o:HO}(h:H a=some o)(h':H b=none):a≠b:=by
 intro e;subst e;rw [h] at h';cases h'
def zCv(h:Heap)(a:Addr)(items:Array Value):Prop:= ∃o,h.get? a=some o/\o.cls= .type "tuple" /\(∃n,o.data= .seq items n)/\o.dict=none
theorem zCv.new(h:Heap)(items:Array Value):zCv (h.push {cls:= .type "tuple",data:= .seq items}) h.objs.size items:=⟨_,zUQ _ rfl,rfl,⟨_,rfl⟩,rfl⟩
section
variable (P:Program)(w:World)
def zo(H:Hp)(h:Heap)(a:Addr):HO->Prop
 | .lst xs=>xs.length<=sizeLine/\ ∃(its:List Value) (n:Nat),zT xs its/\h.get? a=some {cls:= .type "list",data:= .seq its.toArray n}
 | .tup xs=>xs.length<=sizeLine/\ ∃its:List Value,zT xs its/\zCv h a its.toArray
 | .dK kvs=>kvs.length<=sizeLine/\(a==sysModules)=false/\ ∃vs,KV kvs vs/\h.DictOf (yU P w) a vs
 | .dT kvs=>kvs.length<=sizeLine/\(a==sysModules)=false/\ ∃xs:List (List Key×Addr×Value),
   Paired (fun (p:List Key×V) (q:List Key×Addr×Value)=>p.1=q.1/\H q.2.1=some (.tup (p.1.map kV))/\zX p.2 q.2.2) kvs xs/\
   ∃o es ep,h.get? a=some o/\o.ExactDict/\o.data= .dict es ep/\es.toList=xs.map (entryOfKey (tupleKind (yU P w)))/\(xs.map (·.1)).Nodup
 | .set S n=>h.SetOf (intKind P w) a S n
 | .ins C dx fs=>H dx=some (.own a)/\fs.length<=1000/\dx≠a/\h.get? a=some (PySem.W.instObj C dx)/\
   ∃mA,h.Ns1 dx mA/\(∀f,zAQ (fs.lookup f) (mA f))/\PySem.Within mA (fs.map (·.1))
 | .own _=> ∃o,h.get? a=some o
 | .xd fs=> ∃mA,h.Ns1 a mA/\ ∀f,zAQ (fs.lookup f) (mA f)
 | .rng lo hi=> ∃t u v,h.get? a=some {cls:= .type "range",data:= .fields #[.int lo t,.int hi u,.int 1 v]}
 | .frz o u=>h.get? a=some o/\zo H h a u
 | .tbl ps=>h.get? a=some {cls:= .none,data:= .fields ps}
 | .met f x=>h.get? a=some (PySem.W.methodObj (.ref f) (.ref x))
 | .ext φ=>φ h/\(∃o,h.get? a=some o)/\ ∀h1 h2:Heap,φ h1->(∀o,h1.get? a=some o->h2.get? a=some o)->φ h2
def HOk(H:Hp)(h:Heap):Prop:= ∀a o,H a=some o->zo P w H h a o
end
section
variable {P:Program}{w:World}{H H':Hp}{h h':Heap}{a:Addr}{o:HO}
theorem zo.lt(x:zo P w H h a o):a<h.objs.size:=by
 cases o with
 | lst xs=>obtain ⟨_,_,_,_,e⟩:=x;exact zUI e
 | tup xs=>obtain ⟨_,_,_,_,e,_⟩:=x;exact zUI e
 | dK kvs=>obtain ⟨_,_,_,_,o,_,_,e,_⟩:=x;exact zUI e
 | dT kvs=>obtain ⟨_,_,_,_,o,_,_,e,_⟩:=x;exact zUI e
 | set S n=>obtain ⟨o,_,_,_,e,_⟩:=x;exact zUI e
 | ins C dx fs=>obtain ⟨_,_,_,e,_⟩:=x;exact zUI e
 | own y=>obtain ⟨_,e⟩:=x;exact zUI e
 | xd fs=>obtain ⟨_,⟨_,_,_,e,_⟩,_⟩:=x;exact zUI e
 | rng lo hi=>obtain ⟨_,_,_,e⟩:=x;exact zUI e
 | frz ob u=>obtain ⟨e,_⟩:=x;exact zUI e
 | tbl ps=>exact zUI (show h.get? a=some _ from x)
 | met f y=>exact zUI (show h.get? a=some _ from x)
 | ext φ=>obtain ⟨_,⟨_,e⟩,_⟩:=x;exact zUI e
theorem Paired.mapP{α β:Type}{F G:α->β->Prop}: ∀{l₁:List α} {l₂:List β},Paired F l₁ l₂->(∀a b,F a b->G a b)->Paired G l₁ l₂
 | _,_,.nil,_=> .nil
 | _,_,.cons r t,f=> .cons (f _ _ r) (Paired.mapP t f)
theorem zo.stay(x:zo P w H h a o)(k: ∀b u,(b=a\/H b=some (.own a))->h.get? b=some u->h'.get? b=some u)
  (ho: ∀b,H b=some (.own a)->H' b=some (.own a)) (ht: ∀b xs,H b=some (.tup xs)->H' b=some (.tup xs)):zo P w H' h' a o:=by
 induction o with
 | lst xs=>obtain ⟨z,its,n,r,e⟩:=x;exact ⟨z,its,n,r,k _ _ (.inl rfl) e⟩
 | tup xs=>obtain ⟨z,its,r,ob,e,c⟩:=x;exact ⟨z,its,r,ob,k _ _ (.inl rfl) e,c⟩
 | dK kvs=>obtain ⟨z,y,vs,r,ob,es,ep,e,c⟩:=x;exact ⟨z,y,vs,r,ob,es,ep,k _ _ (.inl rfl) e,c⟩
 | dT kvs=>
  obtain ⟨z,y,xs,r,ob,es,ep,e,c⟩:=x;exact ⟨z,y,xs,Paired.mapP r fun p q z=>⟨z.1,ht _ _ z.2.1,z.2.2⟩,ob,es,ep,k _ _ (.inl rfl) e,c⟩
 | set S n=>obtain ⟨ob,es,ep,t,e,c⟩:=x;exact ⟨ob,es,ep,t,k _ _ (.inl rfl) e,c⟩
 | ins C dx fs=>
  obtain ⟨d,z,ne,e,mA,⟨od,es,ep,e2,c⟩,r⟩:=x;exact ⟨ho _ d,z,ne,k _ _ (.inl rfl) e,mA,⟨od,es,ep,k _ _ (.inr d) e2,c⟩,r⟩
 | own y=>obtain ⟨ob,e⟩:=x;exact ⟨ob,k _ _ (.inl rfl) e⟩
 | xd fs=>obtain ⟨mA,⟨od,es,ep,e,c⟩,r⟩:=x;exact ⟨mA,⟨od,es,ep,k _ _ (.inl rfl) e,c⟩,r⟩
 | rng lo hi=>obtain ⟨t,u,v,e⟩:=x;exact ⟨t,u,v,k _ _ (.inl rfl) e⟩
 | frz ob u ih=>obtain ⟨e,q⟩:=x;exact ⟨k _ _ (.inl rfl) e,ih q⟩
 | tbl ps=>
  have e:h.get? a=some {cls:= .none,data:= .fields ps}:=x;show h'.get? a=some {cls:= .none,data:= .fields ps};exact k a _ (.inl rfl) e
 | met f y=>
  have e:h.get? a=some (PySem.W.methodObj (.ref f) (.ref y)):=x;show h'.get? a=some (PySem.W.methodObj (.ref f) (.ref y));exact k a _ (.inl rfl) e
 | ext φ=>obtain ⟨p,⟨o,e⟩,st⟩:=x;exact ⟨st _ _ p fun o q=>k _ _ (.inl rfl) q,⟨o,k _ _ (.inl rfl) e⟩,st⟩
theorem HOk.lt(x:HOk P w H h)(e:H a=some o):a<h.objs.size:=(x a o e).lt
theorem HOk.fresh(x:HOk P w H h)(e:h.objs.size<=a):H a=none:=by
 cases q:H a with
 | none=>rfl
 | some u=>exact absurd (zUH (x.lt q) e) (Nat.lt_irrefl _)
theorem HOk.kept(x:HOk P w H h)(k: ∀b u,h.get? b=some u->h'.get? b=some u):HOk P w H h':=fun a o e=>
 (x a o e).stay (fun b u _ q=>k b u q) (fun _ q=>q) fun _ _ q=>q
theorem HOk.laid(x:HOk P w H h)(k: ∀b u,h.get? b=some u->h'.get? b=some u)(hp:h.objs.size<=a)(new:zo P w (upd H a o) h' a o):HOk P w (upd H a o) h':=fun b u e=>by
 have hn:=x.fresh hp;by_cases hb:b=a
 ·subst hb;rw [zE] at e;cases e;exact new
 ·rw [zN hb] at e;exact (x b u e).stay (fun c v _ q=>k c v q) (fun c q=>by rw [zN (zh q hn)];exact q) fun c xs q=>by rw [zN (zh q hn)];exact q
end
def Rd(H:Hp)(a:Addr)(u:HO):Prop:=H a=some u\/ ∃o,H a=some (.frz o u)
theorem Rd.ok(r:Rd H a u)(x:HOk P w H h):zo P w H h a u:=by
 rcases r with r |⟨o,r⟩
 ·exact x a u r
 ·obtain ⟨_,q⟩:=x a _ r;exact q
def Mut:Option HO->Prop
 | some (.lst _)=>True
 | some (.dK _)=>True
 | some (.dT _)=>True
 | some (.set _ _)=>True
 | some (.ins _ _ _)=>True
 | some (.ext _)=>True
 | _=>False
section
variable {P:Program}{w:World}{H:Hp}{h h':Heap}{x e:Addr}{o':HO}
theorem HOk.write(ok:HOk P w H h)(mu:Mut (H x))(he:e=x\/H e=some (.own x))(k: ∀b u,b≠e->h.get? b=some u->h'.get? b=some u)(heo: ∃u,h'.get? e=some u)
  (new:zo P w (upd H x o') h' x o'):HOk P w (upd H x o') h':=fun b u q=>by
 have nown: ∀c y,H c=some (.own y)->c≠x:=fun c y r z=>by subst z;rw [r] at mu;exact mu
 have ntup: ∀c xs,H c=some (.tup xs)->c≠x:=fun c xs r z=>by subst z;rw [r] at mu;exact mu
 by_cases hb:b=x
 ·subst hb;rw [zE] at q;cases q;exact new
 ·rw [zN hb] at q;by_cases hbe:b=e
  ·have q':H b=some (.own x):=by
    rcases he with z | z
    ·exact absurd (hbe.trans z) hb
    ·rw [hbe];exact z
   rw [q] at q';cases q';obtain ⟨v,hv⟩:=heo;exact ⟨v,by rw [hbe];exact hv⟩
  ·refine (ok b u q).stay (fun c v hc r=>k c v ?_ r) (fun c r=>by rw [zN (nown c b r)];exact r) fun c xs r=>by rw [zN (ntup c xs r)];exact r
   rcases hc with rfl | hc
   ·exact hbe
   ·rintro rfl;rcases he with z | z
    ·exact nown c b hc z
    ·rw [hc] at z;cases z;exact hb rfl
end
structure Un(fs ex:List Addr)(H H':Hp)(h h':Heap):Prop where
 keep: ∀b o,h.get? b=some o->H b=none->b∉fs->b∉ex->h'.get? b=some o
 slot: ∀b o,h.get? b=some o->H b=none->b∈fs->b∉ex-> ∃sl,h'.get? b=some {o with slots:=sl}
 free: ∀b o,h.get? b=some o->H b=none->b∉ex->H' b=none
 there: ∀b o,h.get? b=some o->b∉ex-> ∃o',h'.get? b=some o'
 tups: ∀b xs,H b=some (.tup xs)->H' b=some (.tup xs)
 frzs: ∀b o u,H b=some (.frz o u)->H' b=some (.frz o u)
 tbls: ∀b ps,H b=some (.tbl ps)-> ∃more,H' b=some (.tbl (ps++more))
section
variable {fs fs' ex ex':List Addr}{H H1 H2:Hp}{h h1 h2 h':Heap}{a x e:Addr}{o:HO}
theorem Un.any(u:Un fs ex H H1 h h1)(q:h.get? b=some ob)(n:H b=none)(hx:b∉ex): ∃sl,h1.get? b=some {ob with slots:=sl}:=by
 by_cases hb:b∈fs
 ·exact u.slot b ob q n hb hx
 ·exact ⟨ob.slots,u.keep b ob q n hb hx⟩
theorem Un.kept(k: ∀b u,h.get? b=some u->h'.get? b=some u):Un fs ex H H h h':=
 ⟨fun b ob q _ _ _=>k b ob q,fun b ob q _ _ _=>⟨ob.slots,k b ob q⟩,fun _ _ _ n _=>n,fun b ob q _=>⟨ob,k b ob q⟩,fun _ _ q=>q,fun _ _ _ q=>q,fun _ ps q=>⟨#[],by rw [q];simp⟩⟩
theorem Un.refl:Un fs ex H H h h:=Un.kept fun _ _ q=>q
theorem Un.laid(k: ∀b u,h.get? b=some u->h'.get? b=some u)(hp:h.objs.size<=a)(hn:H a=none):Un fs ex H (upd H a o) h h' where
 keep:=fun b u q _ _ _=>k b u q
 slot:=fun b u q _ _ _=>⟨u.slots,k b u q⟩
 free:=fun b u q n _=>by rw [zN (zUG (zUH (zUI q) hp))];exact n
 there:=fun b u q _=>⟨u,k b u q⟩
 tups:=fun b xs q=>by rw [zN (zh q hn)];exact q
 frzs:=fun b u xs q=>by rw [zN (zh q hn)];exact q
 tbls:=fun b ps q=>⟨#[],by rw [zN (zh q hn),q];simp⟩
theorem Un.write(mu:Mut (H x))(he:e=x\/H e=some (.own x))(k: ∀b u,b≠e->h.get? b=some u->h'.get? b=some u)(heo: ∃u,h'.get? e=some u):Un fs ex H (upd H x o) h h':=by
 have hx: ∀b,H b=none->b≠x:=fun b n z=>by subst z;rw [n] at mu;exact mu
 have hb: ∀b,H b=none->b≠e:=fun b n z=>by
  subst z;rcases he with r | r
  ·exact hx b n r
  ·rw [n] at r;cases r
 have hm: ∀b u,H b=some u-> ¬Mut (some u)->b≠x:=fun b u q nm z=>by subst z;rw [q] at mu;exact nm mu
 refine ⟨fun b u q n _ _=>k b u (hb b n) q,fun b u q n _ _=>⟨u.slots,k b u (hb b n) q⟩,fun b u q n _=>by rw [zN (hx b n)];exact n,fun b u q _=>?_,
  fun b xs q=>by rw [zN (hm b _ q fun z=>z)];exact q,fun b u xs q=>by rw [zN (hm b _ q fun z=>z)];exact q,fun b ps q=>⟨#[],by rw [zN (hm b _ q fun z=>z),q];simp⟩⟩
 by_cases hbe:b=e
 ·subst hbe;exact heo
 ·exact ⟨u,k b u hbe q⟩
end
def trk(h:Heap)(H:Hp):List Addr:=(List.range h.objs.size).filter fun a=>(H a).isSome
def zCl(h:Heap)(H:Hp):Heap:=PySem.W.hideAll h (trk h H)
theorem zKn(h:Heap)(H:Hp):(zCl h H).objs.size=h.objs.size:=PySem.W.hideAll_size _ _
theorem zMb(e:h.get? b=some o)(n:H b=none):(zCl h H).get? b=some o:=
 zUc _ e fun hm=>by
  have q:(H b).isSome=true:=(zUz.mp hm).2;rw [n] at q;simp at q
theorem zOD(e:(zCl h H).get? b=some o):h.get? b=some o/\H b=none:=by
 have e':h.get? b=some o:=zUm (trk h H) e;refine ⟨e',?_⟩;cases q:H b with
 | none=>rfl
 | some x=>
  have hm:b∈trk h H:=zUz.mpr ⟨List.mem_range.mpr (zUI e'),by simp [q]⟩;have z:(zCl h H).get? b=none:=PySem.W.hideAll_none (trk h H) hm;rw [z] at e;cases e
structure Mod(K:zUn)(mg:Str->Option Value)(base:Heap):Prop where
 kin:K.In base
 glob:base.Ns mainGlobals mg
 blt: ∃mb,base.Ns builtinsNs mb/\ ∀x:Str,x≠ "__name__" ->mb x=bootBuiltins x
 nolimit:base.NoLimit
 seer:base.NoSeer
structure Cx where
 prog:Program
 w:World
 K:zUn
 mg:Str->Option Value
 base:Heap
 A:Around
 N:List Str
 s₀:Shared
 H₀:Hp
 env:Env
 outer:List Env
 stack:List Env
 ex:List Addr
 fn:Str->Bool
 calm:Bool
 pn:List (Addr×Obj)
 xe:Value->Shared->Prop
def yy(l:List Env):List Addr:=l.filterMap (·.frame)
abbrev Cx.fs(X:Cx):List Addr:=yy X.outer
def Vis(sc:Scope)(x:Str):Prop:=sc.names.lookup x=some .local\/sc.names.lookup x=some .cell\/sc.names.lookup x=some .free
def Loc(sc:Scope)(x:Str):Prop:=sc.names.lookup x=some .local\/sc.names.lookup x=some .cell
def zTm(env:Env)(h:Heap)(m:Str->Option Value)(x:Str)(u:Value):Prop:=
 (env.kindOf x=some .local/\m x=some u)\/((env.kindOf x=some .cell\/env.kindOf x=some .free)/\ ∃c,env.cells.lookup x=some c/\h.IsCell c (some u))
structure Cx.Ok(X:Cx):Prop where
 mod:Mod X.K X.mg X.base
 kind:X.env.scope.kind= .function
 glob:X.env.globals=mainGlobals
 blt:X.env.builtins=builtinsNs
 above:X.s₀.heap.objs.size<=X.env.locals
 inj: ∀x y c,X.env.cells.lookup x=some c->X.env.cells.lookup y=some c->x=y
 has: ∀x,(X.env.kindOf x=some .cell\/X.env.kindOf x=some .free)-> ∃c,X.env.cells.lookup x=some c
 cab: ∀x c,X.fn x=true->X.env.cells.lookup x=some c->X.s₀.heap.objs.size<=c
 hd:X.calm=true->X.A.handled=none
 frames:X.A.frames=some X.stack
 stk:X.stack=X.outer\/(X.stack=X.env::X.outer/\X.env.frame=some X.env.locals)
 exf: ∀b∈X.ex,b≠X.env.locals/\ ∀x c,X.env.cells.lookup x=some c->c≠b
 bs: ∀b o,X.base.get? b=some o->X.s₀.heap.get? b=some o/\X.H₀ b=none
 bsz:X.base.objs.size<=X.s₀.heap.objs.size
 noex: ∀b o,X.base.get? b=some o->b∉X.ex
 exfs: ∀b∈X.ex,b∉X.fs
 funs:X.s₀.heap.FunFrames X.base X.outer
 frf: ∀b∈X.fs,X.H₀ b=none
structure Inv(X:Cx)(pins:List (Addr×Obj))(σ:List (Option V))(H:Hp)(s:Shared):Prop where
 ok:X.Ok
 os:s.os=X.s₀.os
 bare:AllBare s.gens
 base:Un X.fs X.ex X.H₀ H X.s₀.heap s.heap
 loc: ∃m,s.heap.Ns X.env.locals m/\ ∀(i:Nat) (x:Str) (v:V),X.N[i]?=some x->σ[i]?=some (some v)->Vis X.env.scope x-> ∃u,zX v u/\zTm X.env s.heap m x u
 cell: ∀x c,X.env.cells.lookup x=some c-> ∃v,s.heap.IsCell c v
 free:H X.env.locals=none
 freeC: ∀x c,X.env.cells.lookup x=some c->H c=none
 pin: ∀p∈X.pn++pins,s.heap.get? p.1=some p.2/\H p.1=none/\p.1≠X.env.locals/\p.1∉X.fs/\ ∀v,p.2.data≠ .cell v
 hok:HOk X.prog X.w H s.heap
 len:σ.length=X.N.length
section
variable {X:Cx}{pins:List (Addr×Obj)}{σ:List (Option V)}{H H':Hp}{s:Shared}{h':Heap}
theorem Cx.Ok.nofr(ok:X.Ok)(e:X.base.get? b=some o):b∉X.fs:=fun hb=>by
 have:=(ok.funs.mem hb).1;rw [e] at this;cases this
theorem Inv.bs(I:Inv X pins σ H s): ∀b o,X.base.get? b=some o->s.heap.get? b=some o/\H b=none:=fun b o e=>
 ⟨I.base.keep b o (I.ok.bs b o e).1 (I.ok.bs b o e).2 (I.ok.nofr e) (I.ok.noex b o e),I.base.free b o (I.ok.bs b o e).1 (I.ok.bs b o e).2 (I.ok.noex b o e)⟩
theorem Inv.bk(I:Inv X pins σ H s): ∀b o,X.base.get? b=some o->s.heap.get? b=some o:=fun b o e=>(I.bs b o e).1
theorem Inv.mod(I:Inv X pins σ H s):Mod X.K X.mg X.base:=I.ok.mod
theorem Inv.kIn(I:Inv X pins σ H s):X.K.In s.heap:=I.ok.mod.kin.keeps I.bk
theorem Inv.lt(I:Inv X pins σ H s):X.env.locals<s.heap.objs.size:=let ⟨_,hn,_⟩:=I.loc;hn.lt
theorem Inv.sz(I:Inv X pins σ H s):X.s₀.heap.objs.size<=s.heap.objs.size:=zUM I.ok.above (Nat.le_of_lt I.lt)
theorem Inv.nofs(I:Inv X pins σ H s)(h:s.heap.objs.size<=a):a∉X.fs:=fun hb=>by
 obtain ⟨_,o,ho,_⟩:=I.ok.funs.mem hb;exact absurd (zUH (zUI ho) (zUM I.sz h)) (Nat.lt_irrefl _)
theorem Inv.cne(I:Inv X pins σ H s): ∀x c,X.env.cells.lookup x=some c->c≠X.env.locals:=fun x c e z=>by
 obtain ⟨v,o,ho,hd⟩:=I.cell x c e;obtain ⟨m,⟨o',es,ep,ho',hd',_⟩,_⟩:=I.loc;rw [z,ho'] at ho;cases ho;rw [hd'] at hd;cases hd
theorem Inv.funs(I:Inv X pins σ H s):s.heap.FunFrames X.base X.outer:=by
 have all: ∀(l:List Env),(∀b∈yy l,b∈X.fs)->X.s₀.heap.FunFrames X.base l->s.heap.FunFrames X.base l:=by
  intro l
  induction l with
  | nil=>intro _ _;trivial
  | cons env r ih=>
   intro hs hl;obtain ⟨hk,⟨L,o,hf,hn,ho,hd⟩,hr⟩:=hl;have hL:L∈X.fs:=hs L (by unfold yy;rw [List.filterMap_cons,hf];exact List.mem_cons_self);obtain ⟨sl,e⟩:=I.base.slot L o ho (I.ok.frf L hL) hL fun z=>I.ok.exfs L z hL;exact ⟨hk,⟨L,_,hf,hn,e,hd⟩,ih (fun b hb=>hs b (by unfold yy;rw [List.filterMap_cons,hf];exact zUd _ hb)) hr⟩
 exact all X.outer (fun _ hb=>hb) I.ok.funs
theorem Inv.stack(I:Inv X pins σ H s):s.heap.FunFrames X.base X.stack:=by
 rcases I.ok.stk with e |⟨e,hf⟩
 ·rw [e];exact I.funs
 ·rw [e];obtain ⟨m,hn,_⟩:=I.loc;refine .cons (by rw [I.ok.kind];decide) hf hn ?_ I.funs;exact Heap.get?_none_of_le (zUM I.ok.bsz I.ok.above)
theorem Inv.stkSub(I:Inv X pins σ H s): ∀b∈yy X.stack,b∈X.env.locals::X.fs:=fun b hb=>by
 rcases I.ok.stk with e |⟨e,hf⟩
 ·rw [e] at hb;exact zUd _ hb
 ·rw [e] at hb;unfold yy at hb;rw [List.filterMap_cons,hf] at hb;exact hb
theorem Inv.stkFree(I:Inv X pins σ H s): ∀b∈yy X.stack,H b=none:=fun b hb=>by
 rcases zUo.mp (I.stkSub b hb) with e | hb
 ·rw [e];exact I.free
 ·obtain ⟨_,o,ho,_⟩:=I.ok.funs.mem hb;exact I.base.free b o ho (I.ok.frf b hb) fun z=>I.ok.exfs b z hb
theorem Inv.step{g':Array GenState}{t':Nat}{d':Drawn}{ch:List Addr}(I:Inv X pins σ H s)
  (hch: ∀b∈ch,(b∈X.ex\/X.s₀.heap.objs.size<=b)/\b≠X.env.locals/\(∀x c,X.env.cells.lookup x=some c->c≠b)/\ ∀p∈X.pn++pins,p.1≠b)
  (keep: ∀b o,b≠X.env.locals->b∉X.fs->b∉ch->s.heap.get? b=some o->H b=none->h'.get? b=some o)
  (slot: ∀b o,b≠X.env.locals->b∈X.fs->b∉ch->s.heap.get? b=some o->H b=none-> ∃sl,h'.get? b=some {o with slots:=sl}) (free: ∀b o,b∉ch->s.heap.get? b=some o->H b=none->H' b=none)
  (there: ∀b o,b∉ch->s.heap.get? b=some o-> ∃o',h'.get? b=some o')
  (tups: ∀b xs,H b=some (.tup xs)->H' b=some (.tup xs)) (frzs: ∀b o u,H b=some (.frz o u)->H' b=some (.frz o u)) (tbls: ∀b ps,H b=some (.tbl ps)-> ∃more,H' b=some (.tbl (ps++more)))
  (ns: ∀m,s.heap.Ns X.env.locals m->h'.Ns X.env.locals m) (hok:HOk X.prog X.w H' h') (hg:AllBare g'):
  Inv X pins σ H' {s with heap:=h',gens:=g',drawn:=d',toks:=t'}:=by
 have neL: ∀b o,X.s₀.heap.get? b=some o->b≠X.env.locals:=fun b o e=>zUG (zUH (zUI e) I.ok.above);have neC: ∀b o,X.s₀.heap.get? b=some o->b∉X.ex->b∉ch:=fun b o e hx hb=>by
  rcases (hch b hb).1 with z | z
  ·exact hx z
  ·exact absurd (zUH (zUI e) z) (Nat.lt_irrefl _)
 have cellK: ∀x c,X.env.cells.lookup x=some c-> ∀v,s.heap.IsCell c v->h'.IsCell c v:=fun x c e v ⟨o,ho,hd⟩=>by
  have nch:c∉ch:=fun z=>(hch c z).2.2.1 x c e rfl;by_cases hc:c∈X.fs
  ·obtain ⟨sl,q⟩:=slot c o (I.cne x c e) hc nch ho (I.freeC x c e);exact ⟨_,q,hd⟩
  ·exact ⟨o,keep c o (I.cne x c e) hc nch ho (I.freeC x c e),hd⟩
 refine ⟨I.ok,I.os,hg,⟨fun b o e n hb hx=>?_,fun b o e n hb hx=>?_,fun b o e n hx=>?_,fun b o e hx=>?_,fun b xs e=>tups b xs (I.base.tups b xs e),fun b o xs e=>frzs b o xs (I.base.frzs b o xs e),fun b ps e=>?_⟩,?_,fun x c e=>?_,?_,fun x c e=>?_,fun p hp=>?_,hok,I.len⟩
 ·exact keep b o (neL b o e) hb (neC b o e hx) (I.base.keep b o e n hb hx) (I.base.free b o e n hx)
 ·obtain ⟨sl,e1⟩:=I.base.slot b o e n hb hx;obtain ⟨sl',e2⟩:=slot b _ (neL b o e) hb (neC b o e hx) e1 (I.base.free b o e n hx);exact ⟨sl',e2⟩
 ·obtain ⟨o',e1⟩:=I.base.there b o e hx;exact free b o' (neC b o e hx) e1 (I.base.free b o e n hx)
 ·obtain ⟨o',e1⟩:=I.base.there b o e hx;exact there b o' (neC b o e hx) e1
 ·obtain ⟨m1,e1⟩:=I.base.tbls b ps e;obtain ⟨m2,e2⟩:=tbls b _ e1;exact ⟨m1++m2,by rw [e2,Array.append_assoc]⟩
 ·obtain ⟨m,hn,hl⟩:=I.loc;refine ⟨m,ns m hn,fun i x v e1 e2 e3=>?_⟩;obtain ⟨u,r,l⟩:=hl i x v e1 e2 e3;refine ⟨u,r,?_⟩;rcases l with l |⟨k,c,e,z⟩
  ·exact .inl l
  ·exact .inr ⟨k,c,e,cellK x c e _ z⟩
 ·obtain ⟨v,z⟩:=I.cell x c e;exact ⟨v,cellK x c e v z⟩
 ·obtain ⟨m,⟨o,_,_,ho,_⟩,_⟩:=I.loc;exact free _ o (fun z=>(hch _ z).2.1 rfl) ho I.free
 ·obtain ⟨v,o,ho,hd⟩:=I.cell x c e;exact free c o (fun z=>(hch c z).2.2.1 x c e rfl) ho (I.freeC x c e)
 ·obtain ⟨e,n,ne,nf,d⟩:=I.pin p hp;have nch:p.1∉ch:=fun z=>(hch p.1 z).2.2.2 p hp rfl;exact ⟨keep p.1 p.2 ne nf nch e n,free p.1 p.2 nch e n,ne,nf,d⟩
theorem Inv.un{t':Nat}(I:Inv X pins σ H s)(u:Un X.fs [] H H' s.heap h')(hok:HOk X.prog X.w H' h'):Inv X pins σ H' {s with heap:=h',toks:=t'}:=by
 obtain ⟨m,⟨o,es,ep,ho,r⟩,_⟩:=id I.loc;obtain ⟨sl,hL⟩:=u.any ho I.free (by simp);exact I.step (g':=s.gens) (d':=s.drawn) (ch:= []) (fun _ z=>nomatch z) (fun b o _ hb _ e n=>u.keep b o e n hb (by simp)) (fun b o _ hb _ e n=>u.slot b o e n hb (by simp)) (fun b o _ e n=>u.free b o e n (by simp)) (fun b o _ e=>u.there b o e (by simp)) u.tups u.frzs u.tbls (fun m' hm=>by
  obtain ⟨o',es',ep',ho',r'⟩:=hm;rw [ho] at ho';cases ho';exact ⟨_,es',ep',hL,r'⟩) hok I.bare
theorem Inv.call{g':Array GenState}{t':Nat}{d':Drawn}{ch:List Addr}(I:Inv X pins σ H s)(u:Un (yy X.stack) ch H H' s.heap h')(hok:HOk X.prog X.w H' h')(hg:AllBare g')
  (hch: ∀b∈ch,(b∈X.ex\/X.s₀.heap.objs.size<=b)/\b≠X.env.locals/\(∀x c,X.env.cells.lookup x=some c->c≠b)/\ ∀p∈X.pn++pins,p.1≠b):
  Inv X pins σ H' {s with heap:=h',gens:=g',drawn:=d',toks:=t'}:=by
 obtain ⟨m,⟨o,es,ep,ho,r⟩,_⟩:=id I.loc;obtain ⟨sl,hL⟩:=u.any ho I.free fun z=>(hch _ z).2.1 rfl;exact I.step (ch:=ch) hch (fun b o hL hb hc e n=>u.keep b o e n (fun z=>(zUo.mp (I.stkSub b z)).elim hL hb) hc) (fun b o _ _ hc e n=>u.any e n hc) (fun b o hc e n=>u.free b o e n hc) (fun b o hc e=>u.there b o e hc) u.tups u.frzs u.tbls (fun m' hm=>by
  obtain ⟨o',es',ep',ho',r'⟩:=hm;rw [ho] at ho';cases ho';exact ⟨_,es',ep',hL,r'⟩) hok hg
theorem Inv.turned{t':Nat}{it:Addr}(I:Inv X pins σ H s)(k: ∀b o,b≠it->s.heap.get? b=some o->h'.get? b=some o)(hn:H it=none)(hL:it≠X.env.locals)
  (h1:it∈X.ex\/X.s₀.heap.objs.size<=it) (h2: ∀x c,X.env.cells.lookup x=some c->c≠it) (h3: ∀p∈X.pn++pins,p.1≠it):Inv X pins σ H {s with heap:=h',toks:=t'}:=by
 have nit: ∀b u,H b=some u->b≠it:=fun b u e z=>by rw [z,hn] at e;cases e
 refine I.step (g':=s.gens) (d':=s.drawn) (ch:= [it]) (fun b hb=>?_) (fun b o _ _ hc e _=>k b o (fun z=>hc (by simp [z])) e) (fun b o _ _ hc e _=>⟨o.slots,k b o (fun z=>hc (by simp [z])) e⟩) (fun _ _ _ _ n=>n)
  (fun b o hc e=>⟨o,k b o (fun z=>hc (by simp [z])) e⟩) (fun _ _ e=>e) (fun _ _ _ e=>e) (fun b ps e=>⟨#[],by rw [e];simp⟩) (fun m hm=>?_) (fun b u e=>?_) I.bare
 ·have e:b=it:=by simpa using hb
  subst e;exact ⟨h1,hL,h2,h3⟩
 ·obtain ⟨o,es,ep,ho,r⟩:=hm;exact ⟨o,es,ep,k _ o (Ne.symm hL) ho,r⟩
 ·refine (I.hok b u e).stay (fun c v hc q=>k c v ?_ q) (fun _ q=>q) fun _ _ q=>q;rcases hc with z | z
  ·rw [z];exact nit b u e
  ·exact nit c _ z
theorem Inv.tok(I:Inv X pins σ H s)(t:Nat):Inv X pins σ H {s with toks:=t}:=I.un (h':=s.heap) (t':=t) Un.refl I.hok
theorem Inv.kept(I:Inv X pins σ H s)(k: ∀b u,s.heap.get? b=some u->h'.get? b=some u):Inv X pins σ H {s with heap:=h',toks:=t'}:=I.un (Un.kept k) (I.hok.kept k)
theorem Inv.laid(I:Inv X pins σ H s)(k: ∀b u,s.heap.get? b=some u->h'.get? b=some u)(hp:s.heap.objs.size<=a)(new:zo X.prog X.w (upd H a o) h' a o):
  Inv X pins σ (upd H a o) {s with heap:=h',toks:=t'}:=I.un (Un.laid k hp (I.hok.fresh hp)) (I.hok.laid k hp new)
theorem Inv.write(I:Inv X pins σ H s)(mu:Mut (H x))(he:e=x\/H e=some (.own x))(k: ∀b u,b≠e->s.heap.get? b=some u->h'.get? b=some u)(heo: ∃u,h'.get? e=some u)
  (new:zo X.prog X.w (upd H x o) h' x o):Inv X pins σ (upd H x o) {s with heap:=h',toks:=t'}:=I.un (Un.write mu he k heo) (I.hok.write mu he k heo new)
theorem Inv.pins_of(I:Inv X pins σ H s)(h: ∀p∈pins',s.heap.get? p.1=some p.2/\H p.1=none/\p.1≠X.env.locals/\p.1∉X.fs/\ ∀v,p.2.data≠ .cell v):Inv X pins' σ H s:=
 ⟨I.ok,I.os,I.bare,I.base,I.loc,I.cell,I.free,I.freeC,fun p hp=>(zUq.mp hp).elim (fun z=>I.pin p (List.mem_append_left _ z)) (h p),I.hok,I.len⟩
theorem zEi{N:List Str}(hN:N.Nodup){i j:Nat}{x:Str}(a:N[i]?=some x)(b:N[j]?=some x):i=j:=by
 obtain ⟨h1,e1⟩:=zUy.mp a;obtain ⟨h2,e2⟩:=zUy.mp b;exact (List.getElem_inj hN).mp (e1.trans e2.symm)
theorem zGS{M:Model}{A:Around}{E:Value->Shared->Prop}{i:Nat}{x:Str}{v:V}{u:Value}{Q:Unit->Shared->Prop}(I:Inv X pins σ H s)(hN:X.N.Nodup)(hi:X.N[i]?=some x)(hx:Loc X.env.scope x)(r:zX v u)
  (h: ∀s',Inv X pins (σ.set i (some v)) H s'->(∃a,Heap.SameBut a s.heap s'.heap/\(a=X.env.locals\/X.env.cells.lookup x=some a))->Q () s') (hf:X.fn x=true\/X.env.scope.names.lookup x=some .local:=by first | exact .inl rfl | exact .inr rfl | assumption):wpAny M A (storeName X.env x u) Q E s:=by
 obtain ⟨m,hn,hl⟩:=id I.loc;have hcls:(X.env.scope.kind== .class ||(X.env.scope.kind== .module&&X.env.locals !=X.env.globals))=false:=by rw [I.ok.kind];rfl
 have hiσ:i<σ.length:=by rw [I.len];exact (zUy.mp hi).1
 have cne:=I.cne;have tracked: ∀{a:Addr} {h':Heap},(∃o,s.heap.get? a=some o/\H a=none)->Heap.SameBut a s.heap h'->HOk X.prog X.w H h':=fun {a h'} ha hs b ob e=>by
  obtain ⟨_,_,hfree⟩:=ha;refine (I.hok b ob e).stay (fun c w' hc q=>(hs.2 c ?_).trans q) (fun _ q=>q) fun _ _ q=>q;rintro rfl;rcases hc with rfl | hc
  ·rw [hfree] at e;cases e
  ·rw [hfree] at hc;cases hc
 rcases hx with hk | hk
 ·refine wpAny_storeName_local hk hn (fun h' hn' hs=>?_) hcls;obtain ⟨oL,_,_,hoL,_⟩:=id hn;refine h _ ⟨I.ok,I.os,I.bare,⟨fun b o e n hb hx=>?_,fun b o e n hb hx=>?_,I.base.free,fun b o e hx=>?_,I.base.tups,I.base.frzs,I.base.tbls⟩,⟨_,hn',fun j y v' e1 e2 e3=>?_⟩,fun y c e=>?_,I.free,I.freeC,fun p hp=>?_,tracked ⟨oL,hoL,I.free⟩ hs,by simpa using I.len⟩ ⟨_,hs,.inl rfl⟩
  ·exact (hs.2 b (zUG (zUH (zUI e) I.ok.above))).trans (I.base.keep b o e n hb hx)
  ·obtain ⟨sl,e1⟩:=I.base.slot b o e n hb hx;exact ⟨sl,(hs.2 b (zUG (zUH (zUI e) I.ok.above))).trans e1⟩
  ·obtain ⟨o',e1⟩:=I.base.there b o e hx;exact ⟨o',(hs.2 b (zUG (zUH (zUI e) I.ok.above))).trans e1⟩
  ·by_cases hj:j=i
   ·subst hj;rw [hi] at e1;cases e1;rw [List.getElem?_set_self hiσ] at e2;cases e2;exact ⟨u,r,.inl ⟨hk,by simp⟩⟩
   ·rw [List.getElem?_set_ne (Ne.symm hj)] at e2;obtain ⟨u',r',q⟩:=hl j y v' e1 e2 e3;refine ⟨u',r',?_⟩;rcases q with ⟨k,e⟩|⟨k,c,e,z⟩
    ·refine .inl ⟨k,?_⟩;have:y≠x:=fun e=>hj (zEi hN e1 (e▸hi));simp [this,e]
    ·exact .inr ⟨k,c,e,z.sameBut hs (cne y c e)⟩
  ·obtain ⟨w',z⟩:=I.cell y c e;exact ⟨w',z.sameBut hs (cne y c e)⟩
  ·obtain ⟨e,n,ne,nf,d⟩:=I.pin p hp;exact ⟨(hs.2 p.1 ne).trans e,n,ne,nf,d⟩
 ·have hfn:X.fn x=true:=by
   rcases hf with z | z
   ·exact z
   ·rw [z] at hk;cases hk
  obtain ⟨c,hc⟩:=I.ok.has x (.inl hk);obtain ⟨w',z⟩:=I.cell x c hc;refine wpAny_storeName_cell I.ok.kind hk hc z (fun h' hc' hs=>?_);obtain ⟨oc,hoc,hocd⟩:=id z;refine h {s with heap:=h'} ⟨I.ok,I.os,I.bare,⟨fun b o e n hb hx=>?_,fun b o e n hb hx=>?_,I.base.free,fun b o e hx=>?_,I.base.tups,I.base.frzs,I.base.tbls⟩,⟨m,hn.sameBut hs (Ne.symm (cne x c hc)),fun j y v' e1 e2 e3=>?_⟩,fun y c' e=>?_,I.free,I.freeC,fun p hp=>?_,tracked ⟨oc,hoc,I.freeC x c hc⟩ hs,by simpa using I.len⟩ ⟨c,hs,.inr hc⟩
  ·exact (hs.2 b (zUG (zUH (zUI e) (I.ok.cab x c hfn hc)))).trans (I.base.keep b o e n hb hx)
  ·obtain ⟨sl,e1⟩:=I.base.slot b o e n hb hx;exact ⟨sl,(hs.2 b (zUG (zUH (zUI e) (I.ok.cab x c hfn hc)))).trans e1⟩
  ·obtain ⟨o',e1⟩:=I.base.there b o e hx;exact ⟨o',(hs.2 b (zUG (zUH (zUI e) (I.ok.cab x c hfn hc)))).trans e1⟩
  ·by_cases hj:j=i
   ·subst hj;rw [hi] at e1;cases e1;rw [List.getElem?_set_self hiσ] at e2;cases e2;exact ⟨u,r,.inr ⟨.inl hk,c,hc,hc'⟩⟩
   ·rw [List.getElem?_set_ne (Ne.symm hj)] at e2;obtain ⟨u',r',q⟩:=hl j y v' e1 e2 e3;refine ⟨u',r',?_⟩;rcases q with q |⟨k,c',e,z'⟩
    ·exact .inl q
    ·refine .inr ⟨k,c',e,z'.sameBut hs ?_⟩;rintro rfl;exact hj (zEi hN e1 (I.ok.inj _ _ _ e hc▸hi))
  ·by_cases hcc:c'=c
   ·subst hcc;exact ⟨_,hc'⟩
   ·obtain ⟨w2,z2⟩:=I.cell y c' e;exact ⟨w2,z2.sameBut hs hcc⟩
  ·obtain ⟨e,n,ne,nf,d⟩:=I.pin p hp;refine ⟨(hs.2 p.1 ?_).trans e,n,ne,nf,d⟩;intro q;rw [q,hoc] at e;have q':oc=p.2:=Option.some.inj e;exact d w' (by rw [<-q'];exact hocd)
theorem zCJ{M:Model}{E:Value->Shared->Prop}{Q:Unit->Shared->Prop}(I:Inv X pins σ H s)(hN:X.N.Nodup)(hi:X.N[i]?=some x)(hx:Loc X.env.scope x)(r:zX v u)
  (h: ∀s',Inv X pins (σ.set i (some v)) H s'->Q () s') (hf:X.fn x=true\/X.env.scope.names.lookup x=some .local:=by first | exact .inl rfl | exact .inr rfl | assumption):wpAny M A (storeName X.env x u) Q E s:=
 zGS I hN hi hx r (fun s' I' _=>h s' I') hf
theorem Inv.call'(I:Inv X pins σ H s)(ho:s'.os=s.os)(u:Un (yy X.stack) ch H H' s.heap s'.heap)(hok:HOk X.prog X.w H' s'.heap)(hg:AllBare s'.gens)
  (hch: ∀b∈ch,(b∈X.ex\/X.s₀.heap.objs.size<=b)/\b≠X.env.locals/\(∀x c,X.env.cells.lookup x=some c->c≠b)/\ ∀p∈X.pn++pins,p.1≠b):Inv X pins σ H' s':=by
 obtain ⟨h',g',d',t',o'⟩:=s';have e:o'=s.os:=ho;subst e;exact I.call (g':=g') (t':=t') (d':=d') u hok hg hch
end
abbrev XK:=Value->Option Addr->Hp->Prop
abbrev St:=List (Option V)
abbrev VK:=V->Hp->Prop
abbrev TE:=St->Hp->VK->Prop
abbrev TT:=St->Hp->(Bool->Hp->Prop)->Prop
abbrev TA:=St->Hp->(List V->Hp->Prop)->Prop
structure Ends where
 nx:St->Hp->Prop
 rt:VK
 bk:St->Hp->Prop:=fun _ _=>False
 ct:St->Hp->Prop:=fun _ _=>False
abbrev TS:=Ends->St->Hp->Prop
def EP(X:Cx)(pins:List (Addr×Obj))(σ:St)(Q:VK)(u:Value)(s':Shared):Prop:= ∃v H',Inv X pins σ H' s'/\zX v u/\Q v H'
def TP(X:Cx)(pins:List (Addr×Obj))(σ:St)(Q:Bool->Hp->Prop)(b:Bool)(s':Shared):Prop:= ∃H',Inv X pins σ H' s'/\Q b H'
def AP(X:Cx)(pins:List (Addr×Obj))(σ:St)(Q:List V->Hp->Prop)(us:List Value)(s':Shared):Prop:= ∃vs H',Inv X pins σ H' s'/\zT vs us/\Q vs H'
def SP(X:Cx)(pins:List (Addr×Obj))(D:Ends)(f:Flow)(s':Shared):Prop:=
 match f with
 | .next=> ∃σ' H',Inv X pins σ' H' s'/\D.nx σ' H'
 | .brk=> ∃σ' H',Inv X pins σ' H' s'/\D.bk σ' H'
 | .cont=> ∃σ' H',Inv X pins σ' H' s'/\D.ct σ' H'
 | .ret u=> ∃v σ' H',Inv X pins σ' H' s'/\zX v u/\D.rt v H'
def PE(X:Cx)(e:Expr)(t:TE):Prop:=
 ∀(pins:List (Addr×Obj)) (s:Shared) (σ:St) (H:Hp) (Q:VK),Inv X pins σ H s->t σ H Q->wpAny (model X.prog X.w) X.A (eval e X.env) (EP X pins σ Q) X.xe s
def PT(X:Cx)(e:Expr)(t:TT):Prop:=
 ∀(pins:List (Addr×Obj)) (s:Shared) (σ:St) (H:Hp) (Q:Bool->Hp->Prop),Inv X pins σ H s->t σ H Q->wpAny (model X.prog X.w) X.A (isTrue e X.env (eval e X.env)) (TP X pins σ Q) X.xe s
def PW(X:Cx)(e:Expr)(t:TT):Prop:=
 ∀(whole:Sem Value) (pins:List (Addr×Obj)) (s:Shared) (σ:St) (H:Hp) (Q:Bool->Hp->Prop),Inv X pins σ H s->t σ H Q->wpAny (model X.prog X.w) X.A (isTrue e X.env whole) (TP X pins σ Q) X.xe s
theorem PW.pt{X:Cx}(h:PW X e t):PT X e t:=h _
def PA(X:Cx)(es:List Expr)(t:TA):Prop:=
 ∀(pos:Pos) (pins:List (Addr×Obj)) (s:Shared) (σ:St) (H:Hp) (Q:List V->Hp->Prop),Inv X pins σ H s->t σ H Q->wpAny (model X.prog X.w) X.A (spliced (backTo pos (starEach es X.env))) (AP X pins σ Q) X.xe s
def PS(X:Cx)(st:Stmt)(t:TS):Prop:=
 ∀(pins:List (Addr×Obj)) (s:Shared) (σ:St) (H:Hp) (D:Ends),Inv X pins σ H s->t D σ H->wpAny (model X.prog X.w) X.A (exec st X.env) (SP X pins D) X.xe s
def PSs(X:Cx)(st:List Stmt)(t:TS):Prop:=
 ∀(pins:List (Addr×Obj)) (s:Shared) (σ:St) (H:Hp) (D:Ends),Inv X pins σ H s->t D σ H->wpAny (model X.prog X.w) X.A (execs st X.env) (SP X pins D) X.xe s
theorem zW{α:Type}{t:Sem α}{Q Q':α->Shared->Prop}{M:Model}{E:Value->Shared->Prop}(h:wpAny M A t Q E s)(hQ: ∀a s,Q a s->Q' a s):wpAny M A t Q' E s:=zUS h hQ fun _ _ x=>x
section
variable {X:Cx}
inductive XVar (i:Nat) (σ:St) (H:Hp) (Q:VK):Prop
 | mk (v:V) (h:σ[i]?=some (some v)) (q:Q v H)
def zKI(i:Nat):TE:=fun σ H Q=>XVar i σ H Q
def tC(v:V):TE:=fun _ H Q=>Q v H
theorem zHd(hN:X.N[i]?=some x)(hv:Vis X.env.scope x)(hd:(x==("__debug__" :Str))=false:=by decide)(hcd:(x==("__classdict__" :Str))=false:=by decide):PE X (.Name x pos) (zKI i):=by
 intro pins s σ H Q I h;obtain ⟨v,e,h⟩:=h;obtain ⟨m,hn,hl⟩:=I.loc;obtain ⟨u,r,l⟩:=hl i x v hN e hv;have fin:EP X pins σ Q u s:=⟨v,H,I,r,h⟩;rcases l with ⟨hk,hm⟩|⟨hk,c,hc,hcell⟩
 ·exact wpAny_Name (wpAny_loadName_local I.ok.kind hk hn hm fin) hd
 ·rcases hk with hk | hk
  ·exact wpAny_Name (wpAny_loadName_cell I.ok.kind hk hc hcell fin) hd
  ·exact wpAny_Name (wpAny_loadName_free I.ok.kind hk hc hcell fin hcd) hd
theorem ye{i j pos}:PE X (.Constant (.int i) j pos) (tC (.int i)):=fun _ _ _ H _ I h=>wpAny_Constant_int ⟨.int i,H,I.tok _,⟨_,rfl⟩,h⟩
theorem zJK{b j pos}:PE X (.Constant (.bool b) j pos) (tC (.bl b)):=fun _ _ _ H _ I h=>Constant_bool ⟨.bl b,H,I,rfl,h⟩
theorem zQf{j pos}:PE X (.Constant .none j pos) (tC .non):=fun _ _ _ H _ I h=>Constant_none ⟨.non,H,I,rfl,h⟩
theorem zRK{x j pos}:PE X (.Constant (.str x) j pos) (tC (.str x)):=fun _ _ _ H _ I h=>Calls.Constant_str ⟨.str x,H,I.tok _,⟨_,rfl⟩,h⟩
def Gl(X:Cx)(x:Str):Prop:=X.env.kindOf x=some .globalImplicit
theorem zCF{E:Value->Shared->Prop}{Q:Value->Shared->Prop}(I:Inv X pins σ H s)(hg:Gl X x)(hm:X.mg x=some u)(h:Q u s)
  (hd:(x==("__debug__" :Str))=false:=by decide):wpAny (model X.prog X.w) X.A (eval (.Name x pos) X.env) Q E s:=
 Calls.Name_function_global I.ok.kind hg (Calls.loadGlobal_global (by rw [I.ok.glob];exact I.mod.glob.keeps I.bk) hm h) hd
theorem zCN{E:Value->Shared->Prop}{Q:Value->Shared->Prop}(I:Inv X pins σ H s)(hg:Gl X x)(hm:X.mg x=none)(hv:bootBuiltins x=some u)(h:Q u s)
  (hn:x≠ "__name__" :=by decide) (hd:(x==("__debug__" :Str))=false:=by decide):wpAny (model X.prog X.w) X.A (eval (.Name x pos) X.env) Q E s:=by
 obtain ⟨mb,h1,h2⟩:=I.mod.blt;exact Calls.Name_function_global I.ok.kind hg (Calls.loadGlobal_builtin (by rw [I.ok.glob];exact I.mod.glob.keeps I.bk) hm (by rw [I.ok.blt];exact h1.keeps I.bk) ((h2 x hn).trans hv) h) hd
theorem zOp(hg:Gl X x)(hm:X.mg x=some u)(r:zX v u)(hd:(x==("__debug__" :Str))=false:=by decide):PE X (.Name x pos) (tC v):=
 fun _ _ _ H _ I h=>zCF I hg hm ⟨v,H,I,r,h⟩ hd
theorem zEU(hg:Gl X x)(hm:X.mg x=none)(hv:bootBuiltins x=some u)(r:zX v u)(hn:x≠ "__name__" :=by decide)(hd:(x==("__debug__" :Str))=false:=by decide):PE X (.Name x pos) (tC v):=
 fun _ _ _ H _ I h=>zCN I hg hm hv ⟨v,H,I,r,h⟩ hn hd
variable {a b:Expr}{ta tb:TE}{pos:Pos}
def PC(X:Cx)(op:CmpOp)(a b:Expr)(t:TE):Prop:=
 ∀(pins:List (Addr×Obj)) (s:Shared) (σ:St) (H:Hp) (Q:VK),Inv X pins σ H s->t σ H Q->
  wpAny (model X.prog X.w) X.A (eval a X.env) (fun v s₁=>wpAny (model X.prog X.w) X.A (eval b X.env) (fun u s₂=>wpAny (model X.prog X.w) X.A (compareOp op v u) (EP X pins σ Q) X.xe s₂) X.xe s₁) X.xe s
def zPL(ta:TE):TE:=fun σ H Q=>ta σ H fun x H1=>Q (.bl (decide (x= .non))) H1
def zNJ(ta:TE):TE:=fun σ H Q=>ta σ H fun x H1=>Q (.bl (!decide (x= .non))) H1
theorem zX.none_iff(r:zX x v):(v==Value.none)=decide (x= .non):=by
 cases x with
 | non=>cases r;rfl
 | bl _=>cases r;rfl
 | int _=>obtain ⟨t,rfl⟩:=r;rfl
 | str _=>obtain ⟨t,rfl⟩:=r;rfl
 | byt _=>obtain ⟨t,rfl⟩:=r;rfl
 | flt _=>obtain ⟨t,rfl⟩:=r;rfl
 | ref _=>cases r;rfl
 | ty _=>cases r;rfl
theorem zQl{j pos'}(ha:PE X a ta):PC X .Is a (.Constant .none j pos') (zPL ta):=by
 intro pins s σ H Q I h;refine zW (ha pins s σ H _ I h) fun v s1 ⟨x,H1,I1,r1,q1⟩=>?_;exact Constant_none (is_none_gen ⟨.bl _,H1,I1,by rw [r1.none_iff];rfl,q1⟩)
theorem zOE{j pos'}(ha:PE X a ta):PC X .IsNot a (.Constant .none j pos') (zNJ ta):=by
 intro pins s σ H Q I h;refine zW (ha pins s σ H _ I h) fun v s1 ⟨x,H1,I1,r1,q1⟩=>?_;exact Constant_none (isnot_none_gen ⟨.bl _,H1,I1,by rw [r1.none_iff];rfl,q1⟩)
inductive XB (x:V) (H:Hp) (Q:Bool->Hp->Prop):Prop
 | mk (c:Bool) (h:x= .bl c) (q:Q c H)
def tB(t:TE):TT:=fun σ H Q=>t σ H fun x H1=>XB x H1 Q
theorem zDl{op:CmpOp}(h:PC X op a b t)(h1:behindInMarks op b=false:=by first | exact nobehind _ (by decide) (by decide)| rfl):PT X (.Compare a [op] [b] pos) (tB t):=by
 intro pins s σ H Q I hw;refine wpAny_isTrue_Compare1 (zW (h pins s σ H _ I hw) fun v s1 h1=>zW h1 fun u s2 h2=>zW h2 fun c s3 ⟨x,H1,I1,r1,q1⟩=>?_) h1;obtain ⟨d,rfl,q⟩:=q1;cases r1;exact zUj ⟨H1,I1,q⟩
theorem zFh(h:PE X e t)(he: ∀whole,isTrue e X.env whole=(do let v<-whole;standAt e.pos;holding [v] (truthy v)):=by intro _;rfl):PT X e (tB t):=by
 intro pins s σ H Q I hw;refine isTrue_plain (zW (h pins s σ H _ I hw) fun v s1 ⟨x,H1,I1,r1,q1⟩=>?_) (he _);obtain ⟨d,rfl,q⟩:=q1;cases r1;exact zUj ⟨H1,I1,q⟩
variable {tA tB':TT}{rest:List Expr}
def zPR(t u:TT):TT:=fun σ H Q=>t σ H fun c H1=>if c=true then u σ H1 Q else Q false H1
def tOr(t u:TT):TT:=fun σ H Q=>t σ H fun c H1=>if c=true then Q true H1 else u σ H1 Q
def zQx(t:TT):TT:=fun σ H Q=>t σ H fun c H1=>Q (!c) H1
theorem zOu(ha:PT X a tA):PW X (.BoolOp .And [a] pos) tA:=by
 intro wh pins s σ H Q I h;refine isTrue_and (zW (ha pins s σ H Q I h) fun c s1 e=>?_);cases c with
 | true=>exact isTrue_and_nil e
 | false=>exact e
theorem zHm(ha:PT X a tA):PW X (.BoolOp .Or [a] pos) tA:=by
 intro wh pins s σ H Q I h;refine isTrue_or (zW (ha pins s σ H Q I h) fun c s1 e=>?_);cases c with
 | false=>exact isTrue_or_nil e
 | true=>exact e
theorem zQA(ha:PT X a tA)(hb:PW X (.BoolOp .And (b::rest) pos) tB'):PW X (.BoolOp .And (a::b::rest) pos) (zPR tA tB'):=by
 intro wh pins s σ H Q I h;refine isTrue_and (zW (ha pins s σ H _ I h) fun c s1 ⟨H1,I1,q1⟩=>?_);cases c with
 | true=>exact hb wh pins s1 σ H1 Q I1 q1
 | false=>exact ⟨H1,I1,q1⟩
theorem zGr(ha:PT X a tA)(hb:PW X (.BoolOp .Or (b::rest) pos) tB'):PW X (.BoolOp .Or (a::b::rest) pos) (tOr tA tB'):=by
 intro wh pins s σ H Q I h;refine isTrue_or (zW (ha pins s σ H _ I h) fun c s1 ⟨H1,I1,q1⟩=>?_);cases c with
 | true=>exact ⟨H1,I1,q1⟩
 | false=>exact hb wh pins s1 σ H1 Q I1 q1
theorem zFS(ha:PT X a tA):PT X (.UnaryOp .Not a pos) (zQx tA):=by
 intro pins s σ H Q I h;exact isTrue_not (ha pins s σ H (fun c H1=>Q (!c) H1) I h)
inductive XAnd (tb:TE) (x:V) (σ:St) (H:Hp) (Q:VK):Prop
 | mk (c:Bool) (h:x= .bl c) (q:if c=true then tb σ H Q else Q (.bl false) H)
def zNH(ta tb:TE):TE:=fun σ H Q=>ta σ H fun x H1=>XAnd tb x σ H1 Q
inductive XNot (x:V) (H:Hp) (Q:VK):Prop
 | mk (c:Bool) (h:x= .bl c) (q:Q (.bl (!c)) H)
def zSG(ta:TE):TE:=fun σ H Q=>ta σ H fun x H1=>XNot x H1 Q
theorem zLH{op}(h:PE X a t):PE X (.BoolOp op [a] pos) t:=fun pins s σ H Q I hw=>BoolOp_one (h pins s σ H Q I hw)
theorem zLT(ha:PE X a ta)(hb:PE X (.BoolOp .And (b::rest) pos) tb):PE X (.BoolOp .And (a::b::rest) pos) (zNH ta tb):=by
 intro pins s σ H Q I h;refine BoolOp_and (zW (ha pins s σ H _ I h) fun v s1 ⟨x,H1,I1,r1,q1⟩=>?_);obtain ⟨c,rfl,q1⟩:=q1;cases r1;refine zUj ?_;cases c with
 | true=>exact hb pins s1 σ H1 Q I1 q1
 | false=>exact ⟨.bl false,H1,I1,rfl,q1⟩
theorem zPV(ha:PE X a ta):PE X (.UnaryOp .Not a pos) (zSG ta):=by
 intro pins s σ H Q I h;refine UnaryOp_ (zW (ha pins s σ H _ I h) fun v s1 ⟨x,H1,I1,r1,q1⟩=>?_);obtain ⟨c,rfl,q1⟩:=q1;cases r1;exact not_of (zUj ⟨.bl (!c),H1,I1,rfl,q1⟩)
def tIf(t:TT)(ta tb:TE):TE:=fun σ H Q=>t σ H fun c H1=>if c=true then ta σ H1 Q else tb σ H1 Q
theorem zNB(hc:PT X c tA)(ha:PE X a ta)(hb:PE X b tb):PE X (.IfExp c a b pos) (tIf tA ta tb):=by
 intro pins s σ H Q I h;refine wpAny_IfExp (zW (hc pins s σ H _ I h) fun d s1 ⟨H1,I1,q1⟩=>?_);cases d with
 | true=>exact ha pins s1 σ H1 Q I1 q1
 | false=>exact hb pins s1 σ H1 Q I1 q1
end
def SqL(K:zUn)(H:Hp)(a:Addr)(xs:List V):Prop:=
 Rd H a (.lst xs)\/
  ∃(o:Obj) (its:Array Value) (n:Nat),K.lookup a=some o/\o.cls= .type "list" /\o.dict=none/\o.data= .seq its n/\its.size<=sizeLine/\zT xs its.toList
def SqT(K:zUn)(H:Hp)(a:Addr)(xs:List V):Prop:=
 Rd H a (.tup xs)\/
  ∃(o:Obj) (its:Array Value) (n:Nat),K.lookup a=some o/\o.cls= .type "tuple" /\o.data= .seq its n/\its.size<=sizeLine/\zT xs its.toList
def zTe:Value->Option V
 | .none=>some .non
 | .bool b=>some (.bl b)
 | .int i _=>some (.int i)
 | .str x _=>some (.str x)
 | .bytes b _=>some (.byt b)
 | .float b _=>some (.flt b)
 | .ref a=>some (.ref a)
 | .type n=>some (.ty n)
 | _=>none
theorem zX.abs(r:zX x u):zTe u=some x:=by
 cases x with
 | non=>cases r;rfl
 | bl _=>cases r;rfl
 | int _=>obtain ⟨t,rfl⟩:=r;rfl
 | str _=>obtain ⟨t,rfl⟩:=r;rfl
 | byt _=>obtain ⟨t,rfl⟩:=r;rfl
 | flt _=>obtain ⟨t,rfl⟩:=r;rfl
 | ref _=>cases r;rfl
 | ty _=>cases r;rfl
theorem zX.inj(r:zX x u)(q:zX y u):x=y:=Option.some.inj (r.abs.symm.trans q.abs)
theorem zT.inj: ∀{xs ys:List V} {us:List Value},zT xs us->zT ys us->xs=ys
 | _,_,_,.nil,.nil=>rfl
 | _,_,_,.cons r t,.cons r' t'=>by rw [r.inj r',zT.inj t t']
section
variable {X:Cx}{pins:List (Addr×Obj)}{σ:St}{H:Hp}{s:Shared}{a:Addr}{xs ys:List V}
theorem SqL.of{K:zUn}(h:H a=some (.lst xs)):SqL K H a xs:= .inl (.inl h)
theorem SqT.of{K:zUn}(h:H a=some (.tup xs)):SqT K H a xs:= .inl (.inl h)
theorem Inv.list(I:Inv X pins σ H s)(h:SqL X.K H a xs): ∃its:List Value,zT xs its/\PlainL s.heap a its.toArray/\xs.length<=sizeLine:=by
 rcases h with h |⟨o,its,n,hk,hc,hd,hs,hz,r⟩
 ·obtain ⟨z,its,n,r,e⟩:=h.ok I.hok;exact ⟨its,r,⟨_,n,e,rfl,rfl,rfl⟩,z⟩
 ·refine ⟨its.toList,r,⟨o,n,I.kIn a o hk,hc,hd,by simpa using hs⟩,?_⟩;have e:=r.length;simp only [Array.length_toList] at e;omega
theorem Inv.tuple(I:Inv X pins σ H s)(h:SqT X.K H a xs): ∃its:List Value,zT xs its/\IsTup s.heap a its.toArray/\xs.length<=sizeLine:=by
 rcases h with h |⟨o,its,n,hk,hc,hs,hz,r⟩
 ·obtain ⟨z,its,r,o,e,c,⟨n,d⟩,_⟩:=h.ok I.hok;exact ⟨its,r,⟨o,e,c,n,d⟩,z⟩
 ·refine ⟨its.toList,r,⟨o,I.kIn a o hk,hc,n,by simpa using hs⟩,?_⟩;have e:=r.length;simp only [Array.length_toList] at e;omega
theorem Inv.list_inj(I:Inv X pins σ H s)(h:SqL X.K H a xs)(h':SqL X.K H a ys):xs=ys:=by
 obtain ⟨its,r,⟨o,n,e,_,_,d⟩,_⟩:=I.list h;obtain ⟨its',r',⟨o',n',e',_,_,d'⟩,_⟩:=I.list h';rw [e] at e';cases e';rw [d] at d';injection d' with d1 _;have:its=its':=by simpa using congrArg Array.toList d1
 subst this;exact r.inj r'
theorem Inv.tuple_inj(I:Inv X pins σ H s)(h:SqT X.K H a xs)(h':SqT X.K H a ys):xs=ys:=by
 obtain ⟨its,r,⟨o,e,_,n,d⟩,_⟩:=I.tuple h;obtain ⟨its',r',⟨o',e',_,n',d'⟩,_⟩:=I.tuple h';rw [e] at e';cases e';rw [d] at d';injection d' with d1 _;have:its=its':=by simpa using congrArg Array.toList d1
 subst this;exact r.inj r'
end
abbrev Cx.wish(X:Cx)(E:Value->Shared->Prop):Cx:={X with xe:=E}
abbrev Cx.nox(X:Cx):Cx:=X.wish fun _ _=>False
theorem Cx.Ok.wish{X:Cx}(ok:X.Ok)(E:Value->Shared->Prop):(X.wish E).Ok:=
 ⟨ok.mod,ok.kind,ok.glob,ok.blt,ok.above,ok.inj,ok.has,ok.cab,ok.hd,ok.frames,ok.stk,ok.exf,ok.bs,ok.bsz,ok.noex,ok.exfs,ok.funs,ok.frf⟩
theorem Cx.Ok.unwish{X:Cx}{E:Value->Shared->Prop}(ok:(X.wish E).Ok):X.Ok:=
 ⟨ok.mod,ok.kind,ok.glob,ok.blt,ok.above,ok.inj,ok.has,ok.cab,ok.hd,ok.frames,ok.stk,ok.exf,ok.bs,ok.bsz,ok.noex,ok.exfs,ok.funs,ok.frf⟩
section
variable {X:Cx}{pins:List (Addr×Obj)}{σ:St}{H:Hp}{s:Shared}{E:Value->Shared->Prop}
theorem Inv.wish(I:Inv X pins σ H s)(E:Value->Shared->Prop):Inv (X.wish E) pins σ H s:=⟨I.ok.wish E,I.os,I.bare,I.base,I.loc,I.cell,I.free,I.freeC,I.pin,I.hok,I.len⟩
theorem Inv.unwish(I:Inv (X.wish E) pins σ H s):Inv X pins σ H s:=⟨I.ok.unwish,I.os,I.bare,I.base,I.loc,I.cell,I.free,I.freeC,I.pin,I.hok,I.len⟩
theorem SP.unwish{f:Flow}(h:SP (X.wish E) pins D f s'):SP X pins D f s':=by
 cases f with
 | next=>obtain ⟨σ',H',I,q⟩:=h;exact ⟨σ',H',I.unwish,q⟩
 | brk=>obtain ⟨σ',H',I,q⟩:=h;exact ⟨σ',H',I.unwish,q⟩
 | cont=>obtain ⟨σ',H',I,q⟩:=h;exact ⟨σ',H',I.unwish,q⟩
 | ret u=>obtain ⟨v,σ',H',I,r,q⟩:=h;exact ⟨v,σ',H',I.unwish,r,q⟩
theorem PSs.nox{st:List Stmt}{t:TS}(h:PSs X.nox st t):PSs X st t:=fun pins s σ H D I hw=>
 zUS (h pins s σ H D (I.wish _) hw) (fun _ _ q=>q.unwish) fun _ _ z=>False.elim z
end
section
variable {X:Cx}{st:Stmt}{rest:List Stmt}{t u:TS}{e:Expr}{te:TE}{pos:Pos}
def zNv:TS:=fun D σ H=>D.nx σ H
def zKC(t u:TS):TS:=fun D σ H=>t {D with nx:=u D} σ H
theorem zEW:PSs X [] zNv:=fun _ _ σ H _ I h=>wpAny_execs_nil ⟨σ,H,I,h⟩
theorem yp(h1:PS X st t)(h2:PSs X rest u):PSs X (st::rest) (zKC t u):=by
 intro pins s σ H D I h;refine wpAny_execs_cons (zW (h1 pins s σ H {D with nx:=u D} I h) fun f s1 q=>?_);cases f with
 | next=>
  obtain ⟨σ',H',I',q⟩:=q;exact h2 pins s1 σ' H' D I' q
 | ret v=>exact q
 | brk=>exact q
 | cont=>exact q
theorem yz(h1:PS X st t):PSs X [st] t:=by
 intro pins s σ H D I h;refine wpAny_execs_cons (zW (h1 pins s σ H D I h) fun f s1 q=>?_);cases f with
 | next=>exact wpAny_execs_nil q
 | ret v=>exact q
 | brk=>exact q
 | cont=>exact q
theorem Inv.quiet(I:Inv X pins σ H s):interactive X.env=false:=by simp [interactive,I.ok.kind]
def zNR(te:TE):TS:=fun D σ H=>te σ H fun _ H1=>D.nx σ H1
theorem zON(he:PE X e te)(hs:swapsWith e none pos.line X.env=pure false:=by rfl):PS X (.Expr e pos) (zNR te):=by
 intro pins s σ H D I h;exact wpAny_Expr_any (zW (he pins s σ H _ I h) fun v s1 ⟨x,H1,I1,r1,q1⟩=>⟨σ,H1,I1,q1⟩) I.quiet hs
def zPi(te:TE):TS:=fun D σ H=>te σ H D.rt
theorem zBV(he:PE X e te):PS X (.Return (some e) pos) (zPi te):=by
 intro pins s σ H D I h;exact wpAny_Return_some (zW (he pins s σ H _ I h) fun v s1 ⟨x,H1,I1,r1,q1⟩=>⟨x,σ,H1,I1,r1,q1⟩)
def zNf:TS:=fun D _ H=>D.rt .non H
theorem zPC:PS X (.Return none pos) zNf:=fun _ _ σ H _ I h=>wpAny_Return_none ⟨.non,σ,H,I,rfl,h⟩
def zRR(c:TT)(t u:TS):TS:=fun D σ H=>c σ H fun b H1=>if b=true then t D σ H1 else u D σ H1
theorem zGz(hc:PT X c tc)(ha:PSs X a t)(hb:PSs X b u):PS X (.If c a b pos) (zRR tc t u):=by
 intro pins s σ H D I h;refine wpAny_If (zW (hc pins s σ H _ I h) fun d s1 ⟨H1,I1,q1⟩=>?_);cases d with
 | true=>exact ha pins s1 σ H1 D I1 q1
 | false=>exact hb pins s1 σ H1 D I1 q1
end
abbrev TG:=V->St->Hp->(St->Hp->Prop)->Prop
abbrev TGs:=List V->St->Hp->(St->Hp->Prop)->Prop
def PG(X:Cx)(target:Expr)(t:TG):Prop:=
 ∀(pins:List (Addr×Obj)) (s:Shared) (σ:St) (H:Hp) (v:V) (u:Value) (Q:St->Hp->Prop),Inv X pins σ H s->zX v u->t v σ H Q->
  wpAny (model X.prog X.w) X.A (assign target X.env u) (fun _ s'=> ∃σ' H',Inv X pins σ' H' s'/\Q σ' H') X.xe s
def PGs(X:Cx)(ts:List Expr)(t:TGs):Prop:=
 ∀(pins:List (Addr×Obj)) (s:Shared) (σ:St) (H:Hp) (vs:List V) (us:List Value) (Q:St->Hp->Prop),Inv X pins σ H s->zT vs us->t vs σ H Q->
  wpAny (model X.prog X.w) X.A (assignInOrder ((assignEach ts X.env).map (·.2)) us) (fun _ s'=> ∃σ' H',Inv X pins σ' H' s'/\Q σ' H') X.xe s
abbrev zTS:=V->V->V->Hp->(Hp->Prop)->Prop
def zTO(X:Cx)(t:zTS):Prop:=
 ∀(pins:List (Addr×Obj)) (s:Shared) (σ:St) (H:Hp) (o i v:V) (ov iv u:Value) (Q:Hp->Prop),Inv X pins σ H s->zX o ov->zX i iv->zX v u->t o i v H Q->
  wpAny (model X.prog X.w) X.A (setItem ov iv u) (fun _ s'=> ∃H',Inv X pins σ H' s'/\Q H') X.xe s
section
variable {X:Cx}{pos:Pos}
def zBv(i:Nat):TG:=fun v σ H Q=>Q (σ.set i (some v)) H
theorem zOQ(hN:X.N.Nodup)(hi:X.N[i]?=some x)(hx:Loc X.env.scope x)(hf:X.fn x=true\/X.env.scope.names.lookup x=some .local:=by first | exact .inl rfl | exact .inr rfl | assumption):PG X (.Name x pos) (zBv i):=by
 intro pins s σ H v u Q I r h;exact wpAny_assign_Name (zCJ I hN hi hx r (fun s' I'=>⟨_,H,I',h⟩) hf)
def zRF:TGs:=fun vs σ H Q=>vs= [] /\Q σ H
inductive XCons (t:TG) (u:TGs) (vs:List V) (σ:St) (H:Hp) (Q:St->Hp->Prop):Prop
 | mk (v:V) (r:List V) (h:vs=v::r) (q:t v σ H fun σ' H'=>u r σ' H' Q)
def zNV(t:TG)(u:TGs):TGs:=fun vs σ H Q=>XCons t u vs σ H Q
theorem zOy:PGs X [] zRF:=by
 intro pins s σ H vs us Q I r h;obtain ⟨e,h⟩:=h;subst e;cases r;exact assignInOrder_nil ⟨σ,H,I,h⟩
theorem zMm(h1:PG X e t)(h2:PGs X es u)
  (hs:(assignEach (e::es) X.env).map (·.2)=assign e X.env::(assignEach es X.env).map (·.2):=by rfl):PGs X (e::es) (zNV t u):=by
 intro pins s σ H vs us Q I r h;obtain ⟨v,vr,e1,h⟩:=h;subst e1;cases r with
 | cons r rr=>
  rw [hs];refine assignInOrder_cons (zW (h1 pins s σ H _ _ _ I r h) fun _ s1 ⟨σ1,H1,I1,q1⟩=>?_);exact h2 pins s1 σ1 H1 _ _ Q I1 rr q1
inductive XTup (K:zUn) (n:Nat) (t:TGs) (v:V) (σ:St) (H:Hp) (Q:St->Hp->Prop):Prop
 | mk (a:Addr) (xs:List V) (h:v= .ref a) (h2:SqT K H a xs) (h3:xs.length=n) (q:t xs σ H Q)
def zPh(K:zUn)(n:Nat)(t:TGs):TG:=fun v σ H Q=>XTup K n t v σ H Q
theorem zQh(hc:X.calm=true)(h:PGs X es t)
  (hn:(assignEach es X.env).length=n:=by rfl) (hst:(assignEach es X.env).findIdx? (·.1)=none:=by rfl):PG X (.Tuple es k pos) (zPh X.K n t):=by
 intro pins s σ H v u Q I r hw;obtain ⟨a,xs,e1,hq,hl,hw⟩:=hw;subst e1;cases r;obtain ⟨its,rv,ht,hz⟩:=I.tuple hq;refine assign_Tuple_tuple (I.ok.hd hc) ht (by simp [hn,<-hl,rv.length]) hst fun h' hx=>?_;have I1:Inv X pins σ H {s with heap:=h'}:=I.kept (t':=s.toks) fun b o e=>hx b o (zUG (zUI e)) e;exact h pins _ σ H xs _ Q I1 (by simpa using rv) hw
def zEq(te:TE)(g:TG):TS:=fun D σ H=>te σ H fun x H1=>g x σ H1 D.nx
theorem zRb(he:PE X e te)(hg:PG X tg g)(hs:swapsWithSole [tg] e pos.line X.env=pure false:=by rfl)(hw:swappedStores [tg] e X.env=pure none:=by rfl)
  (h1:(assignEach [tg] X.env).map (·.2)= [assign tg X.env] :=by rfl):PS X (.Assign [tg] e pos) (zEq te g):=by
 intro pins s σ H D I h;refine wpAny_Assign_stores (zW (he pins s σ H _ I h) fun v s1 ⟨x,H1,I1,r1,q1⟩=>?_) hs hw;rw [h1];exact zW (hg pins s1 σ H1 x v _ I1 r1 q1) fun _ s2 q=>q
theorem zCT(hN:X.N.Nodup)(hi:X.N[i]?=some x)(hx:Loc X.env.scope x)(he:PE X e te)(hs:swapsWith e (some (.Name x pos')) pos.line X.env=pure false:=by rfl)(hf:X.fn x=true\/X.env.scope.names.lookup x=some .local:=by first | exact .inl rfl | exact .inr rfl | assumption):
  PS X (.Assign [.Name x pos'] e pos) (zEq te (zBv i)):=by
 intro pins s σ H D I h;refine wpAny_Assign_Name (zW (he pins s σ H _ I h) fun v s1 ⟨y,H1,I1,r1,q1⟩=>?_) hs;exact zCJ I1 hN hi hx r1 (fun s2 I2=>⟨_,H1,I2,q1⟩) hf
def zRT(i j:Nat)(ta:TA):TS:=fun D σ H=>ta σ H fun vs H1=> ∃v w,vs= [v,w] /\D.nx ((σ.set i (some v)).set j (some w)) H1
theorem zPX{kt k2 pt2}(hc:X.calm=true)(hN:X.N.Nodup)(hi:X.N[i]?=some x)(hj:X.N[j]?=some y)(hij:i≠j)
  (hx:X.env.scope.names.lookup x=some .local) (hy:X.env.scope.names.lookup y=some .local) (ha:PA X [a,b] ta)
  (hw:swappedStores [.Tuple [.Name x px,.Name y py] kt pt] (.Tuple [a,b] k2 pt2) X.env=pure (some [x,y]))
  (hs:swapsWithSole [.Tuple [.Name x px,.Name y py] kt pt] (.Tuple [a,b] k2 pt2) pos.line X.env=pure false:=by rfl):
  PS X (.Assign [.Tuple [.Name x px,.Name y py] kt pt] (.Tuple [a,b] k2 pt2) pos) (zRT i j ta):=by
 intro pins s σ H D I h;rw [exec_Assign_arm];refine zTz (wpAny_standAt ?_);rw [hs];refine zTz (zUE ?_);rw [if_neg (by decide)];refine zTz (Tuple_ (zW (ha _ pins s σ H _ I h) fun us s1 ⟨vs,H1,I1,r1,q1⟩=>?_));obtain ⟨v,w,e1,q1⟩:=q1;subst e1;obtain ⟨u1,u2,rfl,rv,rw'⟩: ∃u1 u2,us= [u1,u2] /\zX v u1/\zX w u2:=by
  cases r1 with
  | cons p q=>
   cases q with
   | cons p' q'=>
    cases q';exact ⟨_,_,rfl,p,p'⟩
 refine wpAny_newObj_type ?_ (by show 2<=sizeLine;decide);have I2:Inv X pins σ H1 {s1 with heap:=s1.heap.push {cls:= .type "tuple",data:= .seq [u1,u2].toArray}}:=I1.kept (t':=s1.toks) fun b o e=>zUA _ e;rw [hw];refine zTz (zUE ?_);show wpAny (model X.prog X.w) X.A (do rule "assign.swapped-stores";let items<-unpackItems (.ref s1.heap.objs.size) 2 none;assignInOrder [fun v=>bindName X.env y v,fun v=>bindName X.env x v] items.reverse;pure Flow.next) _ _ _;refine zTz (wpAny_rule (zTz (unpackItems_tuple (items:= #[u1,u2]) (I.ok.hd hc) (IsTup.new s1.heap _) fun h' hx'=>?_)));have I3:=I2.kept (h':=h') (t':=s1.toks) fun b o e=>hx' b o (zUG (zUI e)) e;show wpAny _ _ (assignInOrder [fun v=>bindName X.env y v,fun v=>bindName X.env x v] [u2,u1] >>=fun _=>pure Flow.next) _ _ _;refine zTz (assignInOrder_cons (wpAny_bindName (zCJ I3 hN hj (.inl hy) rw' (fun s2 I4=>?_) (.inr hy))));refine assignInOrder_cons (wpAny_bindName (zCJ I4 hN hi (.inl hx) rv (fun s3 I5=>assignInOrder_nil (zUE ?_)) (.inr hx)));rw [List.set_comm _ _ (Ne.symm hij)] at I5;exact ⟨_,H1,I5,q1⟩
def zHg(c:TT)(tb:TS):TS:=fun D σ H=> ∃W:Nat->St->Hp->Prop,(∃m,W m σ H)/\ ∀m σ H,W m σ H->
 c σ H fun b H1=>if b=true then∃N:St->Hp->Prop,(∀σ' H',N σ' H'-> ∃m',m'<m/\W m' σ' H')/\tb {D with nx:=N,ct:=N,bk:=D.nx} σ H1 else D.nx σ H1
theorem zHl(hp:PassesOwn (model X.prog X.w) X.A X.env X.xe)(hc:PT X c tc)(hb:PSs X body tb):PS X (.While c body [] pos) (zHg tc tb):=by
 intro pins s σ H D I h;obtain ⟨W,⟨m0,w0⟩,turn⟩:=h;refine wpAny_While (codeAny_whileLoop (fun n s'=> ∃σ' H',Inv X pins σ' H' s'/\W n σ' H') ?_ m0 ⟨σ,H,I,w0⟩);rintro n s1 ⟨σ1,H1,I1,w1⟩;refine wpAny_passesOwn hp (zW (hc pins s1 σ1 H1 _ I1 (turn n σ1 H1 w1)) fun b s2 ⟨H2,I2,q2⟩=>?_);cases b with
 | true=>
  obtain ⟨N,hN,q2⟩:=q2;rw [if_pos rfl];refine wpAny_passesOwn hp (zW (hb pins s2 σ1 H2 _ I2 q2) fun f s3 q3=>?_);cases f with
  | next=>
   obtain ⟨σ3,H3,I3,n3⟩:=q3;obtain ⟨m',hm,w3⟩:=hN σ3 H3 n3;exact ⟨m',hm,σ3,H3,I3,w3⟩
  | cont=>
   obtain ⟨σ3,H3,I3,n3⟩:=q3;obtain ⟨m',hm,w3⟩:=hN σ3 H3 n3;exact ⟨m',hm,σ3,H3,I3,w3⟩
  | brk=>exact q3
  | ret v=>exact q3
 | false=>
  rw [if_neg zUL];exact wpAny_execs_nil ⟨σ1,H2,I2,q2⟩
end
structure It where
 go:Nat->Hp->Prop
 yld:Nat->Hp->V->Hp->Prop
 stop:Nat->Hp->Prop
def zBi(X:Cx)(pins:List (Addr×Obj))(H:Hp)(b:Addr):Prop:=
 H b=none/\b≠X.env.locals/\b∉X.fs/\(b∈X.ex\/X.s₀.heap.objs.size<=b)/\(∀x c,X.env.cells.lookup x=some c->c≠b)/\ ∀p∈X.pn++pins,p.1≠b
theorem Inv.fpOk{X:Cx}(I:Inv X pins σ H s)(hb:s.heap.objs.size<=b)(hn:H' b=none):zBi X pins H' b:=by
 refine ⟨hn,zUg (zUH I.lt hb),I.nofs hb,.inr (zUM I.sz hb),fun x c e z=>?_,fun p hp z=>?_⟩
 ·obtain ⟨v,q⟩:=I.cell x c e;exact absurd (zUH q.lt (by rw [z];exact hb)) (Nat.lt_irrefl _)
 ·exact absurd (zUH (zUI (I.pin p hp).1) (by rw [z];exact hb)) (Nat.lt_irrefl _)
structure Turn(P:Program)(w:World)(K:zUn)(tg:Expr)(J:It)(fp:List Addr)(it:Addr)(tn:Nat->Heap->Prop):Prop where
 mem:it∈fp
 obj: ∀i h,tn i h-> ∀b∈fp,∃o,h.get? b=some o/\ ∀v,o.data≠ .cell v
 keep: ∀i h h',tn i h->(∀b∈fp,∀o,h.get? b=some o->h'.get? b=some o)->tn i h'
 item: ∀(X:Cx),X.prog=P->X.w=w->X.K=K->X.calm=true-> ∀(i:Nat) (pins:List (Addr×Obj)) (s:Shared) (σ:St) (H:Hp) (E:Value->Shared->Prop),Inv X pins σ H s->(∀b∈fp,zBi X pins H b)->tn i s.heap->J.go i H->
  wpAny (model P w) X.A (pyNext (.ref it)) (fun r s1=> ∃u,r=some u/\
   wpAny (model P w) X.A (letOwnedTupleGo tg (.ref it) u) (fun _ s2=> ∃x H',Inv X pins σ H' s2/\zX x u/\J.yld i H x H'/\tn (i+1) s2.heap/\ ∀b∈fp,H' b=none) E s1) E s
 done: ∀(X:Cx),X.prog=P->X.w=w->X.K=K->X.calm=true-> ∀(i:Nat) (pins:List (Addr×Obj)) (s:Shared) (σ:St) (H:Hp) (E:Value->Shared->Prop),Inv X pins σ H s->(∀b∈fp,zBi X pins H b)->tn i s.heap->J.stop i H->
  wpAny (model P w) X.A (pyNext (.ref it)) (fun r s1=>r=none/\Inv X pins σ H s1) E s
 self: ∀(A:Around) (i:Nat) (s:Shared) (Q:Value->Shared->Prop) (E:Value->Shared->Prop),tn i s.heap->Q (.ref it) s->wpAny (model P w) A (pyIter (.ref it)) Q E s
abbrev TI:=St->Hp->(It->Hp->Prop)->Prop
def PIE(X:Cx)(pins:List (Addr×Obj))(σ:St)(tg:Expr)(R:It->Hp->Prop)(itv:Value)(s2:Shared):Prop:=
 ∃(it:Addr) (fp:List Addr) (tn:Nat->Heap->Prop) (J:It) (H':Hp),itv= .ref it/\Inv X pins σ H' s2/\Turn X.prog X.w X.K tg J fp it tn/\tn 0 s2.heap/\(∀b∈fp,zBi X pins H' b)/\R J H'
def PI(X:Cx)(tg iter:Expr)(wi:TI):Prop:=
 ∀(pins:List (Addr×Obj)) (s:Shared) (σ:St) (H:Hp) (R:It->Hp->Prop),Inv X pins σ H s->wi σ H R->
  wpAny (model X.prog X.w) X.A (eval iter X.env) (fun v s1=>wpAny (model X.prog X.w) X.A (pyIter v) (PIE X pins σ tg R) X.xe s1) X.xe s
theorem zFj{M:Model}{E:Value->Shared->Prop}{n:String}{vs:Array Value}{Q:Unit->Shared->Prop}(ho:s.heap.get? it=some o)(hc:o.cls= .type n)(hd:o.data= .fields vs)
  (hn: ["enumerate","zip","dict_itemiterator","dict_reverseitemiterator","odict_iterator","itertools.zip_longest","itertools.pairwise"].contains n=false) (hQ:Q () s):wpAny M A (letOwnedTupleGo tg (.ref it) u) Q E s:=by
 unfold letOwnedTupleGo;cases tg<;>first
  | exact zUE hQ
  |(cases u<;>first
    | exact zUE hQ
    |(refine zTz (wpAny_load ho ?_)
      rw [hc,hd];show wpAny M A (if (["enumerate","zip","dict_itemiterator","dict_reverseitemiterator","odict_iterator","itertools.zip_longest","itertools.pairwise"].contains n&&vs[0]?==some (rawInt _))=true then _ else _) Q E s;rw [if_neg (by intro h;rw [hn,Bool.false_and] at h;cases h)];exact zUE hQ))
def Itl(K:zUn)(a:Addr):It:=
 ⟨fun i H=> ∃xs x,SqL K H a xs/\xs[i]?=some x,fun i H x H'=>H'=H/\ ∀xs,SqL K H a xs->xs[i]?=some x,fun i H=> ∃xs,SqL K H a xs/\xs.length<=i⟩
def Itt(K:zUn)(a:Addr):It:=
 ⟨fun i H=> ∃xs x,SqT K H a xs/\xs[i]?=some x,fun i H x H'=>H'=H/\ ∀xs,SqT K H a xs->xs[i]?=some x,fun i H=> ∃xs,SqT K H a xs/\xs.length<=i⟩
def Itr(lo:Int)(n:Nat):It:=⟨fun i _=>i<n,fun i H x H'=>H'=H/\x= .int (lo+i),fun i _=>n<=i⟩
theorem zLj{P:Program}{w:World}{K:zUn}{tg:Expr}(a it:Addr):Turn P w K tg (Itl K a) [it] it (fun i h=>h.IsListIter it a i) where
 mem:=by simp
 obj:=fun i h st b hb=>by
  have e:b=it:=by simpa using hb
  subst e;obtain ⟨o,e,c,d⟩:=st;exact ⟨o,e,fun v z=>by rw [d] at z;cases z⟩
 keep:=fun i h h' st k=>st.at fun o e=>k it (by simp) o e
 item:=by
  intro X hP hw hK hc i pins s σ H E I hf st hg;subst hP hw hK;obtain ⟨xs,x,hq,hx⟩:=hg;obtain ⟨its,rv,p,hz⟩:=I.list hq;obtain ⟨u,hu,ru⟩:=rv.get hx;obtain ⟨f0,f1,f2,f3,f4,f5⟩:=hf it (by simp);refine wpAny_pyNext_list_item st p.isList (x:=u) (by simpa using hu) fun h' st' sb=>?_;have I1:Inv X pins σ H {s with heap:=h'}:=I.turned (t':=s.toks) (fun b o hb e=>(sb.2 b hb).trans e) f0 f1 f3 f4 f5;obtain ⟨o,e,c,d⟩:=id st';exact ⟨u,rfl,zFj (s:={s with heap:=h'}) e c d (by decide) ⟨x,H,I1,ru,⟨rfl,fun ys hy=>by rw [I.list_inj hy hq];exact hx⟩,st',fun b hb=>(hf b hb).1⟩⟩
 done:=by
  intro X hP hw hK hc i pins s σ H E I hf st hg;subst hP hw hK;obtain ⟨xs,hq,hx⟩:=hg;obtain ⟨its,rv,p,hz⟩:=I.list hq;obtain ⟨f0,f1,f2,f3,f4,f5⟩:=hf it (by simp);have hl:=rv.length;exact wpAny_pyNext_list_end (I.ok.hd hc) st p.isList (by simp;omega) fun h' eb=>⟨rfl,I.turned (t':=s.toks) (fun b o hb e=>eb b o hb e) f0 f1 f3 f4 f5⟩
 self:=fun _ _ _ _ _ st h=>wpAny_pyIter_listiter st h
theorem zJg{P:Program}{w:World}{K:zUn}{tg:Expr}(a it:Addr):Turn P w K tg (Itt K a) [it] it (fun i h=>h.IsTupleIter it a i) where
 mem:=by simp
 obj:=fun i h st b hb=>by
  have e:b=it:=by simpa using hb
  subst e;obtain ⟨o,e,c,d⟩:=st;exact ⟨o,e,fun v z=>by rw [d] at z;cases z⟩
 keep:=fun i h h' st k=>st.at fun o e=>k it (by simp) o e
 item:=by
  intro X hP hw hK hc i pins s σ H E I hf st hg;subst hP hw hK;obtain ⟨xs,x,hq,hx⟩:=hg;obtain ⟨its,rv,p,hz⟩:=I.tuple hq;obtain ⟨u,hu,ru⟩:=rv.get hx;obtain ⟨f0,f1,f2,f3,f4,f5⟩:=hf it (by simp);refine wpAny_pyNext_tuple_item st (show s.heap.IsTuple a its.toArray from p) (x:=u) (by simpa using hu) fun h' st' sb=>?_;have I1:Inv X pins σ H {s with heap:=h'}:=I.turned (t':=s.toks) (fun b o hb e=>(sb.2 b hb).trans e) f0 f1 f3 f4 f5;obtain ⟨o,e,c,d⟩:=id st';exact ⟨u,rfl,zFj (s:={s with heap:=h'}) e c d (by decide) ⟨x,H,I1,ru,⟨rfl,fun ys hy=>by rw [I.tuple_inj hy hq];exact hx⟩,st',fun b hb=>(hf b hb).1⟩⟩
 done:=by
  intro X hP hw hK hc i pins s σ H E I hf st hg;subst hP hw hK;obtain ⟨xs,hq,hx⟩:=hg;obtain ⟨its,rv,p,hz⟩:=I.tuple hq;obtain ⟨f0,f1,f2,f3,f4,f5⟩:=hf it (by simp);have hl:=rv.length;exact wpAny_pyNext_tuple_end (I.ok.hd hc) st (show s.heap.IsTuple a its.toArray from p) (by simp;omega) fun h' eb=>⟨rfl,I.turned (t':=s.toks) (fun b o hb e=>eb b o hb e) f0 f1 f3 f4 f5⟩
 self:=fun _ _ _ _ _ st h=>wpAny_pyIter_tupleiter st h
theorem zJL{P:Program}{w:World}{K:zUn}{tg:Expr}(it:Addr)(lo:Int)(n:Nat):Turn P w K tg (Itr lo n) [it] it (fun i h=>IsRangeIter h it (lo+(i:Nat)*1) ((n:Int) -(i:Nat)) 1) where
 mem:=by simp
 obj:=fun i h st b hb=>by
  have e:b=it:=by simpa using hb
  subst e;exact ⟨_,st,fun v z=>by
   have z':Data.fields _=Data.cell v:=z;cases z'⟩
 keep:=fun i h h' st k=>k it (by simp) _ st
 item:=by
  intro X hP hw hK hc i pins s σ H E I hf st hg;subst hP hw hK;obtain ⟨f0,f1,f2,f3,f4,f5⟩:=hf it (by simp);have W:=Walks.range (prog:=X.prog) (w:=X.w) (I.ok.hd hc) it lo 1 n;refine W.item i s _ _ hg st fun v h' tk hv st' kk=>?_;obtain ⟨t,rfl⟩:=hv;have I1:Inv X pins σ H {s with heap:=h',toks:=tk}:=I.turned (fun b o hb e=>kk b o (by simpa using hb) e) f0 f1 f3 f4 f5;refine ⟨_,rfl,zFj (s:={s with heap:=h',toks:=tk}) (n:= "range_iterator") st' rfl rfl (by decide) ⟨.int (lo+i),H,I1,⟨t,?_⟩,⟨rfl,rfl⟩,st',fun b hb=>(hf b hb).1⟩⟩;rw [Int.mul_one]
 done:=by
  intro X hP hw hK hc i pins s σ H E I hf st hg;subst hP hw hK;obtain ⟨f0,f1,f2,f3,f4,f5⟩:=hf it (by simp);exact wpAny_pyNext_range_end (I.ok.hd hc) st (by have:n<=i:=hg;omega) fun h' eb=>⟨rfl,I.turned (t':=s.toks) (fun b o hb e=>eb b o hb e) f0 f1 f3 f4 f5⟩
 self:=fun _ _ _ _ _ st h=>wpAny_pyIter_rangeiter st h
section
variable {X:Cx}{tg:Expr}
inductive XIl (K:zUn) (x:V) (H:Hp) (R:It->Hp->Prop):Prop
 | mk (a:Addr) (h:x= .ref a) (h2: ∃xs,SqL K H a xs) (q:R (Itl K a) H)
def zNx(K:zUn)(tl:TE):TI:=fun σ H R=>tl σ H fun x H1=>XIl K x H1 R
inductive XIt (K:zUn) (x:V) (H:Hp) (R:It->Hp->Prop):Prop
 | mk (a:Addr) (h:x= .ref a) (h2: ∃xs,SqT K H a xs) (q:R (Itt K a) H)
def zQD(K:zUn)(tl:TE):TI:=fun σ H R=>tl σ H fun x H1=>XIt K x H1 R
theorem zOi{l:Expr}{tl:TE}(hl:PE X l tl):PI X tg l (zNx X.K tl):=by
 intro pins s σ H R I h;refine zW (hl pins s σ H _ I h) fun v s1 ⟨x,H1,I1,r1,q1⟩=>?_;obtain ⟨a,e,⟨xs,hq⟩,q⟩:=q1;subst e;cases r1;obtain ⟨its,rv,p,hz⟩:=I1.list hq;refine wpAny_pyIter_list p.isList ?_;refine ⟨s1.heap.objs.size,[s1.heap.objs.size],_,_,H1,rfl,I1.kept (t':=s1.toks) fun b o e=>zUA _ e,zLj a _,⟨_,zUQ _ rfl,rfl,rfl⟩,fun b hb=>?_,q⟩;have e:b=s1.heap.objs.size:=by simpa using hb
 subst e;exact I1.fpOk (zUC _) (I1.hok.fresh (zUC _))
theorem zQG{l:Expr}{tl:TE}(hl:PE X l tl):PI X tg l (zQD X.K tl):=by
 intro pins s σ H R I h;refine zW (hl pins s σ H _ I h) fun v s1 ⟨x,H1,I1,r1,q1⟩=>?_;obtain ⟨a,e,⟨xs,hq⟩,q⟩:=q1;subst e;cases r1;obtain ⟨its,rv,p,hz⟩:=I1.tuple hq;refine wpAny_pyIter_tuple (show s1.heap.IsTuple a its.toArray from p) ?_;refine ⟨s1.heap.objs.size,[s1.heap.objs.size],_,_,H1,rfl,I1.kept (t':=s1.toks) fun b o e=>zUA _ e,zJg a _,⟨_,zUQ _ rfl,rfl,rfl⟩,fun b hb=>?_,q⟩;have e:b=s1.heap.objs.size:=by simpa using hb
 subst e;exact I1.fpOk (zUC _) (I1.hok.fresh (zUC _))
theorem zMM{pins:List (Addr×Obj)}{σ:St}{H:Hp}{s:Shared}{R:It->Hp->Prop}{E:Value->Shared->Prop}{lo hi:Int}{t u v:Tok}{tk:Nat}(I:Inv X pins σ H s)(h1: -(2^62)<=lo)(h2:lo<2^62)(h3: -(2^62)<=hi)(h4:hi<2^62)
  (q:R (Itr lo (hi - lo).toNat) H):wpAny (model X.prog X.w) X.A (pyIter (.ref s.heap.objs.size)) (PIE X pins σ tg R) E {s with heap:=s.heap.push {cls:= .type "range",data:= .fields #[.int lo t,.int hi u,.int 1 v]},toks:=tk}:=by
 refine wpAny_pyIter_range (IsRange.new ..) (small_one h1 h2 h3 h4) ?_;have I1:Inv X pins σ H {s with heap:=s.heap.push {cls:= .type "range",data:= .fields #[.int lo t,.int hi u,.int 1 v]},toks:=tk}:=I.kept fun b o e=>zUA _ e;refine ⟨(s.heap.push {cls:= .type "range",data:= .fields #[.int lo t,.int hi u,.int 1 v]}).objs.size,[(s.heap.push {cls:= .type "range",data:= .fields #[.int lo t,.int hi u,.int 1 v]}).objs.size],_,_,H,rfl,
  I1.kept (t':=tk) fun b o e=>zUA _ e,zJL _ lo (hi - lo).toNat,?_,fun b hb=>?_,q⟩
 ·have e1:lo+((0:Nat):Int)*1=lo:=by simp
  have e2:(((hi - lo).toNat:Nat):Int) -((0:Nat):Int)=Builtin.Range.rangeSize lo hi 1:=by rw [rangeSize_one];split<;>omega
  show IsRangeIter _ _ (lo+((0:Nat):Int)*1) ((((hi - lo).toNat:Nat):Int) -((0:Nat):Int)) 1;rw [e1,e2];exact zUQ _ rfl
 ·have e:b=(s.heap.push {cls:= .type "range",data:= .fields #[.int lo t,.int hi u,.int 1 v]}).objs.size:=by simpa using hb
  subst e;exact I1.fpOk (zUC _) (I1.hok.fresh (zUC _))
def zNt(ta:TA):TI:=fun σ H R=>ta σ H fun vs H1=> ∃j:Int,vs= [.int j] /\ -(2^62)<=j/\j<2^62/\R (Itr 0 j.toNat) H1
theorem zLB{a:Expr}{ta:TA}{p pos:Pos}(hg:Gl X "range")(hm:X.mg "range" =none)(ha:PA X [a] ta)(hs:starEach [a] X.env= [(false,eval a X.env)] :=by rfl):PI X tg (.Call (.Name "range" p) [a] [] pos) (zNt ta):=by
 intro pins s σ H R I h;refine Call_ (zCN I hg hm boot_range (PyProof.Rows.callWith_type1 (zW (ha pos pins s σ H _ I h) fun us s1 ⟨vs,H1,I1,r1,q1⟩=>?_) hs rfl));obtain ⟨j,e,q1,q2,q⟩:=q1;subst e;cases r1 with
 | cons r rr=>
  cases rr;obtain ⟨t,rfl⟩:=r;exact call_range_1 (zMM I1 (by omega) (by omega) q1 q2 (by simpa using q))
def zPa(wi:TI)(g:TG)(tb:TS):TS:=fun D σ H=>wi σ H fun J H1=> ∃W:Nat->Nat->St->Hp->Prop,(∃m,W 0 m σ H1)/\ ∀i m σ H,W i m σ H->
 (J.stop i H/\D.nx σ H)\/(J.go i H/\ ∃N:St->Hp->Prop,(∀σ' H',N σ' H'-> ∃m',m'<m/\W (i+1) m' σ' H')/\ ∀x H',J.yld i H x H'->g x σ H' fun σ2 H2=>tb {D with nx:=N,ct:=N,bk:=D.nx} σ2 H2)
def zFO(fp:List Addr)(h:Heap):List (Addr×Obj):=fp.filterMap fun b=>(h.get? b).map fun o=>(b,o)
theorem zAW(hb:b∈fp)(e:h.get? b=some o):(b,o)∈zFO fp h:=List.mem_filterMap.mpr ⟨b,hb,by rw [e];rfl⟩
theorem zKb{p:Addr×Obj}(hp:p∈zFO fp h):p.1∈fp/\h.get? p.1=some p.2:=by
 obtain ⟨b,hb,e⟩:=List.mem_filterMap.mp hp;cases q:h.get? b with
 | none=>rw [q] at e;cases e
 | some o=>
  rw [q] at e;have e':(b,o)=p:=Option.some.inj e;subst e';exact ⟨hb,q⟩
theorem Inv.pinned(I:Inv X pins σ H s)(hf: ∀b∈fp,zBi X pins H b)(ho: ∀b∈fp,∃o,s.heap.get? b=some o/\ ∀v,o.data≠ .cell v):Inv X (pins++zFO fp s.heap) σ H s:=
 I.pins_of fun p hp=>(zUq.mp hp).elim (fun z=>I.pin p (zUO _ z)) fun z=>by
  obtain ⟨hb,e⟩:=zKb z;obtain ⟨f0,f1,f2,_⟩:=hf p.1 hb;obtain ⟨o,e',d⟩:=ho p.1 hb;rw [e] at e';cases e';exact ⟨e,f0,f1,f2,d⟩
theorem Inv.unpinned(I:Inv X (pins++pl) σ H s):Inv X pins σ H s:=I.pins_of fun p hp=>I.pin p (zUO _ (List.mem_append_left _ hp))
theorem zQy(hp:PassesOwn (model X.prog X.w) X.A X.env X.xe)(hc:X.calm=true)(hi:PI X tg iter wi)(hg:PG X tg g)(hb:PSs X body tb)
  (hs: ∀x,foldedSetIterable iter X.env x=pure x:=by intro _;rfl):PS X (.For tg iter body [] pos) (zPa wi g tb):=by
 intro pins s σ H D I h;refine wpAny_For (zW (hi pins s σ H _ I h) fun v s1 h1=>zW h1 fun itv s2 h2=>?_) hs;obtain ⟨it,fp,tn,J,H2,e,I2,T,st2,f2,W,⟨m0,w0⟩,turn⟩:=h2;subst e;have stat: ∀{H':Hp},(∀b∈fp,H' b=none)-> ∀b∈fp,zBi X pins H' b:=fun hn b hb=>⟨hn b hb,(f2 b hb).2⟩;refine codeAny_forLoop_any (fun n s'=> ∃i σ' H',Inv X pins σ' H' s'/\tn i s'.heap/\(∀b∈fp,H' b=none)/\W i n σ' H') ?_ m0 ⟨0,σ,H2,I2,st2,fun b hb=>(f2 b hb).1,w0⟩;rintro n s3 ⟨i,σ3,H3,I3,st3,fr3,w3⟩;rcases turn i n σ3 H3 w3 with ⟨stop,qn⟩|⟨go,N,hN,step⟩
 ·refine wpAny_passesOwn hp (zW (T.done X rfl rfl rfl hc i pins s3 σ3 H3 X.xe I3 (stat fr3) st3 stop) fun r s4 ⟨hr,I4⟩=>?_);subst hr;exact wpAny_execs_nil ⟨σ3,H3,I4,qn⟩
 ·refine wpAny_passesOwn hp (zW (T.item X rfl rfl rfl hc i pins s3 σ3 H3 X.xe I3 (stat fr3) st3 go) fun r s4 ⟨u,hr,h4⟩=>?_);subst hr;refine wpAny_passesOwn hp (zW h4 fun _ s5 ⟨x,H5,I5,r5,y5,st5,fr5⟩=>?_);have I5':=I5.pinned (stat fr5) (T.obj _ _ st5);refine wpAny_passesOwn hp (zW (hg _ s5 σ3 H5 x u _ I5' r5 (step x H5 y5)) fun _ s6 ⟨σ6,H6,I6,q6⟩=>?_);refine wpAny_passesOwn hp (zW (hb _ s6 σ6 H6 _ I6 q6) fun f s7 q7=>?_);have again: ∀{σ7:St} {H7:Hp},Inv X (pins++zFO fp s5.heap) σ7 H7 s7->N σ7 H7-> ∃m,m<n/\ ∃i σ' H',Inv X pins σ' H' s7/\tn i s7.heap/\(∀b∈fp,H' b=none)/\W i m σ' H':=fun {σ7 H7} I7 n7=>by
   obtain ⟨m',hm,w7⟩:=hN σ7 H7 n7;refine ⟨m',hm,i+1,σ7,H7,I7.unpinned,T.keep _ _ _ st5 fun b hb o e=>(I7.pin (b,o) (zUO _ (zUO _ (zAW hb e)))).1,fun b hb=>?_,w7⟩;obtain ⟨o,e,d⟩:=T.obj _ _ st5 b hb;exact (I7.pin (b,o) (zUO _ (zUO _ (zAW hb e)))).2.1
  cases f with
  | next=>obtain ⟨σ7,H7,I7,n7⟩:=q7;exact again I7 n7
  | cont=>obtain ⟨σ7,H7,I7,n7⟩:=q7;exact again I7 n7
  | brk=>obtain ⟨σ7,H7,I7,q7⟩:=q7;exact ⟨σ7,H7,I7.unpinned,q7⟩
  | ret v=>obtain ⟨x7,σ7,H7,I7,r7,q7⟩:=q7;exact ⟨x7,σ7,H7,I7.unpinned,r7,q7⟩
end
theorem zMa(Pv:St->Hp->Prop)(μ:St->Hp->Nat)(h0:Pv σ H)
  (hs: ∀σ H,Pv σ H->c σ H fun b H1=>if b=true then tb {D with nx:=fun σ' H'=>Pv σ' H'/\μ σ' H'<μ σ H,ct:=fun σ' H'=>Pv σ' H'/\μ σ' H'<μ σ H,bk:=D.nx} σ H1 else D.nx σ H1)
  (mono: ∀σ H Q Q',(∀b H1,Q b H1->Q' b H1)->c σ H Q->c σ H Q'):zHg c tb D σ H:=by
 refine ⟨fun m σ H=>m=μ σ H/\Pv σ H,⟨_,rfl,h0⟩,?_⟩;rintro m σ H ⟨rfl,p⟩;refine mono σ H _ _ (fun b H1 q=>?_) (hs σ H p);cases b with
 | true=>exact ⟨_,fun σ' H' ⟨p',l⟩=>⟨_,l,rfl,p'⟩,q⟩
 | false=>exact q
abbrev R2:=V->V->Hp->VK->Prop
def OpR(X:Cx)(f:Value->Value->Sem Value)(r:R2):Prop:=
 ∀(pins:List (Addr×Obj)) (s:Shared) (σ:St) (H:Hp) (x y:V) (v u:Value) (Q:VK),Inv X pins σ H s->zX x v->zX y u->r x y H Q->
  wpAny (model X.prog X.w) X.A (f v u) (EP X pins σ Q) X.xe s
def UnR(X:Cx)(f:Value->Sem Value)(r:V->Hp->VK->Prop):Prop:=
 ∀(pins:List (Addr×Obj)) (s:Shared) (σ:St) (H:Hp) (x:V) (v:Value) (Q:VK),Inv X pins σ H s->zX x v->r x H Q->
  wpAny (model X.prog X.w) X.A (f v) (EP X pins σ Q) X.xe s
def yY(X:Cx)(f:Value)(r:List V->Hp->VK->Prop):Prop:=
 ∀(pins:List (Addr×Obj)) (s:Shared) (σ:St) (H:Hp) (xs:List V) (us:List Value) (Q:VK),Inv X pins σ H s->zT xs us->r xs H Q->
  wpAny (model X.prog X.w) X.A (call f us) (EP X pins σ Q) X.xe s
def tOp(r:R2)(ta tb:TE):TE:=fun σ H Q=>ta σ H fun x H1=>tb σ H1 fun y H2=>r x y H2 Q
def tUn(r:V->Hp->VK->Prop)(ta:TE):TE:=fun σ H Q=>ta σ H fun x H1=>r x H1 Q
inductive XI (C:Int->Int->Prop) (g:Int->Int->V) (x y:V) (H:Hp) (Q:VK):Prop
 | mk (i j:Int) (h1:x= .int i) (h2:y= .int j) (h:C i j) (q:Q (g i j) H)
def rI(C:Int->Int->Prop)(g:Int->Int->V):R2:=fun x y H Q=>XI C g x y H Q
inductive XI0 (g:Int->Int->V) (x y:V) (H:Hp) (Q:VK):Prop
 | mk (i j:Int) (h1:x= .int i) (h2:y= .int j) (q:Q (g i j) H)
def rI0(g:Int->Int->V):R2:=fun x y H Q=>XI0 g x y H Q
inductive XU (g:Int->V) (x:V) (H:Hp) (Q:VK):Prop
 | mk (i:Int) (h1:x= .int i) (q:Q (g i) H)
def rU(g:Int->V):V->Hp->VK->Prop:=fun x H Q=>XU g x H Q
section
variable {X:Cx}{a b c:Expr}{ta tb tc:TE}{pos:Pos}
theorem zLr(ha:PE X a ta)(hb:PE X b tb){R:V->V->Hp->Prop}(I:Inv X pins σ H s)
  (h:ta σ H fun x H1=>tb σ H1 fun y H2=>R x y H2) {Q:Value->Shared->Prop} {f:Value->Value->Sem Value}
  (hf: ∀v u s2 x y H2,Inv X pins σ H2 s2->zX x v->zX y u->R x y H2->wpAny (model X.prog X.w) X.A (f v u) Q X.xe s2):
  wpAny (model X.prog X.w) X.A (eval a X.env) (fun v s₁=>wpAny (model X.prog X.w) X.A (eval b X.env) (fun u s₂=>wpAny (model X.prog X.w) X.A (f v u) Q X.xe s₂) X.xe s₁) X.xe s:=by
 refine zW (ha pins s σ H _ I h) fun v s1 ⟨x,H1,I1,r1,q1⟩=>?_;refine zW (hb pins s1 σ H1 _ I1 q1) fun u s2 ⟨y,H2,I2,r2,q2⟩=>?_;exact hf v u s2 x y H2 I2 r1 r2 q2
theorem zAc{op:Operator}(ho:OpR X (binaryOp op) r)(ha:PE X a ta)(hb:PE X b tb):PE X (.BinOp a op b pos) (tOp r ta tb):=by
 intro pins s σ H Q I h;exact wpAny_BinOp (zLr ha hb I h fun v u s2 x y H2 I2 rx ry q=>ho pins s2 σ H2 x y v u Q I2 rx ry q)
theorem zSY{op:UnaryOp}{r:V->Hp->VK->Prop}(ho:UnR X (unaryOp op) r)(ha:PE X a ta):PE X (.UnaryOp op a pos) (tUn r ta):=by
 intro pins s σ H Q I h;exact UnaryOp_ (zW (ha pins s σ H _ I h) fun v s1 ⟨x,H1,I1,r1,q1⟩=>ho pins s1 σ H1 x v Q I1 r1 q1)
theorem opI{f:Value->Value->Sem Value}{C:Int->Int->Prop}{g:Int->Int->Int}
  (rule: ∀(i j:Int) (t u:Tok) (s:Shared) (Q:Value->Shared->Prop) (E:Value->Shared->Prop),C i j->Q (.int (g i j) s.toks) {s with toks:=s.toks+1}->wpAny (model X.prog X.w) X.A (f (.int i t) (.int j u)) Q E s):
  OpR X f (rI C fun i j=> .int (g i j)):=by
 intro pins s σ H x y v u Q I rx ry h;obtain ⟨i,j,rfl,rfl,hc,q⟩:=h;obtain ⟨t,rfl⟩:=rx;obtain ⟨t',rfl⟩:=ry;exact rule i j t t' s _ _ hc ⟨.int (g i j),H,I.tok _,⟨_,rfl⟩,q⟩
theorem zPk{f:Value->Value->Sem Value}{g:Int->Int->Int}
  (rule: ∀(i j:Int) (t u:Tok) (s:Shared) (Q:Value->Shared->Prop) (E:Value->Shared->Prop),Q (.int (g i j) s.toks) {s with toks:=s.toks+1}->wpAny (model X.prog X.w) X.A (f (.int i t) (.int j u)) Q E s):
  OpR X f (rI0 fun i j=> .int (g i j)):=by
 intro pins s σ H x y v u Q I rx ry h;obtain ⟨i,j,rfl,rfl,q⟩:=h;obtain ⟨t,rfl⟩:=rx;obtain ⟨t',rfl⟩:=ry;exact rule i j t t' s _ _ ⟨.int (g i j),H,I.tok _,⟨_,rfl⟩,q⟩
theorem zMt{f:Value->Value->Sem Value}{g:Int->Int->Bool}
  (rule: ∀(i j:Int) (t u:Tok) (s:Shared) (Q:Value->Shared->Prop) (E:Value->Shared->Prop),Q (.bool (g i j)) s->wpAny (model X.prog X.w) X.A (f (.int i t) (.int j u)) Q E s):
  OpR X f (rI0 fun i j=> .bl (g i j)):=by
 intro pins s σ H x y v u Q I rx ry h;obtain ⟨i,j,rfl,rfl,q⟩:=h;obtain ⟨t,rfl⟩:=rx;obtain ⟨t',rfl⟩:=ry;exact rule i j t t' s _ _ ⟨.bl (g i j),H,I,rfl,q⟩
def zRP(i j:Int):Prop:=0<j/\j<1073741824
def zQc(i j:Int):Prop:=0<=j/\j<=1000000/\i.natAbs<2^64
def zJs(i j:Int):Prop:=(-(2^64)<i/\i<2^64)\/(-(2^64)<j/\j<2^64)
theorem zJs.ok(h:zJs i j):IntMulOk i j:=by
 rcases h with ⟨h1,h2⟩|⟨h1,h2⟩
 ·exact .of_left (intBits_le_64 h1 h2)
 ·exact .of_right (intBits_le_64 h1 h2)
theorem zFN:OpR X (binaryOp .Add) (rI0 fun i j=> .int (i+j)):=zPk fun _ _ _ _ _ _ _ q=>add_int q
theorem zPb:OpR X (binaryOp .Sub) (rI0 fun i j=> .int (i - j)):=zPk fun _ _ _ _ _ _ _ q=>sub_int q
theorem zCP:OpR X (binaryOp .Mult) (rI zJs fun i j=> .int (i*j)):=opI fun _ _ _ _ _ _ _ hc q=>mul_int q hc.ok
theorem zOJ:OpR X (binaryOp .FloorDiv) (rI zRP fun i j=> .int (i/j)):=opI fun i j _ _ _ _ _ hc q=>by
 have h1:(0:Int)<j:=hc.1;have h2:j<1073741824:=hc.2;exact floordiv_int (by omega) (by rw [Int.fdiv_eq_ediv_of_nonneg i (by omega)];exact q) (.inl (PyProof.noPylong_small (by omega)))
theorem zCO:OpR X (binaryOp .Mod) (rI (fun _ j=>0<j) fun i j=> .int (i % j)):=opI fun i j _ _ _ _ _ hc q=>by
 have h1:(0:Int)<j:=hc;exact mod_int' (by omega) (by rw [Int.fmod_eq_emod_of_nonneg i (by omega)];exact q)
theorem zPw:OpR X (binaryOp .Pow) (rI zQc fun i j=> .int (i^j.toNat)):=opI fun _ _ _ _ _ _ _ hc q=>pow_int_small hc.1 hc.2.1 hc.2.2 q
theorem unI{f:Value->Sem Value}{g:Int->Int}
  (rule: ∀(i:Int) (t:Tok) (s:Shared) (Q:Value->Shared->Prop) (E:Value->Shared->Prop),Q (.int (g i) s.toks) {s with toks:=s.toks+1}->wpAny (model X.prog X.w) X.A (f (.int i t)) Q E s):
  UnR X f (rU fun i=> .int (g i)):=by
 intro pins s σ H x v Q I rx h;obtain ⟨i,rfl,q⟩:=h;obtain ⟨t,rfl⟩:=rx;exact rule i t s _ _ ⟨.int (g i),H,I.tok _,⟨_,rfl⟩,q⟩
theorem zRY:UnR X (unaryOp .USub) (rU fun i=> .int (-i)):=unI fun _ _ _ _ _ q=>neg_int q
def zMc:V->V->Bool
 | .non,.non=>true | .non,.int _=>true | .int _,.non=>true | .non,.bl _=>true | .bl _,.non=>true | .non,.str _=>true | .str _,.non=>true
 | .int _,.int _=>true | .bl _,.bl _=>true | .str _,.str _=>true | .byt _,.byt _=>true
 | .int _,.str _=>true | .str _,.int _=>true | .bl _,.str _=>true | .str _,.bl _=>true
 | _,_=>false
def rEq:R2:=fun x y H Q=>zMc x y=true/\Q (.bl (decide (x=y))) H
def rNe:R2:=fun x y H Q=>zMc x y=true/\Q (.bl (!decide (x=y))) H
theorem zIn:decide (V.int i=V.int j)=(i==j):=by
 rw [zUv];simp
theorem zLP:decide (V.bl i=V.bl j)=(i==j):=by
 rw [zUv];simp
theorem zIr:decide (V.str i=V.str j)=(i==j):=by
 rw [zUv];simp
theorem zJF{i j:Array UInt8}:decide (V.byt i=V.byt j)=(i.toList==j.toList):=by
 rw [zUv];cases i;cases j;simp
theorem zu(I:Inv X pins σ H s)(q:Q (.bl k) H)(e:k=k'):EP X pins σ Q (.bool k') s:=by
 subst e;exact ⟨.bl k,H,I,rfl,q⟩
theorem zZ:OpR X (compareOp .Eq) rEq:=by
 intro pins s σ H x y v u Q I rx ry h;obtain ⟨hs,q⟩:=h;cases x with
 | non=>
  cases rx;cases y with
  | non=>cases ry;exact PySem.EqNone.eq_none_none (zu I q (by simp))
  | bl j=>cases ry;exact PySem.EqNone.eq_none_bool (zu I q (by simp))
  | int j=>obtain ⟨t',rfl⟩:=ry;exact PySem.EqNone.eq_none_int (zu I q (by simp))
  | str j=>obtain ⟨t',rfl⟩:=ry;exact PySem.EqNone.eq_none_str (zu I q (by simp))
  | _=>exact absurd (show false=true from hs) zUL
 | bl i=>
  cases rx;cases y with
  | non=>cases ry;exact PySem.EqNone.eq_bool_none (zu I q (by simp))
  | bl j=>cases ry;exact eq_bool (zu I q zLP)
  | str j=>obtain ⟨t',rfl⟩:=ry;exact PySem.EqMixed.eq_bool_str (zu I q (by simp))
  | _=>exact absurd (show false=true from hs) zUL
 | int i=>
  obtain ⟨t,rfl⟩:=rx;cases y with
  | non=>cases ry;exact PySem.EqNone.eq_int_none (zu I q (by simp))
  | int j=>obtain ⟨t',rfl⟩:=ry;exact eq_int (zu I q zIn)
  | str j=>obtain ⟨t',rfl⟩:=ry;exact PySem.EqMixed.eq_int_str (zu I q (by simp))
  | _=>exact absurd (show false=true from hs) zUL
 | str i=>
  obtain ⟨t,rfl⟩:=rx;cases y with
  | non=>cases ry;exact PySem.EqNone.eq_str_none (zu I q (by simp))
  | bl j=>cases ry;exact PySem.EqMixed.eq_str_bool (zu I q (by simp))
  | int j=>obtain ⟨t',rfl⟩:=ry;exact PySem.EqMixed.eq_str_int (zu I q (by simp))
  | str j=>obtain ⟨t',rfl⟩:=ry;exact eq_str (zu I q zIr)
  | _=>exact absurd (show false=true from hs) zUL
 | byt i=>
  obtain ⟨t,rfl⟩:=rx;cases y with
  | byt j=>obtain ⟨t',rfl⟩:=ry;exact PySem.W.eq_bytes (zu I q zJF)
  | _=>exact absurd (show false=true from hs) zUL
 | _=>cases y<;>exact absurd (show false=true from hs) zUL
theorem yw:OpR X (compareOp .NotEq) rNe:=by
 intro pins s σ H x y v u Q I rx ry h;obtain ⟨hs,q⟩:=h;cases x with
 | non=>
  cases rx;cases y with
  | non=>cases ry;exact PySem.EqNone.ne_none_none (zu I q (by simp))
  | bl j=>cases ry;exact PySem.EqNone.ne_none_bool (zu I q (by simp))
  | int j=>obtain ⟨t',rfl⟩:=ry;exact PySem.EqNone.ne_none_int (zu I q (by simp))
  | str j=>obtain ⟨t',rfl⟩:=ry;exact PySem.EqNone.ne_none_str (zu I q (by simp))
  | _=>exact absurd (show false=true from hs) zUL
 | bl i=>
  cases rx;cases y with
  | non=>cases ry;exact PySem.EqNone.ne_bool_none (zu I q (by simp))
  | bl j=>cases ry;exact ne_bool (zu I q (congrArg not zLP))
  | str j=>obtain ⟨t',rfl⟩:=ry;exact PySem.EqMixed.ne_bool_str (zu I q (by simp))
  | _=>exact absurd (show false=true from hs) zUL
 | int i=>
  obtain ⟨t,rfl⟩:=rx;cases y with
  | non=>cases ry;exact PySem.EqNone.ne_int_none (zu I q (by simp))
  | int j=>obtain ⟨t',rfl⟩:=ry;exact ne_int (zu I q (congrArg not zIn))
  | str j=>obtain ⟨t',rfl⟩:=ry;exact PySem.EqMixed.ne_int_str (zu I q (by simp))
  | _=>exact absurd (show false=true from hs) zUL
 | str i=>
  obtain ⟨t,rfl⟩:=rx;cases y with
  | non=>cases ry;exact PySem.EqNone.ne_str_none (zu I q (by simp))
  | bl j=>cases ry;exact PySem.EqMixed.ne_str_bool (zu I q (by simp))
  | int j=>obtain ⟨t',rfl⟩:=ry;exact PySem.EqMixed.ne_str_int (zu I q (by simp))
  | str j=>obtain ⟨t',rfl⟩:=ry;exact ne_str (zu I q (congrArg not zIr))
  | _=>exact absurd (show false=true from hs) zUL
 | byt i=>
  obtain ⟨t,rfl⟩:=rx;cases y with
  | byt j=>obtain ⟨t',rfl⟩:=ry;exact PySem.W.ne_bytes (zu I q (congrArg not zJF))
  | _=>exact absurd (show false=true from hs) zUL
 | _=>cases y<;>exact absurd (show false=true from hs) zUL
theorem zDd:OpR X (compareOp .Lt) (rI0 fun i j=> .bl (decide (i<j))):=zMt fun _ _ _ _ _ _ _ q=>lt_int q
theorem zBb:OpR X (compareOp .LtE) (rI0 fun i j=> .bl (decide (i<=j))):=zMt fun _ _ _ _ _ _ _ q=>le_int q
theorem zBx:OpR X (compareOp .Gt) (rI0 fun i j=> .bl (decide (j<i))):=zMt fun _ _ _ _ _ _ _ q=>gt_int q
theorem zDy(b:Expr){op:CmpOp}(h:op≠ .In:=by decide)(h2:op≠ .NotIn:=by decide):behindInMarks op b=false:=by
 have e1:(op==CmpOp.In)=false:=by cases op<;>first | rfl | exact absurd rfl h
 have e2:(op==CmpOp.NotIn)=false:=by cases op<;>first | rfl | exact absurd rfl h2
 cases b<;>simp [behindInMarks,e1,e2]
theorem zIq{op:CmpOp}(ho:OpR X (compareOp op) r)(ha:PE X a ta)(hb:PE X b tb)(hm:behindInMarks op b=false):PE X (.Compare a [op] [b] pos) (tOp r ta tb):=by
 intro pins s σ H Q I h;exact wpAny_Compare1 (zLr ha hb I h fun v u s2 x y H2 I2 rx ry q=>ho pins s2 σ H2 x y v u Q I2 rx ry q) hm
def zHI(t:TE):TT:=fun σ H Q=>t σ H fun x H'=>XB x H' Q
theorem zDD{op:CmpOp}(ho:OpR X (compareOp op) r)(ha:PE X a ta)(hb:PE X b tb)(hm:behindInMarks op b=false):PT X (.Compare a [op] [b] pos) (zHI (tOp r ta tb)):=by
 intro pins s σ H Q I h;refine wpAny_isTrue_Compare1 (zW (ha pins s σ H _ I h) fun v s1 ⟨x,H1,I1,r1,q1⟩=>zW (hb pins s1 σ H1 _ I1 q1) fun u s2 ⟨y,H2,I2,r2,q2⟩=>
  zW (ho pins s2 σ H2 x y v u _ I2 r1 r2 q2) fun c s3 ⟨z,H3,I3,r3,k,e,q3⟩=>?_) hm
 subst e;cases r3;exact zUj ⟨H3,I3,q3⟩
def zFZ(r r':R2)(ta tb tc:TE):TE:=fun σ H Q=>ta σ H fun x H1=>tb σ H1 fun y H2=>r x y H2 fun z H3=> ∃k,z= .bl k/\
 (if k=true then tc σ H3 fun w' H4=>r' y w' H4 Q else Q (.bl false) H3)
theorem zMC{op op':CmpOp}(ho:OpR X (compareOp op) r)(ho':OpR X (compareOp op') r')(ha:PE X a ta)(hb:PE X b tb)(hc:PE X c tc)
  (hm:lastMarks [op,op'] [b,c] =false:=by with_unfolding_all rfl):PE X (.Compare a [op,op'] [b,c] pos) (zFZ r r' ta tb tc):=by
 intro pins s σ H Q I h;refine Compare_chain (zW (ha pins s σ H _ I h) fun v s1 ⟨x,H1,I1,r1,q1⟩=>chain_link (zW (hb pins s1 σ H1 _ I1 q1) fun u s2 ⟨y,H2,I2,r2,q2⟩=>
  zW (ho pins s2 σ H2 x y v u _ I2 r1 r2 q2) fun d s3 ⟨z,H3,I3,r3,k,e,q3⟩=>?_)) hm
 subst e;cases r3;refine zUj ?_;cases k with
 | false=>exact ite_ff ⟨.bl false,H3,I3,rfl,q3⟩
 | true=>exact ite_tt (chain_last (zW (hc pins s3 σ H3 _ I3 q3) fun w' s4 ⟨z',H4,I4,r4,q4⟩=>ho' pins s4 σ H4 y z' u w' Q I4 r2 r4 q4))
theorem zMk{op op':CmpOp}(ho:OpR X (compareOp op) r)(ho':OpR X (compareOp op') r')(ha:PE X a ta)(hb:PE X b tb)(hc:PE X c tc)
  (hm:lastMarks [op,op'] [b,c] =false:=by with_unfolding_all rfl):PT X (.Compare a [op,op'] [b,c] pos) (zHI (zFZ r r' ta tb tc)):=by
 intro pins s σ H Q I h;refine isTrue_chain (zW (ha pins s σ H _ I h) fun v s1 ⟨x,H1,I1,r1,q1⟩=>test_link (zW (hb pins s1 σ H1 _ I1 q1) fun u s2 ⟨y,H2,I2,r2,q2⟩=>
  zW (ho pins s2 σ H2 x y v u _ I2 r1 r2 q2) fun d s3 ⟨z,H3,I3,r3,k,e,q3⟩=>?_)) hm
 subst e;cases r3;refine zUj ?_;cases k with
 | false=>
  obtain ⟨k',e',q'⟩:=q3;cases e';exact ite_ff ⟨H3,I3,q'⟩
 | true=>
  refine ite_tt (test_last (zW (hc pins s3 σ H3 _ I3 q3) fun w' s4 ⟨z',H4,I4,r4,q4⟩=>zW (ho' pins s4 σ H4 y z' u w' _ I4 r2 r4 q4) fun d' s5 ⟨z2,H5,I5,r5,k2,e2,q5⟩=>?_));subst e2;cases r5;exact zUj ⟨H5,I5,q5⟩
theorem zCI:(sizeLine:Nat)<2^63:=by rw [zUJ];decide
theorem zFY:OpR X (binaryOp .Add) (fun x y H Q=> ∃i j,x= .str i/\y= .str j/\i.length+j.length<=sizeLine/\Q (.str (i++j)) H):=by
 intro pins s σ H x y v u Q I rx ry h;obtain ⟨i,j,rfl,rfl,hz,q⟩:=h;obtain ⟨t,rfl⟩:=rx;obtain ⟨t',rfl⟩:=ry;exact add_str (fun t' tk=>⟨.str (i++j),H,I.tok _,⟨_,rfl⟩,q⟩) hz
theorem zAY(r:zT [x] us): ∃u,us= [u] /\zX x u:=by
 cases r with
 | cons r1 r2=>cases r2;exact ⟨_,rfl,r1⟩
theorem zSJ(r:zT [x,y] us): ∃u w',us= [u,w'] /\zX x u/\zX y w':=by
 cases r with
 | cons r1 r2=>
  cases r2 with
  | cons r3 r4=>cases r4;exact ⟨_,_,rfl,r1,r3⟩
theorem zGf(hc:X.calm=true):yY X (.builtin "max") (fun xs H Q=> ∃i j,xs= [.int i,.int j] /\Q (.int (if j>i then j else i)) H):=by
 intro pins s σ H xs us Q I r h;obtain ⟨i,j,rfl,q⟩:=h;obtain ⟨u,w',rfl,⟨t,rfl⟩,⟨t',rfl⟩⟩:=zSJ r;refine max_two_ints (I.ok.hd hc) fun h' tk k=>⟨_,H,I.kept k,?_,q⟩;by_cases hj:j>i
 ·rw [if_pos hj,if_pos hj];exact ⟨_,rfl⟩
 ·rw [if_neg hj,if_neg hj];exact ⟨_,rfl⟩
theorem zKd:yY X (.type "int") (fun xs H Q=>(∃i,xs= [.int i] /\Q (.int i) H)\/ ∃k,xs= [.bl k] /\Q (.int (if k then 1 else 0)) H):=by
 intro pins s σ H xs us Q I r h;rcases h with ⟨i,rfl,q⟩|⟨k,rfl,q⟩
 ·obtain ⟨u,rfl,t,rfl⟩:=zAY r;exact call_int_int ⟨.int i,H,I,⟨_,rfl⟩,q⟩
 ·obtain ⟨u,rfl,r1⟩:=zAY r;cases r1;exact call_int_bool ⟨.int (if k then 1 else 0),H,I.tok _,⟨_,rfl⟩,q⟩
end
structure ObjM(h:Heap)(x dx C:Addr)(mA:Str->Option Value):Prop where
 obj:h.get? x=some (PySem.W.instObj C dx)
 ns:h.Ns1 dx mA
 ne:dx≠x
theorem zGN{h:Heap}{dx:Addr}{mA:Str->Option Value}(n:h.Ns1 dx mA): ∃od,h.get? dx=some od/\ ∀name,PySem.W.lookIn name od=some (mA name):=by
 obtain ⟨o,es,ep,ho,hd,hk,_,hm⟩:=n;refine ⟨o,ho,fun name=>?_⟩;have e:=hm name;unfold nsFind findBy at e;rw [<-Array.find?_toList] at e;unfold PySem.W.lookIn;rw [hd];dsimp only;split
 ·rename_i y q
  rw [q] at e;exact congrArg some e
 ·rename_i q
  rw [q] at e;have a:es.toList.any (·.refKey)=false:=by
   rw [List.any_eq_false];intro y hy;obtain ⟨z,t,hkey⟩:=hk y (Array.mem_toList_iff.mp hy);simp [DictEntry.refKey,hkey]
  have a': ¬es.toList.any (·.refKey)=true:=by rw [a];exact zUL
  rw [if_neg a'];exact congrArg some e
theorem ObjM.look(I:ObjM h x dx C mA): ∃od,PySem.W.InstAt h x (PySem.W.instObj C dx) C (some od)/\ ∀name,PySem.W.lookIn name od=some (mA name):=
 let ⟨od,ho,hl⟩:=zGN I.ns
 ⟨od,⟨I.obj,rfl,rfl,ho⟩,hl⟩
section
variable {prog:Program}{w:World}{A:Around}{E:Value->Shared->Prop}{s:Shared}{K:zUn}{x dx C f:Addr}{mA:Str->Option Value}{name:Str}{v:Value}
theorem zOl{Q:Value->Shared->Prop}(X:K.In s.heap)(I:ObjM s.heap x dx C mA)(hg:PySem.W.plainGet K C name=true)(hh:PySem.W.hasDictIn K C=true)
  (ha:PySem.W.findIn K (.ref C) name=some none) (hv:mA name=some v) (hv':PySem.W.handedIn v=true) (h:Q v {s with toks:=s.toks+1}):
  wpAny (model prog w) A (getAttr (.ref x) name expr) Q E s:=by
 obtain ⟨od,J,hl⟩:=I.look;exact PySem.W.get_value X J (PySem.W.plainGet_of hg).1 (PySem.W.findObj_own hh ha rfl (by rw [hl,hv])) hv' h
theorem zMH{Q:Value×List Value->Shared->Prop}(X:K.In s.heap)(I:ObjM s.heap x dx C mA)(hg:PySem.W.plainGet K C name=true)
  (hf:PySem.W.findIn K (.ref C) name=some (some (.ref f))) (ht:PySem.W.isFn K (.ref f)=true) (hv:mA name=none) (h:Q (.ref f,[.ref x]) s):
  wpAny (model prog w) A (getMethod (.ref x) name pl) Q E s:=by
 obtain ⟨od,J,hl⟩:=I.look;exact PySem.W.method_fn X J (PySem.W.plainGet_of hg).1 (PySem.W.plainGet_of hg).2 hf (beq_iff_eq.mp ht) (by show (PySem.W.lookIn name od).map (·.isSome)=some false;rw [hl,hv];rfl) h
theorem zOF{Q:Unit->Shared->Prop}(X:K.In s.heap)(I:ObjM s.heap x dx C mA)
  (hs:PySem.W.findIn K (.ref C) "__setattr__" =some (some (.builtin "object.__setattr__"))) (hp:PySem.W.plainOver K C=true) (ht:PySem.W.takerIn K C name=some none) (hh:PySem.W.hasDictIn K C=true)
  (hw:PySem.Within mA ns) (hsz:ns.length<=sizeLine)
  (h: ∀h',ObjM h' x dx C (fun y=>if y=name then some v else mA y)->Heap.SameBut dx s.heap h'->Q () {s with heap:=h',toks:=s.toks+2}):
  wpAny (model prog w) A (setAttr (.ref x) name v) Q E s:=by
 obtain ⟨od,J,hl⟩:=I.look;refine PySem.W.set_plain X J hs (PySem.W.osa_open (s:={s with toks:=s.toks+1}) (r:=none) X J hp ht fun b=>?_);obtain ⟨cd,hc,hd'⟩:=PySem.W.any_some hh;have hx:s.heap.get? x=some ⟨.ref C,some dx,.plain,#[]⟩:=I.obj;refine zTz (zUE (zTz (zTz (wpAny_loadPart hx (zTz (PySem.W.Looks.here (s:={s with toks:=s.toks+1}) (PySem.W.looks_clsIn X hc) ?_))))));rw [hd'];refine zUE (a:=some dx) (zTz (zUE (zTz ?_)));refine wpAny_nsSet1 (s:={s with toks:=s.toks+1}) I.ns fun h' hn2 hs2=>?_;obtain ⟨oD,esD,epD,hoD,hdD,hcD⟩:=hn2.count (PySem.Within.cons name v hw);refine zTz (wpAny_lookBehind hoD (by rw [hdD];exact pastItsLine_dict (zUM hcD (by rw [zUu];omega))) ?_);exact zUE (h _ ⟨(hs2.2 _ (Ne.symm I.ne)).trans I.obj,hn2,I.ne⟩ hs2)
theorem zLz{R:Result->Shared->Prop}{kw:List (Str×Value)}(X:K.In s.heap)(hm:PySem.W.makesIn K C=true)
  (hi:PySem.W.findIn K (.ref C) "__init__" =some (some (.ref f))) (hf:PySem.W.typeIn K (.ref f)=some (.type "function"))
  (h:codeAny (model prog w) (A.under (.builtin "type.__call__" ⟨.ref C::vs,kw⟩)) (.call (.ref f) ⟨.ref (s.heap.objs.size+1)::vs,kw⟩) (PySem.W.InitBack (s.heap.objs.size+1) R)
   {s with heap:=(s.heap.push PySem.W.emptyDict).push (PySem.W.instObj C s.heap.objs.size)}):
  codeAny (model prog w) A (.call (.ref C) ⟨vs,kw⟩) R s:=by
 obtain ⟨hh,g,d,t,os⟩:=s;exact PySem.W.make_core (PySem.W.makes_of X hm) (PySem.W.looks_findIn X hi) (fun self=>PySem.W.bind_fn X self hf) (.inl rfl) h
end
def yr(f:Str)(v:V):List (Str×V)->List (Str×V)
 | [] => [(f,v)]
 |(g,x)::r=>if g=f then (g,v)::r else (g,x)::yr f v r
theorem zBE(f g:Str)(v:V): ∀fs:List (Str×V),(yr f v fs).lookup g=if g=f then some v else fs.lookup g
 | [] =>by
  show List.lookup g [(f,v)] =_;by_cases h:g=f
  ·have hb:(g==f)=true:=beq_iff_eq.mpr h;simp only [List.lookup,hb,if_pos h]
  ·have hb:(g==f)=false:=beq_eq_false_iff_ne.mpr h;simp only [List.lookup,hb,if_neg h]
 |(k,x)::r=>by
  have ih:=zBE f g v r;rw [show yr f v ((k,x)::r)=(if k=f then (k,v)::r else (k,x)::yr f v r) from rfl];by_cases hk:k=f
  ·rw [if_pos hk];by_cases h:g=k
   ·have hb:(g==k)=true:=beq_iff_eq.mpr h;simp only [List.lookup,hb,if_pos (h.trans hk)]
   ·have hb:(g==k)=false:=beq_eq_false_iff_ne.mpr h;simp only [List.lookup,hb,if_neg (fun e:g=f=>h (e.trans hk.symm))]
  ·rw [if_neg hk];by_cases h:g=k
   ·have hb:(g==k)=true:=beq_iff_eq.mpr h;simp only [List.lookup,hb,if_neg (fun e:g=f=>hk (h.symm.trans e))]
   ·have hb:(g==k)=false:=beq_eq_false_iff_ne.mpr h;simp only [List.lookup,hb];exact ih
theorem zBr(f:Str)(v:V): ∀fs:List (Str×V),f∈(yr f v fs).map (·.1)/\ ∀g,g∈fs.map (·.1)->g∈(yr f v fs).map (·.1)
 | [] =>⟨by simp [yr],fun g h=>by simp at h⟩
 |(k,x)::r=>by
  obtain ⟨i1,i2⟩:=zBr f v r;rw [show yr f v ((k,x)::r)=(if k=f then (k,v)::r else (k,x)::yr f v r) from rfl];by_cases hk:k=f
  ·rw [if_pos hk];subst hk;exact ⟨by simp,fun g h=>by simpa using h⟩
  ·rw [if_neg hk];refine ⟨?_,fun g h=>?_⟩
   ·rw [zUr];exact zUd _ i1
   ·rw [zUr] at h⊢;rcases zUo.mp h with e | e
    ·exact zUo.mpr (.inl e)
    ·exact zUd _ (i2 g e)
theorem zEY(f:Str)(v:V): ∀fs:List (Str×V),(yr f v fs).length<=fs.length+1
 | [] =>by simp [yr]
 |(k,x)::r=>by
  have ih:=zEY f v r;rw [show yr f v ((k,x)::r)=(if k=f then (k,v)::r else (k,x)::yr f v r) from rfl];by_cases hk:k=f
  ·rw [if_pos hk,zUu,zUu];omega
  ·rw [if_neg hk,zUu,zUu];omega
theorem zAQ.some_of{o:Option Value}(r:zAQ (some v) o): ∃u,o=some u/\zX v u:=by
 cases o with
 | none=>exact (show False from r).elim
 | some u=>exact ⟨u,rfl,r⟩
theorem zAQ.none_of{o:Option Value}(r:zAQ none o):o=none:=by
 cases o with
 | none=>rfl
 | some u=>exact (show False from r).elim
theorem zGU(r:zX v u):PySem.W.handedIn u=true:=by
 cases v with
 | non=>cases (show u=Value.none from r);rfl
 | bl b=>cases (show u=Value.bool b from r);rfl
 | int i=>obtain ⟨t,e⟩:=(show∃t,u=Value.int i t from r);cases e;rfl
 | str x=>obtain ⟨t,e⟩:=(show∃t,u=Value.str x t from r);cases e;rfl
 | byt b=>obtain ⟨t,e⟩:=(show∃t,u=Value.bytes b t from r);cases e;rfl
 | flt b=>obtain ⟨t,e⟩:=(show∃t,u=Value.float b t from r);cases e;rfl
 | ref a=>cases (show u=Value.ref a from r);rfl
 | ty n=>cases (show u=Value.type n from r);rfl
section
variable {P:Program}{w:World}{H H':Hp}{h h':Heap}{a C dx:Addr}{fs fs':List (Str×V)}
theorem zEO(hok:HOk P w H h)(e:H a=some (.ins C dx fs)): ∃mA,ObjM h a dx C mA/\(∀f,zAQ (fs.lookup f) (mA f))/\PySem.Within mA (fs.map (·.1))/\fs.length<=1000/\H dx=some (.own a):=by
 obtain ⟨d,z,ne,ob,mA,n,r,q⟩:=(show zo P w H h a (.ins C dx fs) from hok a _ e);exact ⟨mA,⟨ob,n,ne⟩,r,q,z,d⟩
end
structure Cls(K:zUn)(C:Addr):Prop where
 pg:PySem.W.plainGet K C Str.empty=true
 hd:PySem.W.hasDictIn K C=true
 po:PySem.W.plainOver K C=true
 sa:PySem.W.findIn K (.ref C) "__setattr__" =some (some (.builtin "object.__setattr__"))
theorem Cls.get{K:zUn}{C:Addr}(c:Cls K C)(f:Str):PySem.W.plainGet K C f=true:=c.pg
def yO(K:zUn)(C:Addr)(f:Str):Prop:=PySem.W.findIn K (.ref C) f=some none
theorem yO.taker{K:zUn}{C:Addr}{f:Str}(n:yO K C f):PySem.W.takerIn K C f=some none:=by
 unfold PySem.W.takerIn;rw [show PySem.W.findIn K (.ref C) f=some none from n];rfl
structure Meth(K:zUn)(C:Addr)(m:Str)(f:Addr):Prop where
 at_:PySem.W.findIn K (.ref C) m=some (some (.ref f))
 fn:PySem.W.isFn K (.ref f)=true
 kp:PySem.W.keepIn K (.ref f)=true
section
variable {X:Cx}{pins:List (Addr×Obj)}{σ:St}{H:Hp}{s:Shared}{a C dx:Addr}{fs:List (Str×V)}{f:Str}{v:V}{A:Around}{E:Value->Shared->Prop}
theorem zJb{Q:Value->Shared->Prop}(I:Inv X pins σ H s)(e:H a=some (.ins C dx fs))(c:Cls X.K C)(n:yO X.K C f)(l:fs.lookup f=some v)
  (h: ∀u s',Inv X pins σ H s'->zX v u->Q u s'):wpAny (model X.prog X.w) A (getAttr (.ref a) f b) Q E s:=by
 obtain ⟨mA,O,r,_,_,_⟩:=zEO I.hok e;obtain ⟨u,hu,ru⟩:=zAQ.some_of (v:=v) (o:=mA f) (by rw [<-l];exact r f);exact zOl I.kIn O (c.get f) c.hd n hu (zGU ru) (h u _ (I.tok _) ru)
theorem zFe{Q:Value×List Value->Shared->Prop}(I:Inv X pins σ H s)(e:H a=some (.ins C dx fs))(c:Cls X.K C)(k:Meth X.K C m g)(l:fs.lookup m=none)
  (h:Q (.ref g,[.ref a]) s):wpAny (model X.prog X.w) A (getMethod (.ref a) m pl) Q E s:=by
 obtain ⟨mA,O,r,_,_,_⟩:=zEO I.hok e;have hn:mA m=none:=zAQ.none_of (by rw [<-l];exact r m);exact zMH I.kIn O (c.get m) k.at_ k.fn hn h
theorem zJH{Q:Unit->Shared->Prop}(I:Inv X pins σ H s)(e:H a=some (.ins C dx fs))(c:Cls X.K C)(n:yO X.K C f)(hl:fs.length<1000)(ry:zX y u)
  (h: ∀s',Inv X pins σ (upd H a (.ins C dx (yr f y fs))) s'->Q () s'):wpAny (model X.prog X.w) A (setAttr (.ref a) f u) Q E s:=by
 obtain ⟨mA,O,r,wi,_,ho⟩:=zEO I.hok e;have hz:(fs.map (·.1)).length<=sizeLine:=by rw [zUF,zUJ];omega
 refine zOF I.kIn O c.sa c.po n.taker c.hd wi hz fun h' O' sb=>h _ ?_;have hd: ∃o,h'.get? dx=some o:=let ⟨o,_,_,e',_⟩:=O'.ns;⟨o,e'⟩;refine I.write (x:=a) (e:=dx) (by rw [e];exact True.intro) (.inr ho) (fun b q hb z=>(sb.2 b hb).trans z) hd ?_;refine ⟨by rw [zN O.ne];exact ho,?_,O.ne,O'.obj,_,O'.ns,fun g=>?_,fun g hg=>?_⟩
 ·have:=zEY f y fs;omega
 ·show zAQ ((yr f y fs).lookup g) (if g=f then some u else mA g);rw [zBE];by_cases q:g=f
  ·rw [if_pos q,if_pos q];exact ry
  ·rw [if_neg q,if_neg q];exact r g
 ·by_cases q:g=f
  ·rw [q];exact (zBr f y fs).1
  ·refine (zBr f y fs).2 g (wi g fun z=>hg ?_);show (if g=f then some u else mA g)=none;rw [if_neg q];exact z
theorem Inv.made(I:Inv X pins σ H s):Inv X pins σ (upd (upd H s.heap.objs.size (.own (s.heap.objs.size+1))) (s.heap.objs.size+1) (.ins C s.heap.objs.size []))
  {s with heap:=(s.heap.push PySem.W.emptyDict).push (PySem.W.instObj C s.heap.objs.size)}:=by
 have e1:(s.heap.push PySem.W.emptyDict).get? s.heap.objs.size=some PySem.W.emptyDict:=zUQ s.heap rfl;have e2:((s.heap.push PySem.W.emptyDict).push (PySem.W.instObj C s.heap.objs.size)).get? (s.heap.objs.size+1)=some (PySem.W.instObj C s.heap.objs.size):=by
  have:=zUQ (s.heap.push PySem.W.emptyDict) (o:=PySem.W.instObj C s.heap.objs.size) rfl
  rwa [Heap.size_push] at this
 have e3:(s.heap.push PySem.W.emptyDict).Ns s.heap.objs.size (fun _=>none):=⟨PySem.W.emptyDict,#[],_,e1,rfl,(fun e he=>absurd he (by simp)),fun _=>rfl⟩;have I1:=I.laid (a:=s.heap.objs.size) (o:= .own (s.heap.objs.size+1)) (h':=s.heap.push PySem.W.emptyDict) (t':=s.toks) (fun b u q=>zUA _ q) (zUC _) ⟨_,e1⟩;refine I1.laid (a:=s.heap.objs.size+1) (o:= .ins C s.heap.objs.size []) (t':=s.toks) (fun b u q=>zUA _ q) (Nat.le_of_eq (Heap.size_push _ _)) ?_;have ne:s.heap.objs.size≠s.heap.objs.size+1:=zUG (Nat.lt_succ_self _);refine ⟨by rw [zN ne,zE],zUN _,ne,e2,fun _=>none,(Heap.Ns1.of_empty e3).at fun o q=>zUA _ q,fun _=>True.intro,fun y hy=>absurd rfl hy⟩
theorem zIl{Q:Value->Shared->Prop}(hb:attributeBase e f env (eval e env)=eval e env)
  (h:wpAny (model prog w) A (eval e env) (fun o s₁=>wpAny (model prog w) A (getAttr o f true) Q E s₁) E s):wpAny (model prog w) A (eval (.Attribute e f pos) env) Q E s:=
 Attribute_any_ h (by rw [arm_eval_Attribute,hb])
end
inductive XFld (K:zUn) (f:Str) (x:V) (H1:Hp) (Q:VK):Prop
 | mk (a C dx:Addr) (fs:List (Str×V)) (v:V) (h1:x= .ref a) (h2:H1 a=some (.ins C dx fs)) (h3:Cls K C) (h4:yO K C f) (h5:fs.lookup f=some v) (q:Q v H1)
def zPf(K:zUn)(ta:TE)(f:Str):TE:=fun σ H Q=>ta σ H fun x H1=>XFld K f x H1 Q
inductive XSf (K:zUn) (f:Str) (x y:V) (H2:Hp) (Q:Hp->Prop):Prop
 | mk (a C dx:Addr) (fs:List (Str×V)) (h1:x= .ref a) (h2:H2 a=some (.ins C dx fs)) (h3:Cls K C) (h4:yO K C f) (h5:fs.length<1000) (q:Q (upd H2 a (.ins C dx (yr f y fs))))
def zQv(K:zUn)(ta tv:TE)(f:Str):TS:=fun D σ H=>tv σ H fun y H1=>ta σ H1 fun x H2=>XSf K f x y H2 fun H3=>D.nx σ H3
section
variable {X:Cx}{o e value:Expr}{f:Str}{pos pos' tpos:Pos}{ta tv:TE}
theorem zQU(he:PE X e ta)(hb:attributeBase e f X.env (eval e X.env)=eval e X.env):PE X (.Attribute e f pos) (zPf X.K ta f):=by
 intro pins s σ H Q I h;refine zIl hb (zW (he pins s σ H _ I h) fun u s1 ⟨x,H1,I1,rx,a,C,dx,fs,v,ex,ea,c,n,l,q⟩=>?_);subst ex;obtain rfl:u=Value.ref a:=rx;exact zJb I1 ea c n l fun u' s2 I2 ru=>⟨v,H1,I2,ru,q⟩
theorem zPl(ha:PE X o ta)(hv:PE X value tv)(hs:swapsWith value (some (.Attribute o f pos')) pos.line X.env=pure false):PS X (.Assign [.Attribute o f pos'] value pos) (zQv X.K ta tv f):=by
 intro pins s σ H D I h;refine plainObj_wpAny_Assign_Attribute (zW (hv pins s σ H _ I h) fun u s1 ⟨y,H1,I1,ry,q⟩=>zW (ha pins s1 σ H1 _ I1 q) fun ov s2 ⟨x,H2,I2,rx,a,C,dx,fs,ex,ea,c,n,l,q2⟩=>?_) hs;subst ex;obtain rfl:ov=Value.ref a:=rx;exact zJH I2 ea c n l ry fun s3 I3=>⟨σ,_,I3,q2⟩
end
section
variable {X:Cx}{pins:List (Addr×Obj)}{σ:St}{H:Hp}{s:Shared}{A:Around}{E:Value->Shared->Prop}{Q:Value->Shared->Prop}{c:Value}{b:Bool}
inductive TyOf (K:zUn) (H:Hp):V->Value->Prop where
 | non:TyOf K H .non (.type "NoneType")
 | bl (x:Bool):TyOf K H (.bl x) (.type "bool")
 | int (i:Int):TyOf K H (.int i) (.type "int")
 | str (x:Str):TyOf K H (.str x) (.type "str")
 | flt (x:UInt64):TyOf K H (.flt x) (.type "float")
 | lst {a:Addr} {xs:List V} (e:H a=some (.lst xs)):TyOf K H (.ref a) (.type "list")
 | frz {a:Addr} {o:Obj} {xs:List V} (e:H a=some (.frz o (.lst xs))):TyOf K H (.ref a) (.type "list")
 | tup {a:Addr} {xs:List V} (e:H a=some (.tup xs)):TyOf K H (.ref a) (.type "tuple")
 | dK {a:Addr} {kvs:List (Key×V)} (e:H a=some (.dK kvs)):TyOf K H (.ref a) (.type "dict")
 | dT {a:Addr} {kvs:List (List Key×V)} (e:H a=some (.dT kvs)):TyOf K H (.ref a) (.type "dict")
 | ins {a C dx:Addr} {fs:List (Str×V)} (e:H a=some (.ins C dx fs)) (cl:Cls K C) (ha:PySem.W.findIn K (.ref C) "__class__" =some (some (.builtin "object.__class__")))
   (hn:PySem.W.specialIn K (.builtin "object.__class__") "__get__" =some (some (.builtin "getset_descriptor.__get__"))) (htk:PySem.W.takesIn K (.builtin "object.__class__")=some true)
   (hm:PySem.W.mroIn K C (.type "object")=some true):TyOf K H (.ref a) (.ref C)
theorem zLR(I:Inv X pins σ H s)(rx:zX x u)(ty:TyOf X.K H x t)(e:PySem.W.kitOne X.K t c=some b)(h: ∀tk,Q (.bool b) {s with toks:=tk}):
  wpAny (model X.prog X.w) A (call (.builtin "isinstance") [u,c]) Q E s:=by
 cases ty with
 | non=>cases (show u=Value.none from rx);exact zUh PySem.W.kitx_none I.kIn True.intro e (fun z=>nomatch z) h
 | bl y=>cases (show u=Value.bool y from rx);exact zUh PySem.W.kitx_bool I.kIn True.intro e (fun z=>nomatch z) h
 | int i=>obtain ⟨t,q⟩:=(show∃t,u=Value.int i t from rx);cases q;exact zUh PySem.W.kitx_int I.kIn True.intro e (fun z=>nomatch z) h
 | str y=>obtain ⟨t,q⟩:=(show∃t,u=Value.str y t from rx);cases q;exact zUh PySem.W.kitx_str I.kIn True.intro e (fun z=>nomatch z) h
 | flt y=>obtain ⟨t,q⟩:=(show∃t,u=Value.float y t from rx);cases q;exact zUh PySem.W.kitx_float I.kIn True.intro e (fun z=>nomatch z) h
 | @lst a xs ea=>
  cases (show u=Value.ref a from rx);obtain ⟨_,_,n,_,h1⟩:=(show zo X.prog X.w H s.heap a (.lst xs) from I.hok a _ ea);exact zUh PySem.W.kitx_list I.kIn ⟨_,h1,rfl⟩ e (fun z=>nomatch z) h
 | @frz a ob xs ea=>
  cases (show u=Value.ref a from rx);obtain ⟨_,_,_,n,_,h1⟩:=(show zo X.prog X.w H s.heap a (.frz ob (.lst xs)) from I.hok a _ ea);exact zUh PySem.W.kitx_list I.kIn ⟨_,h1,rfl⟩ e (fun z=>nomatch z) h
 | @tup a xs ea=>
  cases (show u=Value.ref a from rx);obtain ⟨_,_,_,p⟩:=(show zo X.prog X.w H s.heap a (.tup xs) from I.hok a _ ea);obtain ⟨o,h1,h2,_⟩:=p;exact zUh PySem.W.kitx_tuple I.kIn ⟨o,h1,h2⟩ e (fun z=>nomatch z) h
 | @dK a kvs ea=>
  cases (show u=Value.ref a from rx);obtain ⟨_,_,vs,_,p⟩:=(show zo X.prog X.w H s.heap a (.dK kvs) from I.hok a _ ea);obtain ⟨o,es,ep,h1,h2,_⟩:=p;exact zUh PySem.W.kitx_dict I.kIn ⟨o,h1,h2.1⟩ e (fun z=>nomatch z) h
 | @dT a kvs ea=>
  cases (show u=Value.ref a from rx);obtain ⟨_,_,xs,_,o,es,ep,h1,h2,_⟩:=(show zo X.prog X.w H s.heap a (.dT kvs) from I.hok a _ ea);exact zUh PySem.W.kitx_dict I.kIn ⟨o,h1,h2.1⟩ e (fun z=>nomatch z) h
 | @ins a C dx fs ea cl ha hn htk hm=>
  cases (show u=Value.ref a from rx);obtain ⟨mA,O,_⟩:=zEO I.hok ea;obtain ⟨od,J,_⟩:=O.look;exact zUh (PySem.W.kitx_own (cl.get _) cl.hd ha hn htk hm) I.kIn J e (fun z=>nomatch z) h
end
structure Room(k:Nat)(A:Around):Prop where
 hd:A.handled=none
 dp:A.depth+3*k+5<recursionLimit
 un:A.units+16*k+200<cLine
 gd:A.guards=some []
theorem Room.mono(r:Room k A)(h:j<=k):Room j A:=⟨r.hd,by have:=r.dp;omega,by have:=r.un;omega,r.gd⟩
theorem Room.deeper(r:Room (k+1) A)(env:Env):Room k (A.deeper env):=
 ⟨r.hd,by have:=r.dp;show A.depth+1+3*k+5<_;omega,by have:=r.un;show A.units+3+16*k+200<_;omega,r.gd⟩
theorem zJh{A:Around}{C:Addr}{us:List Value}{kw:List (Str×Value)}:(A.under (.builtin "type.__call__" ⟨.ref C::us,kw⟩)).depth=A.depth+1:=by
 first | rfl | simp [Around.under,Code.weight,Code.isCreation,Code.isGuard,Code.isCaller,Code.frames,Code.isFrame,guardIds]
theorem zJi{A:Around}{C:Addr}{us:List Value}{kw:List (Str×Value)}:(A.under (.builtin "type.__call__" ⟨.ref C::us,kw⟩)).units=A.units+1:=by
 first | rfl | simp [Around.under,Code.cUnits,Code.frames,Code.isFrame]
theorem zIS{A:Around}{C:Addr}{us:List Value}{kw:List (Str×Value)}:(A.under (.builtin "type.__call__" ⟨.ref C::us,kw⟩)).guards=A.guards:=by
 show pushGuards [] A.guards=A.guards;cases A.guards<;>rfl
theorem Room.make{k:Nat}{A:Around}(r:Room (k+1) A)(C:Addr)(us:List Value)(kw:List (Str×Value)):Room k (A.under (.builtin "type.__call__" ⟨.ref C::us,kw⟩)):=
 ⟨r.hd,by have:=r.dp;rw [zJh];omega,by have:=r.un;rw [zJi];omega,zIS.trans r.gd⟩
theorem Room.depth(r:Room k A):A.depth<recursionLimit:=by have:=r.dp;omega
theorem Room.units(r:Room k A):A.units+64<cLine:=by have:=r.un;omega
def zDK:TA:=fun _ H Q=>Q [] H
def zBy(ta:TE)(tr:TA):TA:=fun σ H Q=>ta σ H fun x H1=>tr σ H1 fun xs H2=>Q (x::xs) H2
section
variable {X:Cx}{e:Expr}{es:List Expr}{te:TE}{t:TA}{pos:Pos}
theorem yf:PA X [] zDK:=fun _ _ _ _ H Q I h=>Calls.spliced_nil ⟨[],H,I,.nil,h⟩
theorem zy(ha:PE X e te)(hr:PA X es t)(hs:starEach (e::es) X.env=(false,eval e X.env)::starEach es X.env:=by rfl):PA X (e::es) (zBy te t):=by
 intro pos pins s σ H Q I h;rw [hs];show wpAny _ _ (spliced ((false,eval e X.env)::backTo pos (starEach es X.env))) _ _ s;refine Calls.spliced_cons (zW (ha pins s σ H _ I h) fun u s1 ⟨x,H1,I1,r1,q1⟩=>?_);exact zW (hr pos pins s1 σ H1 _ I1 q1) fun us s2 ⟨xs,H2,I2,r2,q2⟩=>⟨x::xs,H2,I2,.cons r1 r2,q2⟩
inductive XMk (o:HO) (n:Nat) (H:Hp) (Q:VK):Prop
 | mk (h:n<=sizeLine) (q: ∀p,H p=none->Q (.ref p) (upd H p o))
def zQO(t:TA):TE:=fun σ H Q=>t σ H fun xs H1=>XMk (.tup xs) xs.length H1 Q
def zRA(t:TA):TE:=fun σ H Q=>t σ H fun xs H1=>XMk (.lst xs) xs.length H1 Q
theorem zRa{x1}(h:PA X es t):PE X (.Tuple es x1 pos) (zQO t):=by
 intro pins s σ H Q I hq;refine wpAny_Tuple_spliced (zW (h pos pins s σ H _ I hq) fun us s1 ⟨xs,H1,I1,r,z,q⟩=>⟨by rw [<-r.length];exact z,?_⟩);have hf:H1 s1.heap.objs.size=none:=I1.hok.fresh (zUC _);refine ⟨.ref s1.heap.objs.size,upd H1 s1.heap.objs.size (.tup xs),I1.laid (t':=s1.toks) (fun b u e=>zUA _ e) (zUC _) ?_,rfl,q _ hf⟩;exact ⟨z,us,r,⟨_,zUQ _ rfl,rfl,⟨_,rfl⟩,rfl⟩⟩
theorem zLk(h:PA X es t):PE X (.List es pos) (zRA t):=by
 intro pins s σ H Q I hq;refine wpAny_List_spliced (zW (h pos pins s σ H _ I hq) fun us s1 ⟨xs,H1,I1,r,z,q⟩=>⟨by rw [<-r.length];exact z,?_⟩);have hf:H1 s1.heap.objs.size=none:=I1.hok.fresh (zUC _);refine ⟨.ref s1.heap.objs.size,upd H1 s1.heap.objs.size (.lst xs),I1.laid (t':=s1.toks) (fun b u e=>zUA _ e) (zUC _) ?_,rfl,q _ hf⟩;exact ⟨z,us,0,r,zUQ _ rfl⟩
end
abbrev Sp:=List V->Hp->VK->XK->Prop
abbrev CXT:=List Env->Hp->Shared->XK->Value->Shared->Prop
structure Env0(P:Program)(w:World)(K:zUn)(mg:Str->Option Value)(base:Heap)(A:Around)(outer:List Env)(s:Shared)(H:Hp):Prop where
 frames:A.frames=some outer
 mod:Mod K mg base
 bs: ∀b o,base.get? b=some o->s.heap.get? b=some o/\H b=none
 bsz:base.objs.size<=s.heap.objs.size
 funs:s.heap.FunFrames base outer
 frf: ∀b∈yy outer,H b=none
 hok:HOk P w H s.heap
 bare:AllBare s.gens
def CE(outer:List Env)(P:Program)(w:World)(H:Hp)(s:Shared)(Q:VK)(u:Value)(s':Shared):Prop:=
 ∃v H',s'.os=s.os/\AllBare s'.gens/\Un (yy outer) [] H H' s.heap s'.heap/\HOk P w H' s'.heap/\zX v u/\Q v H'
def CR(CX:CXT)(outer:List Env)(P:Program)(w:World)(H:Hp)(s:Shared)(Q:VK)(E:XK)(r:Result)(s':Shared):Prop:=
 match r with
 | .ok (.ret u)=>CE outer P w H s Q u s'
 | .ok _=>False
 | .error e=>CX outer H s E e s'
structure FnOk(P:Program)(w:World)(K:zUn)(mg:Str->Option Value)(base:Heap)(CX:CXT)(k:Nat)(f:Addr)(fd:FuncData)(ps:List Str)(sp:Sp):Prop where
 len: ∀vs H Q E,sp vs H Q E->vs.length=ps.length
 run: ∀(A:Around) (outer:List Env) (s:Shared) (H:Hp) (args:Args) (us:List Value) (vs:List V) (Q:VK) (E:XK),Room k A->Env0 P w K mg base A outer s H->BindsTo s fd args (ps.zip us)->zT vs us->sp vs H Q E->
  codeAny (model P w) A (.call (.ref f) args) (CR CX outer P w H s Q E) s
theorem Env0.make{P:Program}{w:World}{K:zUn}{mg:Str->Option Value}{base:Heap}{A:Around}{outer:List Env}{s:Shared}{H:Hp}(e:Env0 P w K mg base A outer s H)(C:Addr)(us:List Value)(kw:List (Str×Value)):
  Env0 P w K mg base (A.under (.builtin "type.__call__" ⟨.ref C::us,kw⟩)) outer s H:=⟨by first | exact e.frames |(simpa [Around.under,Code.envs,Code.isFrame,pushEnvs] using e.frames),e.mod,e.bs,e.bsz,e.funs,e.frf,e.hok,e.bare⟩
section
variable {X:Cx}{pins:List (Addr×Obj)}{σ:St}{H:Hp}{s s':Shared}
theorem Inv.env0(I:Inv X pins σ H s):Env0 X.prog X.w X.K X.mg X.base X.A X.stack s H:=
 ⟨I.ok.frames,I.ok.mod,I.bs,zUM I.ok.bsz I.sz,I.stack,I.stkFree,I.hok,I.bare⟩
theorem Inv.after(I:Inv X pins σ H s)(h:CE X.stack X.prog X.w H s Q u s'):EP X pins σ Q u s':=by
 obtain ⟨v,H',os,bare,un,hok,r,q⟩:=h;obtain ⟨hh,g,d,t,os'⟩:=s';obtain rfl:os'=s.os:=os;exact ⟨v,H',I.call (h':=hh) (g':=g) (d':=d) (t':=t) (ch:= []) un hok bare (fun b z=>absurd z (by simp)),r,q⟩
end
def zNM(sp:Sp)(dvs:List V)(E:XK)(t:TA):TE:=fun σ H Q=>t σ H fun vs H1=>sp (vs++dvs) H1 Q E
inductive XMeth (C:Addr) (m:Str) (sp:Sp) (dvs:List V) (E:XK) (t:TA) (x:V) (σ:St) (H1:Hp) (Q:VK):Prop
 | mk (a dx:Addr) (fs:List (Str×V)) (h1:x= .ref a) (h2:H1 a=some (.ins C dx fs)) (h3:fs.lookup m=none) (q:t σ H1 fun vs H2=>sp (x::(vs++dvs)) H2 Q E)
def zNm(C:Addr)(m:Str)(sp:Sp)(dvs:List V)(E:XK)(ta:TE)(t:TA):TE:=fun σ H Q=>ta σ H fun x H1=>XMeth C m sp dvs E t x σ H1 Q
def zNl(C:Addr)(sp:Sp)(dvs:List V)(E:XK)(t:TA):TE:=fun σ H Q=>t σ H fun vs H1=> ∀x dx,H1 x=none->H1 dx=none->dx≠x->
 sp (.ref x::(vs++dvs)) (upd (upd H1 dx (.own x)) x (.ins C dx [])) (fun v H2=>v= .non/\Q (.ref x) H2) E
def zO(K:zUn)(fd:FuncData)(ps:List Str)(ds:List Value):Prop:=
 ∀(s:Shared) (us:List Value),K.In s.heap->(us++ds).length=ps.length->BindsTo s fd ⟨us,[]⟩ (ps.zip (us++ds))
theorem zO.all{K:zUn}{fd:FuncData}{ps:List Str}(h: ∀us:List Value,us.length=ps.length->bindArgs fd ⟨us,[]⟩=pure (ps.zip us)):zO K fd ps [] :=fun s us _ hl=>by
 rw [zUX] at hl⊢;exact .of_eq (h us hl)
def zAm(CX:CXT)(X:Cx)(E:XK):Prop:= ∀(pins:List (Addr×Obj)) (σ:St) (H:Hp) (s:Shared) (e:Value) (s':Shared),Inv X pins σ H s->CX X.stack H s E e s'->X.xe e s'
section
variable {X:Cx}{CX:CXT}{k:Nat}{f C:Addr}{fd:FuncData}{ps:List Str}{sp:Sp}{dvs:List V}{ds:List Value}{E:XK}{x m:Str}{p pos apos:Pos}{e o:Expr}{es:List Expr}{ta:TE}{t:TA}
theorem zLi(F:FnOk X.prog X.w X.K X.mg X.base CX k f fd ps sp)(hr:Room k X.A)(hb:zO X.K fd ps ds)(hd:zT dvs ds)(hx:zAm CX X E)
  (I:Inv X pins σ H s) (r:zT vs us) (h:sp (vs++dvs) H Q E):wpAny (model X.prog X.w) X.A (call (.ref f) us) (EP X pins σ Q) X.xe s:=by
 have r2:zT (vs++dvs) (us++ds):=r.append hd;have hl:(us++ds).length=ps.length:=by rw [<-r2.length];exact F.len _ _ _ _ h
 refine wpAny_call (zUl (F.run X.A X.stack s H ⟨us,[]⟩ (us++ds) (vs++dvs) Q E hr I.env0 (hb s us I.kIn hl) r2 h) fun r s' hq=>?_);cases r with
 | error e=>exact hx pins σ H s e s' I hq
 | ok fl=>
  cases fl with
  | ret u=>exact I.after hq
  | next=>exact False.elim hq
  | brk=>exact False.elim hq
  | cont=>exact False.elim hq
theorem zCE(F:FnOk X.prog X.w X.K X.mg X.base CX k f fd ps sp)(hr:Room k X.A)(hg:Gl X x)(hm:X.mg x=some (.ref f))(hk:PySem.W.keepIn X.K (.ref f)=true)(hb:zO X.K fd ps ds)(hd:zT dvs ds)(hx:zAm CX X E)
  (ha:PA X (e::es) t) (hdb:(x==("__debug__" :Str))=false:=by decide) (he:starEach (e::es) X.env=(false,eval e X.env)::starEach es X.env:=by rfl) (hpl:(backTo pos (starEach es X.env)).any (·.1)=false:=by rfl):
  PE X (.Call (.Name x p) (e::es) [] pos) (zNM sp dvs E t):=by
 intro pins s σ H Q I h;refine zUk (zCF I hg hm ?_ hdb);refine PySem.W.callWith_K (h₀:=X.base) I.ok.mod.kin hk (zW (ha pos pins s σ H _ I h) fun us s1 ⟨vs,H1,I1,r,q⟩=>⟨I1.kIn,?_⟩) he hpl;exact zLi F hr hb hd hx I1 r q
theorem zOR(he:PE X o ta)(c:Cls X.K C)(hm:Meth X.K C m f)(F:FnOk X.prog X.w X.K X.mg X.base CX k f fd ps sp)(hr:Room k X.A)(hb:zO X.K fd ps ds)(hd:zT dvs ds)(hx:zAm CX X E)(ha:PA X (e::es) t)
  (hst:starEach (e::es) X.env=(false,eval e X.env)::starEach es X.env:=by rfl) (hpl:(backTo pos (starEach es X.env)).any (·.1)=false:=by rfl)
  (ht:eval (.Call (.Attribute o m apos) (e::es) [] pos) X.env=(do
   let ov<-eval o X.env
   standAt apos.atName
   let (f,first)<-holding [ov] (getMethod ov m pl)
   callWith pos f first (backTo pos (starEach (e::es) X.env)) (backToKw pos (keywordEach [] X.env))):=by rfl):
  PE X (.Call (.Attribute o m apos) (e::es) [] pos) (zNm C m sp dvs E ta t):=by
 intro pins s σ H Q I h;refine PySem.W.methodCall_KW (pl:=pl) (zW (he pins s σ H _ I h) fun u s1 ⟨x,H1,I1,rx,a,dx,fs,ex,ea,l,q⟩=>?_) ht;subst ex;obtain rfl:u=Value.ref a:=rx;refine zFe I1 ea c hm l ?_;refine PySem.W.callWith_K (first:= [.ref a]) (h₀:=X.base) I.ok.mod.kin hm.kp (zW (ha pos pins s1 σ H1 _ I1 q) fun us s2 ⟨vs,H2,I2,r,q2⟩=>⟨I2.kIn,?_⟩) hst hpl;exact zLi (us:= .ref a::us) (vs:= .ref a::vs) F hr hb hd hx I2 (.cons rfl r) q2
structure Mk(K:zUn)(C f:Addr):Prop where
 makes:PySem.W.makesIn K C=true
 init:PySem.W.findIn K (.ref C) "__init__" =some (some (.ref f))
 fn:PySem.W.isFn K (.ref f)=true
 kp:PySem.W.keepIn K (.ref C)=true
theorem zMO(M:Mk X.K C f)(F:FnOk X.prog X.w X.K X.mg X.base CX k f fd ps sp)(hr:Room (k+1) X.A)(hb:zO X.K fd ps ds)(hd:zT dvs ds)
  (hx:zAm CX X E) (I:Inv X pins σ H s) (r:zT vs us)
  (h: ∀x dx,H x=none->H dx=none->dx≠x->sp (.ref x::(vs++dvs)) (upd (upd H dx (.own x)) x (.ins C dx [])) (fun v H2=>v= .non/\Q (.ref x) H2) E):
  wpAny (model X.prog X.w) X.A (call (.ref C) us) (EP X pins σ Q) X.xe s:=by
 have hq:=h (s.heap.objs.size+1) s.heap.objs.size (I.hok.fresh (Nat.le_succ _)) (I.hok.fresh (zUC _)) (zUG (Nat.lt_succ_self _));have I2:=Inv.made (C:=C) I;have r2:zT (V.ref (s.heap.objs.size+1)::(vs++dvs)) (Value.ref (s.heap.objs.size+1)::(us++ds)):= .cons rfl (r.append hd);have hl:(Value.ref (s.heap.objs.size+1)::us++ds).length=ps.length:=by
  have e:=r2.length;rw [F.len _ _ _ _ hq] at e;exact e.symm
 refine wpAny_call (zLz (f:=f) I.kIn M.makes M.init (beq_iff_eq.mp M.fn) (zUl (F.run _ X.stack _ _ ⟨Value.ref (s.heap.objs.size+1)::us,[]⟩ (Value.ref (s.heap.objs.size+1)::(us++ds)) _ _ E (hr.make C us [])
  (I2.env0.make C us []) (hb _ (Value.ref (s.heap.objs.size+1)::us) I2.kIn hl) r2 hq) fun r s' hq'=>?_))
 cases r with
 | error e=>exact hx pins σ _ _ e s' I2 hq'
 | ok fl=>
  cases fl with
  | ret u=>
   obtain ⟨v,H',I3,rv,ev,q3⟩:=I2.after hq';subst ev;exact ⟨rv,⟨V.ref (s.heap.objs.size+1),H',I3,rfl,q3⟩⟩
  | next=>exact False.elim hq'
  | brk=>exact False.elim hq'
  | cont=>exact False.elim hq'
theorem zOm(M:Mk X.K C f)(F:FnOk X.prog X.w X.K X.mg X.base CX k f fd ps sp)(hr:Room (k+1) X.A)(hg:Gl X x)(hm:X.mg x=some (.ref C))(hb:zO X.K fd ps ds)(hd:zT dvs ds)(hx:zAm CX X E)
  (ha:PA X (e::es) t) (hdb:(x==("__debug__" :Str))=false:=by decide) (he:starEach (e::es) X.env=(false,eval e X.env)::starEach es X.env:=by rfl) (hpl:(backTo pos (starEach es X.env)).any (·.1)=false:=by rfl):
  PE X (.Call (.Name x p) (e::es) [] pos) (zNl C sp dvs E t):=by
 intro pins s σ H Q I h;refine zUk (zCF I hg hm ?_ hdb);refine PySem.W.callWith_K (h₀:=X.base) I.ok.mod.kin M.kp (zW (ha pos pins s σ H _ I h) fun us s1 ⟨vs,H1,I1,r,q⟩=>⟨I1.kIn,?_⟩) he hpl;exact zMO M F hr hb hd hx I1 r q
end
section
variable {X:Cx}{CX:CXT}{k:Nat}{f C:Addr}{fd:FuncData}{ps ks:List Str}{sp:Sp}{E:XK}{x m:Str}{p pos apos kpos:Pos}{e o:Expr}{es:List Expr}{kws:List Keyword}{te ta:TE}{t tk:TA}{nm:Option Str}
variable {g:List Value->List Value->List Value}{gV:List V->List V->List V}
end
structure FnScope(N P:List Str)(sc:Scope):Prop where
 kind:sc.kind= .function
 co:sc.isCoroutine=false
 gen:sc.isGenerator=false
 nd:N.Nodup
 pre:N.take P.length=P
 par: ∀x∈P,sc.names.lookup x=some .local\/sc.names.lookup x=some .cell
 nofree: ∀y∈sc.names,y.2≠ .free
theorem zGT{kindOf:Str->Option NameKind}: ∀{binds:List (Str×Value)} {m:Str->Option Value},(∀v,(x,v)∉binds)->bindL kindOf binds m x=m x
 | [],_,_=>rfl
 |(n,v)::r,m,h=>by
  unfold bindL;rw [zGT fun w hw=>h w (zUd _ hw)];split
  ·have:x≠n:=by rintro rfl;exact h v List.mem_cons_self
   simp [this]
  ·rfl
theorem zGi{kindOf:Str->Option NameKind}: ∀{binds:List (Str×Value)} {m:Str->Option Value},(∀v,(x,v)∉binds)->bindC kindOf binds m x=m x
 | [],_,_=>rfl
 |(n,v)::r,m,h=>by
  unfold bindC;rw [zGi fun w hw=>h w (zUd _ hw)];split
  ·rfl
  ·have:x≠n:=by rintro rfl;exact h v List.mem_cons_self
   simp [this]
theorem zGW{kindOf:Str->Option NameKind}: ∀{P:List Str} {vs:List Value} {i:Nat} {m:Str->Option Value},P.Nodup->P[i]?=some x->vs[i]?=some v->kindOf x=some .local->
  bindL kindOf (P.zip vs) m x=some v
 | [],_,_,_,_,h,_,_=>by simp at h
 | _::_,[],_,_,_,_,h,_=>by simp at h
 | p::P,w::vs,0,m,nd,h1,h2,hk=>by
  simp at h1 h2;subst h1;subst h2;show bindL kindOf ((p,w)::P.zip vs) m p=_;unfold bindL;rw [zGT fun v hv=>(List.nodup_cons.mp nd).1 (List.of_mem_zip hv).1,if_pos hk];simp
 | p::P,w::vs,i+1,m,nd,h1,h2,hk=>by
  show bindL kindOf ((p,w)::P.zip vs) m x=_;unfold bindL;exact zGW (i:=i) (List.nodup_cons.mp nd).2 (by simpa using h1) (by simpa using h2) hk
theorem zGj{kindOf:Str->Option NameKind}: ∀{P:List Str} {vs:List Value} {i:Nat} {m:Str->Option Value},P.Nodup->P[i]?=some x->vs[i]?=some v->kindOf x≠some .local->
  bindC kindOf (P.zip vs) m x=some v
 | [],_,_,_,_,h,_,_=>by simp at h
 | _::_,[],_,_,_,_,h,_=>by simp at h
 | p::P,w::vs,0,m,nd,h1,h2,hk=>by
  simp at h1 h2;subst h1;subst h2;show bindC kindOf ((p,w)::P.zip vs) m p=_;unfold bindC;rw [zGi fun v hv=>(List.nodup_cons.mp nd).1 (List.of_mem_zip hv).1,if_neg hk];simp
 | p::P,w::vs,i+1,m,nd,h1,h2,hk=>by
  show bindC kindOf ((p,w)::P.zip vs) m x=_;unfold bindC;exact zGj (i:=i) (List.nodup_cons.mp nd).2 (by simpa using h1) (by simpa using h2) hk
def zBB(N:List Str)(vs:List V):St:=vs.map some++List.replicate (N.length - vs.length) none
def zBk(CX:CXT)(P:Program)(w:World)(K:zUn)(mg:Str->Option Value)(base:Heap)(N:List Str)(qual:Str)(scope:Scope)(f:Addr)(cd:Value)(A:Around)(outer:List Env)(s:Shared)(H:Hp)(E:XK):Cx where
 prog:=P
 w:=w
 K:=K
 mg:=mg
 base:=base
 A:=A.deeper (envOfC qual scope s.heap.objs.size f cd)
 N:=N
 s₀:=s
 H₀:=H
 env:=envOfC qual scope s.heap.objs.size f cd
 outer:=outer
 stack:=envOfC qual scope s.heap.objs.size f cd::outer
 ex:= []
 calm:=true
 fn:=fun _=>true
 pn:= []
 xe:=fun e s'=>wpAny (model P w) (A.deeper (envOfC qual scope s.heap.objs.size f cd)) (leaving (envOfC qual scope s.heap.objs.size f cd) e) (fun _ s''=>CX outer H s E e s'') (fun e' s''=>CX outer H s E e' s'') s'
theorem zHn{sc:Scope}{n:Nat}{x:Str}(h:sc.names.lookup x=some .cell): ∃c,(cellsFrom n sc.names []).lookup x=some c:=by
 have q:=PySem.W.cellsFrom_some sc.names n [] (.inl h);exact Option.isSome_iff_exists.mp q
theorem zKw{CX:CXT}{P:Program}{w:World}{K:zUn}{mg:Str->Option Value}{base:Heap}{N ps:List Str}{qual:Str}{scope:Scope}{f:Addr}{cd:Value}{A:Around}{outer:List Env}{s s1:Shared}{H:Hp}{E:XK}{us:List Value}{vs:List V}
  (S:FnScope N ps scope) (hd:A.handled=none) (e0:Env0 P w K mg base A outer s H) (hl:vs.length=ps.length) (r:zT vs us)
  (x:InCallC s s.heap.objs.size (bindL (envOfC qual scope s.heap.objs.size f cd).kindOf (ps.zip us) fun _=>none) (cellsFrom (s.heap.objs.size+1) scope.names []) (bindC (envOfC qual scope s.heap.objs.size f cd).kindOf (ps.zip us) fun _=>none) s1):
  Inv (zBk CX P w K mg base N qual scope f cd A outer s H E) [] (zBB N vs) H s1:=by
 have hpl:ps.length<=N.length:=by have:=congrArg List.length S.pre;rw [List.length_take] at this;omega
 obtain ⟨h1,tk,rfl,hk⟩:=x.done;have noA: ∀b:Addr,b∉(zBk CX P w K mg base N qual scope f cd A outer s H E).ex:=fun b z=>absurd (show b∈([] :List Addr) from z) (by simp);refine ⟨⟨e0.mod,S.kind,rfl,rfl,zUC _,fun y z c h1 h2=>?_,fun y hy=>?_,fun y c _ h=>?_,fun _=>hd,Around.frames_deeper e0.frames,.inr ⟨rfl,rfl⟩,fun b z=>absurd z (noA b),e0.bs,e0.bsz,fun b _ _=>noA b,fun b z=>absurd z (noA b),e0.funs,e0.frf⟩,
  rfl,e0.bare,Un.kept hk,⟨_,x.toInCall.ns,fun i y v h1 h2 h3=>?_⟩,fun y c h=>⟨_,x.cell y c h⟩,e0.hok.fresh (zUC _),fun y c h=>?_,fun p hp=>absurd (show p∈([] :List (Addr×Obj)) from hp) (by simp),e0.hok.kept hk,?_⟩
 ·exact name_of_addr x.apart (PySem.mem_of_lookup h1) (PySem.mem_of_lookup h2)
 ·have hy:scope.names.lookup y=some .cell\/scope.names.lookup y=some .free:=hy;rcases hy with hy | hy
  ·exact zHn hy
  ·exact absurd rfl (S.nofree _ (PySem.mem_of_lookup hy))
 ·exact Nat.le_of_lt (x.above y c (PySem.mem_of_lookup h))
 ·have hi:i<vs.length:=by
   unfold zBB at h2;by_cases hi:i<vs.length
   ·exact hi
   ·rw [List.getElem?_append_right (by simpa using hi)] at h2;rw [List.getElem?_replicate] at h2;split at h2<;>cases h2
  have ha:vs[i]?=some v:=by
   unfold zBB at h2;rw [List.getElem?_append_left (by simpa using hi),zUD] at h2;cases e:vs[i]? with
   | none=>rw [e] at h2;cases h2
   | some a=>rw [e] at h2;cases h2;rfl
  obtain ⟨u,hu,rv⟩:=r.get ha;have hp:ps[i]?=some y:=by
   rw [<-S.pre,List.getElem?_take_of_lt (by omega)];exact h1
  have ndP:ps.Nodup:=by rw [<-S.pre];exact S.nd.sublist (List.take_sublist _ _)
  refine ⟨u,rv,?_⟩;rcases S.par y (zUa hp) with k | k
  ·exact .inl ⟨k,zGW ndP hp hu k⟩
  ·obtain ⟨c,e⟩:=zHn (n:=s.heap.objs.size+1) k;refine .inr ⟨.inl k,c,e,?_⟩;have q:=x.cell y c e;rw [zGj ndP hp hu (by show scope.names.lookup y≠_;rw [k];decide)] at q;exact q
 ·exact e0.hok.fresh (Nat.le_of_lt (x.above y c (PySem.mem_of_lookup h)))
 ·unfold zBB;show _=N.length;rw [zUY,zUF,List.length_replicate];omega
theorem zNU{CX:CXT}{P:Program}{w:World}{K:zUn}{mg:Str->Option Value}{base:Heap}{k:Nat}{f:Addr}{name qual:Str}{params:Arguments}{body:List Stmt}{scope:Scope}{dV kV doc pm cdv ct oc:Value}{an od:Option Addr}
  {osl:Array (Option Value)} {N ps:List Str} {sp:Sp} (lk:K.lookup f=some ⟨oc,od,.func (PySem.W.fnOf name qual params body scope dV kV doc pm an cdv ct),osl⟩) (hcd:PySem.W.codeIn K cdv qual=true) (S:FnScope N ps scope)
  (len: ∀vs H Q E,sp vs H Q E->vs.length=ps.length)
  (hbody: ∀(A:Around) (outer:List Env) (s:Shared) (H:Hp) (vs:List V) (Q:VK) (E:XK),Room k (A.deeper (envOfC qual scope s.heap.objs.size f cdv))->sp vs H Q E->
   ∃t,PSs (zBk CX P w K mg base N qual scope f cdv A outer s H E) body t/\t {nx:=fun _ H'=>Q .non H',rt:=Q} (zBB N vs) H):
  FnOk P w K mg base CX (k+1) f (PySem.W.fnOf name qual params body scope dV kV doc pm an cdv ct) ps sp:=by
 refine ⟨len,fun A outer s H args us vs Q E hr e0 hb r hsp=>?_⟩;have hl:=len _ _ _ _ hsp;have KX:K.In s.heap:=e0.mod.kin.keeps fun b o e=>(e0.bs b o e).1;have lim:s.heap.NoLimit:=e0.mod.nolimit.keeps fun b o e=>(e0.bs b o e).1;have hkind: ∀y∈ps.zip us,scope.names.lookup y.1=some .local\/(scope.names.lookup y.1=some .cell/\((cellsFrom (s.heap.objs.size+1) scope.names []).lookup y.1).isSome=true):=fun ⟨n,v⟩ hy=>by
  rcases S.par n (List.of_mem_zip hy).1 with q | q
  ·exact .inl q
  ·exact .inr ⟨q,PySem.W.cellsFrom_some _ _ _ (.inl q)⟩
 refine codeAny_call_function hr.depth (KX _ _ lk) rfl S.co S.gen rfl (PySem.W.codeRec_of KX hcd) (hb _ _ _ _ ?_);refine wpAny_newFunctionEnv_cells S.kind hkind fun env he s1 x=>?_;subst he;refine ⟨lim.keeps x.toInCall.keep,codeAny_func ?_⟩;obtain ⟨t,ht,hq⟩:=hbody A outer s H vs Q E (hr.deeper _) hsp;have I:Inv (zBk CX P w K mg base N qual scope f cdv A outer s H E) [] (zBB N vs) H s1:=zKw S hr.hd e0 hl r x;refine zUS (ht [] s1 (zBB N vs) H _ I hq) (fun fl s' hs=>?_) fun e s' hs=>hs;have fin: ∀{σ':St} {H':Hp} {v:V} {u:Value},Inv (zBk CX P w K mg base N qual scope f cdv A outer s H E) [] σ' H' s'->zX v u->Q v H'->CE outer P w H s Q u s':=
  fun {σ' H' v u} J rv q=>⟨v,H',J.os,J.bare,J.base,J.hok,rv,q⟩
 cases fl with
 | ret u=>
  obtain ⟨v,σ',H',J,rv,q⟩:=hs;exact fin J rv q
 | next=>
  obtain ⟨σ',H',J,q⟩:=hs;exact fin (v:=V.non) (u:=Value.none) J rfl q
 | brk=>
  obtain ⟨_,_,_,q⟩:=hs;exact False.elim q
 | cont=>
  obtain ⟨_,_,_,q⟩:=hs;exact False.elim q
section
variable {X:Cx}{x:Str}{p pos:Pos}{e:Expr}{es:List Expr}{t:TA}{id T:String}{r:List V->Hp->VK->Prop}
def tCB(r:List V->Hp->VK->Prop)(t:TA):TE:=fun σ H Q=>t σ H fun vs H1=>r vs H1 Q
theorem zBh(hc:yY X (.builtin id) r)(hg:Gl X x)(hm:X.mg x=none)(hv:bootBuiltins x=some (.builtin id))(ha:PA X (e::es) t)(hn:x≠ "__name__" :=by decide)(hdb:(x==("__debug__" :Str))=false:=by decide)
  (he:starEach (e::es) X.env=(false,eval e X.env)::starEach es X.env:=by rfl) (hpl:(backTo pos (starEach es X.env)).any (·.1)=false:=by rfl):PE X (.Call (.Name x p) (e::es) [] pos) (tCB r t):=by
 intro pins s σ H Q I h;refine zUk (zCN I hg hm hv ?_ hn hdb);exact PyProof.Rows.callWith_builtin1 (zW (ha pos pins s σ H _ I h) fun us s1 ⟨vs,H1,I1,r1,q1⟩=>hc pins s1 σ H1 vs us Q I1 r1 q1) he hpl
theorem zKP(hc:yY X (.type T) r)(hg:Gl X x)(hm:X.mg x=none)(hv:bootBuiltins x=some (.type T))(ha:PA X (e::es) t)(hn:x≠ "__name__" :=by decide)(hdb:(x==("__debug__" :Str))=false:=by decide)
  (he:starEach (e::es) X.env=(false,eval e X.env)::starEach es X.env:=by rfl) (hpl:(backTo pos (starEach es X.env)).any (·.1)=false:=by rfl):PE X (.Call (.Name x p) (e::es) [] pos) (tCB r t):=by
 intro pins s σ H Q I h;refine zUk (zCN I hg hm hv ?_ hn hdb);exact PyProof.Rows.callWith_type1 (zW (ha pos pins s σ H _ I h) fun us s1 ⟨vs,H1,I1,r1,q1⟩=>hc pins s1 σ H1 vs us Q I1 r1 q1) he hpl
end
end L2
namespace HT
open PySem PyProof.Rows
section
open PySem.SeqAt
open PySem.AutoSeq1 (wpAny_loadPart')
open PySem.MeetsSeq PySem.MeetsSeq2 PySem.MeetsSeq3
end
section
variable {prog:Program}{w:World}{A:Around}{E:Value->Shared->Prop}{s:Shared}
theorem cat_tup{Q:Value->Shared->Prop}(ht:IsTup s.heap t vs.toArray)(hb:IsTup s.heap b ws.toArray)(hv:vs≠ [])
  (h1:ws= [] ->Q (.ref t) s) (h2:ws≠ [] ->Q (.ref s.heap.objs.size) {s with heap:=s.heap.push {cls:= .type "tuple",data:= .seq (vs++ws).toArray}})
  (hsz:vs.length+ws.length<=sizeLine):wpAny (model prog w) A (binaryOp .Add (.ref t) (.ref b)) Q E s:=by
 obtain ⟨⟨cls,dd,data,sl⟩,ho,hc,n,hd⟩:=id ht;obtain ⟨⟨cls2,dd2,data2,sl2⟩,ho2,hc2,n2,hd2⟩:=id hb;simp only at hc hd hc2 hd2;subst hc hd hc2 hd2;have e:vs.toArray++ws.toArray=(vs++ws).toArray:=by simp
 by_cases hw:ws= []
 ·exact concat_meets ⟨_,ho,rfl⟩ ⟨_,ho2,rfl⟩ noFill_tuple_add seq_tuple_add PySem.F.slot_tuple_add PySem.F.entry_tuple_add (PySem.F.args_tuple_add_2 _ _)
   (tuple_addW1 t b vs.toArray ws.toArray n n2 dd dd2 sl sl2 (by simpa using hv) (by simp [hw])) ⟨ho,ho2,h1 hw⟩
 ·refine concat_meets ⟨_,ho,rfl⟩ ⟨_,ho2,rfl⟩ noFill_tuple_add seq_tuple_add PySem.F.slot_tuple_add PySem.F.entry_tuple_add (PySem.F.args_tuple_add_2 _ _)
   (tuple_addW2 t b vs.toArray ws.toArray n n2 dd dd2 sl sl2 (by simpa using hv) (by simpa using hw) (by rw [zUR,zUR];exact hsz)) ⟨ho,ho2,?_⟩
  rw [e];exact h2 hw
def sIx(n d:Nat):Option Int->Nat
 | none=>d
 | some v=>if v<0 then (v+(n:Int)).toNat else min v.toNat n
theorem sIx_none(n d:Nat):sIx n d none=d:=rfl
theorem sIx_nat(n d k:Nat):sIx n d (some (k:Int))=min k n:=by
 show (if (k:Int)<0 then ((k:Int)+(n:Int)).toNat else min (k:Int).toNat n)=min k n;rw [if_neg (by omega),Int.toNat_natCast]
theorem zPg(n d:Nat)(hd:d<=n)(o:Option Int):sIx n d o<=n:=by
 cases o with
 | none=>exact hd
 | some v=>
  show (if v<0 then (v+(n:Int)).toNat else min v.toNat n)<=n;by_cases hv:v<0
  ·rw [if_pos hv];omega
  ·rw [if_neg hv];exact Nat.min_le_right _ _
theorem zIs(v:Int)(n d:Nat):(if v<0 then max (v+(n:Int)) 0 else min v (n:Int))=((sIx n d (some v):Nat):Int):=by
 show (if v<0 then max (v+(n:Int)) 0 else min v (n:Int))=(((if v<0 then (v+(n:Int)).toNat else min v.toNat n):Nat):Int);by_cases hv:v<0
 ·simp only [if_pos hv];omega
 ·simp only [if_neg hv];omega
theorem zJY(lo hi:Option Int)(n:Nat):Builtin.Slice.sliceAdjust lo hi 1 (n:Int)=(((sIx n 0 lo:Nat):Int),((sIx n n hi:Nat):Int)):=by
 have h1: ¬((1:Int)<0):=by omega
 unfold Builtin.Slice.sliceAdjust;simp only [h1,if_false];refine Prod.ext ?_ ?_
 ·cases lo with
  | none=>rfl
  | some v=>exact zIs v n 0
 ·cases hi with
  | none=>rfl
  | some v=>exact zIs v n n
theorem zKA(i j:Nat):Builtin.Slice.slicePlaces (i:Int) (j:Int) 1=j - i:=by
 unfold Builtin.Slice.slicePlaces;have h1:(1:Int)>0:=by omega
 simp only [h1,if_true,Int.ediv_one];split<;>omega
theorem zFD{o:Option Int}{Q:Option Int->Shared->Prop}(p:IsPart v o)(h:Q o s):wpAny (model prog w) A (Builtin.Slice.slicePartIndex v) Q E s:=by
 cases p with
 | none=>exact slicePart_none h
 | int i t=>exact slicePart_int h
theorem zCQ{lo hi:Option Int}{Q:Int×Int×Nat->Shared->Prop}(hs:s.heap.IsSliceOf sl vl vu .none)(pl:IsPart vl lo)(pu:IsPart vu hi)
  (h:Q (((sIx n 0 lo:Nat):Int),1,sIx n n hi - sIx n 0 lo) s):wpAny (model prog w) A (Builtin.Slice.sliceApplied (.ref sl) (pure (n:Int))) Q E s:=by
 obtain ⟨os,hos,hcs,hds⟩:=id hs;unfold Builtin.Slice.sliceApplied Builtin.Slice.sliceFields;refine zTz (zTz (wpAny_field hos hds (x:=vl) rfl (zTz (wpAny_field hos hds (x:=vu) rfl (zTz (wpAny_field hos hds (x:= .none) rfl (zUE ?_)))))));refine zTz (slicePart_none ?_);show wpAny _ _ (if ((1:Int)==0)=true then _ else _) _ _ s;rw [if_neg (by decide)];refine zTz (zFD pl (zTz (zFD pu (zTz (zUE ?_)))));show wpAny _ _ (match Builtin.Slice.sliceAdjust lo hi 1 (n:Int) with |(lo,hi)=>pure (lo,(1:Int),Builtin.Slice.slicePlaces lo hi 1)) _ _ s;rw [zJY lo hi n];show wpAny _ _ (pure (((sIx n 0 lo:Nat):Int),(1:Int),Builtin.Slice.slicePlaces ((sIx n 0 lo:Nat):Int) ((sIx n n hi:Nat):Int) 1)) _ _ s;rw [zKA];exact zUE h
theorem zMe(xs:Array Value)(i k:Nat):((List.range k).filterMap fun (m:Nat)=>xs[((i:Int)+(m:Int)*1).toNat]?).toArray=((xs.toList.drop i).take k).toArray:=by
 have e:(fun (m:Nat)=>xs[((i:Int)+(m:Int)*1).toNat]?)=fun m=>xs[i+m]?:=by
  funext m
  have:((i:Int)+(m:Int)*1).toNat=i+m:=by omega
  rw [this]
 rw [e];have:=pick_run xs i k;rw [List.filterMap_map] at this;have e2:((fun x=>xs[x]?)∘fun x=>i+x)=fun m=>xs[i+m]?:=rfl;rw [e2] at this;rw [this]
theorem getItem_tuple_cut{items:Array Value}{lo hi:Option Int}{Q:Value->Shared->Prop}(ht:IsTup s.heap t items)(hs:s.heap.IsSliceOf sl vl vu .none)(pl:IsPart vl lo)(pu:IsPart vu hi)
  (hw: ¬(sIx items.size 0 lo=0/\sIx items.size items.size hi=items.size))
  (h:Q (.ref s.heap.objs.size) {s with heap:=s.heap.push {cls:= .type "tuple",data:= .seq ((items.toList.drop (sIx items.size 0 lo)).take (sIx items.size items.size hi - sIx items.size 0 lo)).toArray}})
  (hsz:items.size<=sizeLine):wpAny (model prog w) A (getItem (.ref t) (.ref sl)) Q E s:=by
 have htake:sizeOk (.seq ((items.toList.drop (sIx items.size 0 lo)).take (sIx items.size items.size hi - sIx items.size 0 lo)).toArray):=by
  show ((items.toList.drop (sIx items.size 0 lo)).take (sIx items.size items.size hi - sIx items.size 0 lo)).toArray.size<=sizeLine;rw [zUR,List.length_take,List.length_drop,Array.length_toList];omega
 have hj:sIx items.size items.size hi<=items.size:=zPg _ _ (zUC _) hi;obtain ⟨os,hos,hcs,hds⟩:=id hs;have hTs:s.TypeIs (.ref sl) "slice" :=⟨os,hos,hcs⟩;unfold getItem
 try with_reducible refine zUi ?_
 first | refine zTz (zUE ?_)| skip
 refine zTz (wpAny_sequenceKey ht.typeIs (by decide) ?_);refine zTz (wpAny_callSpecial?_slot (name:=Str.ofString "__getitem__") ht.typeIs PyProof.Rows.slot_tuple_getitem
  (wpAny_call_entry PyProof.Rows.slot_tuple_getitem ht.typeIs entry_tuple_getitem ?_ (args_tuple_getitem _ _)))
 show wpAny _ _ (Builtin.Tuple.tupleItemsOf (.ref t)>>=_) _ _ s;refine zTz (tupleItemsOf_ ht ?_);refine zTz (wpAny_typeOf hTs ?_);rw [if_pos (by decide)];refine zTz (zCQ hs pl pu ?_);have hno: ¬((((sIx items.size 0 lo:Nat):Int)==0&&(1:Int)==1&&(sIx items.size items.size hi - sIx items.size 0 lo)==items.size)=true):=by
  intro q;rw [zUp,zUp] at q;have q1:((sIx items.size 0 lo:Nat):Int)=0:=eq_of_beq q.1.1;have q2:sIx items.size items.size hi - sIx items.size 0 lo=items.size:=eq_of_beq q.2;exact hw ⟨by omega,by omega⟩
 show wpAny _ _ (if (((sIx items.size 0 lo:Nat):Int)==0&&(1:Int)==1&&(sIx items.size items.size hi - sIx items.size 0 lo)==items.size)=true then _ else _) _ _ s;rw [if_neg hno,zMe]
 first
  | exact zTz (m:=Builtin.Tuple.tupleExact _) (wpAny_newObj_type (zUE ⟨_,rfl,zUE h⟩) htake)
  | exact zTz (m:=Builtin.Tuple.tupleExact _) (wpAny_newObj_type (zTz (zUE (zUE ⟨_,rfl,zUE h⟩))) htake)
  | exact zTz (zTz (m:=Builtin.Tuple.tupleExact _) (wpAny_newObj_type (zUE (zUE ⟨_,rfl,zUE h⟩)) htake))
  | exact zTz (zTz (m:=Builtin.Tuple.tupleExact _) (wpAny_newObj_type (zUE ⟨_,rfl,zUE h⟩) htake))
end
end HT
namespace L2
open PySem PySem.Spec PyProof.Rows
abbrev TO:=St->Hp->(Option Int->Hp->Prop)->Prop
def PO(X:Cx)(e:Option Expr)(t:TO):Prop:=
 ∀(pins:List (Addr×Obj)) (s:Shared) (σ:St) (H:Hp) (Q:Option Int->Hp->Prop),Inv X pins σ H s->t σ H Q->
  wpAny (model X.prog X.w) X.A (evalPart e X.env) (fun u s'=> ∃o H',Inv X pins σ H' s'/\IsPart u o/\Q o H') X.xe s
def zIz:TO:=fun _ H Q=>Q none H
inductive XPart (x:V) (H1:Hp) (Q:Option Int->Hp->Prop):Prop
 | mk (i:Int) (h:x= .int i) (q:Q (some i) H1)
def zNa(t:TE):TO:=fun σ H Q=>t σ H fun x H1=>XPart x H1 Q
section
variable {X:Cx}{e:Expr}{te:TE}{lo hi:Option Expr}{tl th:TO}{pos p2:Pos}
theorem zPI:PO X none zIz:=by
 intro pins s σ H Q I h;rw [evalPart_none];exact zUE ⟨none,H,I,.none,h⟩
theorem zOU(h:PE X e te):PO X (some e) (zNa te):=by
 intro pins s σ H Q I hw;rw [evalPart_some];refine zW (h pins s σ H _ I hw) fun u s1 ⟨x,H1,I1,r1,q1⟩=>?_;obtain ⟨i,rfl,q⟩:=q1;obtain ⟨t,rfl⟩:=r1;exact ⟨some i,H1,I1,.int i t,q⟩
def SlR(X:Cx)(r:V->Option Int->Option Int->Hp->VK->Prop):Prop:=
 ∀(pins:List (Addr×Obj)) (s:Shared) (σ:St) (H:Hp) (x:V) (v vl vu:Value) (lo hi:Option Int) (sl:Addr) (Q:VK),Inv X pins σ H s->zX x v->s.heap.IsSliceOf sl vl vu .none->IsPart vl lo->IsPart vu hi->r x lo hi H Q->
  ∃T id,typeLookup (.type T) "__getitem__" =pure (some (.builtin id))/\s.TypeIs v T/\wpAny (model X.prog X.w) X.A (getItem v (.ref sl)) (EP X pins σ Q) X.xe s
def tSl(r:V->Option Int->Option Int->Hp->VK->Prop)(te:TE)(tl th:TO):TE:=fun σ H Q=>te σ H fun x H1=>tl σ H1 fun l H2=>th σ H2 fun u H3=>r x l u H3 Q
theorem zEu{r:V->Option Int->Option Int->Hp->VK->Prop}(hr:SlR X r)(he:PE X e te)(hl:PO X lo tl)(hu:PO X hi th):PE X (.Subscript e (.Slice lo hi none p2) pos) (tSl r te tl th):=by
 intro pins s σ H Q I h;refine Subscript_ (zW (he pins s σ H _ I h) fun v s1 ⟨x,H1,I1,r1,q1⟩=>?_);refine wpAny_Slice (zW (hl pins s1 σ H1 _ I1 q1) fun vl s2 ⟨l,H2,I2,pl,q2⟩=>zW (hu pins s2 σ H2 _ I2 q2) fun vu s3 ⟨u,H3,I3,pu,q3⟩=>?_);rw [evalPart_none];refine zUE ?_;have I4:Inv X pins σ H3 {s3 with heap:=s3.heap.push {cls:= .type "slice",data:= .fields #[vl,vu,.none]}}:=I3.kept (t':=s3.toks) fun b ob q=>zUA _ q;obtain ⟨T,id,hT,ht,hg⟩:=hr pins {s3 with heap:=s3.heap.push {cls:= .type "slice",data:= .fields #[vl,vu,.none]}} σ H3 x v vl vu l u s3.heap.objs.size Q I4 r1 (Heap.IsSliceOf.new ..) pl pu q3;show wpAny (model X.prog X.w) X.A (subscriptTail e (.Slice lo hi none p2) v (.ref s3.heap.objs.size)) (EP X pins σ Q) X.xe {s3 with heap:=s3.heap.push {cls:= .type "slice",data:= .fields #[vl,vu,.none]}};exact tail_any (ops:= [.ref s3.heap.objs.size,v]) ht hT hg (by with_unfolding_all rfl)
def yW(xs:List V)(lo hi:Option Int):List V:=(xs.drop (HT.sIx xs.length 0 lo)).take (HT.sIx xs.length xs.length hi - HT.sIx xs.length 0 lo)
theorem zEX(xs:List V)(lo hi:Option Int):(yW xs lo hi).length<=xs.length:=by
 unfold yW;rw [List.length_take,List.length_drop];omega
inductive XSlT (K:zUn) (x:V) (lo hi:Option Int) (H:Hp) (Q:VK):Prop
 | mk (a:Addr) (xs:List V) (h1:x= .ref a) (h2:SqT K H a xs) (h3: ¬(HT.sIx xs.length 0 lo=0/\HT.sIx xs.length xs.length hi=xs.length)) (q: ∀p,H p=none->Q (.ref p) (upd H p (.tup (yW xs lo hi))))
def zRS(K:zUn):V->Option Int->Option Int->Hp->VK->Prop:=fun x lo hi H Q=>XSlT K x lo hi H Q
theorem zLm:SlR X (zRS X.K):=by
 intro pins s σ H x v vl vu lo hi sl Q I rx hs pl pu h;obtain ⟨a,xs,rfl,hx,hw,q⟩:=h;cases rx;obtain ⟨its,r,ht,hz⟩:=I.tuple hx;have hlen:its.toArray.size=xs.length:=by rw [zUR];exact r.length.symm
 refine ⟨"tuple",_,PyProof.Rows.slot_tuple_getitem.lookup,ht.typeIs,?_⟩;refine HT.getItem_tuple_cut ht hs pl pu (by rw [hlen];exact hw) ?_ (by rw [hlen];exact hz);rw [hlen];refine ⟨.ref s.heap.objs.size,_,I.laid (t':=s.toks) (o:= .tup (yW xs lo hi)) (fun b ob q=>zUA _ q) (zUC _) ?_,rfl,q _ (I.hok.fresh (zUC _))⟩;exact ⟨zUM (zEX xs lo hi) hz,_,(r.drop (HT.sIx xs.length 0 lo)).take (HT.sIx xs.length xs.length hi - HT.sIx xs.length 0 lo),zCv.new _ _⟩
def zSe(K:zUn):R2:=fun x y H Q=> ∃a b xs ys,x= .ref a/\y= .ref b/\SqT K H a xs/\SqT K H b ys/\xs≠ [] /\xs.length+ys.length<=sizeLine/\
 (ys= [] ->Q (.ref a) H)/\(ys≠ [] -> ∀p,H p=none->Q (.ref p) (upd H p (.tup (xs++ys))))
theorem zT.nil_iff(r:zT xs us):us= [] ↔xs= [] :=by
 cases r with
 | nil=>simp
 | cons _ _=>simp
theorem zOt:OpR X (binaryOp .Add) (zSe X.K):=by
 intro pins s σ H x y v u Q I rx ry h;obtain ⟨a,b,xs,ys,rfl,rfl,ha,hb,hx,hz,q1,q2⟩:=h;cases rx;cases ry;obtain ⟨its,r1,p1,_⟩:=I.tuple ha;obtain ⟨its2,r2,p2,_⟩:=I.tuple hb;refine HT.cat_tup p1 p2 (fun z=>hx (r1.nil_iff.mp z)) (fun z=>⟨.ref a,H,I,rfl,q1 (r2.nil_iff.mp z)⟩) (fun z=>?_) (by rw [<-r1.length,<-r2.length];exact hz);refine ⟨.ref s.heap.objs.size,_,I.laid (t':=s.toks) (o:= .tup (xs++ys)) (fun b ob q=>zUA _ q) (zUC _) ?_,rfl,q2 (fun w=>z (r2.nil_iff.mpr w)) _ (I.hok.fresh (zUC _))⟩;exact ⟨by rw [zUY];exact hz,_,r1.append r2,zCv.new _ _⟩
end
def ixN(n:Nat)(i:Int):Option Nat:=if 0<=i then (if i<n then some i.toNat else none) else if -(n:Int)<=i then some (i+n).toNat else none
def atI{α:Type}(xs:List α)(i:Int):Option α:=(ixN xs.length i).bind fun j=>xs[j]?
theorem zIi(h:ixN n i=some j):seqIndex? i n=some j/\j<n/\ -(n:Int)<=i/\i<n:=by
 unfold ixN at h;by_cases h0:0<=i
 ·rw [if_pos h0] at h;by_cases h1:i<n
  ·rw [if_pos h1] at h;have e:i.toNat=j:=Option.some.inj h;exact ⟨by rw [seqIndex_of h0 h1,e],by omega,by omega,h1⟩
  ·rw [if_neg h1] at h;cases h
 ·rw [if_neg h0] at h;by_cases h1: -(n:Int)<=i
  ·rw [if_pos h1] at h;have e:(i+n).toNat=j:=Option.some.inj h;exact ⟨by rw [seqIndex_neg (by omega) h1,e],by omega,h1,by omega⟩
  ·rw [if_neg h1] at h;cases h
theorem zFp{α:Type}{xs:List α}{v:α}(h:atI xs i=some v): ∃j,seqIndex? i xs.length=some j/\xs[j]?=some v/\j<xs.length/\ -(xs.length:Int)<=i/\i<xs.length:=by
 unfold atI at h;cases e:ixN xs.length i with
 | none=>rw [e] at h;cases h
 | some j=>
  rw [e] at h;obtain ⟨h1,h2,h3,h4⟩:=zIi e;exact ⟨j,h1,h,h2,h3,h4⟩
theorem zg{α:Type}{xs:List α}{j:Nat}{v:α}(h:xs[j]?=some v):atI xs (j:Int)=some v:=by
 have hj:j<xs.length:=(zUy.mp h).1;have e:ixN xs.length (j:Int)=some j:=by
  unfold ixN;rw [if_pos (by omega),if_pos (by omega)];simp
 unfold atI;rw [e];exact h
def zEV(b:Expr):Prop:= ∀o i,subscripted b false o i=operate [o,i] (getItem o i)
def IxR(X:Cx)(r:R2):Prop:=
 ∀(value slice:Expr) (pins:List (Addr×Obj)) (s:Shared) (σ:St) (H:Hp) (x y:V) (v u:Value) (Q:VK),Inv X pins σ H s->zX x v->zX y u->r x y H Q->
  subscripted slice false v u=operate [v,u] (getItem v u)->wpAny (model X.prog X.w) X.A (subscriptTail value slice v u) (EP X pins σ Q) X.xe s
def MtR(X:Cx)(id:String)(r:V->List V->Hp->VK->Prop):Prop:=
 ∀(pins:List (Addr×Obj)) (s:Shared) (σ:St) (H:Hp) (x:V) (xs:List V) (v:Value) (us:List Value) (Q:VK),Inv X pins σ H s->zX x v->zT xs us->r x xs H Q->
  wpAny (model X.prog X.w) X.A (call (.builtin id) (v::us)) (EP X pins σ Q) X.xe s
section
variable {X:Cx}{a b:Expr}{ta tb:TE}{pos:Pos}
theorem zBw(hr:IxR X r)(ha:PE X a ta)(hb:PE X b tb)(hs:zEV b):PE X (.Subscript a b pos) (tOp r ta tb):=by
 intro pins s σ H Q I h;exact Subscript_ (zLr ha hb I h fun v u s2 x y H2 I2 rx ry q=>hr a b pins s2 σ H2 x y v u Q I2 rx ry q (hs _ _))
inductive XIxL (K:zUn) (x y:V) (H:Hp) (Q:VK):Prop
 | mk (p:Addr) (xs:List V) (i:Int) (v:V) (h1:x= .ref p) (h2:y= .int i) (h3:SqL K H p xs) (h4:atI xs i=some v) (q:Q v H)
def zQb(K:zUn):R2:=fun x y H Q=>XIxL K x y H Q
inductive XIxT (K:zUn) (x y:V) (H:Hp) (Q:VK):Prop
 | mk (p:Addr) (xs:List V) (i:Int) (v:V) (h1:x= .ref p) (h2:y= .int i) (h3:SqT K H p xs) (h4:atI xs i=some v) (q:Q v H)
def zPc(K:zUn):R2:=fun x y H Q=>XIxT K x y H Q
def zPT:R2:=fun x y H Q=> ∃z i c,x= .str z/\y= .int i/\z.length<=sizeLine/\atI z.cps.toList i=some c/\Q (.str ⟨#[c]⟩) H
theorem zJA:IxR X (zQb X.K):=by
 intro value slice pins s σ H x y v u Q I rx ry h hs;obtain ⟨p,xs,i,z,rfl,rfl,hq,he,q⟩:=h;cases rx;obtain ⟨t,rfl⟩:=ry;obtain ⟨its,r,pl,hz⟩:=I.list hq;obtain ⟨j,h1,h2,h3,h4,h5⟩:=zFp he;obtain ⟨w,ew,rw'⟩:=r.get h2;have hl:=r.length;have hn:=zCI;have fin:EP X pins σ Q w s:=⟨z,H,I,rw',q⟩;by_cases h0:0<=i
 ·have hj:i.toNat=j:=by
   rw [seqIndex_of h0 h5] at h1;exact Option.some.inj h1
  exact item_listR pl.isList h0 (by omega) (by rw [hj];simpa using ew) fin hs
 ·have hj:(i+(its.toArray.size:Int)).toNat=j:=by
   rw [seqIndex_neg (by omega) h4] at h1;rw [zUR,<-hl];exact Option.some.inj h1
  exact subscriptTail_builtinR (x:=w) pl.isList.typeIs slot_list_getitem.lookup
   (wpAny_getItem_list_neg (Q:=fun r s'=>r=w/\EP X pins σ Q r s') pl.isList (by omega) (by rw [zUR] <;>omega) (by omega) (by rw [hj];simpa using ew) ⟨rfl,fin⟩) hs
theorem zDB:IxR X (zPc X.K):=by
 intro value slice pins s σ H x y v u Q I rx ry h hs;obtain ⟨p,xs,i,z,rfl,rfl,hq,he,q⟩:=h;cases rx;obtain ⟨t,rfl⟩:=ry;obtain ⟨its,r,pl,hz⟩:=I.tuple hq;obtain ⟨j,h1,h2,h3,h4,h5⟩:=zFp he;obtain ⟨w,ew,rw'⟩:=r.get h2;have hl:=r.length;have hn:=zCI;have fin:EP X pins σ Q w s:=⟨z,H,I,rw',q⟩;exact subscriptTail_builtinR (x:=w) pl.typeIs slot_tuple_getitem.lookup
  (getItem_tuple (j:=j) (Q:=fun r s'=>r=w/\EP X pins σ Q r s') pl (by omega) (by omega) (by rw [zUR,<-hl];exact h1) (by simpa using ew) ⟨rfl,fin⟩) hs
theorem zQP:IxR X zPT:=by
 intro value slice pins s σ H x y v u Q I rx ry h hs;obtain ⟨z,i,c,rfl,rfl,hz,he,q⟩:=h;obtain ⟨t,rfl⟩:=rx;obtain ⟨t',rfl⟩:=ry;obtain ⟨j,h1,h2,h3,h4,h5⟩:=zFp he;have hl:z.cps.toList.length=z.length:=by simp [Str.length]
 rw [hl] at h1 h4 h5;have hn:=zCI;exact tail_any (typeIs_str s z t) slot_str_getitem.lookup (getItem_str (c:=c) (by
  have e1:decide (i< -(2^63:Int))=false:=zUW (by omega);have e2:decide (i≥2^63)=false:=zUW (by omega);rw [e1,e2,Bool.or_false]) (by rw [h1];simpa using h2) ⟨.str ⟨#[c]⟩,H,I.tok _,⟨_,rfl⟩,q⟩) hs
theorem zJO(its:List Value)(n j:Nat)(u:Value):Obj.mapSeq (·.setIfInBounds j u) {cls:= .type "list",data:= .seq its.toArray n}={cls:= .type "list",data:= .seq (its.set j u).toArray n}:=by
 simp [Obj.mapSeq]
theorem Inv.lst(I:Inv X pins σ H s)(h:H p=some (.lst xs)):
  ∃(its:List Value) (n:Nat),zT xs its/\s.heap.get? p=some {cls:= .type "list",data:= .seq its.toArray n}/\xs.length<=sizeLine:=by
 obtain ⟨z,its,n,r,e⟩:=I.hok p _ h;exact ⟨its,n,r,e,z⟩
theorem Inv.lstUpd{pins:List (Addr×Obj)}{σ:St}{H:Hp}{s:Shared}{p:Addr}{xs ys:List V}{its its':List Value}{n n':Nat}{f:Obj->Obj}(I:Inv X pins σ H s)(h:H p=some (.lst xs))
  (ho:s.heap.get? p=some {cls:= .type "list",data:= .seq its.toArray n}) (hf:f {cls:= .type "list",data:= .seq its.toArray n}={cls:= .type "list",data:= .seq its'.toArray n'}) (r:zT ys its') (hz:ys.length<=sizeLine) (t:Nat):
  Inv X pins σ (upd H p (.lst ys)) {s with heap:=s.heap.update p f,toks:=t}:=by
 have e:(s.heap.update p f).get? p=some {cls:= .type "list",data:= .seq its'.toArray n'}:=by
  rw [zUf f ho (by rw [hf] <;>rfl),hf]
 refine I.write (x:=p) (e:=p) (by rw [h];trivial) (.inl rfl) (fun b u hb q=>(zUe _ _ (Ne.symm hb)).trans q) ⟨_,e⟩ ?_;exact ⟨hz,its',n',r,e⟩
def zNQ:V->V->V->Hp->(Hp->Prop)->Prop:=fun o i v H Q=> ∃p xs k j,o= .ref p/\i= .int k/\H p=some (.lst xs)/\ixN xs.length k=some j/\Q (upd H p (.lst (xs.set j v)))
theorem zLx:zTO X zNQ:=by
 intro pins s σ H o i v ov iv u Q I ro ri rv h;obtain ⟨p,xs,k,j,rfl,rfl,hp,hj,q⟩:=h;cases ro;obtain ⟨t,rfl⟩:=ri;obtain ⟨its,n,r,ho,hz⟩:=I.lst hp;obtain ⟨h1,h2,h3,h4⟩:=zIi hj;have hl:=r.length;have hn:=zCI;have I':Inv X pins σ (upd H p (.lst (xs.set j v))) {s with heap:=s.heap.update p (Obj.mapSeq (·.setIfInBounds j u))}:=
  I.lstUpd hp ho (zJO its n j u) (r.set rv j) (by rw [List.length_set];exact hz) s.toks
 by_cases h0:0<=k
 ·have hk:k.toNat=j:=by
   rw [seqIndex_of h0 h4] at h1;exact Option.some.inj h1
  exact PySem.W.ki_setAt ho h0 (by omega) (by rw [zUR,<-hl];exact h4) (by rw [hk];exact ⟨_,I',q⟩)
 ·have hk:(k+(its.toArray.size:Int)).toNat=j:=by
   rw [seqIndex_neg (by omega) h3] at h1;rw [zUR,<-hl];exact Option.some.inj h1
  exact PySem.W.ki_setBack ho (by omega) (by rw [zUR,<-hl];exact h3) (by omega) (by rw [hk];exact ⟨_,I',q⟩)
theorem zHo(lo hi:Option Int)(n:Nat):(sliceBounds lo hi none n).1=((HT.sIx n 0 lo:Nat):Int)/\(sliceBounds lo hi none n).2.1=((HT.sIx n n hi:Nat):Int)/\(sliceBounds lo hi none n).2.2=1:=by
 refine ⟨?_,?_,rfl⟩
 ·cases lo with
  | none=>simp [sliceBounds,HT.sIx]
  | some i=>
   simp only [sliceBounds,HT.sIx,Option.getD_none,show (1:Int)>0 by decide,if_true];by_cases h:i<0
   ·simp only [h,if_true] <;>omega
   ·simp only [h,if_false] <;>omega
 ·cases hi with
  | none=>simp [sliceBounds,HT.sIx]
  | some i=>
   simp only [sliceBounds,HT.sIx,Option.getD_none,show (1:Int)>0 by decide,if_true];by_cases h:i<0
   ·simp only [h,if_true] <;>omega
   ·simp only [h,if_false] <;>omega
theorem zGn(its:List Value)(lo hi:Option Int):slicePick its.toArray lo hi none=((its.drop (HT.sIx its.length 0 lo)).take (HT.sIx its.length its.length hi - HT.sIx its.length 0 lo)).toArray:=by
 obtain ⟨h1,h2,h3⟩:=zHo lo hi its.toArray.size;unfold slicePick;rw [h1,h2,h3];simp only [sliceRange_one,pick_run,zUR] <;>rfl
inductive XSlL (K:zUn) (x:V) (lo hi:Option Int) (H:Hp) (Q:VK):Prop
 | mk (a:Addr) (xs:List V) (h1:x= .ref a) (h2:SqL K H a xs) (q: ∀p,H p=none->Q (.ref p) (upd H p (.lst (yW xs lo hi))))
def zQe(K:zUn):V->Option Int->Option Int->Hp->VK->Prop:=fun x lo hi H Q=>XSlL K x lo hi H Q
theorem zPD:SlR X (zQe X.K):=by
 intro pins s σ H x v vl vu lo hi sl Q I rx hs pl pu h;obtain ⟨a,xs,rfl,hx,q⟩:=h;cases rx;obtain ⟨its,r,ht,hz⟩:=I.list hx;have hlen:=r.length;refine ⟨"list",_,slot_list_getitem.lookup,ht.isList.typeIs,?_⟩;refine wpAny_getItem_list_slice ht.isList hs pl pu .none (by simp) ?_ (by rw [zUR] <;>omega);rw [zGn,<-hlen];refine ⟨.ref s.heap.objs.size,_,I.laid (t':=s.toks) (o:= .lst (yW xs lo hi)) (fun b ob q=>zUA _ q) (zUC _) ?_,rfl,q _ (I.hok.fresh (zUC _))⟩;exact ⟨zUM (zEX xs lo hi) hz,_,0,(r.drop (HT.sIx xs.length 0 lo)).take (HT.sIx xs.length xs.length hi - HT.sIx xs.length 0 lo),zUQ _ rfl⟩
def zAa:V->Bool
 | .non=>true
 | .bl _=>true
 | .int _=>true
 | .str _=>true
 | _=>false
def eqV:V->V->Bool
 | .non,.non=>true
 | .bl a,.bl b=>a==b
 | .bl a,.int b=>(if a then 1 else 0)==b
 | .int a,.bl b=>a==(if b then 1 else 0)
 | .int a,.int b=>a==b
 | .str a,.str b=>a==b
 | _,_=>false
theorem zRJ(ry:zX y u)(rx:zX x v)(fy:zAa y=true)(fx:zAa x=true):SeqAt.EqAt A s u v (eqV y x):=by
 cases y with
 | non=>
  cases ry;cases x with
  | non=>cases rx;exact SeqAt.EqAt.same _
  | bl b=>cases rx;exact SeqAt.EqAt.none_bool b
  | int b=>obtain ⟨t,rfl⟩:=rx;exact SeqAt.EqAt.none_int b t
  | str b=>obtain ⟨t,rfl⟩:=rx;exact SeqAt.EqAt.none_str b t
  | _=>exact absurd (show false=true from fx) zUL
 | bl a=>
  cases ry;cases x with
  | non=>cases rx;exact SeqAt.EqAt.bool_none a
  | bl b=>cases rx;exact SeqAt.EqAt.bool_bool a b
  | int b=>obtain ⟨t,rfl⟩:=rx;exact SeqAt.EqAt.bool_int a b t
  | str b=>obtain ⟨t,rfl⟩:=rx;exact SeqAt.EqAt.bool_str a b t
  | _=>exact absurd (show false=true from fx) zUL
 | int a=>
  obtain ⟨t',rfl⟩:=ry;cases x with
  | non=>cases rx;exact SeqAt.EqAt.int_none a t'
  | bl b=>cases rx;exact SeqAt.EqAt.int_bool a t' b
  | int b=>obtain ⟨t,rfl⟩:=rx;exact SeqAt.EqAt.int_int a t' b t
  | str b=>obtain ⟨t,rfl⟩:=rx;exact SeqAt.EqAt.int_str a t' b t
  | _=>exact absurd (show false=true from fx) zUL
 | str a=>
  obtain ⟨t',rfl⟩:=ry;cases x with
  | non=>cases rx;exact SeqAt.EqAt.str_none a t'
  | bl b=>cases rx;exact SeqAt.EqAt.str_bool a t' b
  | int b=>obtain ⟨t,rfl⟩:=rx;exact SeqAt.EqAt.str_int a t' b t
  | str b=>obtain ⟨t,rfl⟩:=rx;exact SeqAt.EqAt.str_str a t' b t
  | _=>exact absurd (show false=true from fx) zUL
 | _=>exact absurd (show false=true from fy) zUL
def eqU(x:V)(u:Value):Bool:=match u with
 | .none=>eqV .non x
 | .bool b=>eqV (.bl b) x
 | .int i _=>eqV (.int i) x
 | .str z _=>eqV (.str z) x
 | _=>false
theorem zEy(r:zX y u)(f:zAa y=true):eqU x u=eqV y x:=by
 cases y with
 | non=>cases r;rfl
 | bl b=>cases r;rfl
 | int i=>obtain ⟨t,rfl⟩:=r;rfl
 | str z=>obtain ⟨t,rfl⟩:=r;rfl
 | _=>exact absurd (show false=true from f) zUL
theorem zCy: ∀{xs:List V} {us:List Value},zT xs us->xs.all zAa=true->us.any (eqU x)=xs.any fun y=>eqV y x
 | _,_,.nil,_=>rfl
 | y::xs,u::us,.cons r t,f=>by
  rw [List.all_cons,zUp] at f;rw [List.any_cons,List.any_cons,zEy r f.1,zCy t f.2]
theorem zBL(rx:zX x v)(fx:zAa x=true): ∀{xs:List V} {us:List Value},zT xs us->xs.all zAa=true-> ∀u∈us,SeqAt.EqAt A s u v (eqU x u)
 | _,_,.nil,_=>fun u hu=>by cases hu
 | y::xs,u::us,.cons r t,f=>fun u' hu=>by
  rw [List.all_cons,zUp] at f;rcases zUo.mp hu with rfl | hu
  ·rw [zEy r f.1];exact zRJ r rx f.1 fx
  ·exact zBL rx fx t f.2 u' hu
def inV(x:V)(xs:List V):Bool:=xs.any fun y=>eqV y x
def rIn(K:zUn)(neg:Bool):R2:=fun x y H Q=> ∃p xs,y= .ref p/\(SqL K H p xs\/SqT K H p xs)/\zAa x=true/\xs.all zAa=true/\Q (.bl (if neg then !inV x xs else inV x xs)) H
theorem zLl:OpR X (compareOp .In) (rIn X.K false):=by
 intro pins s σ H x y v u Q I rx ry h;obtain ⟨p,xs,rfl,hq,fx,fs,q⟩:=h;cases ry;rcases hq with hq | hq
 ·obtain ⟨its,r,pl,hz⟩:=I.list hq;refine SeqAt.in_listAt (eqU x) pl.isList (fun w hw=>zBL rx fx r fs w (by simpa using hw)) ⟨.bl _,H,I,rfl,?_⟩;rw [show its.toArray.any (eqU x)=its.any (eqU x) by simp,zCy r fs];exact q
 ·obtain ⟨its,r,pl,hz⟩:=I.tuple hq;refine SeqAt.in_tupleAt (eqU x) pl (fun w hw=>zBL rx fx r fs w (by simpa using hw)) ⟨.bl _,H,I,rfl,?_⟩;rw [show its.toArray.any (eqU x)=its.any (eqU x) by simp,zCy r fs];exact q
theorem zHX:OpR X (compareOp .NotIn) (rIn X.K true):=by
 intro pins s σ H x y v u Q I rx ry h;obtain ⟨p,xs,rfl,hq,fx,fs,q⟩:=h;cases ry;rcases hq with hq | hq
 ·obtain ⟨its,r,pl,hz⟩:=I.list hq;refine SeqAt.notIn_listAt (eqU x) pl.isList (fun w hw=>zBL rx fx r fs w (by simpa using hw)) ⟨.bl _,H,I,rfl,?_⟩;rw [show its.toArray.any (eqU x)=its.any (eqU x) by simp,zCy r fs];exact q
 ·obtain ⟨its,r,pl,hz⟩:=I.tuple hq;refine SeqAt.notIn_tupleAt (eqU x) pl (fun w hw=>zBL rx fx r fs w (by simpa using hw)) ⟨.bl _,H,I,rfl,?_⟩;rw [show its.toArray.any (eqU x)=its.any (eqU x) by simp,zCy r fs];exact q
theorem zCY:yY X (.builtin "len") (fun xs H Q=> ∃p ys,xs= [.ref p] /\(SqL X.K H p ys\/SqT X.K H p ys)/\Q (.int ys.length) H):=by
 intro pins s σ H xs us Q I r h;obtain ⟨p,ys,rfl,hq,q⟩:=h;obtain ⟨u,rfl,rx⟩:=zAY r;cases rx;have hn:=zCI;rcases hq with hq | hq
 ·obtain ⟨its,r',pl,hz⟩:=I.list hq;have hlen:=r'.length;exact Calls.call_len_list pl.isList (by simp only [zUR] <;>omega) ⟨.int ys.length,H,I.tok _,⟨s.toks+1,by rw [zUR,hlen]⟩,q⟩
 ·obtain ⟨its,r',pl,hz⟩:=I.tuple hq;have hlen:=r'.length;exact len_tuple pl (by simp only [zUR] <;>omega) ⟨.int ys.length,H,I.tok _,⟨s.toks+1,by rw [zUR,hlen]⟩,q⟩
theorem zIB:yY X (.builtin "len") (fun xs H Q=> ∃z,xs= [.str z] /\z.length<=sizeLine/\Q (.int z.length) H):=by
 intro pins s σ H xs us Q I r h;obtain ⟨z,rfl,hz,q⟩:=h;obtain ⟨u,rfl,t,rfl⟩:=zAY r;have hn:=zCI;exact len_str (by omega) ⟨.int z.length,H,I.tok _,⟨_,rfl⟩,q⟩
theorem zHv:yY X (.type "list") (fun xs H Q=> ∃p ys,xs= [.ref p] /\(SqL X.K H p ys\/SqT X.K H p ys)/\ ∀l,H l=none->Q (.ref l) (upd H l (.lst ys))):=by
 intro pins s σ H xs us Q I r h;obtain ⟨p,ys,rfl,hq,q⟩:=h;obtain ⟨u,rfl,rx⟩:=zAY r;cases rx;have fin: ∀(its:List Value),zT ys its->ys.length<=sizeLine-> ∀(h':Heap) (c':Nat),(∀b o',s.heap.get? b=some o'->h'.get? b=some o')->
   h'.get? s.heap.objs.size=some {cls:= .type "list",dict:=none,data:= .seq its.toArray c',slots:= #[]}->EP X pins σ Q (.ref s.heap.objs.size) {s with heap:=h'}:=fun its r' hz h' c' kp e=>
  ⟨.ref s.heap.objs.size,_,I.laid (t':=s.toks) kp (zUC _) (show zo X.prog X.w _ h' _ (.lst ys) from ⟨hz,its,c',r',e⟩),rfl,q _ (I.hok.fresh (zUC _))⟩
 rcases hq with hq | hq
 ·obtain ⟨its,r',pl,hz⟩:=I.list hq;have hlen:=r'.length;obtain ⟨o,ho,hc,n,hd⟩:=pl.isList;exact call_list_seq p (.inl rfl) ho hc hd (fun h' c' kp e=>fin its r' hz h' c' kp e) (by simp only [zUR] <;>omega)
 ·obtain ⟨its,r',pl,hz⟩:=I.tuple hq;have hlen:=r'.length;obtain ⟨o,ho,hc,n,hd⟩:=pl;exact call_list_seq p (.inr rfl) ho hc hd (fun h' c' kp e=>fin its r' hz h' c' kp e) (by simp only [zUR] <;>omega)
theorem zGo:yY X (.type "tuple") (fun xs H Q=> ∃p ys,xs= [.ref p] /\((SqL X.K H p ys/\ ∀l,H l=none->Q (.ref l) (upd H l (.tup ys)))\/(SqT X.K H p ys/\Q (.ref p) H))):=by
 intro pins s σ H xs us Q I r h;obtain ⟨p,ys,rfl,h⟩:=h;obtain ⟨u,rfl,rx⟩:=zAY r;cases rx;rcases h with ⟨hq,q⟩|⟨hq,q⟩
 ·obtain ⟨its,r',pl,hz⟩:=I.list hq;have hlen:=r'.length;refine call_tuple_list pl.isList (fun h' kp=>?_) (by simp only [zUR] <;>omega);have I1:Inv X pins σ H {s with heap:=h'}:=I.kept (t':=s.toks) kp;have I2:Inv X pins σ (upd H h'.objs.size (.tup ys)) {s with heap:=h'.push {cls:= .type "tuple",data:= .seq its.toArray}}:=
   I1.laid (t':=s.toks) (fun b o e=>zUA _ e) (zUC _) (show zo X.prog X.w _ _ _ (.tup ys) from ⟨hz,its,r',zCv.new _ _⟩)
  exact ⟨.ref h'.objs.size,_,I2,rfl,q _ (I1.hok.fresh (zUC _))⟩
 ·obtain ⟨its,r',pl,hz⟩:=I.tuple hq;exact call_tuple_same pl ⟨.ref p,H,I,rfl,q⟩
def tyV(K:zUn)(T:String)(x:V)(H:Hp):Prop:=match x with
 | .str _=>T= "str"
 | .int _=>T= "int"
 | .ref p=>(T= "list" /\ ∃xs,SqL K H p xs)\/(T= "tuple" /\ ∃o,K.lookup p=some o/\o.cls= .type "tuple" /\o.dict=none)\/
   (T= "dict" /\((∃kvs,H p=some (.dK kvs))\/ ∃kvs,H p=some (.dT kvs)))\/(T= "set" /\ ∃S n,H p=some (.set S n))
 | _=>False
theorem zKs{T:String}(I:Inv X pins σ H s)(r:zX x v)(ty:tyV X.K T x H):
  s.TypeIs v T/\ ∀a,v= .ref a-> ∃ob,s.heap.get? a=some ob/\ob.dict=none:=by
 cases x with
 | str z=>
  obtain ⟨t,rfl⟩:=r;cases (show T= "str" from ty);exact ⟨typeIs_str s z t,fun _ e=>nomatch e⟩
 | int i=>
  obtain ⟨t,rfl⟩:=r;cases (show T= "int" from ty);exact ⟨typeIs_int s i t,fun _ e=>nomatch e⟩
 | ref p=>
  cases r;rcases ty with ⟨rfl,xs,hq⟩|⟨rfl,o,hk,hc,hd⟩|⟨rfl,hk⟩|⟨rfl,S,n,hk⟩
  ·obtain ⟨its,_,pl,_⟩:=I.list hq;refine ⟨pl.isList.typeIs,fun a e=>?_⟩;cases e;obtain ⟨o,n,e,c,hd,_⟩:=pl;exact ⟨o,e,hd⟩
  ·refine ⟨⟨o,I.kIn p o hk,hc⟩,fun a e=>?_⟩;cases e;exact ⟨o,I.kIn _ o hk,hd⟩
  ·have z: ∃o,s.heap.get? p=some o/\o.ExactDict:=by
    rcases hk with ⟨kvs,hk⟩|⟨kvs,hk⟩
    ·obtain ⟨_,_,_,_,o,_,_,e,ex,_⟩:=I.hok p _ hk;exact ⟨o,e,ex⟩
    ·obtain ⟨_,_,_,_,o,_,_,e,ex,_⟩:=I.hok p _ hk;exact ⟨o,e,ex⟩
   obtain ⟨o,e,ex⟩:=z;refine ⟨⟨o,e,ex.1⟩,fun a e2=>?_⟩;cases e2;exact ⟨o,e,ex.2.1⟩
  ·obtain ⟨o,_,_,_,e,ex,_⟩:=I.hok p _ hk;refine ⟨⟨o,e,ex.1⟩,fun a e2=>?_⟩;cases e2;exact ⟨o,e,ex.2.1⟩
 | _=>exact False.elim ty
def zRZ(K:zUn)(T:String)(r:V->List V->Hp->VK->Prop)(to:TE):TE:=fun σ H Q=>to σ H fun x H1=>tyV K T x H1/\r x [] H1 Q
def tBM(K:zUn)(T:String)(r:V->List V->Hp->VK->Prop)(to:TE)(t:TA):TE:=fun σ H Q=>to σ H fun x H1=>tyV K T x H1/\t σ H1 fun xs H2=>r x xs H2 Q
variable {o e:Expr}{es:List Expr}{to:TE}{t:TA}{name:Str}{apos cpos:Pos}{T id:String}{r:V->List V->Hp->VK->Prop}
theorem zRO(pa:PlainAttrs T)(slot:Slot T name id)(hty:typeOf (.builtin id)=pure (.type "method_descriptor"))(hm:MtR X id r)(ho:PE X o to)
  (hbase:attributeBase o name X.env (eval o X.env)=eval o X.env:=by rfl) (hline:(apos.endLine==cpos.line)=true:=by rfl):PE X (.Call (.Attribute o name apos) [] [] cpos) (zRZ X.K T r to):=by
 intro pins s σ H Q I h;refine wpAny_Call_method0_late hbase hline (zW (ho pins s σ H _ I h) fun v s1 ⟨x,H1,I1,r1,ty,q1⟩=>?_);obtain ⟨h1,h2⟩:=zKs I1 r1 ty;exact ⟨T,id,pa,slot,hty,h1,h2,Calls.callWith_builtin rfl (PySem.evalArgs_none (hm pins s1 σ H1 x [] v [] Q I1 r1 .nil q1))⟩
theorem zDJ(pa:PlainAttrs T)(slot:Slot T name id)(hty:typeOf (.builtin id)=pure (.type "method_descriptor"))(hm:MtR X id r)(ho:PE X o to)(ha:PA X (e::es) t)
  (hbase:attributeBase o name X.env (eval o X.env)=eval o X.env:=by rfl)
  (hfew:((backTo cpos (starEach (e::es) X.env)).all (fun x=>!x.1)&&(backToKw cpos (keywordEach [] X.env)).all (fun x=>x.1.isSome)
   &&decide ((e::es).length+([] :List Keyword).length+(if ([] :List Keyword).isEmpty then 0 else 1)<30))=true:=by rfl)
  (hline:(apos.endLine==cpos.line)=true:=by rfl) (hs:starEach (e::es) X.env=(false,eval e X.env)::starEach es X.env:=by rfl) (hplain:(backTo cpos (starEach es X.env)).any (·.1)=false:=by rfl):
  PE X (.Call (.Attribute o name apos) (e::es) [] cpos) (tBM X.K T r to t):=by
 intro pins s σ H Q I h;refine wpAny_Call_method_late hbase hfew hline rfl (zW (ho pins s σ H _ I h) fun v s1 ⟨x,H1,I1,r1,ty,q1⟩=>?_);obtain ⟨h1,h2⟩:=zKs I1 r1 ty;refine ⟨T,id,pa,slot,hty,h1,h2,?_⟩;have hA:=ha cpos pins s1 σ H1 _ I1 q1;rw [hs] at hA⊢;refine Calls.callWith_builtin (by show (false ||(backTo cpos (starEach es X.env)).any (·.1))=false;rw [hplain] <;>rfl) (Calls.evalArgs_plain ?_);exact zW hA fun us s2 ⟨vs,H2,I2,r2,q2⟩=>hm pins s2 σ H2 x vs v us Q I2 r1 r2 q2
end
def MtM(X:Cx)(id:String)(r:V->List V->Hp->VK->Prop):Prop:=
 ∀(pins:List (Addr×Obj)) (s:Shared) (σ:St) (H:Hp) (x:V) (xs:List V) (v:Value) (us:List Value) (Q:VK),Inv X pins σ H s->zX x v->zT xs us->r x xs H Q->
  wpAny (model X.prog X.w) X.A (call (.builtin id) (v::us)) (EP X pins σ Q) X.xe s
theorem zT.one: ∀{x:V} {us:List Value},zT [x] us-> ∃u,us= [u] /\zX x u
 | _,_,.cons r .nil=>⟨_,rfl,r⟩
theorem zT.two: ∀{x y:V} {us:List Value},zT [x,y] us-> ∃u v,us= [u,v] /\zX x u/\zX y v
 | _,_,_,.cons r (.cons q .nil)=>⟨_,_,rfl,r,q⟩
theorem zT.zero: ∀{us:List Value},zT [] us->us= []
 | _,.nil=>rfl
theorem zT.dropLast(h:zT xs us):zT xs.dropLast us.dropLast:=by
 induction h with
 | nil=>exact .nil
 | cons r t ih=>
  cases t with
  | nil=>exact .nil
  | cons q t'=>exact .cons r ih
theorem zT.eraseIdx: ∀{xs:List V} {us:List Value} (i:Nat),zT xs us->zT (xs.eraseIdx i) (us.eraseIdx i)
 | _,_,_,.nil=> .nil
 | _,_,0,.cons _ t=>t
 | _,_,i+1,.cons r t=> .cons r (zT.eraseIdx i t)
theorem zJe{α:Type}(l:List α):l.eraseIdx (l.length - 1)=l.dropLast:=by
 induction l with
 | nil=>rfl
 | cons a r ih=>
  cases r with
  | nil=>rfl
  | cons b r=>
   have e:(a::b::r).length - 1=((b::r).length - 1)+1:=by
    have h1:(a::b::r).length=r.length+2:=rfl;have h2:(b::r).length=r.length+1:=rfl;omega
   rw [e,List.eraseIdx_cons_succ,ih]
   all_goals rfl
theorem zGl{α:Type}: ∀(l:List α) (i:Nat),(l.eraseIdx i).length<=l.length
 | [],_=>zUC _
 | _::_,0=>Nat.le_succ _
 | _::r,i+1=>Nat.succ_le_succ (zGl r i)
theorem zDo(its:List Value): ∀(k:Nat) (acc:List Value),
  List.foldl (fun x1 x2=>x1++x2) acc.toArray (List.replicate k its.toArray)=(acc++(List.replicate k its).flatten).toArray
 | 0,acc=>by simp
 | k+1,acc=>by
  have e:acc.toArray++its.toArray=(acc++its).toArray:=by simp
  have e2:(acc++its)++(List.replicate k its).flatten=acc++(List.replicate (k+1) its).flatten:=by
   rw [List.replicate_succ,List.flatten_cons,List.append_assoc]
  rw [<-e2,<-zDo its k (acc++its),<-e,List.replicate_succ,List.foldl_cons]
section
variable {X:Cx}{pins:List (Addr×Obj)}{σ:St}{H:Hp}{s:Shared}{l b:Addr}{xs ys zs:List V}
theorem Inv.lset{its its':List Value}{n:Nat}{f:Array Value->Array Value}{t':Nat}(I:Inv X pins σ H s)(hH:H l=some (.lst xs))
  (e:s.heap.get? l=some {cls:= .type "list",data:= .seq its.toArray n}) (hf:f its.toArray=its'.toArray) (hv:zT ys its') (hz:ys.length<=sizeLine):
  Inv X pins σ (upd H l (.lst ys)) {s with heap:=s.heap.update l (Obj.mapSeq f),toks:=t'}:=by
 have q:=PySem.IsL.update e f;rw [hf] at q;refine I.write (x:=l) (e:=l) (by rw [hH];exact trivial) (.inl rfl) (fun b' u hb hu=>(zUe s.heap (Obj.mapSeq f) (Ne.symm hb)).trans hu) ⟨_,q⟩ ?_;exact ⟨hz,its',_,hv,q⟩
theorem Inv.lnew(I:Inv X pins σ H s)(hv:zT ys its)(hz:ys.length<=sizeLine):
  Inv X pins σ (upd H s.heap.objs.size (.lst ys)) {s with heap:=s.heap.push {cls:= .type "list",data:= .seq its.toArray},toks:=t'}:=
 I.laid (fun _ _ q=>zUA _ q) (zUC _) ⟨hz,its,0,hv,zUQ _ rfl⟩
theorem Inv.fresh(I:Inv X pins σ H s):H s.heap.objs.size=none:=I.hok.fresh (zUC _)
theorem Inv.lstM(I:Inv X pins σ H s)(hH:H l=some (.lst xs)):xs.length<=sizeLine/\ ∃(its:List Value) (n:Nat),zT xs its/\xs.length=its.length/\s.heap.get? l=some {cls:= .type "list",data:= .seq its.toArray n}:=by
 obtain ⟨z,its,n,r,e⟩:=I.hok l _ hH;exact ⟨z,its,n,r,r.length,e⟩
theorem zHY(h:n<=sizeLine):Builtin.List.listTooLong n=false:=by
 unfold Builtin.List.listTooLong;exact zUW (by omega)
end
section
variable {X:Cx}
inductive XApp (x:V) (vs:List V) (H:Hp) (Q:VK):Prop
 | mk (l:Addr) (xs:List V) (y:V) (h1:x= .ref l) (h2:vs= [y]) (h3:H l=some (.lst xs)) (h4:xs.length<sizeLine) (q:Q .non (upd H l (.lst (xs++ [y]))))
def zIp:V->List V->Hp->VK->Prop:=fun x vs H Q=>XApp x vs H Q
theorem zDj:MtM X "list.append" zIp:=by
 intro pins s σ H x vs v us Q I rx rv h;obtain ⟨l,xs,y,rfl,rfl,hH,hz,q⟩:=h;cases rx;obtain ⟨u,rfl,ru⟩:=rv.one;obtain ⟨z,its,n,r,hl,e⟩:=I.lstM hH;refine call_meets F.slot_list_append ⟨_,e,rfl⟩ F.entry_list_append (F.args_list_append_2 _ _) (PySem.list_append l its.toArray n u (by rw [zUR];omega)) ⟨e,?_⟩;refine ⟨.non,_,I.lset (its':=its++ [u]) hH e (by simp) (r.append (.cons ru .nil)) ?_,rfl,q⟩;rw [zUY,List.length_singleton];omega
def zOZ:V->List V->Hp->VK->Prop:=fun x vs H Q=> ∃l b xs zs,x= .ref l/\vs= [.ref b] /\H l=some (.lst xs)/\H b=some (.lst zs)/\xs.length+zs.length<=sizeLine/\Q .non (upd H l (.lst (xs++zs)))
theorem zLc:MtM X "list.extend" zOZ:=by
 intro pins s σ H x vs v us Q I rx rv h;obtain ⟨l,b,xs,zs,rfl,rfl,hH,hB,hz,q⟩:=h;cases rx;obtain ⟨u,rfl,ru⟩:=rv.one;cases ru;obtain ⟨z,its,n,r,hl,e⟩:=I.lstM hH;obtain ⟨z2,its2,n2,r2,hl2,e2⟩:=I.lstM hB;have hsz:its.toArray.size+its2.toArray.size<=sizeLine:=by rw [zUR,zUR];omega
 have hlong: ¬(!its.toArray.isEmpty&&Builtin.List.listTooLong (its.toArray.size+its2.toArray.size))=true:=by
  rw [zHY hsz,Bool.and_false];exact zUL
 refine call_meets F.slot_list_extend ⟨_,e,rfl⟩ F.entry_list_extend (F.args_list_extend_2 _ _)
  (AutoSeq1.list_extend_list_list_0 l its.toArray n b its2.toArray n2 hlong (by rw [zUR];omega) (by omega)) ⟨e,e2,?_⟩
 refine ⟨.non,_,I.lset (its':=its++its2) hH e (by simp) (r.append r2) ?_,rfl,q⟩;rw [zUY];omega
def zPO:V->List V->Hp->VK->Prop:=fun x vs H Q=> ∃l xs y,x= .ref l/\vs= [] /\H l=some (.lst xs)/\xs[xs.length - 1]?=some y/\Q y (upd H l (.lst xs.dropLast))
theorem zPp:MtM X "list.pop" zPO:=by
 intro pins s σ H x vs v us Q I rx rv h;obtain ⟨l,xs,y,rfl,rfl,hH,hy,q⟩:=h;cases rx;have hus:=rv.zero;subst hus;obtain ⟨z,its,n,r,hl,e⟩:=I.lstM hH;obtain ⟨u,hu,ru⟩:=r.get hy;have hy':its.toArray[its.toArray.size - 1]?=some u:=by
  show its.toArray[its.length - 1]?=some u;rw [<-Array.getElem?_toList,<-hl];exact hu
 refine call_meets F.slot_list_pop ⟨_,e,rfl⟩ F.entry_list_pop (F.args_list_pop_1 _) (MeetsSeq.list_pop_last l its.toArray n u hy' (by rw [zUR];omega)) ⟨e,?_⟩;refine ⟨y,_,I.lset (its':=its.dropLast) hH e ?_ r.dropLast ?_,ru,q⟩
 ·show its.toArray.eraseIdxIfInBounds (its.toArray.size - 1)=its.dropLast.toArray;rw [zUR,List.eraseIdxIfInBounds_toArray,zJe]
 ·rw [List.length_dropLast];omega
inductive XCat (x y:V) (H:Hp) (Q:VK):Prop
 | mk (l b:Addr) (xs zs:List V) (h1:x= .ref l) (h2:y= .ref b) (h3:H l=some (.lst xs)) (h4:H b=some (.lst zs)) (h5:xs.length+zs.length<=sizeLine) (q: ∀p,H p=none->Q (.ref p) (upd H p (.lst (xs++zs))))
def zRc:R2:=fun x y H Q=>XCat x y H Q
theorem zQa:OpR X (binaryOp .Add) zRc:=by
 intro pins s σ H x y v u Q I rx ry h;obtain ⟨l,b,xs,zs,rfl,rfl,hH,hB,hz,q⟩:=h;cases rx;cases ry;obtain ⟨z,its,n,r,hl,e⟩:=I.lstM hH;obtain ⟨z2,its2,n2,r2,hl2,e2⟩:=I.lstM hB;refine PySem.P.add_list e e2 ?_ (by rw [zUR,zUR];omega);have ea:its.toArray++its2.toArray=(its++its2).toArray:=by simp
 rw [ea];exact ⟨.ref _,_,I.lnew (t':=s.toks) (r.append r2) (by rw [zUY];omega),rfl,q _ I.fresh⟩
theorem zOn{α:Type}(xs:List α)(k:Nat):(List.replicate k xs).flatten.length=k*xs.length:=by
 induction k with
 | zero=>simp
 | succ k ih=>rw [List.replicate_succ,List.flatten_cons,zUY,ih,Nat.succ_mul,Nat.add_comm]
end
section
variable {prog:Program}{w:World}{A:Around}{E:Value->Shared->Prop}{s:Shared}
set_option maxRecDepth 100000 in
end
section
variable {X:Cx}
end
end L2
namespace Att
open PySem PySem.W PySem.Calls PyProof.Rows
theorem zEx{P:Params}: ∀(ns:List Int) (vs:List Value),WellAll P h vs (ns.map WData.int)->IntsAre vs ns:=by
 intro ns
 induction ns with
 | nil=>
  intro vs w;rw [List.map_nil] at w;cases w;exact .nil
 | cons n ns ih=>
  intro vs w;rw [zUr] at w;cases w with
  | cons a b=>
   cases a;exact .cons _ _ (ih _ b)
theorem zLW{l:OpenLaw}(hn:l.most=some n){P:Params}{args:List WData}
  (hpre:l.row.toRowW.claim.pre args=true) (hwl:WellAll P h vals args):
  ∃a vs ns,vals= [Value.ref a] /\args= [WData.list (ns.map WData.int)] /\h.get? a=some {cls:= .type "list",data:= .seq vs.toArray}/\IntsAre vs ns/\ns.length<=n:=by
 have hsh:WShape.hasAll [] args [.list .int] =true:=(pre_splitW hpre).1;have hc:l.pre.holds [] {args:=args}=true:=(pre_splitW hpre).2;obtain ⟨d,r,rfl,h1,h2⟩:=hasAllW_cons hsh;obtain rfl:=hasAllW_nil h2;obtain ⟨xs,rfl,h3⟩:=hasW_list h1;obtain ⟨ns,rfl⟩:=items_int h3;have hlen:ns.length<=n:=by
  unfold OpenLaw.pre at hc;have h4:(WTm.not (.lt (.lit (.int (n:Int))) (.len (.arg 0)))).holds [] {args:= [.list (ns.map .int)]}=true:=by
   have h4:=(holds_andW hc).1;rw [hn] at h4;exact h4
  have h5:=condW_of h4 (w_not (w_lt w_lit (w_len_list (w_arg rfl))));rw [zUF] at h5;refine Nat.le_of_not_lt fun q=>?_;have q':(n:Int)<((ns.length:Nat):Int):=by omega
  first
   |(rw [zUV q'] at h5;exact absurd h5 (by decide))
   |(simp at h5;omega)
 cases hwl with
 | cons w1 w2=>
  cases w2;cases w1 with
  | list ho hall=>exact ⟨_,_,ns,rfl,rfl,ho,zEx ns _ hall,hlen⟩
theorem zKV(l:OpenLaw)(args:List WData):l.row.toRowW.claim.post args (.bool true) args=true:=
 postW_of (r:=l.row.toRowW) (X:=(true==true))
  (show WShape.has [] (.bool true) .bool=true by first | rfl | decide | simp [WShape.has,WShape.arms,WShape.armsAll])
  (show (WTm.eq .res (.lit (.bool true))).value [] {args:=args,res:=some (.bool true),after:=args}=some (.bool (true==true)) from w_eq_bool (w_res rfl) w_lit) rfl
theorem attach_call{l:OpenLaw}{XP:(Str->Option Value)->Heap->Prop}{YP:World->Heap->Prop}{d:DefRec}
  (hn:l.most=some n) (hdf:d.params.defaults= [])
  (call: ∀(w:World) (s₀ s₁:Shared) (mg mb:Str->Option Value) (fa:Addr) (o:Obj) (pm cd doc:Value) (a:Addr) (vs:List Value) (ns:List Int),
   Ground q loose [] XP w s₀ mg mb s₁.heap->YP w s₁.heap->
   s₁.heap.get? fa=some o->o.data= .func (docDef d.name d.params d.body d.scope pm cd doc)->s₁.heap.CodeRec cd d.name->mg d.name=some (.ref fa)->
   s₁.heap.get? a=some {cls:= .type "list",data:= .seq vs.toArray}->IntsAre vs ns->ns.length<=n->s₁.gens= #[] ->
   codeAny (model l.prog w) callerA (.call (.ref fa) ⟨[.ref a],[]⟩) (fun r s'=>r= .ok (.ret (.bool true))/\OldK s₁.heap s'.heap/\s'.os=s₁.os/\AllBare s'.gens) s₁):
  WalkO q loose XP YP l.row.toRowW d [] (fun f vs=>PySem.call f vs):=by
 intro w s₀ s₁ mg mb G Y fa o pm cd doc dV kV ho hd hcd hD hmg hg args vals as hpre hlay hrd hwl hlo;obtain rfl:dV= .none:=Dflts.none hD hdf;obtain rfl:kV= .none:=Dflts.noKw hD;obtain ⟨a,vs,ns,rfl,rfl,hobj,hints,hlen⟩:=zLW hn hpre hwl;refine enter_call (zUl (call w s₀ s₁ mg mb fa o pm cd doc a vs ns G Y ho (fd_plain hd) hcd hmg hobj hints hlen hg) fun r s' hq=>?_);obtain ⟨rfl,h2,h3,h4⟩:=hq;exact ⟨.inl ⟨.bool true,.bool true,[],rfl,fun _=>rfl,.bool true,zKV l _,fun _=>⟨List.Pairwise.nil,fun _ hm=>(nomatch hm)⟩⟩,h2,h3,h4⟩
section
variable {prog:Program}{w:World}{A:Around}{E:Value->Shared->Prop}{s:Shared}{K:Frag}
end
end Att
namespace L2
open PySem PySem.Spec PyProof.Rows
theorem zGQ: ∀{vs:List Value} {ns:List Int},IntsAre vs ns->zT (ns.map V.int) vs
 | _,_,.nil=> .nil
 | _,_,.cons n t h=> .cons ⟨t,rfl⟩ (zGQ h)
def zMG(H:Hp):Prop:= ∀b,H b=none\/ ∃o xs,H b=some (.frz o (.lst xs))
theorem zMw{P:Program}{w:World}{K:zUn}{mg mb:Str->Option Value}{CX:CXT}{k:Nat}{fa a:Addr}{fd:FuncData}{x:Str}{sp:Sp}{s₁:Shared}{vs:List Value}{ns:List Int}
  (KX:K.In s₁.heap) (hns:s₁.heap.Ns mainGlobals mg) (hb:s₁.heap.Ns builtinsNs mb) (hbb: ∀x:Str,x≠ "__name__" ->mb x=bootBuiltins x) (hlim:s₁.heap.NoLimit) (hse:s₁.heap.NoSeer) (hg:s₁.gens= #[])
  (ha:s₁.heap.get? a=some {cls:= .type "list",data:= .seq vs.toArray}) (hi:IntsAre vs ns) (hl:ns.length<=sizeLine) (hr:Room k callerA)
  (F: ∀base:Heap,K.In base->base.Ns mainGlobals mg->FnOk P w K mg base CX k fa fd [x] sp) (hbind: ∀(s:Shared) (u:Value),BindsTo s fd ⟨[u],[]⟩ [(x,u)])
  (hsp: ∀H:Hp,zMG H->SqL K H a (ns.map V.int)->sp [.ref a] H (fun v _=>v= .bl true) fun _ _ _=>False)
  (hCX: ∀H e s',CX [] H s₁ (fun _ _ _=>False) e s'->False):
  codeAny (model P w) callerA (.call (.ref fa) ⟨[.ref a],[]⟩) (fun r s'=>r= .ok (.ret (.bool true))/\OldK s₁.heap s'.heap/\s'.os=s₁.os/\AllBare s'.gens) s₁:=by
 have rv:=zGQ hi;have lenV:=hi.length;have core: ∀H:Hp,zMG H->SqL K H a (ns.map V.int)->HOk P w H s₁.heap->(∀b,H b≠none->b=a)->(H a≠none->K.lookup a=none)->
   codeAny (model P w) callerA (.call (.ref fa) ⟨[.ref a],[]⟩) (fun r s'=>r= .ok (.ret (.bool true))/\OldK s₁.heap s'.heap/\s'.os=s₁.os/\AllBare s'.gens) s₁:=by
  intro H hO hS hok hA hK;have base_of: ∀{b:Addr} {o:Obj},s₁.heap.get? b=some o->H b=none->(zCl s₁.heap H).get? b=some o:=fun e n=>zMb e n;have noA: ∀{b:Addr} {o:Obj} {es:Array DictEntry} {ep:Nat},s₁.heap.get? b=some o->o.data= .dict es ep->H b=none:=fun {b o es ep} e d=>by
   cases q:H b with
   | none=>rfl
   | some u=>
    have e':b=a:=hA b (by rw [q];simp);subst e';rw [ha] at e;cases e;have d':Data.seq vs.toArray _=Data.dict es ep:=d;cases d'
  have nsK: ∀{b:Addr} {m:Str->Option Value},s₁.heap.Ns b m->(zCl s₁.heap H).Ns b m:=fun {b m} ⟨o,es,ep,e,d,r⟩=>⟨o,es,ep,base_of e (noA e d),d,r⟩;have hKb:K.In (zCl s₁.heap H):=fun b o e=>base_of (KX b o e) (by
   cases q:H b with
   | none=>rfl
   | some u=>
    have e':b=a:=hA b (by rw [q];simp);subst e';rw [hK (by rw [q];simp)] at e;cases e)
  have hsb:(zCl s₁.heap H).NoSeer:=by
   obtain ⟨mg',bm,ob,g1,g2,g3,g4,g5⟩:=hse.main;have nb:H bm=none:=by
    cases q:H bm with
    | none=>rfl
    | some u=>
     have e':bm=a:=hA bm (by rw [q];simp);subst e';rw [ha] at g3;cases g3;have g4':Value.type "list" =Value.type "module" :=g4;exact absurd g4' (by decide)
   exact ⟨let ⟨mc,h1,h2⟩:=hse.statics;⟨mc,nsK h1,h2⟩,let ⟨mc,h1,h2⟩:=hse.mods;⟨mc,nsK h1,h2⟩,let ⟨mc,h1,h2⟩:=hse.imp;⟨mc,nsK h1,h2⟩,⟨mg',bm,ob,nsK g1,g2,base_of g3 nb,g4,g5⟩⟩
  have hM:Mod K mg (zCl s₁.heap H):=⟨hKb,nsK hns,⟨mb,nsK hb,hbb⟩,(let ⟨mc,h1,h2⟩:=hlim;⟨mc,nsK h1,h2⟩),hsb⟩;have e0:Env0 P w K mg (zCl s₁.heap H) callerA [] s₁ H:=⟨rfl,hM,fun b o e=>zOD e,Nat.le_of_eq (zKn _ _),trivial,fun b hb=>absurd (show b∈([] :List Addr) from hb) (by simp),hok,.of_eq hg⟩;refine zUl ((F _ hKb (nsK hns)).run callerA [] s₁ H ⟨[.ref a],[]⟩ [.ref a] [.ref a] _ _ hr e0 (hbind s₁ (.ref a)) (.cons rfl .nil) (hsp H hO hS)) fun r s' h=>?_;cases r with
  | error e=>exact (hCX H e s' h).elim
  | ok fl=>
   cases fl with
   | next=>exact False.elim h
   | brk=>exact False.elim h
   | cont=>exact False.elim h
   | ret u=>
    obtain ⟨v,H',os,bare,un,hok',r',q⟩:=h;have q':v= .bl true:=q;subst q';obtain rfl:u=Value.bool true:=r';refine ⟨rfl,OldK.of_keep fun b o e=>?_,os,bare⟩;cases q:H b with
    | none=>exact un.keep b o e q (by intro z;exact absurd (show b∈([] :List Addr) from z) (by simp)) (by simp)
    | some u=>
     rcases hO b with z |⟨ob,xs,z⟩
     ·rw [q] at z;cases z
     ·have z2:=un.frzs b ob _ z;obtain ⟨e1,_⟩:=hok b _ z;obtain ⟨e2,_⟩:=hok' b _ z2;rw [e] at e1;cases e1;exact e2
 cases hk:K.lookup a with
 | some o=>
  have e:=KX a o hk;rw [ha] at e;cases e;refine core (fun _=>none) (fun _=> .inl rfl) (.inr ⟨_,vs.toArray,_,hk,rfl,rfl,rfl,by rw [zUR,lenV];exact hl,by simpa using rv⟩) (fun b u z=>by have z':(none:Option HO)=some u:=z;cases z') (fun b z=>absurd rfl z) fun z=>absurd rfl z
 | none=>
  refine core (fun b=>if b=a then some (.frz {cls:= .type "list",data:= .seq vs.toArray} (.lst (ns.map V.int))) else none) (fun b=>?_) (.inl (.inr ⟨{cls:= .type "list",data:= .seq vs.toArray},if_pos rfl⟩)) (fun b u z=>?_) (fun b z=>?_) fun _=>hk
  ·by_cases hb:b=a
   ·exact .inr ⟨_,_,if_pos hb⟩
   ·exact .inl (if_neg hb)
  ·by_cases hb:b=a
   ·have z':=(if_pos hb).symm.trans z;cases z';subst hb;exact ⟨ha,by rw [zUF];exact hl,vs,_,rv,ha⟩
   ·have z':=(if_neg hb).symm.trans z;cases z'
  ·by_cases hb:b=a
   ·exact hb
   ·exact absurd (if_neg hb) z
theorem zOW{l:PySem.W.OpenLaw}{XP:(Str->Option Value)->Heap->Prop}{YP:World->Heap->Prop}{d:DefRec}{K:Params->zUn}{CX:World->CXT}{sp:World->Sp}
  (hn:l.most=some n) (hn2:n<=sizeLine) (hdf:d.params.defaults= []) (hI:importsNone q=true) (hr:Room k callerA)
  (hY: ∀(w:World) (h:Heap),YP w h->(K w.params).In h)
  (F: ∀(w:World) (mg:Str->Option Value) (fa:Addr) (h:Heap),(K w.params).In h->h.Ns mainGlobals mg->mg d.name=some (.ref fa)->
   ∃fd:FuncData,(∀(s:Shared) (u:Value),BindsTo s fd ⟨[u],[]⟩ [(x,u)])/\
    ∀base:Heap,(K w.params).In base->base.Ns mainGlobals mg->FnOk l.prog w (K w.params) mg base (CX w) k fa fd [x] (sp w))
  (hsp: ∀(w:World) (H:Hp) (a:Addr) (ns:List Int),ns.length<=n->zMG H->SqL (K w.params) H a (ns.map V.int)->sp w [.ref a] H (fun v _=>v= .bl true) fun _ _ _=>False)
  (hCX: ∀(w:World) (H:Hp) (s:Shared) (e:Value) (s':Shared),CX w [] H s (fun _ _ _=>False) e s'->False):
  PySem.W.WalkO q loose XP YP l.row.toRowW d [] (fun f vs=>PySem.call f vs):=by
 refine Att.attach_call hn hdf fun w s₀ s₁ mg mb fa o pm cd doc a vs ns G Y ho hd hcd hmg hobj hints hlen hg=>?_;have KX:=hY w _ Y;obtain ⟨fd,hb,hF⟩:=F w mg fa _ KX G.T.g hmg;exact zMw KX G.T.g G.T.b G.T.builtins G.T.nolimit (G.T.seer hI) hg hobj hints (zUM hlen hn2) hr hF hb (fun H hO hS=>hsp w H a ns hlen hO hS) fun H e s'=>hCX w H s₁ e s'
def zv(s:Stmt)(j:Nat):Stmt:=match s with
 | .ClassDef _ _ _ body _ _ _ _ _ _ _=>body.getD j (.Pass ⟨0,0,0,0⟩)
 | _=> .Pass ⟨0,0,0,0⟩
def zAG(s:Stmt):Arguments:=match s with
 | .FunctionDef _ a _ _ _ _ _ _ _ _=>a
 | _=>{posonlyargs:= [],args:= [],vararg:=none,kwonlyargs:= [],kw_defaults:= [],kwarg:=none,defaults:= []}
def yT(s:Stmt):List Stmt:=match s with
 | .FunctionDef _ _ b _ _ _ _ _ _ _=>b
 | _=> []
def zK(s:Stmt):Scope:=match s with
 | .FunctionDef _ _ _ _ _ _ sc _ _ _=>sc
 | _=>{kind:= .function,names:= [],isGenerator:=false,isCoroutine:=false}
abbrev CX0:CXT:=fun _ _ _ _ _ _=>False
abbrev E0:XK:=fun _ _ _=>False
theorem zP{X:Cx}:zAm CX0 X E0:=fun _ _ _ _ _ _ _ h=>h.elim
structure Fun(K:zUn)(x qual:Str)(st:Stmt)(f:Addr)(fd:FuncData):Prop where
 ex: ∃(oc:Value) (od:Option Addr) (kV doc pm:Value) (an:Option Addr) (cdv ct:Value) (osl:Array (Option Value)),
  fd=PySem.W.fnOf x qual (zAG st) (yT st) (zK st) .none kV doc pm an cdv ct/\K.lookup f=some ⟨oc,od,.func fd,osl⟩/\PySem.W.codeIn K cdv qual=true
 kp:PySem.W.keepIn K (.ref f)=true
section
variable {P:Program}{w:World}{K:zUn}{mg:Str->Option Value}{base:Heap}
theorem Fun.ok{x qual:Str}{st:Stmt}{f:Addr}{fd:FuncData}{N ps:List Str}{k:Nat}{sp:Sp}(F:Fun K x qual st f fd)(S:FnScope N ps (zK st))(len: ∀vs H Q E,sp vs H Q E->vs.length=ps.length)
  (hbody: ∀(cdv:Value) (A:Around) (outer:List Env) (s:Shared) (H:Hp) (vs:List V) (Q:VK) (E:XK),Room k (A.deeper (envOfC qual (zK st) s.heap.objs.size f cdv))->sp vs H Q E->
   ∃t,PSs (zBk CX0 P w K mg base N qual (zK st) f cdv A outer s H E).nox (yT st) t/\t {nx:=fun _ H'=>Q .non H',rt:=Q} (zBB N vs) H):FnOk P w K mg base CX0 (k+1) f fd ps sp:=by
 obtain ⟨oc,od,kV,doc,pm,an,cdv,ct,osl,rfl,lk,hcd⟩:=F.ex;refine zNU lk hcd S len fun A outer s H vs Q E hr hsp=>?_;obtain ⟨t,h,q⟩:=hbody cdv A outer s H vs Q E hr hsp;exact ⟨t,h.nox,q⟩
theorem Fun.binds{x qual:Str}{st:Stmt}{f:Addr}{fd:FuncData}{ps:List Str}(F:Fun K x qual st f fd)
  (h: ∀(kV doc pm:Value) (an:Option Addr) (cdv ct:Value) (us:List Value),us.length=ps.length->bindArgs (PySem.W.fnOf x qual (zAG st) (yT st) (zK st) .none kV doc pm an cdv ct) ⟨us,[]⟩=pure (ps.zip us)):zO K fd ps [] :=by
 obtain ⟨oc,od,kV,doc,pm,an,cdv,ct,osl,rfl,lk,hcd⟩:=F.ex;exact .all (h kV doc pm an cdv ct)
theorem zIF{x qual:Str}{st:Stmt}{f:Addr}{oc:Value}{od an:Option Addr}{osl:Array (Option Value)}{kV doc pm cdv ct:Value}(l:K.lookup f=some ⟨oc,od,.func (PySem.W.fnOf x qual (zAG st) (yT st) (zK st) .none kV doc pm an cdv ct),osl⟩)
  (c:PySem.W.codeIn K cdv qual=true) (k:PySem.W.keepIn K (.ref f)=true):Fun K x qual st f (PySem.W.fnOf x qual (zAG st) (yT st) (zK st) .none kV doc pm an cdv ct):=⟨⟨oc,od,kV,doc,pm,an,cdv,ct,osl,rfl,l,c⟩,k⟩
end
theorem zAb(hr:Room k A):A.units+1<cLine:=Nat.lt_of_le_of_lt (Nat.add_le_add_left (by decide:1<=64) _) hr.units
section
variable {X:Cx}
theorem pv(i:Nat)(hN:X.N[i]?=some x:=by rfl)(hv:Vis X.env.scope x:=by first | exact Or.inl rfl | exact Or.inr (Or.inl rfl)| exact Or.inr (Or.inr rfl))(hd:(x==("__debug__" :Str))=false:=by decide)
  (hcd:(x==("__classdict__" :Str))=false:=by decide):PE X (.Name x pos) (zKI i):=zHd hN hv hd hcd
end
theorem zD{A B:Prop}(h:B):if false=true then A else B:=by
 rw [if_neg zUL];exact h
theorem zI{A B:Prop}(h:A):if true=true then A else B:=by
 rw [if_pos rfl];exact h
theorem zp{c A B:Prop}[Decidable c](h1:c->A)(h2: ¬c->B):if c then A else B:=by
 by_cases h:c
 ·rw [if_pos h];exact h1 h
 ·rw [if_neg h];exact h2 h
theorem zNZ{c A B:Prop}[Decidable c](hc:c)(h:B):if (!decide c)=true then A else B:=by
 rw [zUV hc];exact zD h
def zA(H H':Hp):Prop:= ∀b o,H b=some o->H' b=some o
theorem zA.refl(H:Hp):zA H H:=fun _ _ h=>h
theorem zA.trans(a:zA H H1)(b:zA H1 H2):zA H H2:=fun c o h=>b c o (a c o h)
theorem zA.seq{K:zUn}{H H':Hp}{a:Addr}{xs:List V}(e:zA H H')(h:SqL K H a xs):SqL K H' a xs:=by
 rcases h with (h |⟨o,h⟩)| h
 ·exact .inl (.inl (e _ _ h))
 ·exact .inl (.inr ⟨o,e _ _ h⟩)
 ·exact .inr h
end L2
namespace FrM
theorem zHR(a b:Int)(_hb:0<b):Int.gcd b (a % b)=Int.gcd a b:=by
 rw [Int.gcd_comm,Int.emod_def,Int.gcd_sub_mul_left_left]
theorem zMI(g:Int)(h:0<=g):((Int.gcd g 0:Nat):Int)=g:=by
 rw [Int.gcd_zero_right];omega
end FrM
namespace L2
open PySem PySem.Spec PyProof.Rows
theorem zo.there(x:zo P w H h a o): ∃u,h.get? a=some u:=by
 cases o with
 | lst xs=>obtain ⟨_,_,_,_,e⟩:=x;exact ⟨_,e⟩
 | tup xs=>obtain ⟨_,_,_,_,e,_⟩:=x;exact ⟨_,e⟩
 | dK kvs=>obtain ⟨_,_,_,_,_,_,_,e,_⟩:=x;exact ⟨_,e⟩
 | dT kvs=>obtain ⟨_,_,_,_,_,_,_,e,_⟩:=x;exact ⟨_,e⟩
 | set S n=>obtain ⟨_,_,_,_,e,_⟩:=x;exact ⟨_,e⟩
 | ins C dx fs=>obtain ⟨_,_,_,e,_⟩:=x;exact ⟨_,e⟩
 | own y=>obtain ⟨_,e⟩:=x;exact ⟨_,e⟩
 | xd fs=>obtain ⟨_,⟨_,_,_,e,_⟩,_⟩:=x;exact ⟨_,e⟩
 | rng lo hi=>obtain ⟨_,_,_,e⟩:=x;exact ⟨_,e⟩
 | frz ob u=>obtain ⟨e,_⟩:=x;exact ⟨_,e⟩
 | tbl ps=>exact ⟨_,(show h.get? a=some _ from x)⟩
 | met f y=>exact ⟨_,(show h.get? a=some _ from x)⟩
 | ext φ=>obtain ⟨_,⟨_,e⟩,_⟩:=x;exact ⟨_,e⟩
theorem HOk.untracked(x:HOk P w H h)(e:h.get? a=none):H a=none:=by
 cases q:H a with
 | none=>rfl
 | some o=>
  obtain ⟨u,z⟩:=(x a o q).there;rw [e] at z;cases z
structure FlyU(fs:List Addr)(H H':Hp)(h B h':Heap):Prop where
 keep: ∀b o,h.get? b=some o->H b=none->b∉fs->B.get? b=some o
 slot: ∀b o,h.get? b=some o->H b=none->b∈fs-> ∃sl,h'.get? b=some {o with slots:=sl}
 inB: ∀b o,h.get? b=some o->b∉fs-> ∃o',B.get? b=some o'
 free: ∀b o,h.get? b=some o->H b=none->H' b=none
 tups: ∀b xs,H b=some (.tup xs)->H' b=some (.tup xs)
 frzs: ∀b o u,H b=some (.frz o u)->H' b=some (.frz o u)
 tbls: ∀b ps,H b=some (.tbl ps)-> ∃more,H' b=some (.tbl (ps++more))
theorem FlyU.un(U:FlyU fs H H' h B h')(st:B.StaysIn h')(hf: ∀b∈fs,H b=none):Un fs [] H H' h h' where
 keep:=fun b o e n hb _=>st b o (U.keep b o e n hb)
 slot:=fun b o e n hb _=>U.slot b o e n hb
 free:=fun b o e n _=>U.free b o e n
 there:=fun b o e _=>by
  by_cases hb:b∈fs
  ·obtain ⟨sl,q⟩:=U.slot b o e (hf b hb) hb;exact ⟨_,q⟩
  ·obtain ⟨o',q⟩:=U.inB b o e hb;exact ⟨o',st b o' q⟩
 tups:=U.tups
 frzs:=U.frzs
 tbls:=U.tbls
theorem FlyU.land(U:FlyU (yy l) H H' h B h1)(ff:h1.FunFrames B l)(up:h1.UpToSlots h2):FlyU (yy l) H H' h B h2:=
 ⟨U.keep,fun b o e n hb=>by
  obtain ⟨sl,q⟩:=U.slot b o e n hb;obtain ⟨_,o',e',hd⟩:=ff.mem hb;rw [q] at e';cases e';obtain ⟨sl3,z3⟩:=up b _ q hd;exact ⟨sl3,z3⟩,U.inB,U.free,U.tups,U.frzs,U.tbls⟩
def Fly(P:Program)(w:World):CXT:=fun outer H s E e s'=>
 ∃(ea:Addr) (cls a0:Value) (H':Hp) (B:Heap),e= .ref ea/\s'.os=s.os/\AllBare s'.gens/\Heap.FlyingW B outer ea cls a0 s'.heap/\HOk P w H' B/\FlyU (yy outer) H H' s.heap B s'.heap/\E cls none H'
def zAo(CX:CXT)(X:Cx)(E:St->XK):Prop:= ∀(pins:List (Addr×Obj)) (σ:St) (H:Hp) (s:Shared) (e:Value) (s':Shared),Inv X pins σ H s->CX X.stack H s (E σ) e s'->X.xe e s'
section
variable {P:Program}{w:World}{K:zUn}{mg:Str->Option Value}{base:Heap}{N:List Str}{qual:Str}{scope:Scope}{f:Addr}{cd:Value}{A:Around}{outer:List Env}{s₀:Shared}{H₀:Hp}{E:XK}
theorem zDP(h:b∈yy l):b∈yy (env::l):=by
 obtain ⟨e,he,q⟩:=List.mem_filterMap.mp h;exact List.mem_filterMap.mpr ⟨e,.tail _ he,q⟩
end
section
variable {X:Cx}{CX:CXT}{k:Nat}{f C:Addr}{fd:FuncData}{ps:List Str}{sp:Sp}{dvs:List V}{ds:List Value}{E:St->XK}{x:Str}{p pos:Pos}{e:Expr}{es:List Expr}{t:TA}
def zLU(sp:Sp)(dvs:List V)(E:St->XK)(t:TA):TE:=fun σ H Q=>t σ H fun vs H1=>sp (vs++dvs) H1 Q (E σ)
theorem zJD(F:FnOk X.prog X.w X.K X.mg X.base CX k f fd ps sp)(hr:Room k X.A)(hb:zO X.K fd ps ds)(hd:zT dvs ds)(hx:zAo CX X E)
  (I:Inv X pins σ H s) (r:zT vs us) (h:sp (vs++dvs) H Q (E σ)):wpAny (model X.prog X.w) X.A (call (.ref f) us) (EP X pins σ Q) X.xe s:=by
 have r2:zT (vs++dvs) (us++ds):=r.append hd;have hl:(us++ds).length=ps.length:=by rw [<-r2.length];exact F.len _ _ _ _ h
 refine wpAny_call (zUl (F.run X.A X.stack s H ⟨us,[]⟩ (us++ds) (vs++dvs) Q (E σ) hr I.env0 (hb s us I.kIn hl) r2 h) fun r s' hq=>?_);cases r with
 | error e=>exact hx pins σ H s e s' I hq
 | ok fl=>
  cases fl with
  | ret u=>exact I.after hq
  | next=>exact False.elim hq
  | brk=>exact False.elim hq
  | cont=>exact False.elim hq
theorem zMP(F:FnOk X.prog X.w X.K X.mg X.base CX k f fd ps sp)(hr:Room k X.A)(hg:Gl X x)(hm:X.mg x=some (.ref f))(hk:PySem.W.keepIn X.K (.ref f)=true)(hb:zO X.K fd ps ds)(hd:zT dvs ds)(hx:zAo CX X E)
  (ha:PA X (e::es) t) (hdb:(x==("__debug__" :Str))=false:=by decide) (he:starEach (e::es) X.env=(false,eval e X.env)::starEach es X.env:=by rfl) (hpl:(backTo pos (starEach es X.env)).any (·.1)=false:=by rfl):
  PE X (.Call (.Name x p) (e::es) [] pos) (zLU sp dvs E t):=by
 intro pins s σ H Q I h;refine zUk (zCF I hg hm ?_ hdb);refine PySem.W.callWith_K (h₀:=X.base) I.ok.mod.kin hk (zW (ha pos pins s σ H _ I h) fun us s1 ⟨vs,H1,I1,r,q⟩=>⟨I1.kIn,?_⟩) he hpl;exact zJD F hr hb hd hx I1 r q
end
def KAt(a:Addr)(C:Value)(h:Heap):Prop:= ∃o,h.get? a=some o/\o.cls=C
def zQq(a:Addr)(C:Value):HO:= .ext (KAt a C)
theorem zOX(x:KAt a C h):zo P w H h a (zQq a C):=by
 obtain ⟨o,e,c⟩:=x;exact ⟨⟨o,e,c⟩,⟨o,e⟩,fun h1 h2 ⟨o1,e1,c1⟩ k=>⟨o1,k o1 e1,c1⟩⟩
abbrev Cx.inExc(X:Cx)(e:Addr):Cx:={X with A:=X.A.mark (some (.ref e)),calm:=false,xe:=fun _ _=>False}
theorem Cx.Ok.inExc{X:Cx}(ok:X.Ok)(e:Addr):(X.inExc e).Ok:=
 ⟨ok.mod,ok.kind,ok.glob,ok.blt,ok.above,ok.inj,ok.has,ok.cab,(fun z=>Bool.noConfusion z),ok.frames,ok.stk,ok.exf,ok.bs,ok.bsz,ok.noex,ok.exfs,ok.funs,ok.frf⟩
theorem Inv.inExc{X:Cx}(I:Inv X pins σ H s)(e:Addr):Inv (X.inExc e) pins σ H s:=⟨I.ok.inExc e,I.os,I.bare,I.base,I.loc,I.cell,I.free,I.freeC,I.pin,I.hok,I.len⟩
theorem Inv.outExc{X:Cx}(ok:X.Ok)(I:Inv (X.inExc e) pins σ H s):Inv X pins σ H s:=⟨ok,I.os,I.bare,I.base,I.loc,I.cell,I.free,I.freeC,I.pin,I.hok,I.len⟩
abbrev Cx.tryB(X:Cx)(pins:List (Addr×Obj))(E:Value->Shared->Prop):Cx:={X with xe:=E,pn:=X.pn++pins}
theorem Cx.Ok.tryB{X:Cx}(ok:X.Ok)(pins:List (Addr×Obj))(E:Value->Shared->Prop):(X.tryB pins E).Ok:=
 ⟨ok.mod,ok.kind,ok.glob,ok.blt,ok.above,ok.inj,ok.has,ok.cab,ok.hd,ok.frames,ok.stk,ok.exf,ok.bs,ok.bsz,ok.noex,ok.exfs,ok.funs,ok.frf⟩
theorem Inv.tryB{X:Cx}(I:Inv X pins σ H s)(E:Value->Shared->Prop):Inv (X.tryB pins E) [] σ H s:=
 ⟨I.ok.tryB pins E,I.os,I.bare,I.base,I.loc,I.cell,I.free,I.freeC,fun p hp=>I.pin p (by simpa using hp),I.hok,I.len⟩
theorem Inv.untry{X:Cx}{E:Value->Shared->Prop}(ok:X.Ok)(I:Inv (X.tryB pins E) ps σ H s):Inv X pins σ H s:=
 ⟨ok,I.os,I.bare,I.base,I.loc,I.cell,I.free,I.freeC,fun p hp=>I.pin p (List.mem_append_left _ hp),I.hok,I.len⟩
theorem SP.untry{X:Cx}{E:Value->Shared->Prop}{f:Flow}(ok:X.Ok)(h:SP (X.tryB pins E) ps D f s'):SP X pins D f s':=by
 cases f with
 | next=>obtain ⟨σ',H',I,q⟩:=h;exact ⟨σ',H',I.untry ok,q⟩
 | brk=>obtain ⟨σ',H',I,q⟩:=h;exact ⟨σ',H',I.untry ok,q⟩
 | cont=>obtain ⟨σ',H',I,q⟩:=h;exact ⟨σ',H',I.untry ok,q⟩
 | ret u=>obtain ⟨v,σ',H',I,r,q⟩:=h;exact ⟨v,σ',H',I.untry ok,r,q⟩
theorem zCi{X:Cx}{E:Value->Shared->Prop}{Q:Unit->Shared->Prop}(I:Inv X pins σ H s)(hN:X.N.Nodup)(hi:X.N[i]?=some n)(hx:X.env.scope.names.lookup n=some .local)
  (h: ∀s',Inv X pins (σ.set i none) H s'->Q () s'):wpAny (model X.prog X.w) A (do bindName X.env n .none;unbindBehindTheSuite X.env n pos) Q E s:=by
 obtain ⟨m,hn,hl⟩:=id I.loc;have hcls:(X.env.scope.kind== .class ||(X.env.scope.kind== .module&&X.env.locals !=X.env.globals))=false:=by rw [I.ok.kind];rfl
 have hiσ:i<σ.length:=by rw [I.len];exact (zUy.mp hi).1
 obtain ⟨oL,_,_,hoL,_⟩:=id hn;refine wpAny_nameGoes_keeps hx hn hcls fun h' v hn' hs=>h _ ?_;refine ⟨I.ok,I.os,I.bare,⟨fun b o e n hb hx=>?_,fun b o e n hb hx=>?_,I.base.free,fun b o e hx=>?_,I.base.tups,I.base.frzs,I.base.tbls⟩,⟨_,hn',fun j y v' e1 e2 e3=>?_⟩,fun y c e=>?_,I.free,I.freeC,fun p hp=>?_,fun b ob e=>?_,by simpa using I.len⟩
 ·exact (hs.2 b (zUG (zUH (zUI e) I.ok.above))).trans (I.base.keep b o e n hb hx)
 ·obtain ⟨sl,e1⟩:=I.base.slot b o e n hb hx;exact ⟨sl,(hs.2 b (zUG (zUH (zUI e) I.ok.above))).trans e1⟩
 ·obtain ⟨o',e1⟩:=I.base.there b o e hx;exact ⟨o',(hs.2 b (zUG (zUH (zUI e) I.ok.above))).trans e1⟩
 ·by_cases hj:j=i
  ·subst hj;rw [List.getElem?_set_self hiσ] at e2;cases e2
  ·rw [List.getElem?_set_ne (Ne.symm hj)] at e2;obtain ⟨u',r',q⟩:=hl j y v' e1 e2 e3;refine ⟨u',r',?_⟩;rcases q with ⟨k,e⟩|⟨k,c,e,z⟩
   ·refine .inl ⟨k,?_⟩;have hne:y≠n:=fun e=>hj (zEi hN e1 (e▸hi));simp [hne,e]
   ·exact .inr ⟨k,c,e,z.sameBut hs (I.cne y c e)⟩
 ·obtain ⟨w',z⟩:=I.cell y c e;exact ⟨w',z.sameBut hs (I.cne y c e)⟩
 ·obtain ⟨e,n,ne,nf,d⟩:=I.pin p hp;exact ⟨(hs.2 p.1 ne).trans e,n,ne,nf,d⟩
 ·refine (I.hok b ob e).stay (fun c w' hc q=>(hs.2 c ?_).trans q) (fun _ q=>q) fun _ _ q=>q;intro z;subst z;rcases hc with y | y
  ·rw [<-y,I.free] at e;cases e
  ·rw [I.free] at y;cases y
open FrM
section
variable {X:Cx}{pos:Pos}
def zJS:V->Value->Prop
 | .ref a,c=>c= .ref a
 | .ty n,c=>c= .type n
 | _,_=>False
theorem zJS.eq(h:zJS cv c)(r:zX cv v):v=c:=by
 cases cv<;>first | exact h.elim |(cases (show v=_ from r);cases (show c=_ from h);rfl)
def zPM(K:zUn):List V->Hp->VK->Prop:=fun xs H Q=> ∃x cv t c b,xs= [x,cv] /\zJS cv c/\TyOf K H x t/\PySem.W.kitOne K t c=some b/\Q (.bl b) H
theorem zDN:yY X (.builtin "isinstance") (zPM X.K):=by
 intro pins s σ H xs us Q I r h;obtain ⟨x,cv,t,c,b,rfl,rc,ty,e,q⟩:=h;obtain ⟨u,v,rfl,ru,rv⟩:=zT.two r;have ec:v=c:=rc.eq rv;subst ec;exact zLR I ru ty e fun tk=>⟨.bl b,H,I.tok tk,rfl,q⟩
theorem zEe(hu:X.A.units<cLine):OpR X (compareOp .Eq) (fun x y H Q=> ∃a b xs,x= .ref a/\y= .ref b/\SqL X.K H a xs/\SqL X.K H b [] /\Q (.bl xs.isEmpty) H):=by
 intro pins s σ H x y v u Q I rx ry h;obtain ⟨a,b,xs,rfl,rfl,ha,hb,q⟩:=h;cases rx;cases ry;obtain ⟨its,r,pl,_⟩:=I.list ha;obtain ⟨its',r',pl',_⟩:=I.list hb;cases r';cases r with
 | nil=>exact SeqAt.eq_listAt (e:=fun _=>true) pl.isList pl'.isList rfl hu (fun j h1 _=>absurd h1 (by simp)) ⟨.bl true,H,I,rfl,q⟩
 | cons r1 r2=>exact SeqAt.eq_list_lengthsAt pl.isList pl'.isList (by simp) hu ⟨.bl false,H,I,rfl,q⟩
theorem zIE(hu:X.A.units<cLine):OpR X (compareOp .NotEq) (fun x y H Q=> ∃a b xs,x= .ref a/\y= .ref b/\SqL X.K H a xs/\SqL X.K H b [] /\Q (.bl (!xs.isEmpty)) H):=by
 intro pins s σ H x y v u Q I rx ry h;obtain ⟨a,b,xs,rfl,rfl,ha,hb,q⟩:=h;cases rx;cases ry;obtain ⟨its,r,pl,_⟩:=I.list ha;obtain ⟨its',r',pl',_⟩:=I.list hb;cases r';cases r with
 | nil=>exact SeqAt.RcNeAt.lists (e:=fun _=>true) pl.isList pl'.isList rfl hu (fun j h1 _=>absurd h1 (by simp)) _ _ _ _ ⟨.bl false,H,I,rfl,q⟩
 | cons r1 r2=>exact SeqAt.RcNeAt.lists_lengths pl.isList pl'.isList (by simp) hu _ _ _ _ ⟨.bl true,H,I,rfl,q⟩
theorem Inv.tupl(I:Inv X pins σ H s)(h:H p=some (.tup xs)): ∃its:List Value,zT xs its/\s.heap.IsTuple p its.toArray:=by
 obtain ⟨its,r,pl,_⟩:=I.tuple (SqT.of (K:=X.K) h);exact ⟨its,r,pl⟩
theorem zHU(n:Nat):(List.range n).all (fun _=>true)=true:=by
 rw [List.all_eq_true];intro _ _;rfl
end
theorem zAO{h:Heap}{b:Addr}{o:Obj}(e:h.get? b=some o): @LT.lt Nat _ b h.objs.size:=zUI e
abbrev Cx.comp(X:Cx)(scope:Scope)(cl:List (Str×Addr))(C:Addr)(N:List Str)(s₂:Shared)(H₂:Hp)(fp:List Addr):Cx:=
 {X with N:=N,s₀:=s₂,H₀:=H₂,env:=compEnvC scope cl C X.env,outer:=X.stack,ex:=fp,fn:=fun _=>false,pn:= [],xe:=fun _ _=>False}
def yL(fr:List Nat)(σ:St):St:=fr.map fun i=>(σ[i]?).getD none
end L2
namespace PySem
open PySem.Spec
section
variable {prog:Program}{w:World}{A:Around}{E:Value->Shared->Prop}{h:Heap}{g:Array GenState}{d:Drawn}{t:Nat}{os:OsState}
variable {nm q:Str}{C N:Addr}{bs bm bmB:List Value}{hdct:Bool}{sn:List Str}{sub:List Value}{ab:Bool}{col:Option Bool}{dd:Option Addr}{k0 k1 k2 k3 k5:Option Value}{B newId initId:String}
theorem zHw(F:ExcBaseFacts B newId initId bmB)(T:OwnTail h bmB bm){mN:Str->Option Value}{rest:List Value}{fI:Addr}{oI:Obj}{Q:Fin->Shared->Prop}
  (hC:h.get? C=some (excClassObj nm q C N bs bm hdct sn sub ab col dd k0 k1 k2 k3 k5 newId)) (hn:h.Ns N mN) (hi:mN "__init__" =some (.ref fI))
  (hfI:h.get? fI=some oI) (hfc:oI.cls= .type "function")
  (hq: ∀h' e,h.objs.size<=e->Heap.MadeExcOf h h' e (.ref C) rest->
   wpAny (model prog w) A (call (.ref fI) (.ref e::rest)) (fun r s'=>r= .none/\Q (.done (.ret (.ref e))) s') E ⟨h',g,d,t,os⟩) (hrest:rest.length<=sizeLine):
  wpAny (model prog w) A (Builtin.«type.__call__» ⟨.ref C::rest,[]⟩) Q E ⟨h,g,d,t,os⟩:=by
 repeat (first | with_reducible refine wpAny_loadPart_at hC ?_ | with_reducible refine wpAny_madeBy_exc hC ?_ | wp_step)
 refine codeAny_call_builtin_code (Code.quiet_builtin _ F.quiet) (wpAny_check_new_subT F T hC ?_);refine codeAny_exc_new_subT F T hC ?_ hrest;show wpAny _ _ _ _ _ _;have hC₁:=zUA {cls:= .ref C,data:= .fields #[.ref h.objs.size,.none,.none,.none,.bool false,.none]}
  (zUA {cls:= .type "tuple",data:= .seq rest.toArray} hC)
 have hfI₁:=zUA {cls:= .ref C,data:= .fields #[.ref h.objs.size,.none,.none,.none,.bool false,.none]}
  (zUA {cls:= .type "tuple",data:= .seq rest.toArray} hfI)
 have hn₁:((h.push {cls:= .type "tuple",data:= .seq rest.toArray}).push {cls:= .ref C,data:= .fields #[.ref h.objs.size,.none,.none,.none,.bool false,.none]}).Ns N mN:=
  let ⟨o,es,ep,e,r⟩:=hn;⟨o,es,ep,zUA _ (zUA _ e),r⟩
 have hget:((h.push {cls:= .type "tuple",data:= .seq rest.toArray}).push
   {cls:= .ref C,data:= .fields #[.ref h.objs.size,.none,.none,.none,.bool false,.none]}).get? (h.objs.size+1)=some
   {cls:= .ref C,data:= .fields #[.ref h.objs.size,.none,.none,.none,.bool false,.none]}:=by heap_get
 have hcC:(Value.ref C::bm).contains (.ref C)=true:=by simp
 have T₁:=T.keeps (h':=(h.push {cls:= .type "tuple",data:= .seq rest.toArray}).push {cls:= .ref C,data:= .fields #[.ref h.objs.size,.none,.none,.none,.bool false,.none]})
  fun b o e=>zUA _ (zUA _ e)
 unfold isInstance
 repeat (first | with_reducible refine wpAny_loadPart_at hget ?_ |(with_reducible refine wpAny_isSubtype_exc hC₁ ?_;rw [hcC])| wp_step)
 show wpAny _ _ (typeLookup (.ref C) _) _ _ _;refine wpAny_typeLookup_tail hC₁ hn₁ T₁ F.mroIs F.init.lookup ?_;rw [hi];refine zUi (zTz ?_);unfold bindSpecial;refine zTz (wpAny_typeOf (T:= "function") ⟨_,hfI₁,hfc⟩ ?_);rw [if_pos (by decide)];refine zUE (zTz (zUS (hq _ (h.objs.size+1) (Nat.le_succ _) ⟨fun b o hb=>zUA _ (zUA _ hb),Heap.get?_none_of_le (Nat.le_succ _),h.objs.size,hget,Heap.get?_none_of_le (zUC _),?_⟩) (fun r s' hr=>?_) fun _ _ x=>x))
 ·exact zUA _ (Heap.get?_push_at rfl rfl)
 ·obtain ⟨rfl,hQ⟩:=hr
  wp_walk
  exact hQ
theorem zOO(F:ExcBaseFacts B newId initId bmB)(T:OwnTail h bmB bm){mN:Str->Option Value}{rest:List Value}{fI:Addr}{oI:Obj}{Q:Value->Shared->Prop}
  (hC:h.get? C=some (excClassObj nm q C N bs bm hdct sn sub ab col dd k0 k1 k2 k3 k5 newId)) (hn:h.Ns N mN) (hi:mN "__init__" =some (.ref fI))
  (hfI:h.get? fI=some oI) (hfc:oI.cls= .type "function")
  (hq: ∀h' e,h.objs.size<=e->Heap.MadeExcOf h h' e (.ref C) rest->
   wpAny (model prog w) (A.under (.builtin "type.__call__" ⟨.ref C::rest,[]⟩)) (call (.ref fI) (.ref e::rest)) (fun r s'=>r= .none/\Q (.ref e) s') E ⟨h',g,d,t,os⟩) (hrest:rest.length<=sizeLine):
  wpAny (model prog w) A (call (.ref C) rest) Q E ⟨h,g,d,t,os⟩:=by
 have f1:=tc_lookup;have f2:=tc_bind (.ref C);have hT:(⟨h,g,d,t,os⟩:Shared).TypeIs (.ref C) "type" :=⟨_,hC,rfl⟩;refine wpAny_call (codeAny_of_tree ?_);show wpAny _ _ (callAny (.ref C) _) _ _ _
 repeat (any_goals (first | assumption | with_reducible refine wpAny_loadPart_at hC ?_ | wp_step))
 refine ⟨rfl,?_⟩;refine codeAny_call_builtin_at (Code.quiet_builtin _ (by decide+kernel)) entry_typeCall (wpAny_check_type_call_sub hC (zHw (hrest:=hrest) F T hC hn hi hfI hfc fun h' e hl hm=>?_));exact hq h' e hl hm
end
end PySem
namespace PySem.W
open PySem PySem.Calls PyProof.Rows Builtin Builtin.ObjectAttr Builtin.Getset_descriptor
def excMro:List Value->Bool
 | .ref _::r=>excMro r
 | l=>l== [.type "ValueError",.type "Exception",.type "BaseException",.type "object"]
theorem zJz{l:List Value}(h:excMro l=true):(∃c r,l= .ref c::r/\excMro r=true)\/l= [.type "ValueError",.type "Exception",.type "BaseException",.type "object"] :=by
 unfold excMro at h;split at h
 ·exact .inl ⟨_,_,rfl,h⟩
 ·exact .inr (beq_iff_eq.mp h)
theorem zFR(self:Value): ∀{l:List Value},excMro l=true->refuseLoop self "__setattr__" l=pure ()
 | [],e=>by cases e
 | v::r,e=>by
  rcases zJz e with ⟨c,r',z,e'⟩| z
  ·cases z;rw [refuseLoop_ref];exact zFR self e'
  ·rw [z];exact PySem.F.store_ValueError.passes self
section
variable {prog:Program}{w:World}{A:Around}{E:Value->Shared->Prop}{s:Shared}{K:Frag}{x C:Addr}{ox:Obj}{od:Option Obj}{name:Str}{R:Result->Shared->Prop}
theorem zIA{tk:Tok}{v:Value}(X:K.In s.heap)(I:InstAt s.heap x ox C od)(hp:(clsIn K C).any (fun cd=>excMro cd.mro)=true)(hob:mroIn K C (.type "object")=some true)(ht:takerIn K C name=some none)
  (h: ∀b,wpAny (model prog w) A.in1 (storeInOwnDict (.ref x) (.ref C) (.str name tk) name v b)
   (fun fin s'=>match fin with | .done f=>R (.ok f) s' | .again c'=>c'.quiet=true/\codeAny (model prog w) A c' R s') (fun e s'=>R (.error e) s') s):
  codeAny (model prog w) A (.call (.builtin "object.__setattr__") ⟨[.ref x,.str name tk,v],[]⟩) R s:=by
 have SF:=PySem.F.store_object;obtain ⟨cd,hc,ho⟩:=any_some hp;have sub:Looks (model prog w) s.heap (isInstance (.ref x) (.type "object")) true:=I.type.andThen (looks_mroIn X hob);refine codeAny_call_builtin SF.slot.plain SF.entry (@check_slot (model prog w) _ _ s "object.__setattr__" "object" "__setattr__" (.ref x) [.str name tk,v] [] _ SF.kind SF.split sub (SF.args (.ref x) (.str name tk) v) ?_);obtain ⟨attr,ha,hr⟩:=Option.bind_eq_some_iff.mp ht;have hm:Looks (model prog w) s.heap (mroOf (.ref C)) cd.mro:=(looks_clsIn X hc).andThen .now;have L3:Looks (model prog w) s.heap (storeTaker? attr) none:=by
  cases attr with
  | none=>cases hr;exact .now
  | some a=>
   obtain ⟨b,hb,hb2⟩:=Option.map_eq_some_iff.mp hr;refine (looks_takesIn X hb).andThen ?_;cases b with
   | true=>cases hb2
   | false=>exact .now
 rw [osa_eq,refuse_eq];refine zTz (zTz (I.type.here (zTz (hm.here ?_))));rw [zFR _ ho];refine zUE (zTz (I.type.here (zTz ((looks_findIn X ha).here (zTz (L3.here ?_))))));exact h _
theorem zIw{tk:Tok}{fill expr:Bool}{Q:Value->Shared->Prop}(X:K.In s.heap)(L0:Looks (model prog w) s.heap (typeOf (.ref x)) (.ref C))(hga:findIn K (.ref C) "__getattribute__" =some (some (.builtin "BaseException.__getattribute__")))
  (hgn:findIn K (.ref C) "__getattr__" =some none) (hbe:mroIn K C (.type "BaseException")=some true)
  (h:wpAny (model prog w) A.in1 (Builtin.«object.__getattribute__» ⟨[.ref x,.str name tk],[]⟩) (fun fin s'=>match fin with | .done (.ret v)=>wpAny (model prog w) A (handedOut v) Q E s' | _=>False) (fun _ _=>False) s):
  wpAny (model prog w) A (getAttrBy (.ref x) (.str name tk) fill expr) Q E s:=by
 have L1:=looks_findIn (M:=model prog w) X hga;have L2:=looks_findIn (M:=model prog w) X hgn;have sub:Looks (model prog w) s.heap (isInstance (.ref x) (.type "BaseException")) true:=L0.andThen (looks_mroIn X hbe);have hx2:(Value.builtin "BaseException.__getattribute__" ==Value.builtin "object.__getattribute__")=false:=by decide+kernel
 have FB:=PySem.F.attr_ValueError;unfold getAttrBy;refine zUi (zTz (L0.here (zTz (L1.here ?_))));dsimp only;rw [hx2,Bool.and_false,if_neg (by decide)];unfold getAttrByItsOwn hookBefore;rw [if_pos (show onTheHeap (.ref C)=true from rfl)];refine zTz (L2.here (zTz (wpAny_attempt (zUi ?_))));unfold callGetattribute;rw [if_neg (by cases expr<;>decide)];unfold boundAndCalled;rw [FB.ga.bind (.ref x)];refine zTz (zUE (wpAny_call (codeAny_call_builtin FB.ga.plain PySem.F.entry_bexc_ga (@check_slot (model prog w) _ _ s "BaseException.__getattribute__" "BaseException" "__getattribute__" (.ref x) [.str name tk] [] _ (by decide+kernel) (by decide+kernel) sub (PySem.F.args_bexc_ga (.ref x) (.str name tk)) ?_))));refine zUS h (fun fin s' z=>?_) fun _ _ z=>z.elim;rcases fin with (_ | _ | _ | _)| _<;>first | exact z | exact z.elim
theorem xset0{v:Value}{o:Obj}{Q:Unit->Shared->Prop}(X:K.In s.heap)(hs:findIn K (.ref C) "__setattr__" =some (some (.builtin "object.__setattr__")))(hp:(clsIn K C).any (fun cd=>excMro cd.mro)=true)
  (hob:mroIn K C (.type "object")=some true) (ht:takerIn K C name=some none) (hh:hasDictIn K C=true) (hx:s.heap.get? x=some o) (hc:o.cls= .ref C) (hno:notCls o=true) (hdn:o.dict=none)
  (h: ∀h' tk,h'.get? x=some {o with dict:=some s.heap.objs.size}->h'.Ns1 s.heap.objs.size (fun y=>if y=name then some v else none)->
   (∀b ob,b≠x->s.heap.get? b=some ob->h'.get? b=some ob)->Q () {s with heap:=h',toks:=tk}):wpAny (model prog w) A (setAttr (.ref x) name v) Q E s:=by
 obtain ⟨hp0,g,d,t,os⟩:=s;dsimp only at X hx h;obtain ⟨oc,odi,oda,osl⟩:=o;dsimp only at hc hdn;subst hc hdn;have I:InstAt hp0 x ⟨.ref C,none,oda,osl⟩ C none:=⟨hx,rfl,hno,trivial⟩;refine set_plain (s:=⟨hp0,g,d,t,os⟩) X I hs (zIA (s:=⟨hp0,g,d,t+1,os⟩) X I hp hob ht fun b=>?_);obtain ⟨cd,hc,hd'⟩:=any_some hh;refine zTz (zUE (zTz (zTz (wpAny_loadPart hx (zTz (Looks.here (s:=⟨hp0,g,d,t+1,os⟩) (looks_clsIn X hc) ?_))))));rw [hd'];have hxs:x≠hp0.objs.size:=zUG (zUI hx);have hx₁:(hp0.push {cls:= .type "dict",data:= .dict #[]}).get? x=some ⟨.ref C,none,oda,osl⟩:=zUA _ hx;have hgd:((hp0.push {cls:= .type "dict",data:= .dict #[]}).update x fun o=>{cls:=o.cls,dict:=some hp0.objs.size,data:=o.data,slots:=o.slots}).get? hp0.objs.size
   =some {cls:= .type "dict",data:= .dict #[]}:=
  (Heap.get?_update_ne _ _ _ _ hxs.symm).trans (Heap.get?_push_at rfl rfl)
 have hnd:((hp0.push {cls:= .type "dict",data:= .dict #[]}).update x fun o=>{cls:=o.cls,dict:=some hp0.objs.size,data:=o.data,slots:=o.slots}).Ns hp0.objs.size (fun _=>none):=
  ⟨_,#[],_,hgd,rfl,fun e he=>absurd he (by simp),fun _=>rfl⟩
 have hnc: ∀c,oda≠ .cls c:=fun c z=>by subst z;cases hno
 rw [if_neg (by decide)];dsimp only;rw [if_neg (by simp [typeHasDict])];split
 ·exact absurd (by first | assumption | rfl) (hnc _)
 ·refine zTz (wpAny_alloc' ?_);refine zTz (wpAny_update' hx₁ ?_);refine zUE ?_;show wpAny _ _ (storeInDict hp0.objs.size (.str name _) name v) _ _ _;unfold storeInDict newKeyGuard;refine zTz (zUE (zTz (wpAny_nsSet1 (Heap.Ns1.of_empty hnd) fun h' hn' hs=>?_)));obtain ⟨oD,esD,epD,hoD,hdD,hcD⟩:=hn'.count (PySem.Within.cons name v PySem.Within.nil);refine zTz (wpAny_lookBehind hoD (by rw [hdD];exact pastItsLine_dict (zUM hcD (by rw [zUu,List.length_nil,zUJ];omega))) ?_);refine zUE ?_;refine h h' _ ?_ hn' fun b ob hbx hb=>(hs.2 b (zUG (zUI hb))).trans ((Heap.get?_update_ne _ _ _ _ hbx).trans (zUA _ hb));refine (hs.2 x hxs).trans (zUf _ hx₁ ?_);have hfr:=(Heap.get?_some_iff.mp hx).2;cases oda<;>first | rfl | exact hfr
theorem xset1{v:Value}{o:Obj}{dx:Addr}{mA:Str->Option Value}{ns:List Str}{Q:Unit->Shared->Prop}(X:K.In s.heap)(hs:findIn K (.ref C) "__setattr__" =some (some (.builtin "object.__setattr__")))(hp:(clsIn K C).any (fun cd=>excMro cd.mro)=true)
  (hob:mroIn K C (.type "object")=some true) (ht:takerIn K C name=some none) (hh:hasDictIn K C=true) (hx:s.heap.get? x=some o) (hc:o.cls= .ref C) (hno:notCls o=true) (hdx:o.dict=some dx) (hns:s.heap.Ns1 dx mA)
  (hw:PySem.Within mA ns) (hsz:ns.length+1<=sizeLine)
  (h: ∀h' tk,h'.Ns1 dx (fun y=>if y=name then some v else mA y)->(∀b ob,b≠dx->s.heap.get? b=some ob->h'.get? b=some ob)->Q () {s with heap:=h',toks:=tk}):wpAny (model prog w) A (setAttr (.ref x) name v) Q E s:=by
 obtain ⟨hp0,g,d,t,os⟩:=s;dsimp only at X hx h hns;obtain ⟨oc,odi,oda,osl⟩:=o;dsimp only at hc hdx;subst hc hdx;obtain ⟨oD,esD,epD,hoD,_⟩:=id hns;have I:InstAt hp0 x ⟨.ref C,some dx,oda,osl⟩ C (some oD):=⟨hx,rfl,hno,hoD⟩;refine set_plain (s:=⟨hp0,g,d,t,os⟩) X I hs (zIA (s:=⟨hp0,g,d,t+1,os⟩) X I hp hob ht fun b=>?_);obtain ⟨cd,hc,hd'⟩:=any_some hh;refine zTz (zUE (zTz (zTz (wpAny_loadPart hx (zTz (Looks.here (s:=⟨hp0,g,d,t+1,os⟩) (looks_clsIn X hc) ?_))))));rw [hd'];refine zUE (a:=some dx) (zTz (zUE (zTz ?_)));refine wpAny_nsSet1 (s:=⟨hp0,g,d,t+1,os⟩) hns fun h' hn2 hs2=>?_;obtain ⟨oD,esD,epD,hoD,hdD,hcD⟩:=hn2.count (PySem.Within.cons name v hw);refine zTz (wpAny_lookBehind hoD (by rw [hdD];exact pastItsLine_dict (zUM hcD (by rw [zUu];omega))) ?_);refine zUE ?_;exact h h' _ hn2 fun b ob hb e=>(hs2.2 b hb).trans e
theorem xget_value{v:Value}{expr:Bool}{Q:Value->Shared->Prop}(X:K.In s.heap)(I:InstAt s.heap x ox C od)(hga:findIn K (.ref C) "__getattribute__" =some (some (.builtin "BaseException.__getattribute__")))
  (hgn:findIn K (.ref C) "__getattr__" =some none) (hbe:mroIn K C (.type "BaseException")=some true) (hf:findObj K C od name=some (.value v)) (hh:handedIn v=true) (h:Q v {s with toks:=s.toks+1}):
  wpAny (model prog w) A (getAttr (.ref x) name expr) Q E s:=by
 obtain ⟨hp0,g,d,t,os⟩:=s;have L0:=I.type (M:=model prog w);have L1:=looks_find (M:=model prog w) X I hf;unfold getAttr;refine zTz (wpAny_mkText (zIw (s:=⟨hp0,g,d,t+1,os⟩) X L0 hga hgn hbe ?_));refine zTz (zUE (zTz (zUE (zTz (L0.at (zTz (L1.at ?_)))))));refine zUE ?_;show wpAny _ _ (handedOut v) _ _ _;rw [handedOut_of hh];exact zUE h
theorem zJr{tp:Value}(X:K.In s.heap)(L0: ∀M,Looks M s.heap (typeOf (.ref x)) (.ref C))(hm:mroIn K C (.type "object")=some true)
  (h:R (.ok (.ret (.ref C))) s):codeAny (model prog w) A (.call (.builtin "getset_descriptor.__get__") ⟨[.builtin "object.__class__",.ref x,tp],[]⟩) R s:=by
 obtain ⟨hh,g,dr,t,os⟩:=s;have L0:=L0 (model prog w);have L1:=looks_mroIn (M:=model prog w) X hm;refine codeAny_call_builtin KF.slot_gs.plain KF.entry_gs (KF.slot_gs.check _ _ _ _ _ _ _ _ KF.type_class (KF.args_gs _ _ _) ?_);unfold Builtin.«getset_descriptor.__get__» descrGet;rw [dga_obj];refine zTz (zUE ?_);unfold descrGetter descrCheckInstance descrNameAndClass isInstance;simp only [KF.owner_class]
 repeat lk
 refine ⟨Code.quiet_builtin _ (by decide+kernel),codeAny_builtin KF.entry_class ?_⟩;unfold Builtin.«object.__class__» shownTypeOf
 repeat lk
 exact h
theorem zIY(X:K.In s.heap)(ha:findIn K (.ref C) "__class__" =some (some (.builtin "object.__class__")))
  (hn:specialIn K (.builtin "object.__class__") "__get__" =some (some (.builtin "getset_descriptor.__get__"))) (htk:takesIn K (.builtin "object.__class__")=some true) (M:Model):
  Looks M s.heap (find (.ref x) (.ref C) "__class__") (.bind (.builtin "getset_descriptor.__get__") (.builtin "object.__class__")):=by
 have L1:=looks_findIn (M:=M) X ha;have L2:Looks M s.heap (getOf (some (.builtin "object.__class__"))) (some (.builtin "getset_descriptor.__get__")):=looks_specialIn X hn;have L3:=looks_takesIn (M:=M) X htk;refine L1.andThen (L2.andThen ?_);refine Looks.andThen (L3.andThen .now) ?_;exact Looks.tag .now
theorem xclass{Q:Option Value->Shared->Prop}(X:K.In s.heap)(L0: ∀M,Looks M s.heap (typeOf (.ref x)) (.ref C))(hga:findIn K (.ref C) "__getattribute__" =some (some (.builtin "BaseException.__getattribute__")))
  (hgn:findIn K (.ref C) "__getattr__" =some none) (hbe:mroIn K C (.type "BaseException")=some true) (hob:mroIn K C (.type "object")=some true)
  (ha:findIn K (.ref C) "__class__" =some (some (.builtin "object.__class__"))) (hn:specialIn K (.builtin "object.__class__") "__get__" =some (some (.builtin "getset_descriptor.__get__"))) (htk:takesIn K (.builtin "object.__class__")=some true)
  (h:Q (some (.ref C)) {s with toks:=s.toks+1}):wpAny (model prog w) A (getAttr? (.ref x) "__class__") Q E s:=by
 have L1:=zIY (x:=x) X ha hn htk (model prog w);obtain ⟨hp0,g,d,t,os⟩:=s;unfold getAttr? getAttrBy?;refine zTz (wpAny_mkText (zTz (wpAny_attempt (zIw (s:=⟨hp0,g,d,t+1,os⟩) X (L0 _) hga hgn hbe ?_))));refine zTz (zUE (zTz (zUE (zTz ((L0 _).at (zTz (L1.at ?_)))))));show wpAny _ _ (bindTo _ _ _ _) _ _ _;unfold bindTo;refine zTz (zUi (wpAny_call (zJr (s:=⟨hp0,g,d,t+1,os⟩) X L0 hob ?_)));refine zUE ?_;show wpAny _ _ (handedOut (.ref C)) _ _ _;rw [handedOut_of rfl];exact zUE (zUE h)
end
end PySem.W
namespace L2
open PySem PySem.Spec PyProof.Rows
structure XCls(K:zUn)(C:Addr):Prop where
 ga:PySem.W.findIn K (.ref C) "__getattribute__" =some (some (.builtin "BaseException.__getattribute__"))
 gn:PySem.W.findIn K (.ref C) "__getattr__" =some none
 sa:PySem.W.findIn K (.ref C) "__setattr__" =some (some (.builtin "object.__setattr__"))
 be:PySem.W.mroIn K C (.type "BaseException")=some true
 ob:PySem.W.mroIn K C (.type "object")=some true
 mro:(PySem.W.clsIn K C).any (fun cd=>PySem.W.excMro cd.mro)=true
 hd:PySem.W.hasDictIn K C=true
 ca:PySem.W.findIn K (.ref C) "__class__" =some (some (.builtin "object.__class__"))
 cg:PySem.W.specialIn K (.builtin "object.__class__") "__get__" =some (some (.builtin "getset_descriptor.__get__"))
 ct:PySem.W.takesIn K (.builtin "object.__class__")=some true
theorem zGg(k:KAt a (.ref C) h)(M:Model):PySem.W.Looks M h (typeOf (.ref a)) (.ref C):=by
 obtain ⟨o,h1,h2⟩:=k;exact h2▸(PySem.W.Looks.ld h1).andThen .now
theorem zHZ{K:zUn}{a C:Addr}(c:XCls K C):PySem.W.KitX K (.ref a) (.ref C) (KAt a (.ref C)) where
 ty:=fun M h _ p=>zGg p M
 it:=fun _ _ X _=>by
  obtain ⟨cdD,hcD,_⟩:=PySem.W.any_some c.hd;unfold PySem.W.clsIn at hcD;split at hcD
  ·rename_i c' d' cd' sl' ho
   intro A' Q' E' s' k q;unfold isType loadHead;exact zTz (wpAny_loadPart (k _ _ (X _ _ ho)) (zUE q))
  ·cases hcD
 ne:=fun h tp dd its n sl X htp=>by
  obtain ⟨cdD,hcD,_⟩:=PySem.W.any_some c.hd;refine Bool.eq_false_iff.mpr fun q=>?_;have e:C=tp:=Value.ref.inj (beq_iff_eq.mp q);subst e;unfold PySem.W.clsIn at hcD;split at hcD
  ·rename_i c' d' cd' sl' ho
   have z:=(X _ _ ho).symm.trans htp;cases z
  ·cases hcD
 ca:=fun X p k=>PySem.W.xclass X (zGg p) c.ga c.gn c.be c.ob c.ca c.cg c.ct k
def zNe(K:zUn):List V->Hp->VK->Prop:=fun xs H Q=> ∃ea C cv c b φ,xs= [.ref ea,cv] /\zJS cv c/\H ea=some (.ext φ)/\(∀h,φ h->KAt ea (.ref C) h)/\XCls K C/\PySem.W.kitOne K (.ref C) c=some b/\Q (.bl b) H
theorem zKk{X:Cx}:yY X (.builtin "isinstance") (zNe X.K):=by
 intro pins s σ H xs us Q I r h;obtain ⟨ea,C,cv,c,b,φ,rfl,rc,hH,hφ,xc,e,q⟩:=h;obtain ⟨u,v,rfl,ru,rv⟩:=zT.two r;cases (show u=_ from ru);have ec:v=c:=rc.eq rv;subst ec;obtain ⟨p,_⟩:=(show zo X.prog X.w H s.heap ea (.ext φ) from I.hok ea _ hH);exact zUh (zHZ xc) I.kIn (hφ _ p) e (fun z=>nomatch z) fun tk=>⟨.bl b,H,I.tok tk,rfl,q⟩
theorem zAE{X:Cx}{K:zUn}(h:X.K=K):yY X (.builtin "isinstance") (zPM K):=by
 subst h;exact zDN
theorem zBa{X:Cx}{K:zUn}(h:X.K=K):yY X (.builtin "isinstance") (zNe K):=by
 subst h;exact zKk
theorem PE.imp{X:Cx}(h:PE X e t)(f: ∀σ H Q,t' σ H Q->t σ H Q):PE X e t':=fun pins s σ H Q I q=>h pins s σ H Q I (f σ H Q q)
def XOf(a C:Addr)(dx:Option Addr)(h:Heap):Prop:= ∃o,h.get? a=some o/\o.cls= .ref C/\PySem.W.notCls o=true/\o.dict=dx/\ ∃t,o.data= .fields #[.ref t,.none,.none,.none,.bool false,.none]
def XO(a C:Addr)(dx:Option Addr):HO:= .ext (XOf a C dx)
def XDf(a:Addr)(fs:List (Str×V))(h:Heap):Prop:= ∃mA,h.Ns1 a mA/\(∀f,zAQ (fs.lookup f) (mA f))/\PySem.Within mA (fs.map (·.1))
def XD(a:Addr)(fs:List (Str×V)):HO:= .ext (XDf a fs)
theorem zNp{dx:Option Addr}(x:XOf a C dx h):zo P w H h a (XO a C dx):=by
 obtain ⟨o,e,r⟩:=x;exact ⟨⟨o,e,r⟩,⟨o,e⟩,fun h1 h2 ⟨o1,e1,r1⟩ k=>⟨o1,k o1 e1,r1⟩⟩
theorem zNP{fs:List (Str×V)}(x:XDf a fs h):zo P w H h a (XD a fs):=by
 obtain ⟨mA,⟨o,es,ep,ho,q⟩,r⟩:=x;exact ⟨⟨mA,⟨o,es,ep,ho,q⟩,r⟩,⟨o,ho⟩,fun h1 h2 ⟨m1,⟨o1,es1,ep1,ho1,q1⟩,r1⟩ k=>⟨m1,⟨o1,es1,ep1,k o1 ho1,q1⟩,r1⟩⟩
theorem zPd(ry:zX y u)(g:Str):zAQ ((([(f,y)] :List (Str×V))).lookup g) (if g=f then some u else none):=by
 by_cases q:g=f
 ·subst q;simp only [List.lookup_cons,beq_self_eq_true,if_true];exact ry
 ·have:(g==f)=false:=by simpa using q
  simp only [List.lookup_cons,this,List.lookup_nil,if_neg q];exact True.intro
section
variable {X:Cx}{o e value:Expr}{f:Str}{pos pos':Pos}{ta tv:TE}
def sX0(K:zUn)(ta tv:TE)(f:Str):TS:=fun D σ H=>tv σ H fun y H1=>ta σ H1 fun x H2=> ∃a C,x= .ref a/\H2 a=some (XO a C none)/\XCls K C/\yO K C f/\ ∀dx,H2 dx=none->dx≠a->D.nx σ (upd (upd H2 dx (XD dx [(f,y)])) a (XO a C (some dx)))
theorem zDS(ha:PE X o ta)(hv:PE X value tv)(hs:swapsWith value (some (.Attribute o f pos')) pos.line X.env=pure false):PS X (.Assign [.Attribute o f pos'] value pos) (sX0 X.K ta tv f):=by
 intro pins s σ H D I h;refine plainObj_wpAny_Assign_Attribute (zW (hv pins s σ H _ I h) fun u s1 ⟨y,H1,I1,ry,q⟩=>zW (ha pins s1 σ H1 _ I1 q) fun ov s2 ⟨x,H2,I2,rx,a,C,ex,ea,c,n,q2⟩=>?_) hs;subst ex;obtain rfl:ov=Value.ref a:=rx;obtain ⟨⟨o,ho,hc,hn,hd,td,hdt⟩,_⟩:=(show zo X.prog X.w H2 s2.heap a (XO a C none) from I2.hok a _ ea);have hlt:=zUI ho;have hf:H2 s2.heap.objs.size=none:=I2.hok.fresh (zUC _);have hne:s2.heap.objs.size≠a:=zUg hlt;refine PySem.W.xset0 I2.kIn c.sa c.mro c.ob n.taker c.hd ho hc hn hd fun h' tk hx' hns hk=>⟨σ,_,?_,q2 s2.heap.objs.size hf hne⟩;have nb: ∀b ob,s2.heap.get? b=some ob->b≠s2.heap.objs.size:=fun b ob e=>zUG (zUI e);have un:Un X.fs [] H2 (upd (upd H2 s2.heap.objs.size (XD s2.heap.objs.size [(f,y)])) a (XO a C (some s2.heap.objs.size))) s2.heap h':=by
  refine ⟨fun b ob e n hb _=>hk b ob (fun z=>by rw [z,ea] at n;cases n) e,fun b ob e n hb _=>⟨ob.slots,hk b ob (fun z=>by rw [z,ea] at n;cases n) e⟩,fun b ob e n _=>?_,fun b ob e _=>?_,fun b xs e=>?_,fun b ob u e=>?_,fun b ps e=>?_⟩
  ·rw [zN (fun z=>by rw [z,ea] at n;cases n),zN (nb b ob e)];exact n
  ·by_cases z:b=a
   ·subst z;exact ⟨_,hx'⟩
   ·exact ⟨ob,hk b ob z e⟩
  ·rw [zN (zEQ e ea (by intro z;cases z)),zN (zh e hf)];exact e
  ·rw [zN (zEQ e ea (by intro z;cases z)),zN (zh e hf)];exact e
  ·exact ⟨#[],by rw [zN (zEQ e ea (by intro z;cases z)),zN (zh e hf),Array.append_empty];exact e⟩
 refine I2.un un fun b u e=>?_;by_cases z:b=a
 ·subst z;rw [zE] at e;cases e;exact zNp ⟨_,hx',hc,by cases o;exact hn,rfl,td,hdt⟩
 ·rw [zN z] at e;by_cases z2:b=s2.heap.objs.size
  ·subst z2;rw [zE] at e;cases e;refine zNP ⟨_,hns,fun g=>zPd ry g,?_⟩;exact PySem.Within.cons f u PySem.Within.nil
  ·rw [zN z2] at e;refine (I2.hok b u e).stay (fun c' w' hc' e'=>hk c' w' ?_ e') (fun c' e'=>?_) fun c' xs e'=>?_
   ·rcases hc' with rfl | y'
    ·exact z
    ·intro zz;rw [zz,ea] at y';cases y'
   ·rw [zN (zEQ e' ea (by intro zz;cases zz)),zN (zh e' hf)];exact e'
   ·rw [zN (zEQ e' ea (by intro zz;cases zz)),zN (zh e' hf)];exact e'
def sX1(K:zUn)(ta tv:TE)(f:Str):TS:=fun D σ H=>tv σ H fun y H1=>ta σ H1 fun x H2=> ∃a C dx fs,x= .ref a/\H2 a=some (XO a C (some dx))/\H2 dx=some (XD dx fs)/\XCls K C/\yO K C f/\fs.length<1000/\D.nx σ (upd H2 dx (XD dx (yr f y fs)))
theorem zEm(ha:PE X o ta)(hv:PE X value tv)(hs:swapsWith value (some (.Attribute o f pos')) pos.line X.env=pure false):PS X (.Assign [.Attribute o f pos'] value pos) (sX1 X.K ta tv f):=by
 intro pins s σ H D I h;refine plainObj_wpAny_Assign_Attribute (zW (hv pins s σ H _ I h) fun u s1 ⟨y,H1,I1,ry,q⟩=>zW (ha pins s1 σ H1 _ I1 q) fun ov s2 ⟨x,H2,I2,rx,a,C,dx,fs,ex,ea,ed,c,n,hl,q2⟩=>?_) hs;subst ex;obtain rfl:ov=Value.ref a:=rx;obtain ⟨⟨o,ho,hc,hn,hd,td,hdt⟩,_⟩:=(show zo X.prog X.w H2 s2.heap a (XO a C (some dx)) from I2.hok a _ ea);obtain ⟨⟨mA,ns,r,wi⟩,_⟩:=(show zo X.prog X.w H2 s2.heap dx (XD dx fs) from I2.hok dx _ ed);refine PySem.W.xset1 I2.kIn c.sa c.mro c.ob n.taker c.hd ho hc hn hd ns wi (by rw [zUF,zUJ];omega) fun h' tk hns hk=>⟨σ,_,?_,q2⟩;have heo: ∃u,h'.get? dx=some u:=let ⟨o,_,_,e',_⟩:=hns;⟨o,e'⟩;refine I2.write (x:=dx) (e:=dx) (by rw [ed];exact True.intro) (.inl rfl) (fun b w hb e=>hk b w hb e) heo (zNP ⟨_,hns,fun g=>?_,fun g hg=>?_⟩)
 ·show zAQ ((yr f y fs).lookup g) (if g=f then some u else mA g);rw [zBE];by_cases q:g=f
  ·rw [if_pos q,if_pos q];exact ry
  ·rw [if_neg q,if_neg q];exact r g
 ·by_cases q:g=f
  ·rw [q];exact (zBr f y fs).1
  ·refine (zBr f y fs).2 g (wi g fun z=>hg ?_);show (if g=f then some u else mA g)=none;rw [if_neg q];exact z
end
def zFC(K:zUn)(C f:Addr):Bool:=match K.lookup C with
 | some ⟨.type "type",_,.cls cd,sl⟩=>(match cd.mro,sl.toList with
  | .ref C'::bm,[_,_,_,_,some (.builtin n),_] =>C'==C&&n== "ValueError.__new__" &&!cd.hasDel&&PySem.W.tailIn K [.type "ValueError",.type "Exception",.type "BaseException",.type "object"] bm&&PySem.W.nsOkIn K cd.ns&&PySem.W.nsIn K cd.ns "__init__" ==some (some (.ref f))
  | _,_=>false)
 | _=>false
structure MkX(K:zUn)(C f:Addr):Prop where
 ex:zFC K C f=true
 fn:PySem.W.isFn K (.ref f)=true
 kp:PySem.W.keepIn K (.ref C)=true
theorem zLN{K:zUn}{N:Addr}{h:Heap}{mg:Str->Option Value}{n:Str}{v:Value}(X:K.In h)(G:h.Ns N mg)(e:PySem.W.nsIn K N n=some (some v)):mg n=some v:=by
 obtain ⟨o,es,ep,ho,hd,_,hf⟩:=G;unfold PySem.W.nsIn at e;split at e
 ·rename_i c d es' n' sl q
  have:=X _ _ q;rw [ho] at this;cases this;cases hd;split at e
  ·rename_i en he
   cases e;rw [<-hf];unfold nsFind findBy;rw [<-Array.find?_toList,he];rfl
  ·split at e<;>cases e
 ·cases e
theorem zIt{K:zUn}{h:Heap}{C f:Addr}(X:K.In h)(q:zFC K C f=true):
  ∃bm N nm qn bs hdct sn sub ab col dd k0 k1 k2 k3 k5 mN,h.get? C=some (excClassObj nm qn C N bs bm hdct sn sub ab col dd k0 k1 k2 k3 k5 "ValueError.__new__")/\h.Ns N mN/\mN "__init__" =some (.ref f)/\OwnTail h [.type "ValueError",.type "Exception",.type "BaseException",.type "object"] bm:=by
 unfold zFC at q;split at q
 ·rename_i dd cd sl ho
  split at q
  ·rename_i C' bm k0 k1 k2 k3 n k5 hm hs
   simp only [zUp,beq_iff_eq,zVA] at q;obtain ⟨⟨⟨⟨⟨z1,z2⟩,hdel⟩,ht⟩,hok⟩,hni⟩:=q;subst z1 z2;obtain ⟨nm,bs,mro,ns,qn,hd,sn,sub,ab,col,del⟩:=cd;dsimp only at hm hdel hok hni;subst hm hdel;have hsl:sl= #[k0,k1,k2,k3,some (.builtin "ValueError.__new__"),k5] :=by
    obtain ⟨l⟩:=sl;simp only at hs;rw [hs]
   subst hsl;have hns:=PySem.W.isNs_of_in X hok;exact ⟨bm,ns,nm,qn,bs,hd,sn,sub,ab,col,dd,k0,k1,k2,k3,k5,_,X _ _ ho,.of_isNs hns,zLN X (.of_isNs hns) hni,PySem.W.tail_of_in X ht⟩
  ·cases q
 ·cases q
section
variable {X:Cx}{CX:CXT}{k:Nat}{f C:Addr}{fd:FuncData}{ps:List Str}{sp:Sp}{E:XK}{x:Str}{p pos:Pos}{e:Expr}{es:List Expr}{t:TA}
end
def yK:Expr->Bool
 | .Starred ..=>false
 | _=>true
theorem za(h:yK e=true):starEach (e::es) env=(false,eval e env)::starEach es env:=by
 cases e<;>first | rfl | cases h
structure QE(X:Cx)(e:Expr)(t:TE):Prop where
 out:PE X e t
structure QA(X:Cx)(es:List Expr)(t:TA):Prop where
 out:PA X es t
section
variable {X:Cx}{a:Expr}{es:List Expr}{ta:TE}{t:TA}{j:Nat}{pos:Pos}
theorem qc(ha:QE X a ta)(hr:QA X es t)(h:yK a=true):QA X (a::es) (zBy ta t):=⟨zy ha.out hr.out (za h)⟩
theorem zB:QA X [] zDK:=⟨yf⟩
theorem zC:QE X (.Constant (.int i) j pos) (tC (.int i)):=⟨ye⟩
theorem zAP:QE X (.Constant (.bool b) j pos) (tC (.bl b)):=⟨zJK⟩
theorem zG:QE X (.Constant (.str x) j pos) (tC (.str x)):=⟨zRK⟩
theorem zBX:QE X (.Constant .none j pos) (tC .non):=⟨zQf⟩
theorem zM(h:QA X es t):QE X (.Tuple es j pos) (zQO t):=⟨zRa h.out⟩
theorem zd(h:QA X es t):QE X (.List es pos) (zRA t):=⟨zLk h.out⟩
theorem zER(h:QE X a ta):QE X (.UnaryOp .USub a pos) (tUn (rU fun i=> .int (-i)) ta):=⟨zSY zRY h.out⟩
end
open FrM
structure QT(X:Cx)(e:Expr)(t:TT):Prop where
 out:PT X e t
structure QW(X:Cx)(e:Expr)(t:TT):Prop where
 out:PW X e t
structure QS(X:Cx)(st:Stmt)(t:TS):Prop where
 out:PS X st t
structure QB(X:Cx)(b:List Stmt)(t:TS):Prop where
 out:PSs X b t
structure QI(X:Cx)(tg iter:Expr)(t:TI):Prop where
 out:PI X tg iter t
structure QG(X:Cx)(tg:Expr)(t:TG):Prop where
 out:PG X tg t
structure QGs(X:Cx)(tg:List Expr)(t:TGs):Prop where
 out:PGs X tg t
def zAA:List Expr->Bool
 | [] =>true
 | e::es=>yK e&&zAA es
theorem zAV: ∀{es:List Expr},zAA es=true->(backTo pos (starEach es env)).any (·.1)=false
 | [],_=>rfl
 | e::es,h=>by
  have h2:yK e=true/\zAA es=true:=by simpa [zAA] using h
  rw [za h2.1];show (false ||(backTo pos (starEach es env)).any (·.1))=false;rw [zAV h2.2];rfl
section
variable {X:Cx}{K:zUn}{a b c e o:Expr}{es rest:List Expr}{ta tb tc te to:TE}{tA tB':TT}{t:TA}{x:Str}{p pos pos' apos cpos:Pos}{j i:Nat}
def okV(X:Cx)(i:Nat)(x:Str)(k:NameKind):Bool:=X.N[i]?==some x&&(X.env.scope.names.lookup x==some k&&(!(x==("__debug__" :Str))&&!(x==("__classdict__" :Str))))
theorem zIm{k:NameKind}(h:okV X i x k=true):X.N[i]?=some x/\X.env.scope.names.lookup x=some k/\(x==("__debug__" :Str))=false/\(x==("__classdict__" :Str))=false:=by
 unfold okV at h;rw [zUp,zUp,zUp,beq_iff_eq,beq_iff_eq,zVA,zVA] at h;exact h
theorem qw(i:Nat)(h:okV X i x .local=true):QE X (.Name x pos) (zKI i):=let ⟨a,b,c,d⟩:=zIm h;⟨zHd a (.inl b) c d⟩
theorem qx(i:Nat)(h:okV X i x .cell=true):QE X (.Name x pos) (zKI i):=let ⟨a,b,c,d⟩:=zIm h;⟨zHd a (.inr (.inl b)) c d⟩
def okB(x:Str)(e:Expr)(es:List Expr):Bool:=!(x==("__name__" :Str))&&(!(x==("__debug__" :Str))&&(yK e&&zAA es))
theorem zIe(h:okB x e es=true):x≠ "__name__" /\(x==("__debug__" :Str))=false/\yK e=true/\zAA es=true:=by
 unfold okB at h;rw [zUp,zUp,zUp,zVA,zVA,beq_eq_false_iff_ne] at h;exact h
theorem zt(hg:Gl X x)(hm:X.mg x=some u)(r:zX v u)(hd:(x==("__debug__" :Str))=false):QE X (.Name x pos) (tC v):=⟨zOp hg hm r hd⟩
theorem zAv(hg:Gl X x)(hm:X.mg x=none)(hv:bootBuiltins x=some u)(r:zX v u)(hn:x≠ "__name__")(hd:(x==("__debug__" :Str))=false):QE X (.Name x pos) (tC v):=⟨zEU hg hm hv r hn hd⟩
theorem yt{op:Operator}(ho:OpR X (binaryOp op) r)(ha:QE X a ta)(hb:QE X b tb):QE X (.BinOp a op b pos) (tOp r ta tb):=⟨zAc ho ha.out hb.out⟩
theorem yg(ha:QE X a ta)(hb:QE X b tb):QE X (.BinOp a .Add b pos) (tOp (rI0 fun i j=> .int (i+j)) ta tb):=yt zFN ha hb
theorem zCh(ha:QE X a ta)(hb:QE X b tb):QE X (.BinOp a .Sub b pos) (tOp (rI0 fun i j=> .int (i - j)) ta tb):=yt zPb ha hb
theorem zHK(ha:QE X a ta)(hb:QE X b tb):QE X (.BinOp a .Mult b pos) (tOp (rI zJs fun i j=> .int (i*j)) ta tb):=yt zCP ha hb
theorem zj(ha:QE X a ta)(hb:QE X b tb):QE X (.BinOp a .FloorDiv b pos) (tOp (rI zRP fun i j=> .int (i/j)) ta tb):=yt zOJ ha hb
theorem zl(ha:QE X a ta)(hb:QE X b tb):QE X (.BinOp a .Mod b pos) (tOp (rI (fun _ j=>0<j) fun i j=> .int (i % j)) ta tb):=yt zCO ha hb
theorem zJV(ha:QE X a ta)(hb:QE X b tb):QE X (.BinOp a .Pow b pos) (tOp (rI zQc fun i j=> .int (i^j.toNat)) ta tb):=yt zPw ha hb
theorem zAd(ha:QE X a ta)(hb:QE X b tb):QE X (.BinOp a .Add b pos) (tOp zRc ta tb):=yt zQa ha hb
theorem zCg{op:BoolOp}(h:QE X a ta):QE X (.BoolOp op [a] pos) ta:=⟨zLH h.out⟩
theorem zCf(ha:QE X a ta)(hb:QE X (.BoolOp .And (b::rest) pos) tb):QE X (.BoolOp .And (a::b::rest) pos) (zNH ta tb):=⟨zLT ha.out hb.out⟩
theorem zFM(hc:QT X c tA)(ha:QE X a ta)(hb:QE X b tb):QE X (.IfExp c a b pos) (tIf tA ta tb):=⟨zNB hc.out ha.out hb.out⟩
theorem zFF{op:CmpOp}(ho:OpR X (compareOp op) r)(ha:QE X a ta)(hb:QE X b tb)(hm:behindInMarks op b=false):QE X (.Compare a [op] [b] pos) (tOp r ta tb):=⟨zIq ho ha.out hb.out hm⟩
theorem zL{op:CmpOp}(ho:OpR X (compareOp op) r)(ha:QE X a ta)(hb:QE X b tb)(hm:behindInMarks op b=false):QT X (.Compare a [op] [b] pos) (zHI (tOp r ta tb)):=⟨zDD ho ha.out hb.out hm⟩
theorem zRv(ha:QE X a ta)(h:behindInMarks .Is (.Constant .none j pos')=false):QT X (.Compare a [.Is] [.Constant .none j pos'] pos) (tB (zPL ta)):=⟨zDl (zQl ha.out) h⟩
theorem zFL(ha:QE X a ta)(h:behindInMarks .IsNot (.Constant .none j pos')=false):QT X (.Compare a [.IsNot] [.Constant .none j pos'] pos) (tB (zNJ ta)):=⟨zDl (zOE ha.out) h⟩
theorem zGB{op op':CmpOp}(ho:OpR X (compareOp op) r)(ho':OpR X (compareOp op') r')(ha:QE X a ta)(hb:QE X b tb)(hc:QE X c tc)(hm:lastMarks [op,op'] [b,c] =false):QE X (.Compare a [op,op'] [b,c] pos) (zFZ r r' ta tb tc):=⟨zMC ho ho' ha.out hb.out hc.out hm⟩
theorem zFw{op op':CmpOp}(ho:OpR X (compareOp op) r)(ho':OpR X (compareOp op') r')(ha:QE X a ta)(hb:QE X b tb)(hc:QE X c tc)(hm:lastMarks [op,op'] [b,c] =false):QT X (.Compare a [op,op'] [b,c] pos) (zHI (zFZ r r' ta tb tc)):=⟨zMk ho ho' ha.out hb.out hc.out hm⟩
theorem zAM(h:QE X e te)(he: ∀whole,isTrue e X.env whole=(do let v<-whole;standAt e.pos;holding [v] (truthy v))):QT X e (tB te):=⟨zFh h.out he⟩
theorem zAl(h:QT X a tA):QT X (.UnaryOp .Not a pos) (zQx tA):=⟨zFS h.out⟩
theorem zAU(h:QT X a tA):QW X (.BoolOp .And [a] pos) tA:=⟨zOu h.out⟩
theorem zAN(h:QT X a tA):QW X (.BoolOp .Or [a] pos) tA:=⟨zHm h.out⟩
theorem zAi(ha:QT X a tA)(hb:QW X (.BoolOp .And (b::rest) pos) tB'):QW X (.BoolOp .And (a::b::rest) pos) (zPR tA tB'):=⟨zQA ha.out hb.out⟩
theorem zAI(ha:QT X a tA)(hb:QW X (.BoolOp .Or (b::rest) pos) tB'):QW X (.BoolOp .Or (a::b::rest) pos) (tOr tA tB'):=⟨zGr ha.out hb.out⟩
theorem t_w(h:QW X e tA):QT X e tA:=⟨h.out.pt⟩
theorem yN(hK:X.K=K)(ha:QE X a ta)(hb:QE X b tb)(hs:zEV b):QE X (.Subscript a b pos) (tOp (zQb K) ta tb):=by
 subst hK;exact ⟨zBw zJA ha.out hb.out hs⟩
theorem zJ(hK:X.K=K)(ha:QE X a ta)(hb:QE X b tb)(hs:zEV b):QE X (.Subscript a b pos) (tOp (zPc K) ta tb):=by
 subst hK;exact ⟨zBw zDB ha.out hb.out hs⟩
theorem zJn(ha:QE X a ta)(hb:QE X b tb)(hs:zEV b):QE X (.Subscript a b pos) (tOp zPT ta tb):=⟨zBw zQP ha.out hb.out hs⟩
section
variable {CX:CXT}{k:Nat}{f C:Addr}{fd:FuncData}{ps:List Str}{sp:Sp}{dvs:List V}{ds:List Value}{E:XK}{ES:St->XK}{id T:String}{r:List V->Hp->VK->Prop}
theorem zR(F:FnOk X.prog X.w X.K X.mg X.base CX k f fd ps sp)(hr:Room k X.A)(hg:Gl X x)(hm:X.mg x=some (.ref f))(hk:PySem.W.keepIn X.K (.ref f)=true)(hb:zO X.K fd ps ds)(hd:zT dvs ds)(hx:zAm CX X E)
  (ha:QA X (e::es) t) (h1:(x==("__debug__" :Str))=false) (h2:yK e=true) (h3:zAA es=true):QE X (.Call (.Name x p) (e::es) [] pos) (zNM sp dvs E t):=⟨zCE F hr hg hm hk hb hd hx ha.out h1 (za h2) (zAV h3)⟩
theorem zFq(F:FnOk X.prog X.w X.K X.mg X.base CX k f fd ps sp)(hr:Room k X.A)(hg:Gl X x)(hm:X.mg x=some (.ref f))(hk:PySem.W.keepIn X.K (.ref f)=true)(hb:zO X.K fd ps ds)(hd:zT dvs ds)(hx:zAo CX X ES)
  (ha:QA X (e::es) t) (h1:(x==("__debug__" :Str))=false) (h2:yK e=true) (h3:zAA es=true):QE X (.Call (.Name x p) (e::es) [] pos) (zLU sp dvs ES t):=⟨zMP F hr hg hm hk hb hd hx ha.out h1 (za h2) (zAV h3)⟩
theorem zOj(hc:yY X (.builtin id) r)(hg:Gl X x)(hm:X.mg x=none)(hv:bootBuiltins x=some (.builtin id))(ha:QA X (e::es) t)(h0:x≠ "__name__")(h1:(x==("__debug__" :Str))=false)(h2:yK e=true)(h3:zAA es=true):
  QE X (.Call (.Name x p) (e::es) [] pos) (tCB r t):=⟨zBh hc hg hm hv ha.out h0 h1 (za h2) (zAV h3)⟩
theorem zMv(hc:yY X (.type T) r)(hg:Gl X x)(hm:X.mg x=none)(hv:bootBuiltins x=some (.type T))(ha:QA X (e::es) t)(h0:x≠ "__name__")(h1:(x==("__debug__" :Str))=false)(h2:yK e=true)(h3:zAA es=true):
  QE X (.Call (.Name x p) (e::es) [] pos) (tCB r t):=⟨zKP hc hg hm hv ha.out h0 h1 (za h2) (zAV h3)⟩
theorem zq(hc:yY X (.builtin id) r)(hg:Gl X x)(hm:X.mg x=none)(hv:bootBuiltins x=some (.builtin id))(ha:QA X (e::es) t)(h:okB x e es=true):QE X (.Call (.Name x p) (e::es) [] pos) (tCB r t):=let ⟨a,b,c,d⟩:=zIe h;zOj hc hg hm hv ha a b c d
theorem zBZ(hc:yY X (.type T) r)(hg:Gl X x)(hm:X.mg x=none)(hv:bootBuiltins x=some (.type T))(ha:QA X (e::es) t)(h:okB x e es=true):QE X (.Call (.Name x p) (e::es) [] pos) (tCB r t):=let ⟨a,b,c,d⟩:=zIe h;zMv hc hg hm hv ha a b c d
end
theorem zm(hK:X.K=K):yY X (.builtin "len") (fun xs H Q=> ∃p ys,xs= [.ref p] /\(SqL K H p ys\/SqT K H p ys)/\Q (.int ys.length) H):=by
 subst hK;exact zCY
theorem zAk(hK:X.K=K)(ho:QE X o to)(ha:QE X e te)(hb:attributeBase o "append" X.env (eval o X.env)=eval o X.env)(h2:yK e=true)(hl:(apos.endLine==cpos.line)=true):
  QE X (.Call (.Attribute o "append" apos) [e] [] cpos) (tBM K "list" zIp to (zBy te zDK)):=by
 subst hK;exact ⟨zDJ PySem.F.plainAttrs_list PySem.F.slot_list_append PySem.F.type_list_append zDj ho.out (zy ha.out yf (za h2)) hb (by rw [za h2];rfl) hl (za h2) rfl⟩
theorem zRh(h:QE X e te)(f: ∀σ H Q,t' σ H Q->te σ H Q):QE X e t':=⟨PE.imp h.out f⟩
section
variable {st:Stmt}{sts b1 b2:List Stmt}{u v:TS}{g:TG}{gs:TGs}{wi:TI}{tg iter:Expr}
theorem zU:QB X [] zNv:=⟨zEW⟩
theorem zH(h:QS X st u):QB X [st] u:=⟨yz h.out⟩
theorem zF(h:QS X st u)(h2:QB X sts v):QB X (st::sts) (zKC u v):=⟨yp h.out h2.out⟩
theorem zS(h:QE X e te):QS X (.Return (some e) pos) (zPi te):=⟨zBV h.out⟩
theorem yP(h:QE X e te)(hs:swapsWith e none pos.line X.env=pure false):QS X (.Expr e pos) (zNR te):=⟨zON h.out hs⟩
theorem zV(hc:QT X c tA)(ha:QB X b1 u)(hb:QB X b2 v):QS X (.If c b1 b2 pos) (zRR tA u v):=⟨zGz hc.out ha.out hb.out⟩
theorem zBS(i:Nat)(hN:X.N.Nodup)(hi:X.N[i]?=some x)(hx:Loc X.env.scope x)(he:QE X e te)(hs:swapsWith e (some (.Name x pos')) pos.line X.env=pure false)(hf:X.fn x=true\/X.env.scope.names.lookup x=some .local):
  QS X (.Assign [.Name x pos'] e pos) (zEq te (zBv i)):=⟨zCT hN hi hx he.out hs hf⟩
theorem zY(i:Nat)(hN:X.N.Nodup)(h:(X.N[i]?==some x&&X.env.scope.names.lookup x==some .local)=true)(he:QE X e te)(hs:swapsWith e (some (.Name x pos')) pos.line X.env=pure false):QS X (.Assign [.Name x pos'] e pos) (zEq te (zBv i)):=by
 rw [zUp,beq_iff_eq,beq_iff_eq] at h;exact zBS i hN h.1 (.inl h.2) he hs (.inr h.2)
theorem zNO(he:QE X e te)(hg:QG X tg g)(hs:swapsWithSole [tg] e pos.line X.env=pure false)(hw:swappedStores [tg] e X.env=pure none)(h1:(assignEach [tg] X.env).map (·.2)= [assign tg X.env]):QS X (.Assign [tg] e pos) (zEq te g):=⟨zRb he.out hg.out hs hw h1⟩
theorem zb(i:Nat)(hN:X.N.Nodup)(hi:X.N[i]?=some x)(hx:Loc X.env.scope x)(hf:X.fn x=true\/X.env.scope.names.lookup x=some .local):QG X (.Name x pos) (zBv i):=⟨zOQ hN hi hx hf⟩
theorem zCc:QGs X [] zRF:=⟨zOy⟩
theorem ya(h1:QG X e g)(h2:QGs X es gs)(hs:(assignEach (e::es) X.env).map (·.2)=assign e X.env::(assignEach es X.env).map (·.2)):QGs X (e::es) (zNV g gs):=⟨zMm h1.out h2.out hs⟩
theorem zCj(hK:X.K=K)(hc:X.calm=true)(h:QGs X es gs)(hn:(assignEach es X.env).length=n)(hst:(assignEach es X.env).findIdx? (·.1)=none):QG X (.Tuple es j pos) (zPh K n gs):=by
 subst hK;exact ⟨zQh hc h.out hn hst⟩
theorem zJB(hp:PassesOwn (model X.prog X.w) X.A X.env X.xe)(hc:QT X c tA)(hb:QB X b1 u):QS X (.While c b1 [] pos) (zHg tA u):=⟨zHl hp hc.out hb.out⟩
theorem zCR(hK:X.K=K)(h:QE X e te):QI X tg e (zNx K te):=by
 subst hK;exact ⟨zOi h.out⟩
theorem zBT(hK:X.K=K)(h:QE X e te):QI X tg e (zQD K te):=by
 subst hK;exact ⟨zQG h.out⟩
theorem zBo(hg:Gl X "range")(hm:X.mg "range" =none)(h:QA X [a] t)(h2:yK a=true):QI X tg (.Call (.Name "range" p) [a] [] pos) (zNt t):=⟨zLB hg hm h.out (by rw [za h2];rfl)⟩
theorem zSj(hp:PassesOwn (model X.prog X.w) X.A X.env X.xe)(hc:X.calm=true)(hi:QI X tg iter wi)(hg:QG X tg g)(hb:QB X b1 u)(hs: ∀x,foldedSetIterable iter X.env x=pure x):QS X (.For tg iter b1 [] pos) (zPa wi g u):=⟨zQy hp hc hi.out hg.out hb.out hs⟩
end
end
theorem hid{t u:TS}{D:Ends}{σ:St}{H:Hp}(h: ∀{U:St->Hp->Prop},(∀{σ' H'},u D σ' H'->U σ' H')->t {D with nx:=U} σ H):zKC t u D σ H:=h (U:=u D) fun z=>z
theorem fs{N P:List Str}{sc:Scope}(a:sc.kind= .function:=by rfl)(b:sc.isCoroutine=false:=by rfl)(c:sc.isGenerator=false:=by rfl)(d:N.Nodup:=by decide+kernel)(e:N.take P.length=P:=by rfl)
  (f: ∀x∈P,sc.names.lookup x=some .local\/sc.names.lookup x=some .cell:=by decide+kernel) (g: ∀y∈sc.names,y.2≠ .free:=by decide+kernel):FnScope N P sc:=⟨a,b,c,d,e,f,g⟩
abbrev zCe(ifs:List Expr)(env:Env):Sem Bool:=forIn ifs true fun c r=>if r=true then do let ok<-isTrue c env (eval c env);pure (ForInStep.yield ok) else pure (ForInStep.yield r)
theorem yX{E:Value->Shared->Prop}{α:Type}{t:Sem α}{Q:α->Shared->Prop}(h:wpAny (model P w) A t Q (fun _ _=>False) s):wpAny (model P w) A t Q (notedBy (model P w) A env E) s:=zUS h (fun _ _ z=>z) fun _ _ z=>z.elim
theorem zJj{R:Result->Shared->Prop}(J:Nat->Shared->Prop)
  (turn: ∀n s,J n s->wpAny (model P w) A (pyNext it) (fun r s1=>match r with
   | none=>R (.ok .next) s1
   | some v=>wpAny (model P w) A (letOwnedTupleGo target it v) (fun _ s1'=>wpAny (model P w) A (assign target env v) (fun _ s2=>wpAny (model P w) A (zCe ifs env) (fun ok s3=>
     if ok=true then wpAny (model P w) A (eval elt env) (fun x s4=>wpAny (model P w) A (call (.builtin "list.append") [acc,x]) (fun _ s5=> ∃m,m<n/\J m s5) (fun _ _=>False) s4) (fun _ _=>False) s3
     else∃m,m<n/\J m s3) (fun _ _=>False) s2) (fun _ _=>False) s1') (fun _ _=>False) s1) (fun _ _=>False) s)
  (n:Nat) (h:J n s):codeAny (model P w) A (.compLoop (.ListComp elt [⟨target,iter,ifs,0⟩] scope pos) 0 it acc env) R s:=by
 refine codeAny_loop rfl J (fun n s hJ=>?_) n h;show wpAny _ A ((compTurn (.ListComp elt [⟨target,iter,ifs,0⟩] scope pos) 0 it acc env).onRaise _) _ _ s;refine wpAny_noted ?_;rw [compTurn_list];refine zTz (wpAny_standAt (zTz (zUS (yX (turn n s hJ)) (fun r s1 h1=>?_) fun _ _ z=>z)));cases r with
 | none=>exact zUE h1
 | some v=>
  refine zTz (zUS (yX h1) (fun _ s2 h3=>zTz (zUS (yX h3) (fun _ s3 h4=>zTz (zUS (yX h4) (fun ok s4 h5=>?_) fun _ _ z=>z)) fun _ _ z=>z)) fun _ _ z=>z);cases ok with
  | false=>exact zUE ⟨rfl,h5⟩
  | true=>exact zTz (zTz (zUS (yX h5) (fun x s5 h6=>zTz (zUS (yX h6) (fun _ s6 h7=>zUE (zUE ⟨rfl,h7⟩)) fun _ _ z=>z)) fun _ _ z=>z))
def PTs(X:Cx)(ifs:List Expr)(t:TT):Prop:=(ifs= [] /\t=fun _ H Q=>Q true H)\/ ∃c,ifs= [c] /\PT X c t
def zFU(wi:TI)(g:TG)(tt:TT)(te:TE)(n:Nat)(fr:List Nat):TE:=fun σ H Q=>wi σ H fun J H1=> ∀D,H1 D=none-> ∃W:Nat->Nat->List V->Hp->Prop,(∃m,W 0 m [] (upd H1 D (.lst [])))/\ ∀i m ys H,W i m ys H->
 H D=some (.lst ys)/\((J.stop i H/\Q (.ref D) H)\/(J.go i H/\ys.length<sizeLine/\ ∃N:List V->Hp->Prop,(∀ys' H',N ys' H'-> ∃m',m'<m/\W (i+1) m' ys' H')/\
  ∀x H',J.yld i H x H'-> ∀pre:St,pre.length=n->g x (pre++yL fr σ) H' fun σ2 H2=>(∃pre2:St,pre2.length=n/\σ2=pre2++yL fr σ)/\
   tt σ2 H2 fun b H3=>if b=true then te σ2 H3 fun y H4=>H4 D=some (.lst ys)/\N (ys++ [y]) (upd H4 D (.lst (ys++ [y]))) else N ys H3))
theorem zLu{X:Cx}(hcm:X.calm=true)
  (hi:PI X tg iter wi) (hclos:closureFor scope X.env=pure cl) (hcell: ∀y∈scope.names,y.2≠ .cell) (hkind:scope.kind= .function) (hnames: ∀y∈scope.names,y.2= .local->scope.names.lookup y.1=some .local)
  (hcl: ∀y a,cl.lookup y=some a->X.env.cells.lookup y=some a)
  (hlen:ys.length=fr.length) (hfr: ∀(j:Nat) y i,ys[j]?=some y->fr[j]?=some i->X.N[i]?=some y/\X.env.kindOf y=some .cell/\(relabel scope X.env).names.lookup y=some .cell/\ ∃a,cl.lookup y=some a/\X.env.cells.lookup y=some a)
  (hhas: ∀y,((relabel scope X.env).names.lookup y=some .cell\/(relabel scope X.env).names.lookup y=some .free)-> ∃a,cl.lookup y=some a)
  (hg: ∀C s₂ H₂ fp,PG (X.comp scope cl C (zs++ys) s₂ H₂ fp) tg g) (hc: ∀C s₂ H₂ fp,PTs (X.comp scope cl C (zs++ys) s₂ H₂ fp) ifs tt) (he: ∀C s₂ H₂ fp,PE (X.comp scope cl C (zs++ys) s₂ H₂ fp) elt te) (hs: ∀v,foldedSetIterable iter X.env v=pure v:=by intro _;rfl):
  PE X (.ListComp elt [⟨tg,iter,ifs,0⟩] scope pos) (zFU wi g tt te zs.length fr):=by
 intro pins s σ H Q I h;rw [eval_ListComp];refine wpAny_comprehension_free (use:=none) rfl hs hclos hkind hnames (zW (hi pins s σ H _ I h) fun v s1 h1=>zW h1 fun itv s2 h2=>?_);obtain ⟨it,fp,tn,J,H2,e,I2,T,st2,f2,h2⟩:=h2;subst e;have hD:H2 s2.heap.objs.size=none:=I2.hok.fresh (zUC _);obtain ⟨W,⟨m0,w0⟩,turn⟩:=h2 s2.heap.objs.size hD;refine wpAny_newObj_type (wpAny_newFunctionEnv hcell (by intro y hy;simp at hy) (fun h₁ hns₁ hsb₁=>?_) hkind);dsimp only at hns₁ hsb₁⊢;generalize hH3:s2.heap.push {cls:= .type "list",dict:=none,data:= .seq ([] :List Value).toArray}=H3 at hns₁ hsb₁⊢;have hCs:H3.objs.size=s2.heap.objs.size+1:=by rw [<-hH3,Heap.size_push]
 have old: ∀b o,s2.heap.get? b=some o->h₁.get? b=some o:=fun b o e=>
  hsb₁.extBut b o (zUG (by have:=zAO e;omega)) (zUA _ (hH3▸zUA _ e))
 have hacc:h₁.get? s2.heap.objs.size=some {cls:= .type "list",dict:=none,data:= .seq ([] :List Value).toArray}:=
  hsb₁.extBut _ _ (zUG (by omega)) (zUA _ (hH3▸zUQ _ rfl))
 have fplt: ∀b∈fp,@LT.lt Nat _ b s2.heap.objs.size:=fun b hb=>by
  obtain ⟨o,e,_⟩:=T.obj _ _ st2 b hb;exact zAO e
 have okC:(X.comp scope cl H3.objs.size (zs++ys) s2 H2 fp).Ok:=by
  refine ⟨I2.ok.mod,hkind,I2.ok.glob,I2.ok.blt,?_,fun y z a h1 h2=>I2.ok.inj y z a (hcl y a h1) (hcl z a h2),fun y hy=>hhas y hy,fun y a z _=>(nomatch z),I2.ok.hd,I2.ok.frames,.inl rfl,fun b hb=>⟨?_,fun y a e z=>?_⟩,I2.bs,zUM I2.ok.bsz I2.sz,fun b o e hb=>?_,fun b hb z=>?_,I2.stack,I2.stkFree⟩
  ·show s2.heap.objs.size<=H3.objs.size;omega
  ·show b≠H3.objs.size;have:=fplt b hb;exact zUG (by omega)
  ·exact (f2 b hb).2.2.2.2.1 y a (hcl y a e) z
  ·rcases (f2 b hb).2.2.2.1 with z | z
   ·exact I2.ok.noex b o e z
   ·have z': @LE.le Nat _ X.s₀.heap.objs.size b:=z;have: @LT.lt Nat _ b X.base.objs.size:=zAO e;have:=I2.ok.bsz;omega
  ·rcases zUo.mp (I2.stkSub b z) with y | y
   ·exact (f2 b hb).2.1 y
   ·exact (f2 b hb).2.2.1 y
 have fpok: ∀{H':Hp},(∀b∈fp,H' b=none)-> ∀b∈fp,zBi (X.comp scope cl H3.objs.size (zs++ys) s2 H2 fp) [] H' b:=fun hn b hb=>
  ⟨hn b hb,(okC.exf b hb).1,okC.exfs b hb,.inl hb,(okC.exf b hb).2,fun p hp=>absurd hp (by simp)⟩
 have cellC: ∀y a,cl.lookup y=some a-> ∃v,s2.heap.IsCell a v:=fun y a e=>I2.cell y a (hcl y a e);have zBB:Inv (X.comp scope cl H3.objs.size (zs++ys) s2 H2 fp) [] (List.replicate zs.length none++yL fr σ) (upd H2 s2.heap.objs.size (.lst [])) {s2 with heap:=h₁,toks:=s2.toks+([] :List (Str×Value)).length}:=by
  refine ⟨okC,rfl,I2.bare,Un.laid old (zUC _) hD,⟨_,hns₁,fun j y v e1 e2 e3=>?_⟩,fun y a e=>?_,?_,fun y a e=>?_,fun p hp=>absurd hp (by simp),I2.hok.laid old (zUC _) ⟨zUN _,[],_,.nil,hacc⟩,?_⟩
  ·by_cases hj:j<zs.length
   ·rw [List.getElem?_append_left (by simpa using hj),List.getElem?_replicate] at e2;rw [if_pos hj] at e2;cases e2
   ·obtain ⟨j,rfl⟩: ∃k,j=zs.length+k:=⟨j - zs.length,by omega⟩;have e1':ys[j]?=some y:=by
     have z:=e1;simp only [Cx.comp] at z;rw [List.getElem?_append_right (by omega)] at z;simpa using z
    have e2':(yL fr σ)[j]?=some (some v):=by
     rw [List.getElem?_append_right (by simp)] at e2;simpa using e2
    unfold yL at e2';rw [zUD] at e2';cases q:fr[j]? with
    | none=>rw [q] at e2';cases e2'
    | some i=>
     rw [q] at e2';have e4:(σ[i]?).getD none=some v:=Option.some.inj e2';have e5:σ[i]?=some (some v):=by
      cases q2:σ[i]? with
      | none=>rw [q2] at e4;cases e4
      | some z=>rw [q2] at e4;exact congrArg some e4
     obtain ⟨hN,hk,hl,a,ha,ha'⟩:=hfr j y i e1' q;obtain ⟨m,_,hl2⟩:=I2.loc;obtain ⟨u,r,l⟩:=hl2 i y v hN e5 (.inr (.inl hk));refine ⟨u,r,.inr ⟨.inl hl,a,ha,?_⟩⟩;rcases l with ⟨k,_⟩|⟨_,a2,ea,z⟩
     ·rw [hk] at k;cases k
     ·rw [ha'] at ea;cases ea;obtain ⟨o,ho,hd⟩:=z;exact ⟨o,old _ _ ho,hd⟩
  ·obtain ⟨v,o,ho,hd⟩:=cellC y a e;exact ⟨v,o,old _ _ ho,hd⟩
  ·show upd H2 s2.heap.objs.size (.lst []) H3.objs.size=none;rw [zN (by first | exact zUG (by omega)| exact zUg (by omega))];exact I2.hok.fresh (by omega)
  ·obtain ⟨v,o,ho,hd⟩:=cellC y a e;have:=zAO ho;rw [zN (by first | exact zUG (by omega)| exact zUg (by omega))];exact I2.freeC y a (hcl y a e)
  ·show (List.replicate zs.length none++yL fr σ).length=(zs++ys).length;unfold yL;simp [hlen]
 have loop: ∀s₃:Shared,s₃={s2 with heap:=h₁,toks:=s2.toks+([] :List (Str×Value)).length}->
   codeAny (model X.prog X.w) X.A (.compLoop (.ListComp elt [⟨tg,iter,ifs,0⟩] scope pos) 0 (.ref it) (.ref s2.heap.objs.size) (compEnvC scope cl H3.objs.size X.env)) (compPost (model X.prog X.w) X.A X.xe none (EP X pins σ Q) (.ref s2.heap.objs.size) H3.objs.size) s₃:=by
  rintro s₃ rfl;refine zJj (fun n s'=> ∃i pre ys' H',pre.length=zs.length/\Inv (X.comp scope cl H3.objs.size (zs++ys) s2 H2 fp) [] (pre++yL fr σ) H' s'/\tn i s'.heap/\(∀b∈fp,H' b=none)/\W i n ys' H') ?_ m0
   ⟨0,List.replicate zs.length none,[],_,by simp,zBB,T.keep _ _ _ st2 fun b hb o e=>old b o e,fun b hb=>by
    have:=fplt b hb;rw [zN (by first | exact zUG (by omega)| exact zUg (by omega))];exact (f2 b hb).1,w0⟩
  rintro n s3 ⟨i,pre,ys3,H',hpl,I3,st3,fr3,w3⟩;obtain ⟨hl3,alt⟩:=turn i n ys3 H' w3;rcases alt with ⟨stop,qn⟩|⟨go,hz,N,hN,step⟩
  ·refine zUS (T.done (X.comp scope cl H3.objs.size (zs++ys) s2 H2 fp) rfl rfl rfl hcm i [] s3 _ H' (fun _ _=>False) I3 (fpok fr3) st3 stop) (fun r s4 h4=>?_) fun _ _ z=>z.elim;obtain ⟨hr,I4⟩:=h4;subst hr;obtain ⟨m4,hn4,_⟩:=id I4.loc;refine ⟨m4,hn4,fun h'' hs''=>?_⟩;have hb: ∀b o,b≠H3.objs.size->s4.heap.get? b=some o->h''.get? b=some o:=fun b o hb e=>(hs''.2 b hb).trans e;have I5:Inv X pins σ H' {s4 with heap:=h''}:=by
    refine I2.call' (s':={s4 with heap:=h''}) (ch:=fp) I4.os ⟨fun b o e n hb' hx'=>?_,fun b o e n hb' hx'=>?_,fun b o e n hx'=>I4.base.free b o e n hx',fun b o e hx'=>?_,I4.base.tups,I4.base.frzs,I4.base.tbls⟩ (fun b u e=>?_) I4.bare fun b hb'=>⟨(f2 b hb').2.2.2.1,(f2 b hb').2.1,(f2 b hb').2.2.2.2.1,(f2 b hb').2.2.2.2.2⟩
    ·exact hb b o (zUG (by have:=zAO e;omega)) (I4.base.keep b o e n hb' hx')
    ·obtain ⟨sl,q⟩:=I4.base.slot b o e n hb' hx';exact ⟨sl,hb b _ (zUG (by have:=zAO e;omega)) q⟩
    ·obtain ⟨o',q⟩:=I4.base.there b o e hx';exact ⟨o',hb b _ (zUG (by have:=zAO e;omega)) q⟩
    ·refine (I4.hok b u e).stay (fun c' w' hc' q=>hb c' w' ?_ q) (fun _ q=>q) fun _ _ q=>q;intro z;have fz:H' H3.objs.size=none:=I4.free;rcases hc' with y | y
     ·rw [<-y,z,fz] at e;cases e
     ·rw [z,fz] at y;cases y
   exact ⟨.ref s2.heap.objs.size,H',I5,rfl,qn⟩
  ·refine zUS (T.item (X.comp scope cl H3.objs.size (zs++ys) s2 H2 fp) rfl rfl rfl hcm i [] s3 _ H' (fun _ _=>False) I3 (fpok fr3) st3 go) (fun r s4 h4=>?_) fun _ _ z=>z.elim;obtain ⟨u,hr,h4⟩:=h4;subst hr;dsimp only;have asg:wpAny (model X.prog X.w) X.A (letOwnedTupleGo tg (.ref it) u) (fun _ s5=>wpAny (model X.prog X.w) X.A (assign tg (compEnvC scope cl H3.objs.size X.env) u)
     (fun _ s6=> ∃σ5 H6,(∃pn5,Inv (X.comp scope cl H3.objs.size (zs++ys) s2 H2 fp) pn5 σ5 H6 s6/\(∀b∈fp,∃o,(b,o)∈pn5))/\((∃pre2:St,pre2.length=zs.length/\σ5=pre2++yL fr σ)/\
      tt σ5 H6 fun b H3'=>if b=true then te σ5 H3' fun y H4=>H4 s2.heap.objs.size=some (.lst ys3)/\N (ys3++ [y]) (upd H4 s2.heap.objs.size (.lst (ys3++ [y]))) else N ys3 H3')/\tn (i+1) s6.heap/\ ∀b∈fp,H6 b=none) (fun _ _=>False) s5) (fun _ _=>False) s4:=by
    refine (zW h4 fun _ s5 ⟨x5,H5,I5,r5,y5,st5,fr5⟩=>?_);have I5':=I5.pinned (fpok fr5) (T.obj _ _ st5);refine zUS (hg _ _ _ _ _ s5 _ H5 x5 u _ I5' r5 (step x5 H5 y5 pre hpl)) (fun _ s6 ⟨σ6,H6,I6,q6⟩=>?_) fun _ _ z=>z.elim;exact ⟨σ6,H6,⟨_,I6,fun b hb=>by
     obtain ⟨o,e,_⟩:=T.obj _ _ st5 b hb;exact ⟨o,zUO _ (zAW hb e)⟩⟩,q6,T.keep _ _ _ st5 fun b hb o e=>(I6.pin (b,o) (zUO _ (zUO _ (zAW hb e)))).1,fun b hb=>by
     obtain ⟨o,e,_⟩:=T.obj _ _ st5 b hb;exact (I6.pin (b,o) (zUO _ (zUO _ (zAW hb e)))).2.1⟩
   refine zUS asg (fun _ s5 h5=>zUS h5 (fun _ s6 h6=>?_) fun _ _ z=>z.elim) fun _ _ z=>z.elim;obtain ⟨σ5,H5,⟨pn5,I6,hp6⟩,⟨⟨pre2,hl2,rfl⟩,q6⟩,st6,fr5⟩:=h6;have keepTurn: ∀{σ7:St} {H7:Hp} {s7:Shared},Inv (X.comp scope cl H3.objs.size (zs++ys) s2 H2 fp) pn5 σ7 H7 s7->tn (i+1) s7.heap/\ ∀b∈fp,H7 b=none:=fun {σ7 H7 s7} I7=>by
    refine ⟨T.keep _ _ _ st6 fun b hb o e=>?_,fun b hb=>?_⟩
    ·obtain ⟨o',hm⟩:=hp6 b hb;have a1:=(I6.pin (b,o') (zUO _ hm)).1;rw [e] at a1;cases a1;exact (I7.pin (b,_) (zUO _ hm)).1
    ·obtain ⟨o',hm⟩:=hp6 b hb;exact (I7.pin (b,o') (zUO _ hm)).2.1
   have drop: ∀{σ7:St} {H7:Hp} {s7:Shared},Inv (X.comp scope cl H3.objs.size (zs++ys) s2 H2 fp) pn5 σ7 H7 s7->Inv (X.comp scope cl H3.objs.size (zs++ys) s2 H2 fp) [] σ7 H7 s7:=fun I7=>I7.pins_of fun p hp=>absurd hp (by simp);have tests:wpAny (model X.prog X.w) X.A (zCe ifs (compEnvC scope cl H3.objs.size X.env)) (fun b s7=> ∃H7,Inv (X.comp scope cl H3.objs.size (zs++ys) s2 H2 fp) pn5 (pre2++yL fr σ) H7 s7/\
     (if b=true then te (pre2++yL fr σ) H7 fun y H4=>H4 s2.heap.objs.size=some (.lst ys3)/\N (ys3++ [y]) (upd H4 s2.heap.objs.size (.lst (ys3++ [y]))) else N ys3 H7)) (fun _ _=>False) s6:=by
    rcases hc H3.objs.size s2 H2 fp with ⟨rfl,rfl⟩|⟨c,rfl,hc2⟩
    ·exact wpAny_tests_nil ⟨H5,I6,q6⟩
    ·exact wpAny_tests_one (zUS (hc2 pn5 s6 _ H5 _ I6 q6) (fun b s7 ⟨H7,I7,q7⟩=>⟨H7,I7,q7⟩) fun _ _ z=>z.elim)
   refine zUS tests (fun b s7 h7=>?_) fun _ _ z=>z.elim;obtain ⟨H7,I7,q7⟩:=h7;cases b with
   | false=>
    obtain ⟨m',hm,w'⟩:=hN _ _ q7;obtain ⟨k1,k2⟩:=keepTurn I7;exact ⟨m',hm,i+1,pre2,ys3,H7,hl2,drop I7,k1,k2,w'⟩
   | true=>
    refine zUS (he _ _ _ _ pn5 s7 _ H7 _ I7 q7) (fun y s8 h8=>?_) fun _ _ z=>z.elim;obtain ⟨yv,H8,I8,r8,hl8,n8⟩:=h8;refine zUS (zDj (X:=X.comp scope cl H3.objs.size (zs++ys) s2 H2 fp) pn5 s8 _ H8 (.ref s2.heap.objs.size) [yv] (.ref s2.heap.objs.size) [y] (fun z H9=>N (ys3++ [yv]) H9) I8 rfl (.cons r8 .nil) ⟨s2.heap.objs.size,ys3,yv,rfl,rfl,hl8,hz,n8⟩) (fun _ s9 h9=>?_) fun _ _ z=>z.elim;obtain ⟨_,H9,I9,_,n9⟩:=h9;obtain ⟨m',hm,w'⟩:=hN _ _ n9;obtain ⟨k1,k2⟩:=keepTurn I9;exact ⟨m',hm,i+1,pre2,ys3++ [yv],H9,hl2,drop I9,k1,k2,w'⟩
 exact codeAny_compStart_list (loop _ rfl) (T.self X.A 0 _ _ _ (T.keep _ _ _ st2 fun b hb o e=>old b o e) (loop _ rfl))
structure QTs(X:Cx)(ifs:List Expr)(t:TT):Prop where
 out:PTs X ifs t
theorem zAn{X:Cx}:QTs X [] (fun _ H Q=>Q true H):=⟨.inl ⟨rfl,rfl⟩⟩
theorem zCH{X:Cx}(h:QT X c t):QTs X [c] t:=⟨.inr ⟨c,rfl,h.out⟩⟩
theorem zOh{X:Cx}(zs:List Str)(ys:List Str)(fr:List Nat)(hcm:X.calm=true)
  (hi:QI X tg iter wi) (hclos:closureFor scope X.env=pure cl) (hcell: ∀y∈scope.names,y.2≠ .cell) (hkind:scope.kind= .function) (hnames: ∀y∈scope.names,y.2= .local->scope.names.lookup y.1=some .local)
  (hcl: ∀y a,cl.lookup y=some a->X.env.cells.lookup y=some a)
  (hlen:ys.length=fr.length) (hfr: ∀(j:Nat) y i,ys[j]?=some y->fr[j]?=some i->X.N[i]?=some y/\X.env.kindOf y=some .cell/\(relabel scope X.env).names.lookup y=some .cell/\ ∃a,cl.lookup y=some a/\X.env.cells.lookup y=some a)
  (hhas: ∀y,((relabel scope X.env).names.lookup y=some .cell\/(relabel scope X.env).names.lookup y=some .free)-> ∃a,cl.lookup y=some a)
  (hg: ∀C s₂ H₂ fp,QG (X.comp scope cl C (zs++ys) s₂ H₂ fp) tg g) (hc: ∀C s₂ H₂ fp,QTs (X.comp scope cl C (zs++ys) s₂ H₂ fp) ifs tt) (he: ∀C s₂ H₂ fp,QE (X.comp scope cl C (zs++ys) s₂ H₂ fp) elt te) (hs: ∀v,foldedSetIterable iter X.env v=pure v):
  QE X (.ListComp elt [⟨tg,iter,ifs,0⟩] scope pos) (zFU wi g tt te zs.length fr):=
 ⟨zLu hcm hi.out hclos hcell hkind hnames hcl hlen hfr hhas (fun C s H f=>(hg C s H f).out) (fun C s H f=>(hc C s H f).out) (fun C s H f=>(he C s H f).out) hs⟩
section
variable {K:zUn}{g:TG}{tt:TT}{te:TE}{n:Nat}{fr:List Nat}{σ:St}{H:Hp}{Q:VK}
def zEj(g:TG)(tt:TT)(te:TE)(n:Nat)(suf:St)(D:Addr)(x:V)(ys:List V)(H:Hp)(N:List V->Hp->Prop):Prop:=
 ∀pre:St,pre.length=n->g x (pre++suf) H fun σ2 H2=>(∃pre2:St,pre2.length=n/\σ2=pre2++suf)/\tt σ2 H2 fun b H3=>if b=true then te σ2 H3 fun y H4=>H4 D=some (.lst ys)/\N (ys++ [y]) (upd H4 D (.lst (ys++ [y]))) else N ys H3
end
section
variable {κ:Type}[DecidableEq κ]
def yZ(kvs:List (κ×V))(k:κ):Option V:=(kvs.find? fun kv=>decide (kv.1=k)).map (·.2)
def zAs(kvs:List (κ×V))(k:κ)(v:V):List (κ×V):=
 if (kvs.any fun kv=>decide (kv.1=k))=true then kvs.map (fun kv=>if kv.1=k then (kv.1,v) else kv) else kvs++ [(k,v)]
theorem ym{p:κ×V}{r:List (κ×V)}{k:κ}(e:p.1=k):yZ (p::r) k=some p.2:=by simp [yZ,zVB,e]
theorem yq{p:κ×V}{r:List (κ×V)}{k:κ}(e: ¬p.1=k):yZ (p::r) k=yZ r k:=by simp [yZ,zVB,e]
theorem zCV(k:κ): ∀kvs:List (κ×V),(kvs.any fun kv=>decide (kv.1=k))=(yZ kvs k).isSome
 | [] =>rfl
 | p::r=>by
  rw [List.any_cons];by_cases e:p.1=k
  ·simp only [ym e,zUV e,Bool.true_or,Option.isSome_some]
  ·rw [yq e,zUW e,Bool.false_or];exact zCV k r
theorem zHP(k j:κ)(y:V): ∀kvs:List (κ×V),yZ (kvs.map fun kv=>if kv.1=k then (kv.1,y) else kv) j=(yZ kvs j).map fun x=>if j=k then y else x
 | [] =>rfl
 | p::r=>by
  have ih:=zHP k j y r;rw [zUr];by_cases h:p.1=k
  ·rw [if_pos h];by_cases e:p.1=j
   ·rw [ym (p:=(p.1,y)) e,ym e,Option.map_some,if_pos (e.symm.trans h)]
   ·rw [yq (p:=(p.1,y)) e,yq e,ih]
  ·rw [if_neg h];by_cases e:p.1=j
   ·rw [ym (p:=p) e,ym e,Option.map_some,if_neg (fun z=>h (e.trans z))]
   ·rw [yq (p:=p) e,yq e,ih]
theorem zGe(k j:κ)(y:V): ∀kvs:List (κ×V),yZ kvs k=none->yZ (kvs++ [(k,y)]) j=if j=k then some y else yZ kvs j
 | [],_=>by
  by_cases e:k=j
  ·rw [if_pos e.symm];exact ym (p:=(k,y)) e
  ·rw [if_neg (fun z=>e z.symm)];exact yq (p:=(k,y)) e
 | p::r,hn=>by
  rw [List.cons_append];have hk: ¬p.1=k:=fun z=>by rw [ym z] at hn;cases hn
  rw [yq hk] at hn;have ih:=zGe k j y r hn;by_cases e:p.1=j
  ·rw [ym e,ym e,if_neg (fun z=>hk (e.trans z))]
  ·rw [yq e,yq e,ih]
theorem zEl(kvs:List (κ×V))(k j:κ)(y:V):yZ (zAs kvs k y) j=if j=k then some y else yZ kvs j:=by
 unfold zAs;by_cases a:(kvs.any fun kv=>decide (kv.1=k))=true
 ·rw [if_pos a,zHP];rw [zCV] at a;by_cases e:j=k
  ·obtain ⟨x,hx⟩:=Option.isSome_iff_exists.mp a;rw [if_pos e,e,hx,Option.map_some,if_pos rfl]
  ·rw [if_neg e];cases yZ kvs j with
   | none=>rfl
   | some x=>rw [Option.map_some,if_neg e]
 ·rw [if_neg a];refine zGe k j y kvs ?_;rw [zCV] at a;cases q:yZ kvs k with
  | none=>rfl
  | some x=>rw [q] at a;exact (a rfl).elim
theorem zBG(kvs:List (κ×V))(k:κ)(v:V):(zAs kvs k v).length<=kvs.length+1:=by
 unfold zAs;split
 ·rw [zUF];omega
 ·rw [zUY,zUu,List.length_nil];omega
theorem zDT{kvs:List (κ×V)}{k:κ}(v:V)(h:yZ kvs k=none):zAs kvs k v=kvs++ [(k,v)] :=by
 unfold zAs;rw [zCV,h];exact if_neg (by decide)
theorem zAQ.isSome_eq{o:Option V}{u:Option Value}(r:zAQ o u):o.isSome=u.isSome:=by
 cases o with
 | none=>cases u with
  | none=>rfl
  | some _=>exact (show False from r).elim
 | some _=>cases u with
  | none=>exact (show False from r).elim
  | some _=>rfl
theorem zAQ.getD{o:Option V}{u:Option Value}{d:V}{d':Value}(r:zAQ o u)(rd:zX d d'):zX (o.getD d) (u.getD d'):=by
 cases o with
 | none=>cases u with
  | none=>exact rd
  | some _=>exact (show False from r).elim
 | some _=>cases u with
  | none=>exact (show False from r).elim
  | some _=>exact r
theorem KV.val{kvs:List (κ×V)}{vs:List (κ×Value)}(r:KV kvs vs)(k:κ):zAQ (yZ kvs k) (valueAt vs k):=by
 unfold KV at r
 induction r with
 | nil=>exact True.intro
 | @cons p q ps qs h t ih=>
  obtain ⟨h1,h2⟩:=h;by_cases e:p.1=k
  ·have e':q.1=k:=h1.symm.trans e;have b:valueAt (q::qs) k=some q.2:=by simp [valueAt,zVB,e']
   rw [ym e,b];exact h2
  ·have e': ¬q.1=k:=fun z=>e (h1.trans z);have b:valueAt (q::qs) k=valueAt qs k:=by simp [valueAt,zVB,e']
   rw [yq e,b];exact ih
theorem KV.any{kvs:List (κ×V)}{vs:List (κ×Value)}(r:KV kvs vs)(k:κ):(kvs.any fun kv=>decide (kv.1=k))=vs.any fun kv=>decide (kv.1=k):=by
 unfold KV at r
 induction r with
 | nil=>rfl
 | cons h t ih=>rw [List.any_cons,List.any_cons,ih,h.1]
theorem KV.repl{kvs:List (κ×V)}{vs:List (κ×Value)}(r:KV kvs vs)(k:κ){y:V}{u:Value}(ry:zX y u):
  KV (kvs.map fun kv=>if kv.1=k then (kv.1,y) else kv) (vs.map fun kv=>if kv.1=k then (kv.1,u) else kv):=by
 unfold KV at r⊢
 induction r with
 | nil=>exact .nil
 | @cons p q ps qs h t ih=>
  rw [zUr,zUr];refine .cons ?_ ih;obtain ⟨h1,h2⟩:=h;by_cases e:p.1=k
  ·rw [if_pos e,if_pos (h1.symm.trans e)];exact ⟨h1,ry⟩
  ·rw [if_neg e,if_neg (fun z=>e (h1.trans z))];exact ⟨h1,h2⟩
theorem KV.put{kvs:List (κ×V)}{vs:List (κ×Value)}(r:KV kvs vs)(k:κ){y:V}{u:Value}(ry:zX y u):KV (zAs kvs k y) (stored vs k u):=by
 unfold zAs stored;rw [r.any k];by_cases e:(vs.any fun kv=>decide (kv.1=k))=true
 ·rw [if_pos e,if_pos e];exact r.repl k ry
 ·rw [if_neg e,if_neg e];exact Paired.snoc r ⟨rfl,ry⟩
theorem KV.keys{kvs:List (κ×V)}{vs:List (κ×Value)}(r:KV kvs vs):kvs.map (·.1)=vs.map (·.1):=by
 unfold KV at r
 induction r with
 | nil=>rfl
 | cons h t ih=>rw [zUr,zUr,ih,h.1]
theorem KV.length{kvs:List (κ×V)}{vs:List (κ×Value)}(r:KV kvs vs):kvs.length=vs.length:=Paired.length r
end
theorem zET{P:Program}{w:World}{k:Key}{u:Value}(r:zX (kV k) u):(yU P w).is k u=true:=by
 cases k with
 | inl i=>obtain ⟨t,e⟩:=(show∃t,u=Value.int i t from r);subst e;exact zIW P w i t
 | inr x=>obtain ⟨t,e⟩:=(show∃t,u=Value.str x t from r);subst e;exact zIN P w x t
theorem zGV{P:Program}{w:World}: ∀{ks:List Key} {us:List Value},zT (ks.map kV) us->ItemsAre (yU P w) ks us
 | [],_,r=>by rw [List.map_nil] at r;cases r;exact .nil
 | k::ks,_,r=>by
  rw [zUr] at r;cases r with
  | cons h t=>exact .cons (zET h) (zGV t)
abbrev KT(H:Hp):List (List Key×V)->List (List Key×Addr×Value)->Prop:=Paired fun p q=>p.1=q.1/\H q.2.1=some (.tup (p.1.map kV))/\zX p.2 q.2.2
theorem KT.val{H:Hp}{kvs:List (List Key×V)}{xs:List (List Key×Addr×Value)}(r:KT H kvs xs)(k:List Key):zAQ (yZ kvs k) ((atKey xs k).map (·.2)):=by
 induction r with
 | nil=>exact True.intro
 | @cons p q ps qs h t ih=>
  obtain ⟨h1,_,h2⟩:=h;by_cases e:p.1=k
  ·have e':q.1=k:=h1.symm.trans e;have b:atKey (q::qs) k=some q.2:=by simp [atKey,zVB,e']
   rw [ym e,b];exact h2
  ·have e': ¬q.1=k:=fun z=>e (h1.trans z);have b:atKey (q::qs) k=atKey qs k:=by simp [atKey,zVB,e']
   rw [yq e,b];exact ih
theorem KT.repl{H:Hp}{kvs:List (List Key×V)}{xs:List (List Key×Addr×Value)}(r:KT H kvs xs)(k:List Key){y:V}{u:Value}(ry:zX y u):
  KT H (kvs.map fun kv=>if kv.1=k then (kv.1,y) else kv) (xs.map (putAt k u)):=by
 induction r with
 | nil=>exact .nil
 | @cons p q ps qs h t ih=>
  rw [zUr,zUr];refine .cons ?_ ih;obtain ⟨h1,h2,h3⟩:=h;unfold putAt;by_cases e:p.1=k
  ·rw [if_pos e,if_pos (h1.symm.trans e)];exact ⟨h1,h2,ry⟩
  ·rw [if_neg e,if_neg (fun z=>e (h1.trans z))];exact ⟨h1,h2,h3⟩
theorem KT.put{H:Hp}{kvs:List (List Key×V)}{xs:List (List Key×Addr×Value)}(r:KT H kvs xs)(k:List Key){b:Addr}{y:V}{u:Value}(hb:H b=some (.tup (k.map kV)))(ry:zX y u):
  KT H (zAs kvs k y) (storedH xs k b u):=by
 have e:(kvs.any fun kv=>decide (kv.1=k))=(atKey xs k).isSome:=by
  rw [zCV,(r.val k).isSome_eq,Option.isSome_map]
 unfold zAs storedH;rw [e];by_cases q:(atKey xs k).isSome=true
 ·rw [if_pos q,if_pos q];exact r.repl k ry
 ·rw [if_neg q,if_neg q];exact Paired.snoc r ⟨rfl,hb,ry⟩
theorem KT.keeps{H H':Hp}{kvs:List (List Key×V)}{xs:List (List Key×Addr×Value)}(r:KT H kvs xs)(ht: ∀b ys,H b=some (.tup ys)->H' b=some (.tup ys)):KT H' kvs xs:=
 Paired.mapP r fun _ _ z=>⟨z.1,ht _ _ z.2.1,z.2.2⟩
section
variable {P:Program}{w:World}{H:Hp}{h:Heap}{a:Addr}
theorem zNw{u:HO}(ok:HOk P w H h)(e:Rd H a u):zo P w H h a u:=e.ok ok
theorem zCC{kvs:List (Key×V)}(ok:HOk P w H h)(e:Rd H a (.dK kvs)):kvs.length<=sizeLine/\(a==sysModules)=false/\ ∃vs,KV kvs vs/\h.DictOf (yU P w) a vs:=
 show zo P w H h a (.dK kvs) from zNw ok e
theorem zSF{kvs:List (Key×V)}(ok:HOk P w H h)(e:H a=some (.dK kvs)):kvs.length<=sizeLine/\(a==sysModules)=false/\ ∃vs,KV kvs vs/\h.DictOf (yU P w) a vs:=zCC ok (.inl e)
theorem zDE{ks:List Key}(ok:HOk P w H h)(e:H a=some (.tup (ks.map kV))):(tupleKind (yU P w)).is h ks a:=by
 obtain ⟨_,its,r,o,h1,h2,⟨n,h3⟩,_⟩:=(show zo P w H h a (.tup (ks.map kV)) from ok a _ e);exact ⟨o,its.toArray,n,h1,h2,h3,by simpa using zGV r⟩
theorem zDa{kvs:List (List Key×V)}(ok:HOk P w H h)(e:Rd H a (.dT kvs)):kvs.length<=sizeLine/\(a==sysModules)=false/\
  ∃xs,KT H kvs xs/\h.DictOfH (tupleKind (yU P w)) a xs:=by
 obtain ⟨z,y,xs,r,o,es,ep,h1,h2,h3,h4,h5⟩:=(show zo P w H h a (.dT kvs) from zNw ok e);refine ⟨z,y,xs,r,o,es,ep,h1,h2,h3,h4,fun x hx=>?_,h5⟩;have all: ∀{l:List (List Key×V)} {m:List (List Key×Addr×Value)},KT H l m-> ∀x∈m,(tupleKind (yU P w)).is h x.1 x.2.1:=by
  intro l m q
  induction q with
  | nil=>intro x hx;exact nomatch hx
  | @cons p q ps qs hq t ih=>
   intro x hx;rcases zUo.mp hx with e | hx
   ·subst e;exact zDE ok (by rw [<-hq.1];exact hq.2.1)
   ·exact ih x hx
 exact all r x hx
theorem zSd{kvs:List (List Key×V)}(ok:HOk P w H h)(e:H a=some (.dT kvs)):kvs.length<=sizeLine/\(a==sysModules)=false/\
  ∃xs,KT H kvs xs/\h.DictOfH (tupleKind (yU P w)) a xs:=zDa ok (.inl e)
end
def zBt(H:Hp)(a:Addr)(y:V)(r:Option V):Prop:=
 (∃kvs k,Rd H a (.dK kvs)/\y=kV k/\r=yZ kvs k)\/ ∃kvs k b,Rd H a (.dT kvs)/\y= .ref b/\H b=some (.tup (k.map kV))/\r=yZ kvs k
def zQZ(H:Hp)(a:Addr)(y v:V)(H':Hp):Prop:=
 (∃kvs k,H a=some (.dK kvs)/\y=kV k/\kvs.length<sizeLine/\H'=upd H a (.dK (zAs kvs k v)))\/
 ∃kvs k b,H a=some (.dT kvs)/\y= .ref b/\H b=some (.tup (k.map kV))/\kvs.length<sizeLine/\H'=upd H a (.dT (zAs kvs k v))
section
variable {X:Cx}{pins:List (Addr×Obj)}{σ:St}{H:Hp}{s:Shared}{a:Addr}{y v:V}{u r:Value}{o:Option V}{A:Around}{E:Value->Shared->Prop}
theorem Inv.big(I:Inv X pins σ H s):sysModules<s.heap.objs.size:=by
 have h:mainGlobals<s.heap.objs.size:=(I.mod.glob.keeps I.bk).lt;exact Nat.lt_trans (by decide) h
theorem zLA{Q:Value->Shared->Prop}(hu:A.units+1<cLine)(I:Inv X pins σ H s)(g:zBt H a y (some v))(ry:zX y u)(h: ∀w' s',Inv X pins σ H s'->zX v w'->Q w' s'):
  wpAny (model X.prog X.w) A (getItem (.ref a) u) Q E s:=by
 rcases g with ⟨kvs,k,e,ey,l⟩|⟨kvs,k,b,e,ey,eb,l⟩
 ·subst ey;obtain ⟨z,hd,vs,rel,dd⟩:=zCC I.hok e;obtain ⟨w',hw,rw'⟩:=zAQ.some_of (v:=v) (o:=valueAt vs k) (by rw [l];exact rel.val k);exact wpAny_getItem_of (zET ry) dd.mapOf hw (h w' _ (I.tok _) rw')
 ·subst ey;cases (show u=Value.ref b from ry);obtain ⟨z,hd,xs,rel,dd⟩:=zDa I.hok e;obtain ⟨w',hw,rw'⟩:=zAQ.some_of (v:=v) (o:=(atKey xs k).map (·.2)) (by rw [l];exact rel.val k);obtain ⟨p,hp,hp2⟩:=Option.map_eq_some_iff.mp hw;refine wpAny_getItem_heap (tupleKind_room_in1 hu) (zDE I.hok eb) dd hp ?_;rw [hp2];exact h w' _ (I.tok _) rw'
theorem zTb{Q:Value->Shared->Prop}(hu:A.units+1<cLine)(I:Inv X pins σ H s)(g:zBt H a y o)(ry:zX y u)(h: ∀s',Inv X pins σ H s'->Q (.bool o.isSome) s'):
  wpAny (model X.prog X.w) A (compareOp .In u (.ref a)) Q E s:=by
 rcases g with ⟨kvs,k,e,ey,l⟩|⟨kvs,k,b,e,ey,eb,l⟩
 ·subst ey;obtain ⟨z,hd,vs,rel,dd⟩:=zCC I.hok e;refine wpAny_in_of (zET ry) hd dd.mapOf ?_;rw [<-(rel.val k).isSome_eq,<-l];exact h _ (I.tok _)
 ·subst ey;cases (show u=Value.ref b from ry);obtain ⟨z,hd,xs,rel,dd⟩:=zDa I.hok e;refine wpAny_in_heap (tupleKind_room_in1 hu) (zDE I.hok eb) hd dd ?_;have q:=(rel.val k).isSome_eq;rw [Option.isSome_map] at q;rw [<-q,<-l];exact h _ (I.tok _)
theorem zOo{Q:Value->Shared->Prop}(hu:A.units+1<cLine)(I:Inv X pins σ H s)(g:zBt H a y o)(ry:zX y u)(h: ∀s',Inv X pins σ H s'->Q (.bool (!o.isSome)) s'):
  wpAny (model X.prog X.w) A (compareOp .NotIn u (.ref a)) Q E s:=by
 rcases g with ⟨kvs,k,e,ey,l⟩|⟨kvs,k,b,e,ey,eb,l⟩
 ·subst ey;obtain ⟨z,hd,vs,rel,dd⟩:=zCC I.hok e;refine wpAny_notIn_of (zET ry) hd dd.mapOf ?_;rw [<-(rel.val k).isSome_eq,<-l];exact h _ (I.tok _)
 ·subst ey;cases (show u=Value.ref b from ry);obtain ⟨z,hd,xs,rel,dd⟩:=zDa I.hok e;refine wpAny_notIn_heap (tupleKind_room_in1 hu) (zDE I.hok eb) hd dd ?_;have q:=(rel.val k).isSome_eq;rw [Option.isSome_map] at q;rw [<-q,<-l];exact h _ (I.tok _)
theorem zJE{h':Heap}{t':Nat}{ob:HO}(I:Inv X pins σ H s)(mu:Mut (H a))(hs:Heap.SameBut a s.heap h')(he: ∃q,h'.get? a=some q)(new:zo X.prog X.w (upd H a ob) h' a ob):
  Inv X pins σ (upd H a ob) {s with heap:=h',toks:=t'}:=
 I.write (x:=a) (e:=a) mu (.inl rfl) (fun b q hb z=>(hs.2 b hb).trans z) he new
theorem zLd{P:Program}{w:World}{H':Hp}{h':Heap}{kvs:List (Key×V)}{vs:List (Key×Value)}(z:kvs.length<=sizeLine)(hd:(a==sysModules)=false)(rel:KV kvs vs)(dd:h'.DictOf (yU P w) a vs):
  zo P w H' h' a (.dK kvs):=⟨z,hd,vs,rel,dd⟩
theorem zKO{H':Hp}{Q:Unit->Shared->Prop}(hu:A.units+1<cLine)(I:Inv X pins σ H s)(g:zQZ H a y v H')(ry:zX y u)(rv:zX v r)(h: ∀s',Inv X pins σ H' s'->Q () s'):
  wpAny (model X.prog X.w) A (setItem (.ref a) u r) Q E s:=by
 rcases g with ⟨kvs,k,e,ey,l,eH⟩|⟨kvs,k,b,e,ey,eb,l,eH⟩
 ·subst ey eH;obtain ⟨z,hd,vs,rel,dd⟩:=zSF I.hok e;have hz:vs.length<=sizeLine:=by rw [<-rel.length];exact z
  have hl:(zAs kvs k v).length<=sizeLine:=by have:=zBG kvs k v;omega
  refine wpAny_setItem_pairs (hsz:=hz) (zET ry) dd fun h' dd' hs=>h _ ?_;have he: ∃q,h'.get? a=some q:=let ⟨q,_,_,hq,_⟩:=dd';⟨q,hq⟩;exact zJE I (by rw [e];exact True.intro) hs he (zLd hl hd (rel.put k rv) dd')
 ·subst ey eH;cases (show u=Value.ref b from ry);obtain ⟨z,hd,xs,rel,dd⟩:=zSd I.hok e;have hz:xs.length<=sizeLine:=by rw [<-Paired.length rel];exact z
  have hl:(zAs kvs k v).length<=sizeLine:=by have:=zBG kvs k v;omega
  refine wpAny_setItem_heap (hsz:=hz) (tupleKind_room_in1 hu) (zDE I.hok eb) dd fun h' dd' hs=>h _ ?_;obtain ⟨q,es,ep,hq,h2,h3,h4,_,h5⟩:=dd';refine zJE I (by rw [e];exact True.intro) hs ⟨q,hq⟩ ⟨hl,hd,_,(rel.put k eb rv).keeps fun c ys ec=>?_,q,es,ep,hq,h2,h3,h4,h5⟩;rw [zN (zEQ ec e (fun z=>nomatch z))];exact ec
end
section
variable {X:Cx}{pins:List (Addr×Obj)}{σ:St}{H:Hp}{s:Shared}{a:Addr}{kvs:List (Key×V)}{k:Key}{u:Value}{A:Around}{E:Value->Shared->Prop}
end
def zIM(i:Expr):Prop:= ∀ov iv,subscripted i false ov iv=operate [ov,iv] (getItem ov iv)
theorem zIk{prog:Program}{w:World}{A:Around}{E:Value->Shared->Prop}{s:Shared}{env:Env}{value slice:Expr}{pos:Pos}{T id:String}{Q:Value->Shared->Prop}
  (hl:typeLookup (.type T) "__getitem__" =pure (some (.builtin id))) (hs:zIM slice)
  (h:wpAny (model prog w) A (eval value env) (fun o s₁=>wpAny (model prog w) A (eval slice env) (fun i s₂=>s₂.TypeIs o T/\wpAny (model prog w) A (getItem o i) Q E s₂) E s₁) E s):
  wpAny (model prog w) A (eval (.Subscript value slice pos) env) Q E s:=by
 refine Subscript_ (zUS h (fun o s₁ h₁=>zUS h₁ (fun i s₂ h₂=>?_) fun _ _ x=>x) fun _ _ x=>x);obtain ⟨hT,h₂⟩:=h₂;unfold subscriptTail;refine zTz ?_;rw [getitemInPython_of_ne hT.not_modules];refine zTz (wpAny_specialOf hT hl ?_);have fin:wpAny (model prog w) A (subscripted slice false o i) (fun r s₃=>wpAny (model prog w) A (letTemporaryGo value o r>>=fun _=>pure r) Q E s₃) E s₂:=by
  rw [hs o i];exact wpAny_operating (zUS h₂ (fun r s₃ h₃=>zTz (wpAny_letTemporaryGo (zUE h₃))) fun _ _ x=>x)
 first
  | exact zUE (zTz fin)
  | exact zTz (zUE (zTz fin))
  | exact zTz fin
theorem zIX{X:Cx}{pins:List (Addr×Obj)}{σ:St}{H:Hp}{s:Shared}{a:Addr}{y:V}{o:Option V}(I:Inv X pins σ H s)(g:zBt H a y o):s.TypeIs (.ref a) "dict" :=by
 rcases g with ⟨kvs,k,e,_,_⟩|⟨kvs,k,b,e,_,_,_⟩
 ·obtain ⟨_,_,vs,_,dd⟩:=zCC I.hok e;exact dd.typeIs
 ·obtain ⟨_,_,xs,_,dd⟩:=zDa I.hok e;exact dd.typeIs
def zNS(td ty:TE):TE:=fun σ H Q=>td σ H fun x H1=>ty σ H1 fun y H2=> ∃a v,x= .ref a/\zBt H2 a y (some v)/\Q v H2
def zQp(ty td:TE):TE:=fun σ H Q=>ty σ H fun y H1=>td σ H1 fun x H2=> ∃a o,x= .ref a/\zBt H2 a y o/\Q (.bl o.isSome) H2
def zIh(ty td:TE):TE:=fun σ H Q=>ty σ H fun y H1=>td σ H1 fun x H2=> ∃a o,x= .ref a/\zBt H2 a y o/\Q (.bl (!o.isSome)) H2
def zOB(td ty tv:TE):TS:=fun D σ H=>tv σ H fun v H1=>td σ H1 fun x H2=>ty σ H2 fun y H3=> ∃a H4,x= .ref a/\zQZ H3 a y v H4/\D.nx σ H4
section
variable {X:Cx}{o i e value:Expr}{pos pos' tpos:Pos}{td ty tv:TE}
theorem zOx(hu:X.A.units+1<cLine)(ho:PE X o td)(hi:PE X i ty)(hs:zIM i):PE X (.Subscript o i pos) (zNS td ty):=by
 intro pins s σ H Q I h;refine zIk PySem.F.slot_dict_getitem.lookup hs (zW (ho pins s σ H _ I h) fun u s1 ⟨x,H1,I1,rx,q1⟩=>zW (hi pins s1 σ H1 _ I1 q1) fun iv s2 ⟨y,H2,I2,ry,a,v,ex,g,q2⟩=>?_);subst ex;obtain rfl:u=Value.ref a:=rx;exact ⟨zIX I2 g,zLA hu I2 g ry fun w' s3 I3 rw'=>⟨v,H2,I3,rw',q2⟩⟩
theorem zQn(hu:X.A.units+1<cLine)(hi:PE X i ty)(ho:PE X o td):PC X .In i o (zQp ty td):=by
 intro pins s σ H Q I h;refine zW (hi pins s σ H _ I h) fun iv s1 ⟨y,H1,I1,ry,q1⟩=>zW (ho pins s1 σ H1 _ I1 q1) fun u s2 ⟨x,H2,I2,rx,a,ov,ex,g,q2⟩=>?_;subst ex;obtain rfl:u=Value.ref a:=rx;exact zTb hu I2 g ry fun s3 I3=>⟨.bl ov.isSome,H2,I3,rfl,q2⟩
theorem zLO(hu:X.A.units+1<cLine)(hi:PE X i ty)(ho:PE X o td):PC X .NotIn i o (zIh ty td):=by
 intro pins s σ H Q I h;refine zW (hi pins s σ H _ I h) fun iv s1 ⟨y,H1,I1,ry,q1⟩=>zW (ho pins s1 σ H1 _ I1 q1) fun u s2 ⟨x,H2,I2,rx,a,ov,ex,g,q2⟩=>?_;subst ex;obtain rfl:u=Value.ref a:=rx;exact zOo hu I2 g ry fun s3 I3=>⟨.bl (!ov.isSome),H2,I3,rfl,q2⟩
theorem zOd(hu:X.A.units+1<cLine)(ho:PE X o td)(hi:PE X i ty)(hv:PE X value tv)(hs:swapsWith value (some (.Subscript o i pos')) pos.line X.env=pure false):
  PS X (.Assign [.Subscript o i pos'] value pos) (zOB td ty tv):=by
 intro pins s σ H D I h;refine wpAny_Assign_Subscript (zW (hv pins s σ H _ I h) fun r s1 ⟨v,H1,I1,rv,q1⟩=>zW (ho pins s1 σ H1 _ I1 q1) fun u s2 ⟨x,H2,I2,rx,q2⟩=>zW (hi pins s2 σ H2 _ I2 q2) fun iv s3 ⟨y,H3,I3,ry,a,H4,ex,g,q3⟩=>?_) hs;subst ex;obtain rfl:u=Value.ref a:=rx;exact zKO hu I3 g ry rv fun s4 I4=>⟨σ,H4,I4,q3⟩
end
theorem zMi{P:Program}{w:World}{H:Hp}(h:Heap)(hb:sysModules<h.objs.size):zo P w H (h.push {cls:= .type "dict",data:= .dict #[]}) h.objs.size (.dK []):=
 ⟨zUN _,beq_eq_false_iff_ne.mpr (Ne.symm (zUG hb)),[],.nil,Heap.DictOf.new h⟩
def zKt:TE:=fun _ H Q=> ∀p,H p=none->Q (.ref p) (upd H p (.dK []))
section
variable {X:Cx}{pos:Pos}
theorem zLw:PE X (.Dict [] [] pos) zKt:=fun pins s σ H Q I h=>
 wpAny_Dict_empty ⟨.ref s.heap.objs.size,_,I.laid (a:=s.heap.objs.size) (o:= .dK []) (t':=s.toks) (fun _ _ q=>zUA _ q) (zUC _) (zMi s.heap I.big),rfl,h _ (I.hok.fresh (zUC _))⟩
end
structure M2(X:Cx)(o:Expr)(m:Str)(apos:Pos)(e f:Expr)(cpos:Pos):Prop where
 base:attributeBase o m X.env (eval o X.env)=eval o X.env
 few:((backTo cpos (starEach [e,f] X.env)).all (fun x=>!x.1)&&(backToKw cpos (keywordEach [] X.env)).all (fun x=>x.1.isSome)
  &&decide (([e,f] :List Expr).length+([] :List Keyword).length+(if ([] :List Keyword).isEmpty then 0 else 1)<30))=true
 line:(apos.endLine==cpos.line)=true
 trees:backTo cpos (starEach [e,f] X.env)= [(false,eval e X.env),(false,eval f X.env)]
def IsD(H:Hp)(a:Addr):Prop:=(∃kvs,Rd H a (.dK kvs))\/ ∃kvs,Rd H a (.dT kvs)
theorem zQw{X:Cx}{pins:List (Addr×Obj)}{σ:St}{H:Hp}{s:Shared}{a:Addr}(I:Inv X pins σ H s)(d:IsD H a):
  s.TypeIs (.ref a) "dict" /\(∀b,Value.ref a= .ref b-> ∃ob,s.heap.get? b=some ob/\ob.dict=none)/\(a==sysModules)=false:=by
 rcases d with ⟨kvs,e⟩|⟨kvs,e⟩
 ·obtain ⟨_,hd,vs,_,dd⟩:=zCC I.hok e;refine ⟨dd.typeIs,fun b q=>?_,hd⟩;cases q;obtain ⟨ob,_,_,h1,h2,_⟩:=dd;exact ⟨ob,h1,h2.2.1⟩
 ·obtain ⟨_,hd,xs,_,dd⟩:=zDa I.hok e;refine ⟨dd.typeIs,fun b q=>?_,hd⟩;cases q;obtain ⟨ob,_,_,h1,h2,_⟩:=dd;exact ⟨ob,h1,h2.2.1⟩
section
variable {X:Cx}{pins:List (Addr×Obj)}{σ:St}{H:Hp}{s:Shared}{a:Addr}{y d:V}{u r:Value}{o:Option V}{A:Around}{E:Value->Shared->Prop}
theorem zRD{Q:Value->Shared->Prop}(hu:A.units+1<cLine)(I:Inv X pins σ H s)(g:zBt H a y o)(ry:zX y u)(rd:zX d r)(h: ∀w' s',Inv X pins σ H s'->zX (o.getD d) w'->Q w' s'):
  wpAny (model X.prog X.w) A (call (.builtin "dict.get") [.ref a,u,r]) Q E s:=by
 rcases g with ⟨kvs,k,e,ey,l⟩|⟨kvs,k,b,e,ey,eb,l⟩
 ·subst ey;obtain ⟨z,hd,vs,rel,dd⟩:=zCC I.hok e;refine call_meetsIn PySem.F.slot_dict_get dd.typeIs PySem.F.entry_dict_get (PySem.F.args_dict_get_3 _ _ _) (meets_dict_get_default (yU X.prog X.w) a (zET ry) hd r) ⟨_,dd.mapOf,h _ _ (I.tok _) ?_⟩;rw [l];exact (rel.val k).getD rd
 ·subst ey;cases (show u=Value.ref b from ry);obtain ⟨z,hd,xs,rel,dd⟩:=zDa I.hok e;refine call_meetsIn PySem.F.slot_dict_get dd.typeIs PySem.F.entry_dict_get (PySem.F.args_dict_get_3 _ _ _) (meetsH_dict_get_default (tupleKind (yU X.prog X.w)) a b hd r) ⟨tupleKind_room_in1 hu,k,xs,zDE I.hok eb,dd,h _ _ (I.tok _) ?_⟩;rw [l];exact (rel.val k).getD rd
end
def zLE(td ty tx:TE):TE:=fun σ H Q=>td σ H fun x H1=> ∃a,x= .ref a/\IsD H1 a/\ty σ H1 fun y H2=>tx σ H2 fun z H3=> ∃o,zBt H3 a y o/\Q (o.getD z) H3
section
variable {X:Cx}{o e f:Expr}{apos cpos:Pos}{td ty tx:TE}
theorem zMj(hu:X.A.units+1<cLine)(ho:PE X o td)(he:PE X e ty)(hf:PE X f tx)(m:M2 X o "get" apos e f cpos):PE X (.Call (.Attribute o "get" apos) [e,f] [] cpos) (zLE td ty tx):=by
 intro pins s σ H Q I h;refine wpAny_Call_method m.base m.few m.line PySem.F.plainAttrs_dict PySem.F.slot_dict_get PySem.F.type_dict_get (zW (ho pins s σ H _ I h) fun u s1 ⟨x,H1,I1,rx,a,ex,d,q1⟩=>?_);subst ex;obtain rfl:u=Value.ref a:=rx;obtain ⟨t1,t2,_⟩:=zQw I1 d;refine ⟨t1,t2,?_⟩;rw [m.trees];refine Calls.callWith_builtin rfl (Calls.evalArgs_plain (Calls.spliced_cons (zW (he pins s1 σ H1 _ I1 q1) fun iv s2 ⟨y,H2,I2,ry,q2⟩=>
  Calls.spliced_cons (zW (hf pins s2 σ H2 _ I2 q2) fun fv s3 ⟨z,H3,I3,rz,ov,g,q3⟩=>Calls.spliced_nil ?_))))
 exact zRD hu I3 g ry rz fun w' s4 I4 rw'=>⟨_,H3,I4,rw',q3⟩
end
section
variable {X:Cx}{pins:List (Addr×Obj)}{σ:St}{H:Hp}{s:Shared}{a:Addr}{kvs:List (Key×V)}{A:Around}{E:Value->Shared->Prop}
theorem zMf{Q:Value->Shared->Prop}(I:Inv X pins σ H s)(e:Rd H a (.dK kvs))(h: ∀p s',H p=none->Inv X pins σ (upd H p (.dK kvs)) s'->Q (.ref p) s'):wpAny (model X.prog X.w) A (call (.type "dict") [.ref a]) Q E s:=by
 obtain ⟨z,hd,vs,rel,dd⟩:=zCC I.hok e;refine kt_call_dict hd dd (by rw [<-rel.length];exact z) fun h' dd' hs=>?_;refine h _ _ (I.hok.fresh (zUC _)) (I.laid (a:=s.heap.objs.size) (o:= .dK kvs) (t':=s.toks) (fun b q hq=>?_) (zUC _) (zLd z (beq_eq_false_iff_ne.mpr (Ne.symm (zUG I.big))) rel dd'));exact (hs.2 b (zUG (zUI hq))).trans (zUA _ hq)
end
section
variable {X:Cx}{pins:List (Addr×Obj)}{σ:St}{H:Hp}{s:Shared}{a:Addr}{y:V}{u:Value}{A:Around}{E:Value->Shared->Prop}
end
theorem Inv.turnedL{X:Cx}{pins:List (Addr×Obj)}{σ:St}{H:Hp}{s:Shared}{h':Heap}{t':Nat}{ch:List Addr}(I:Inv X pins σ H s)(k: ∀b o,b∉ch->s.heap.get? b=some o->h'.get? b=some o)(hf: ∀b∈ch,zBi X pins H b):
  Inv X pins σ H {s with heap:=h',toks:=t'}:=by
 have nit: ∀b u,H b=some u->b∉ch:=fun b u e z=>by rw [(hf b z).1] at e;cases e
 refine I.step (g':=s.gens) (d':=s.drawn) (ch:=ch) (fun b hb=>?_) (fun b o _ _ hc e _=>k b o hc e) (fun b o _ _ hc e _=>⟨o.slots,k b o hc e⟩) (fun _ _ _ _ n=>n)
  (fun b o hc e=>⟨o,k b o hc e⟩) (fun _ _ e=>e) (fun _ _ _ e=>e) (fun b ps e=>⟨#[],by rw [e];simp⟩) (fun m hm=>?_) (fun b u e=>?_) I.bare
 ·obtain ⟨f0,f1,f2,f3,f4,f5⟩:=hf b hb;exact ⟨f3,f1,f4,f5⟩
 ·obtain ⟨o,es,ep,ho,r⟩:=hm;exact ⟨o,es,ep,k _ o (fun z=>(hf _ z).2.1 rfl) ho,r⟩
 ·refine (I.hok b u e).stay (fun c v hc q=>k c v ?_ q) (fun _ q=>q) fun _ _ q=>q;rcases hc with z | z
  ·rw [z];exact nit b u e
  ·exact nit c _ z
theorem zBi.upd{X:Cx}(f:zBi X pins H b)(h:b≠a):zBi X pins (L2.upd H a o) b:=⟨by rw [zN h];exact f.1,f.2⟩
def Its(x:Str):It:=⟨fun i _=>i<x.cps.size,fun i H v H'=>H'=H/\ ∃c,x.cps[i]?=some c/\v= .str ⟨#[c]⟩,fun i _=>x.cps.size<=i⟩
theorem zJQ{P:Program}{w:World}{K:zUn}{tg:Expr}(x:Str)(t:Tok)(it:Addr):Turn P w K tg (Its x) [it] it (fun i h=>h.IsStrIter it "str_ascii_iterator" x t i) where
 mem:=by simp
 obj:=fun i h st b hb=>by
  have e:b=it:=by simpa using hb
  subst e;obtain ⟨o,e,c,d⟩:=st;exact ⟨o,e,fun v z=>by rw [d] at z;cases z⟩
 keep:=fun i h h' st k=>let ⟨o,ho,r⟩:=st;⟨o,k it (by simp) o ho,r⟩
 item:=by
  intro X hP hw hK hc i pins s σ H E I hf st hg;subst hP hw hK;have hi:i<x.cps.size:=hg;obtain ⟨f0,f1,f2,f3,f4,f5⟩:=hf it (by simp);refine wpAny_pyNext_ascii_item st (c:=x.cps[i]) (by simp [hi]) fun h' st' sb=>?_;have I1:Inv X pins σ H {s with heap:=h',toks:=s.toks+1}:=I.turned (fun b o hb e=>(sb.2 b hb).trans e) f0 f1 f3 f4 f5;obtain ⟨o,e,c,d⟩:=id st';exact ⟨_,rfl,zFj (s:={s with heap:=h',toks:=s.toks+1}) e c d (by decide) ⟨.str ⟨#[x.cps[i]]⟩,H,I1,⟨_,rfl⟩,⟨rfl,_,by simp [hi],rfl⟩,st',fun b hb=>(hf b hb).1⟩⟩
 done:=by
  intro X hP hw hK hc i pins s σ H E I hf st hg;subst hP hw hK;have hi:x.cps.size<=i:=hg;obtain ⟨f0,f1,f2,f3,f4,f5⟩:=hf it (by simp);exact wpAny_pyNext_ascii_end (I.ok.hd hc) st (by simp;omega) fun h' eb=>⟨rfl,I.turned (t':=s.toks) (fun b o hb e=>eb b o hb e) f0 f1 f3 f4 f5⟩
 self:=fun _ _ _ _ _ st h=>wpAny_pyIter_striter_ascii st h
theorem zLb{P:Program}{w:World}{K:zUn}{tg:Expr}(x:Str)(t:Tok)(it:Addr):Turn P w K tg (Its x) [it] it (fun i h=>h.IsStrIter it "str_iterator" x t i) where
 mem:=by simp
 obj:=fun i h st b hb=>by
  have e:b=it:=by simpa using hb
  subst e;obtain ⟨o,e,c,d⟩:=st;exact ⟨o,e,fun v z=>by rw [d] at z;cases z⟩
 keep:=fun i h h' st k=>let ⟨o,ho,r⟩:=st;⟨o,k it (by simp) o ho,r⟩
 item:=by
  intro X hP hw hK hc i pins s σ H E I hf st hg;subst hP hw hK;have hi:i<x.cps.size:=hg;obtain ⟨f0,f1,f2,f3,f4,f5⟩:=hf it (by simp);refine wpAny_pyNext_wide_item st (c:=x.cps[i]) (by simp [hi]) fun h' st' sb=>?_;have I1:Inv X pins σ H {s with heap:=h',toks:=s.toks+1}:=I.turned (fun b o hb e=>(sb.2 b hb).trans e) f0 f1 f3 f4 f5;obtain ⟨o,e,c,d⟩:=id st';exact ⟨_,rfl,zFj (s:={s with heap:=h',toks:=s.toks+1}) e c d (by decide) ⟨.str ⟨#[x.cps[i]]⟩,H,I1,⟨_,rfl⟩,⟨rfl,_,by simp [hi],rfl⟩,st',fun b hb=>(hf b hb).1⟩⟩
 done:=by
  intro X hP hw hK hc i pins s σ H E I hf st hg;subst hP hw hK;have hi:x.cps.size<=i:=hg;obtain ⟨f0,f1,f2,f3,f4,f5⟩:=hf it (by simp);exact wpAny_pyNext_wide_end (I.ok.hd hc) st (by simp;omega) fun h' eb=>⟨rfl,I.turned (t':=s.toks) (fun b o hb e=>eb b o hb e) f0 f1 f3 f4 f5⟩
 self:=fun _ _ _ _ _ st h=>wpAny_pyIter_striter_wide st h
def zPN(tl:TE):TI:=fun σ H R=>tl σ H fun v H1=> ∃x,v= .str x/\R (Its x) H1
theorem zPo{X:Cx}{tg l:Expr}{tl:TE}(hl:PE X l tl):PI X tg l (zPN tl):=by
 intro pins s σ H R I h;refine zW (hl pins s σ H _ I h) fun v s1 ⟨y,H1,I1,r1,q1⟩=>?_;obtain ⟨x,e,q⟩:=q1;subst e;obtain ⟨t,rfl⟩:=r1;have fp: ∀(o:Obj),∀b∈ [s1.heap.objs.size],zBi X pins H1 b:=fun o b hb=>by
  have e:b=s1.heap.objs.size:=by simpa using hb
  subst e;exact I1.fpOk (zUC _) (I1.hok.fresh (zUC _))
 cases ha:x.cps.all (· <128)
 ·refine wpAny_pyIter_wide ha ?_;exact ⟨s1.heap.objs.size,[s1.heap.objs.size],_,_,H1,rfl,I1.kept (t':=s1.toks) fun b o e=>zUA _ e,zLb x t _,⟨_,zUQ _ rfl,rfl,rfl⟩,fp default,q⟩
 ·refine wpAny_pyIter_ascii ha ?_;exact ⟨s1.heap.objs.size,[s1.heap.objs.size],_,_,H1,rfl,I1.kept (t':=s1.toks) fun b o e=>zUA _ e,zJQ x t _,⟨_,zUQ _ rfl,rfl,rfl⟩,fp default,q⟩
theorem zSC{X:Cx}(h:QE X e te):QI X tg e (zPN te):=⟨zPo h.out⟩
theorem zQN{k:Key}(h:(yU P w).is k u=true):zX (kV k) u:=by
 rcases yd (k:=k) (v:=u) h with ⟨i,t,rfl,rfl⟩|⟨x,t,rfl,rfl⟩
 ·exact ⟨t,rfl⟩
 ·exact ⟨t,rfl⟩
def Ite(K:zUn)(l:Addr):It:=
 ⟨fun i H=> ∃xs x,SqL K H l xs/\xs[i]?=some x,fun i H x H'=> ∃t y,(∀xs,SqL K H l xs->xs[i]?=some y)/\H t=none/\x= .ref t/\H'=upd H t (.tup [.int i,y]),fun i H=> ∃xs,SqL K H l xs/\xs.length<=i⟩
theorem zKQ{P:Program}{w:World}{K:zUn}{elts:List Expr}{x1}{pos:Pos}(l e it:Addr)(hne:e≠it):Turn P w K (.Tuple elts x1 pos) (Ite K l) [e,it] e (fun i h=> ∃old,IsEnum h e it i old/\h.IsListIter it l i) where
 mem:=by simp
 obj:=fun i h st b hb=>by
  obtain ⟨old,e1,o,e2,c,d⟩:=st;rcases zUo.mp hb with r | r
  ·subst r;exact ⟨_,e1,fun v z=>by
    have z':Data.fields _=Data.cell v:=z;cases z'⟩
  ·have r':b=it:=by simpa using r
   subst r';exact ⟨o,e2,fun v z=>by rw [d] at z;cases z⟩
 keep:=fun i h h' st k=>let ⟨old,e1,e2⟩:=st;⟨old,k e (by simp) _ e1,e2.at fun o z=>k it (by simp) o z⟩
 item:=by
  intro X hP hw hK hc i pins s σ H E I hf st hg;subst hP hw hK;obtain ⟨xs,x,hq,hx⟩:=hg;obtain ⟨old,hen,hit⟩:=st;obtain ⟨its,rv,p,hz⟩:=I.list hq;obtain ⟨u,hu,ru⟩:=rv.get hx;obtain ⟨f0,f1,f2,f3,f4,f5⟩:=hf e (by simp);obtain ⟨g0,g1,g2,g3,g4,g5⟩:=hf it (by simp);refine wpAny_pyNext_enum_item hen hit p.isList (x:=u) (by simpa using hu) hne fun h1 heo hit1 ht hz1 hk=>⟨_,rfl,?_⟩;refine wpAny_letOwnedTupleGo_enum heo fun h2 he2 hs2=>?_;replace hs2:Heap.SameBut e h1 h2:=hs2;have hn1:s.heap.objs.size≠e:=zUg (zUI hen);have hn2:s.heap.objs.size≠it:=by
   obtain ⟨o,z,_⟩:=hit;exact zUg (zUI z)
  have old': ∀b q,b≠e->b≠it->s.heap.get? b=some q->h2.get? b=some q:=fun b q hb hb2 z=>(hs2.2 b hb).trans (hk b q hb hb2 z);have new:h2.get? s.heap.objs.size=some {cls:= .type "tuple",data:= .seq #[.int i s.toks,u]}:=(hs2.2 _ hn1).trans ht;obtain ⟨oi,hoi,hci⟩:=id hit;obtain ⟨oj,hoj,hcj⟩:=id hit1;have hoj2:h2.get? it=some oj:=(hs2.2 it (Ne.symm hne)).trans hoj;have I1:Inv X pins σ (upd H s.heap.objs.size (.tup [.int i,x])) {s with heap:=s.heap.push {cls:= .type "tuple",data:= .seq #[.int i s.toks,u]},toks:=s.toks+1}:=
   I.laid (fun b q e=>zUA _ e) (zUC _) ⟨by show 2<=sizeLine;decide,[.int i s.toks,u],.cons ⟨_,rfl⟩ (.cons ru .nil),_,zUQ _ rfl,rfl,⟨_,rfl⟩,rfl⟩
  have I2:=Inv.turnedL (h':=h2) (t':=s.toks+1) (ch:= [e,it]) I1 (fun b q hb z=>by
   have hb1:b≠e:=fun y=>hb (by simp [y]);have hb2:b≠it:=fun y=>hb (by simp [y]);replace z:(s.heap.push {cls:= .type "tuple",data:= .seq #[.int i s.toks,u]}).get? b=some q:=z;by_cases hbs:b=s.heap.objs.size
   ·subst hbs;rw [zUQ _ rfl] at z;cases z;exact new
   ·rw [Heap.get?_push_ne _ _ _ hbs] at z;exact old' b q hb1 hb2 z) (fun b hb=>(hf b hb).upd (by
     rcases zUo.mp hb with r | r
     ·subst r;exact Ne.symm hn1
     ·have r':b=it:=by simpa using r
      subst r';exact Ne.symm hn2))
  refine ⟨.ref s.heap.objs.size,_,I2,rfl,⟨_,x,fun ys hy=>by rw [I.list_inj hy hq];exact hx,I.hok.fresh (zUC _),rfl,rfl⟩,⟨u,?_,oj,hoj2,hcj⟩,fun b hb=>?_⟩
  ·have z:((i+1:Nat):Int)=(i:Int)+1:=by omega
   rw [z];exact he2
  ·rcases zUo.mp hb with r | r
   ·subst r;rw [zN (Ne.symm hn1)];exact f0
   ·have r':b=it:=by simpa using r
    subst r';rw [zN (Ne.symm hn2)];exact g0
 done:=by
  intro X hP hw hK hc i pins s σ H E I hf st hg;subst hP hw hK;obtain ⟨xs,hq,hx⟩:=hg;obtain ⟨old,hen,hit⟩:=st;obtain ⟨its,rv,p,hz⟩:=I.list hq;obtain ⟨g0,g1,g2,g3,g4,g5⟩:=hf it (by simp);have hl:=rv.length;exact wpAny_pyNext_enum_end (I.ok.hd hc) hen hit p.isList (by simp;omega) fun h' eb=>⟨rfl,I.turned (t':=s.toks) (fun b o hb e=>eb b o hb e) g0 g1 g3 g4 g5⟩
 self:=fun A i s Q E st h=>by
  obtain ⟨old,e1,_⟩:=st;exact wpAny_pyIter_enum e1 h
def zNk(K:zUn)(ta:TA):TI:=fun σ H R=>ta σ H fun vs H1=> ∃a,vs= [.ref a] /\(∃xs,SqL K H1 a xs)/\R (Ite K a) H1
theorem zOr{X:Cx}{a:Expr}{ta:TA}{p pos tpos:Pos}{elts:List Expr}{x1}(hg:Gl X "enumerate")(hm:X.mg "enumerate" =none)(ha:PA X [a] ta)(hs:starEach [a] X.env= [(false,eval a X.env)]):
  PI X (.Tuple elts x1 tpos) (.Call (.Name "enumerate" p) [a] [] pos) (zNk X.K ta):=by
 intro pins s σ H R I h;refine Call_ (zCN I hg hm boot_enumerate (PyProof.Rows.callWith_type1 (zW (ha pos pins s σ H _ I h) fun us s1 ⟨vs,H1,I1,r1,q1⟩=>?_) hs rfl));obtain ⟨l,e,⟨xs,hq⟩,q⟩:=q1;subst e;obtain ⟨u,rfl,ru⟩:=zAY r1;cases ru;obtain ⟨its,rv,pl,hz⟩:=I1.list hq;refine call_enumerate_list pl.isList fun h' he hit hsz hk=>?_;refine wpAny_pyIter_enum he ?_;refine ⟨_,[s1.heap.objs.size+1,s1.heap.objs.size],_,_,H1,rfl,I1.kept (t':=s1.toks) hk,zKQ l _ _ (Nat.succ_ne_self _),⟨_,he,hit⟩,fun b hb=>?_,q⟩;rcases zUo.mp hb with r | r
 ·subst r;exact I1.fpOk (Nat.le_succ _) (I1.hok.fresh (Nat.le_succ _))
 ·have r':b=s1.heap.objs.size:=by simpa using r
  subst r';exact I1.fpOk (zUC _) (I1.hok.fresh (zUC _))
theorem zLL{X:Cx}{K:zUn}{a:Expr}{ta:TA}{p pos tpos:Pos}{elts:List Expr}{x1}(hK:X.K=K)(hg:Gl X "enumerate")(hm:X.mg "enumerate" =none)(ha:QA X [a] ta)(h2:yK a=true):
  QI X (.Tuple elts x1 tpos) (.Call (.Name "enumerate" p) [a] [] pos) (zNk K ta):=by
 subst hK;exact ⟨zOr hg hm ha.out (by rw [za h2];rfl)⟩
section
variable {X:Cx}
theorem zDq:OpR X (compareOp .LtE) (fun x y H Q=> ∃i j,x= .str i/\y= .str j/\Q (.bl (!decide (j.cps.toList<i.cps.toList))) H):=by
 intro pins s σ H x y v u Q I rx ry h;obtain ⟨i,j,rfl,rfl,q⟩:=h;obtain ⟨t,rfl⟩:=rx;obtain ⟨t',rfl⟩:=ry;exact PySem.P.le_str (zu I q rfl)
theorem zJG: ∀{bs:List Bool} {us:List Value},zT (bs.map V.bl) us->us=bs.map Value.bool
 | [],_,r=>by cases r;rfl
 | b::bs,_,r=>by
  cases r with
  | cons h t=>
   cases h;rw [zJG t];rfl
theorem zLK{bs:List Bool}:(List.range bs.length).all (fun i=>bs.getD i false)=bs.all id:=by
 rw [zUv,List.all_eq_true,List.all_eq_true];constructor
 ·intro h b hb;obtain ⟨i,hi,e⟩:=List.getElem_of_mem hb;have:=h i (List.mem_range.mpr hi);rw [List.getD_eq_getElem?_getD,zTy hi] at this;rw [<-e];exact this
 ·intro h i hi;have hi':=List.mem_range.mp hi;rw [List.getD_eq_getElem?_getD,zTy hi'];exact h _ (zUb hi')
theorem zMq(hc:X.calm=true):yY X (.builtin "all") (fun xs H Q=> ∃(a:Addr) (bs:List Bool),xs= [.ref a] /\SqL X.K H a (bs.map V.bl)/\Q (.bl (bs.all id)) H):=by
 intro pins s σ H xs us Q I r h;obtain ⟨a,bs,rfl,hq,q⟩:=h;obtain ⟨u,rfl,ru⟩:=zAY r;cases ru;obtain ⟨its,rv,p,hz⟩:=I.list hq;have e:=zJG rv;subst e;have hlt:a<s.heap.objs.size:=by
  obtain ⟨o,ho,_⟩:=p.isList;exact zUI ho
 refine call_all_walk (wpAny_pyIter_list p.isList ⟨s.heap.objs.size,_,_,_,_,_,fun i=>bs.getD i false,rfl,Walks.list (show X.A.in1.handled=none from I.ok.hd hc) s.heap.objs.size a (zUG hlt) (bs.map Value.bool).toArray,
  ⟨⟨_,zUQ _ rfl,rfl,rfl⟩,p.isList.at fun o z=>zUA _ z⟩,fun i v s' Q' E' hP hQ=>?_,fun h' tk hk=>?_⟩)
 ·have e:v= .bool (bs.getD i false):=by
   have hP':((bs.map Value.bool).toArray)[i]?=some v:=hP;rw [List.getElem?_toArray,zUD] at hP';cases q2:bs[i]? with
   | none=>rw [q2] at hP';cases hP'
   | some b=>
    rw [q2] at hP';rw [List.getD_eq_getElem?_getD,q2];exact (Option.some.inj hP').symm
  subst e;exact zUE hQ
 ·have ez:((bs.map Value.bool).toArray).size=bs.length:=by simp
  refine ⟨.bl (bs.all id),H,?_,?_,q⟩
  ·refine I.kept fun b o z=>hk b o (fun y=>?_) (zUA _ z);have y':b=s.heap.objs.size:=by simpa using y
   exact absurd (y'▸zUI z) (Nat.lt_irrefl _)
  ·show Value.bool _=Value.bool _;rw [ez,zLK]
end
end L2
namespace PySem
end PySem
namespace L2
open PySem PySem.Spec PyProof.Rows
def Dat(H:Hp):Nat->V->PyData->Prop
 | _,.non,d=>d= .none
 | _,.bl b,d=>d= .bool b
 | _,.int i,d=>d= .int i
 | _,.str x,d=>d= .str x
 | n+1,.ref a,d=>(∃xs ds,d= .list ds/\Rd H a (.lst xs)/\Paired (Dat H n) xs ds)\/ ∃xs ds,d= .tuple ds/\H a=some (.tup xs)/\Paired (Dat H n) xs ds
 | _,_,_=>False
section
variable {X:Cx}{pins:List (Addr×Obj)}{σ:St}{H:Hp}{s:Shared}
theorem zED{n:Nat}(ih: ∀{x:V} {d:PyData} {u:Value},Dat H n x d->zX x u-> ∃as,Reads s.heap u d as): ∀{xs:List V} {ds:List PyData} {us:List Value},Paired (Dat H n) xs ds->zT xs us-> ∃as,ReadsAll s.heap us ds as
 | [],_,_,h,r=>by
  cases h;cases r;exact ⟨[],.nil⟩
 | x::xs,_,_,h,r=>by
  cases h with
  | cons h1 h2=>
   cases r with
   | cons r1 r2=>
    obtain ⟨a1,q1⟩:=ih h1 r1;obtain ⟨a2,q2⟩:=zED ih h2 r2;exact ⟨a1++a2,.cons q1 q2⟩
theorem zCd(I:Inv X pins σ H s): ∀(n:Nat) {x:V} {d:PyData} {u:Value},Dat H n x d->zX x u-> ∃as,Reads s.heap u d as
 | n,.non,d,u,h,r=>by
  have h':d= .none:=by cases n<;>exact h
  cases h';cases r;exact ⟨[],.none⟩
 | n,.bl b,d,u,h,r=>by
  have h':d= .bool b:=by cases n<;>exact h
  cases h';cases r;exact ⟨[],.bool b⟩
 | n,.int i,d,u,h,r=>by
  have h':d= .int i:=by cases n<;>exact h
  obtain ⟨t,rfl⟩:=r;cases h';exact ⟨[],.int i t⟩
 | n,.str x,d,u,h,r=>by
  have h':d= .str x:=by cases n<;>exact h
  obtain ⟨t,rfl⟩:=r;cases h';exact ⟨[],.str x t⟩
 | 0,.ref a,d,u,h,r=>h.elim
 | n+1,.ref a,d,u,h,r=>by
  cases r;rcases h with ⟨xs,ds,rfl,e,p⟩|⟨xs,ds,rfl,e,p⟩
  ·obtain ⟨_,its,k,rv,ho⟩:=e.ok I.hok;obtain ⟨as,q⟩:=zED (fun h r=>zCd I n h r) p rv;exact ⟨_,.list ho rfl rfl (by simpa using q)⟩
  ·obtain ⟨_,its,rv,o,ho,hc,⟨k,hd⟩,_⟩:=(show zo X.prog X.w H s.heap a (.tup xs) from I.hok a _ e);obtain ⟨as,q⟩:=zED (fun h r=>zCd I n h r) p rv;exact ⟨_,.tuple ho hc hd (by simpa using q)⟩
 | n,.byt _,d,u,h,r=>by cases n<;>exact h.elim
 | n,.flt _,d,u,h,r=>by cases n<;>exact h.elim
 | n,.ty _,d,u,h,r=>by cases n<;>exact h.elim
end
end L2
namespace PySem
open PyProof.Rows
section
variable {prog:Program}{w:World}{K:Type}[DecidableEq K]{knd:KeyKind prog w K}{A:Around}{E:Value->Shared->Prop}{s:Shared}
end
end PySem
namespace L2
open PySem PySem.Spec PyProof.Rows
theorem zGk: ∀{vs:List Value} {ss:List Str},StrsAre vs ss->zT (ss.map V.str) vs
 | _,_,.nil=> .nil
 | _,_,.cons y t h=> .cons ⟨t,rfl⟩ (zGk h)
section
variable {X:Cx}
def zFW:V->Bool
 | .int _=>true
 | .str _=>true
 | _=>false
theorem zLh(f:zFW x=true)(ru:zX x u)(rv:zX x v):SeqAt.EqAt A s u v true:=by
 cases x with
 | int i=>
  obtain ⟨t,rfl⟩:=ru;obtain ⟨t',rfl⟩:=rv;have z:=SeqAt.EqAt.int_int (A:=A) (s:=s) i t i t';simpa using z
 | str i=>
  obtain ⟨t,rfl⟩:=ru;obtain ⟨t',rfl⟩:=rv;have z:=SeqAt.EqAt.str_str (A:=A) (s:=s) i t i t';simpa using z
 | _=>cases f
theorem zFd(f: ∀x∈xs,zFW x=true)(ru:zT xs us)(rv:zT xs vs):
  ∀j (h1:j<us.toArray.size) (h2:j<vs.toArray.size),SeqAt.EqAt A s us.toArray[j] vs.toArray[j] true:=by
 intro j h1 h2;have j1:j<us.length:=by simpa using h1
 have j2:j<vs.length:=by simpa using h2
 have l1:=ru.length;have a1:xs[j]?=some xs[j] :=zTy (by omega);obtain ⟨u1,b1,c1⟩:=ru.get a1;obtain ⟨u2,b2,c2⟩:=rv.get a1;have d1:us[j] =u1:=by rw [zTy j1] at b1;exact Option.some.inj b1
 have d2:vs[j] =u2:=by rw [zTy j2] at b2;exact Option.some.inj b2
 have w:=zLh (A:=A) (s:=s) (f _ (zUb (by omega))) c1 c2;simpa [d1,d2] using w
def zNr(K:zUn)(b:Bool):R2:=fun x y H Q=> ∃p q xs,x= .ref p/\y= .ref q/\SqT K H p xs/\SqT K H q xs/\(∀x∈xs,zFW x=true)/\Q (.bl b) H
theorem zQu{K:zUn}(hK:X.K=K)(hu:X.A.units<cLine):OpR X (compareOp .NotEq) (zNr K false):=by
 subst hK;intro pins s σ H x y v u Q I rx ry h;obtain ⟨p,q,xs,rfl,rfl,h1,h2,f,hq⟩:=h;cases rx;cases ry;obtain ⟨us,r1,t1,_⟩:=I.tuple h1;obtain ⟨vs,r2,t2,_⟩:=I.tuple h2;have l1:=r1.length;have l2:=r2.length;have z:=SeqAt.RcNeAt.tuples (A:=X.A) (e:=fun _=>true) (show s.heap.IsTuple p us.toArray from t1) (show s.heap.IsTuple q vs.toArray from t2) hu (zFd f r1 r2);have es:us.toArray.size=vs.toArray.size:=by simp;omega
 rw [zHU,es] at z;refine z _ _ _ _ ?_;simp only [beq_self_eq_true,Bool.and_self,Bool.not_true];exact ⟨.bl false,H,I,rfl,hq⟩
theorem zRV{K:zUn}(hK:X.K=K)(hu:X.A.units<cLine):OpR X (compareOp .Eq) (zNr K true):=by
 subst hK;intro pins s σ H x y v u Q I rx ry h;obtain ⟨p,q,xs,rfl,rfl,h1,h2,f,hq⟩:=h;cases rx;cases ry;obtain ⟨us,r1,t1,_⟩:=I.tuple h1;obtain ⟨vs,r2,t2,_⟩:=I.tuple h2;have l1:=r1.length;have l2:=r2.length;have z:=SeqAt.RcAt.tuples (A:=X.A) (e:=fun _=>true) (show s.heap.IsTuple p us.toArray from t1) (show s.heap.IsTuple q vs.toArray from t2) hu (zFd f r1 r2);have es:us.toArray.size=vs.toArray.size:=by simp;omega
 rw [zHU,es] at z;refine z _ _ _ _ ?_;simp only [beq_self_eq_true,Bool.and_self];exact ⟨.bl true,H,I,rfl,hq⟩
end
end L2
namespace PySem
open PyProof.Rows
section
variable {prog:Program}{w:World}{K:Type}[DecidableEq K]{knd:KeyKind prog w K}{A:Around}{E:Value->Shared->Prop}{s:Shared}
end
section
variable {prog:Program}{w:World}{K:Type}[DecidableEq K]{knd:KeyKind prog w K}{A:Around}{R:Result->Shared->Prop}{d it l:Addr}{items:Array Value}{ps:List (K×Value)}
end
section
variable {prog:Program}{w:World}{K:Type}[DecidableEq K]{knd:KeyKind prog w K}{A:Around}{E:Value->Shared->Prop}{s:Shared}
end
end PySem
namespace L2
open PySem PySem.Spec PyProof.Rows
section
variable {X:Cx}
theorem zDV:yY X (.type "dict") (fun xs H Q=> ∃(d:Addr) (kvs:List (Key×V)),xs= [.ref d] /\Rd H d (.dK kvs)/\ ∀a,H a=none->Q (.ref a) (upd H a (.dK kvs))):=by
 intro pins s σ H xs us Q I r h;obtain ⟨d,kvs,rfl,e,q⟩:=h;obtain ⟨u,rfl,ru⟩:=zAY r;cases ru;exact zMf I e fun p s' hn I'=>⟨.ref p,_,I',rfl,q p hn⟩
end
section
variable {X:Cx}{K:zUn}{o i e f value:Expr}{td ty tx tv:TE}{pos pos' apos cpos:Pos}
theorem zLJ(hu:X.A.units+1<cLine)(ho:QE X o td)(hi:QE X i ty)(hs:zIM i):QE X (.Subscript o i pos) (zNS td ty):=⟨zOx hu ho.out hi.out hs⟩
theorem zMr(hu:X.A.units+1<cLine)(hi:QE X i ty)(ho:QE X o td)(h:behindInMarks .NotIn o=false):QT X (.Compare i [.NotIn] [o] pos) (tB (zIh ty td)):=⟨zDl (zLO hu hi.out ho.out) h⟩
theorem zDn(hu:X.A.units+1<cLine)(ho:QE X o td)(hi:QE X i ty)(hv:QE X value tv)(hs:swapsWith value (some (.Subscript o i pos')) pos.line X.env=pure false):
  QS X (.Assign [.Subscript o i pos'] value pos) (zOB td ty tv):=⟨zOd hu ho.out hi.out hv.out hs⟩
theorem zDz:QE X (.Dict [] [] pos) zKt:=⟨zLw⟩
theorem zIg(hu:X.A.units+1<cLine)(ho:QE X o td)(he:QE X e ty)(hf:QE X f tx)(m:M2 X o "get" apos e f cpos):QE X (.Call (.Attribute o "get" apos) [e,f] [] cpos) (zLE td ty tx):=⟨zMj hu ho.out he.out hf.out m⟩
theorem zCb(hK:X.K=K)(hc:X.calm=true):yY X (.builtin "all") (fun xs H Q=> ∃(a:Addr) (bs:List Bool),xs= [.ref a] /\SqL K H a (bs.map V.bl)/\Q (.bl (bs.all id)) H):=by
 subst hK;exact zMq hc
theorem zBR(hK:X.K=K):OpR X (compareOp .NotIn) (rIn K true):=by
 subst hK;exact zHX
theorem zBz(hK:X.K=K):yY X (.type "list") (fun xs H Q=> ∃p ys,xs= [.ref p] /\(SqL K H p ys\/SqT K H p ys)/\ ∀l,H l=none->Q (.ref l) (upd H l (.lst ys))):=by
 subst hK;exact zHv
theorem zBD(hK:X.K=K):yY X (.type "tuple") (fun xs H Q=> ∃p ys,xs= [.ref p] /\((SqL K H p ys/\ ∀l,H l=none->Q (.ref l) (upd H l (.tup ys)))\/(SqT K H p ys/\Q (.ref p) H))):=by
 subst hK;exact zGo
end
def zNY(ns:List (Str×NameKind))(cl:List (Str×Addr)):Bool:=ns.all fun p=>match p.2 with
 | .cell=>(cl.lookup p.1).isSome
 | .free=>(cl.lookup p.1).isSome
 | _=>true
theorem zDY{κ β:Type}[BEq κ][LawfulBEq κ]{y:κ}{b:β}: ∀{l:List (κ×β)},l.lookup y=some b->(y,b)∈l
 | [],h=>by cases h
 |(z,c)::l,h=>by
  rw [List.lookup_cons] at h;split at h
  ·rename_i q
   have:y=z:=by simpa using q
   cases h;rw [this];exact List.mem_cons_self
  ·exact zUd _ (zDY h)
theorem yF{ns:List (Str×NameKind)}(h:zNY ns cl=true): ∀y,(ns.lookup y=some .cell\/ns.lookup y=some .free)-> ∃a,cl.lookup y=some a:=by
 intro y hy;unfold zNY at h;rw [List.all_eq_true] at h;rcases hy with e | e
 ·exact Option.isSome_iff_exists.mp (h (y,.cell) (zDY e))
 ·exact Option.isSome_iff_exists.mp (h (y,.free) (zDY e))
theorem fr1{Pp:Str->Nat->Prop}(h:Pp y i): ∀(j:Nat) (y':Str) (i':Nat),[y][j]?=some y'-> [i][j]?=some i'->Pp y' i':=by
 intro j y' i' h1 h2;cases j with
 | zero=>cases h1;cases h2;exact h
 | succ j=>simp at h1
section
variable {g:TG}{tt:TT}{te:TE}{n:Nat}{fr:List Nat}{σ:St}{H:Hp}{Q:VK}{J:It}
theorem zHk(D:Addr)(len:Nat)(Pv:Nat->List V->Hp->Prop)(h0:Pv 0 [] (upd H D (.lst [])))(hb:len<=sizeLine)
  (hk: ∀i ys H',i<=len->Pv i ys H'->ys.length<=i/\H' D=some (.lst ys)/\(i<len->J.go i H')/\(i=len->J.stop i H'))
  (hs: ∀i ys H' x H'',i<len->Pv i ys H'->J.yld i H' x H''->zEj g tt te n (yL fr σ) D x ys H'' (Pv (i+1))) (hd: ∀ys H',Pv len ys H'->Q (.ref D) H'):
  ∃W:Nat->Nat->List V->Hp->Prop,(∃m,W 0 m [] (upd H D (.lst [])))/\ ∀i m ys H',W i m ys H'->H' D=some (.lst ys)/\((J.stop i H'/\Q (.ref D) H')\/(J.go i H'/\ys.length<sizeLine/\ ∃N:List V->Hp->Prop,(∀ys' H',N ys' H'-> ∃m',m'<m/\W (i+1) m' ys' H')/\
   ∀x H'',J.yld i H' x H''-> ∀pre:St,pre.length=n->g x (pre++yL fr σ) H'' fun σ2 H2=>(∃pre2:St,pre2.length=n/\σ2=pre2++yL fr σ)/\
    tt σ2 H2 fun b H3=>if b=true then te σ2 H3 fun y H4=>H4 D=some (.lst ys)/\N (ys++ [y]) (upd H4 D (.lst (ys++ [y]))) else N ys H3)):=by
 refine ⟨fun i m ys H'=>i<=len/\m=len - i/\Pv i ys H',⟨_,zUN _,rfl,h0⟩,?_⟩;rintro i m ys H' ⟨hi,rfl,p⟩;obtain ⟨hl,hD,hgo,hst⟩:=hk i ys H' hi p;refine ⟨hD,?_⟩;by_cases hlt:i<len
 ·refine .inr ⟨hgo hlt,by omega,Pv (i+1),fun ys' H'' q=>⟨len -(i+1),by omega,hlt,rfl,q⟩,?_⟩;intro x H'' hy;exact hs i ys H' x H'' hlt p hy
 ·have e:i=len:=by omega
  subst e;exact .inl ⟨hst rfl,hd ys H' p⟩
theorem zOk{tb:TS}{D:Ends}(len:Nat)(Pv:Nat->St->Hp->Prop)(h0:Pv 0 σ H)(hgo: ∀i σ H,i<len->Pv i σ H->J.go i H)(hst: ∀σ H,Pv len σ H->J.stop len H)
  (hs: ∀i σ H x H',i<len->Pv i σ H->J.yld i H x H'->g x σ H' fun σ2 H2=>tb {D with nx:=Pv (i+1),ct:=Pv (i+1),bk:=D.nx} σ2 H2) (hd: ∀σ H,Pv len σ H->D.nx σ H):
  ∃W:Nat->Nat->St->Hp->Prop,(∃m,W 0 m σ H)/\ ∀i m σ H,W i m σ H->
   (J.stop i H/\D.nx σ H)\/(J.go i H/\ ∃N:St->Hp->Prop,(∀σ' H',N σ' H'-> ∃m',m'<m/\W (i+1) m' σ' H')/\ ∀x H',J.yld i H x H'->g x σ H' fun σ2 H2=>tb {D with nx:=N,ct:=N,bk:=D.nx} σ2 H2):=by
 refine ⟨fun i m σ H=>i<=len/\m=len - i/\Pv i σ H,⟨_,zUN _,rfl,h0⟩,?_⟩;rintro i m σ H ⟨hi,rfl,p⟩;by_cases hlt:i<len
 ·exact .inr ⟨hgo i σ H hlt p,Pv (i+1),fun σ' H' q=>⟨len -(i+1),by omega,hlt,rfl,q⟩,fun x H' hy=>hs i σ H x H' hlt p hy⟩
 ·have e:i=len:=by omega
  subst e;exact .inl ⟨hst σ H p,hd σ H p⟩
end
def zTg(wi:TI):TI:=fun σ H R=> ∃Rs:It->Hp->Prop,wi σ H Rs/\ ∀J H1,Rs J H1->R J H1
theorem zKF{X:Cx}(h:QI X tg iter wi):QI X tg iter (zTg wi):=by
 refine ⟨fun pins s σ H R I ⟨Rs,h1,h2⟩=>?_⟩;refine zW (h.out pins s σ H Rs I h1) fun v s1 q=>zW q fun itv s2 q2=>?_;obtain ⟨it,fp,tn,J,H',a1,a2,a3,a4,a5,a6⟩:=q2;exact ⟨it,fp,tn,J,H',a1,a2,a3,a4,a5,h2 J H' a6⟩
structure CompInv(J:It)(g:TG)(tt:TT)(te:TE)(n:Nat)(suf:St)(H:Hp)(D:Addr)(Q:VK):Prop where
 ex: ∃(len:Nat) (Pv:Nat->List V->Hp->Prop),Pv 0 [] (upd H D (.lst []))/\len<=sizeLine/\(∀i ys H',i<=len->Pv i ys H'->ys.length<=i/\H' D=some (.lst ys)/\(i<len->J.go i H')/\(i=len->J.stop i H'))/\
  (∀i ys H' x H'',i<len->Pv i ys H'->J.yld i H' x H''->zEj g tt te n suf D x ys H'' (Pv (i+1)))/\ ∀ys H',Pv len ys H'->Q (.ref D) H'
theorem zx(len:Nat)(Pv:Nat->List V->Hp->Prop)(h0:Pv 0 [] (upd H D (.lst [])))(hb:len<=sizeLine)
  (hk: ∀i ys H',i<=len->Pv i ys H'->ys.length<=i/\H' D=some (.lst ys)/\(i<len->J.go i H')/\(i=len->J.stop i H'))
  (hs: ∀i ys H' x H'',i<len->Pv i ys H'->J.yld i H' x H''->zEj g tt te n suf D x ys H'' (Pv (i+1))) (hd: ∀ys H',Pv len ys H'->Q (.ref D) H'):CompInv J g tt te n suf H D Q:=⟨len,Pv,h0,hb,hk,hs,hd⟩
def zLV(wi:TI)(g:TG)(tt:TT)(te:TE)(n:Nat)(fr:List Nat):TE:=fun σ H Q=>wi σ H fun J H1=> ∀D,H1 D=none->CompInv J g tt te n (yL fr σ) H1 D Q
theorem yx{X:Cx}(zs:List Str)(ys:List Str)(fr:List Nat)(hcm:X.calm=true)
  (hi:QI X tg iter wi) (hclos:closureFor scope X.env=pure cl) (hcell: ∀y∈scope.names,y.2≠ .cell) (hkind:scope.kind= .function) (hnames: ∀y∈scope.names,y.2= .local->scope.names.lookup y.1=some .local)
  (hcl: ∀y a,cl.lookup y=some a->X.env.cells.lookup y=some a)
  (hlen:ys.length=fr.length) (hfr: ∀(j:Nat) y i,ys[j]?=some y->fr[j]?=some i->X.N[i]?=some y/\X.env.kindOf y=some .cell/\(relabel scope X.env).names.lookup y=some .cell/\ ∃a,cl.lookup y=some a/\X.env.cells.lookup y=some a)
  (hhas: ∀y,((relabel scope X.env).names.lookup y=some .cell\/(relabel scope X.env).names.lookup y=some .free)-> ∃a,cl.lookup y=some a)
  (hg: ∀C s₂ H₂ fp,QG (X.comp scope cl C (zs++ys) s₂ H₂ fp) tg g) (hc: ∀C s₂ H₂ fp,QTs (X.comp scope cl C (zs++ys) s₂ H₂ fp) ifs tt) (he: ∀C s₂ H₂ fp,QE (X.comp scope cl C (zs++ys) s₂ H₂ fp) elt te) (hs: ∀v,foldedSetIterable iter X.env v=pure v):
  QE X (.ListComp elt [⟨tg,iter,ifs,0⟩] scope pos) (zLV wi g tt te zs.length fr):=
 zRh (zOh zs ys fr hcm (zKF hi) hclos hcell hkind hnames hcl hlen hfr hhas hg hc he hs) fun σ H Q h=>⟨_,h,fun J H1 h1 D hD=>by
  obtain ⟨len,Pv,a0,a1,a2,a3,a4⟩:=(h1 D hD).ex;exact zHk D len Pv a0 a1 a2 a3 a4⟩
structure ForInv(J:It)(g:TG)(tb:TS)(D:Ends)(σ:St)(H:Hp):Prop where
 ex: ∃(len:Nat) (Pv:Nat->St->Hp->Prop),Pv 0 σ H/\(∀i σ H,i<len->Pv i σ H->J.go i H)/\(∀σ H,Pv len σ H->J.stop len H)/\
  (∀i σ H x H',i<len->Pv i σ H->J.yld i H x H'->g x σ H' fun σ2 H2=>tb {D with nx:=Pv (i+1),ct:=Pv (i+1),bk:=D.nx} σ2 H2)/\ ∀σ H,Pv len σ H->D.nx σ H
theorem zAB(len:Nat)(Pv:Nat->St->Hp->Prop)(h0:Pv 0 σ H)(hgo: ∀i σ H,i<len->Pv i σ H->J.go i H)(hst: ∀σ H,Pv len σ H->J.stop len H)
  (hs: ∀i σ H x H',i<len->Pv i σ H->J.yld i H x H'->g x σ H' fun σ2 H2=>tb {D with nx:=Pv (i+1),ct:=Pv (i+1),bk:=D.nx} σ2 H2) (hd: ∀σ H,Pv len σ H->D.nx σ H):ForInv J g tb D σ H:=⟨len,Pv,h0,hgo,hst,hs,hd⟩
def zRx(wi:TI)(g:TG)(tb:TS):TS:=fun D σ H=>wi σ H fun J H1=>ForInv J g tb D σ H1
theorem zAh{X:Cx}(hp:PassesOwn (model X.prog X.w) X.A X.env X.xe)(hc:X.calm=true)(hi:QI X tg iter wi)(hg:QG X tg g)(hb:QB X b1 u)(hs: ∀x,foldedSetIterable iter X.env x=pure x):QS X (.For tg iter b1 [] pos) (zRx wi g u):=by
 have h:=zSj (pos:=pos) hp hc (zKF hi) hg hb hs;refine ⟨fun pins s σ H D I ht=>h.out pins s σ H D I ⟨_,ht,fun J H1 h1=>?_⟩⟩;obtain ⟨len,Pv,a0,a1,a2,a3,a4⟩:=h1.ex;exact zOk len Pv a0 a1 a2 a3 a4
inductive XCatE (K:zUn) (x y:V) (H:Hp) (Q:VK):Prop
 | mk (a b:Addr) (xs ys:List V) (h1:x= .ref a) (h2:y= .ref b) (h3:SqT K H a xs) (h4:SqT K H b ys) (h5:xs.length+ys.length<=sizeLine)
  (q0:xs= [] ->Q (.ref b) H) (q1:xs≠ [] ->ys= [] ->Q (.ref a) H) (q2:xs≠ [] ->ys≠ [] -> ∀p,H p=none->Q (.ref p) (upd H p (.tup (xs++ys))))
theorem yi{X:Cx}{K:zUn}(hK:X.K=K):OpR X (binaryOp .Add) (XCatE K):=by
 subst hK;intro pins s σ H x y v u Q I rx ry h;obtain ⟨a,b,xs,ys,ex,ey,ha,hb,hz,q0,q1,q2⟩:=h;by_cases hx:xs= []
 ·subst ex ey hx;cases rx;cases ry;obtain ⟨its,r1,p1,_⟩:=I.tuple ha;obtain ⟨its2,r2,p2,_⟩:=I.tuple hb;cases r1;obtain ⟨⟨cls,dd,data,sl⟩,ho,hc,n,hd⟩:=id p1;obtain ⟨⟨cls2,dd2,data2,sl2⟩,ho2,hc2,n2,hd2⟩:=id p2;simp only at hc hd hc2 hd2;subst hc hd hc2 hd2;exact concat_meets ⟨_,ho,rfl⟩ ⟨_,ho2,rfl⟩ noFill_tuple_add seq_tuple_add PySem.F.slot_tuple_add PySem.F.entry_tuple_add (PySem.F.args_tuple_add_2 _ _)
   (tuple_addW0 a b _ _ n n2 dd dd2 sl sl2 rfl) ⟨ho,ho2,.ref b,H,I,rfl,q0 rfl⟩
 ·exact zOt pins s σ H x y v u Q I rx ry ⟨a,b,xs,ys,ex,ey,ha,hb,hx,hz,q1 hx,q2 hx⟩
section
variable {X:Cx}
end
section
variable {H H':Hp}{d:Addr}{kvs:List (Key×V)}
end
section
variable {X:Cx}
structure QO(X:Cx)(e:Option Expr)(t:TO):Prop where
 out:PO X e t
theorem yR:QO X none zIz:=⟨zPI⟩
theorem yE(h:QE X e te):QO X (some e) (zNa te):=⟨zOU h.out⟩
theorem zGa: ∀{xs:List V} {us:List Value},zT xs us->xs.all zAa=true->us.countP (eqU x)=xs.countP fun y=>eqV y x
 | _,_,.nil,_=>rfl
 | y::xs,u::us,.cons r t,f=>by
  rw [List.all_cons,zUp] at f;rw [List.countP_cons,List.countP_cons,zEy r f.1,zGa t f.2]
theorem zHt: ∀{xs:List V} {us:List Value},zT xs us->xs.all zAa=true-> ∀(j:Nat) (h1:j<us.length) (h2:j<xs.length),eqU x us[j] =eqV xs[j] x
 | _,_,.nil,_,j,h1,_=>absurd h1 (Nat.not_lt_zero j)
 | y::xs,u::us,.cons r t,f,j,h1,h2=>by
  rw [List.all_cons,zUp] at f;cases j with
  | zero=>exact zEy r f.1
  | succ j=>exact zHt t f.2 j (Nat.lt_of_succ_lt_succ h1) (Nat.lt_of_succ_lt_succ h2)
def zLZ(K:zUn):V->List V->Hp->VK->Prop:=fun x xs H Q=> ∃p ys y,x= .ref p/\xs= [y] /\SqL K H p ys/\zAa y=true/\ys.all zAa=true/\Q (.int (ys.countP fun z=>eqV z y:Nat)) H
theorem zNC:MtR X "list.count" (zLZ X.K):=by
 intro pins s σ H x xs v us Q I rx rv h;obtain ⟨p,ys,y,rfl,rfl,hq,fy,fs,q⟩:=h;cases rx;obtain ⟨u,rfl,ru⟩:=zAY rv;obtain ⟨its,r,pl,hz⟩:=I.list hq;obtain ⟨⟨cls,dd,data,sl⟩,ho,hc,n,hd⟩:=id pl.isList;simp only at hc hd;subst hc hd;refine call_meets PySem.F.slot_list_count ⟨_,ho,rfl⟩ PySem.F.entry_list_count (PySem.F.args_list_count_2 _ _) (SeqAt.list_countAt p its.toArray n dd sl u (eqU y)) ⟨ho,fun w hw=>zBL ru fy r fs w (by simpa using hw),?_⟩;rw [show its.toArray.toList=its from rfl,zGa r fs];exact ⟨.int _,H,I.tok _,⟨_,rfl⟩,q⟩
def zKq(K:zUn):V->List V->Hp->VK->Prop:=fun x xs H Q=> ∃p ys y,∃j:Nat,x= .ref p/\xs= [y] /\SqL K H p ys/\zAa y=true/\ys.all zAa=true/\(∃h:j<ys.length,eqV ys[j] y=true)/\(∀m (h:m<ys.length),m<j->eqV ys[m] y=false)/\Q (.int j) H
theorem zLs:MtR X "list.index" (zKq X.K):=by
 intro pins s σ H x xs v us Q I rx rv h;obtain ⟨p,ys,y,j,rfl,rfl,hq,fy,fs,⟨hj,hit⟩,hno,q⟩:=h;cases rx;obtain ⟨u,rfl,ru⟩:=zAY rv;obtain ⟨its,r,pl,hz⟩:=I.list hq;have hl:=r.length;have hn:=zCI;obtain ⟨⟨cls,dd,data,sl⟩,ho,hc,n,hd⟩:=id pl.isList;simp only at hc hd;subst hc hd;refine call_meets PySem.F.slot_list_index ⟨_,ho,rfl⟩ PySem.F.entry_list_index (PySem.F.args_list_index_2 _ _) (SeqAt.list_indexAt p its.toArray n dd sl u (eqU y) j (by rw [zUR];omega) (by omega) ?_ ?_) ⟨ho,fun w hw=>zBL ru fy r fs w (by simpa using hw),?_⟩
 ·show eqU y its[j] =true;rw [zHt r fs j (by omega) hj];exact hit
 ·intro m hm hlt;show eqU y its[m] =false;rw [zUR] at hm;rw [zHt r fs m hm (by omega)];exact hno m (by omega) hlt
 ·exact ⟨.int _,H,I.tok _,⟨_,rfl⟩,q⟩
section
variable {K:zUn}{o e:Expr}{to te:TE}{apos cpos:Pos}
theorem zOa(hK:X.K=K)(ho:QE X o to)(ha:QE X e te)(hb:attributeBase o "count" X.env (eval o X.env)=eval o X.env)(h2:yK e=true)(hl:(apos.endLine==cpos.line)=true):
  QE X (.Call (.Attribute o "count" apos) [e] [] cpos) (tBM K "list" (zLZ K) to (zBy te zDK)):=by
 subst hK;exact ⟨zDJ PySem.F.plainAttrs_list PySem.F.slot_list_count PySem.F.type_list_count zNC ho.out (zy ha.out yf (za h2)) hb (by rw [za h2];rfl) hl (za h2) rfl⟩
theorem zOc(hK:X.K=K)(ho:QE X o to)(ha:QE X e te)(hb:attributeBase o "index" X.env (eval o X.env)=eval o X.env)(h2:yK e=true)(hl:(apos.endLine==cpos.line)=true):
  QE X (.Call (.Attribute o "index" apos) [e] [] cpos) (tBM K "list" (zKq K) to (zBy te zDK)):=by
 subst hK;exact ⟨zDJ PySem.F.plainAttrs_list PySem.F.slot_list_index PySem.F.type_list_index zLs ho.out (zy ha.out yf (za h2)) hb (by rw [za h2];rfl) hl (za h2) rfl⟩
theorem zCS(hK:X.K=K):OpR X (compareOp .In) (rIn K false):=by
 subst hK;exact zLl
end
section
variable {CX:CXT}{k:Nat}{f C:Addr}{fd:FuncData}{ps:List Str}{sp:Sp}{dvs:List V}{ds:List Value}{E:XK}{Es:St->XK}{x m:Str}{p pos apos:Pos}{e o:Expr}{es:List Expr}{ta:TE}{t:TA}{pl:Sem Bool}
theorem zDw(he:QE X o ta)(c:Cls X.K C)(hm:Meth X.K C m f)(F:FnOk X.prog X.w X.K X.mg X.base CX k f fd ps sp)(hr:Room k X.A)(hb:zO X.K fd ps ds)(hd:zT dvs ds)(hx:zAm CX X E)(ha:QA X (e::es) t)
  (h2:yK e=true) (h3:zAA es=true)
  (ht:eval (.Call (.Attribute o m apos) (e::es) [] pos) X.env=(do
   let ov<-eval o X.env
   standAt apos.atName
   let (f,first)<-holding [ov] (getMethod ov m pl)
   callWith pos f first (backTo pos (starEach (e::es) X.env)) (backToKw pos (keywordEach [] X.env)))):
  QE X (.Call (.Attribute o m apos) (e::es) [] pos) (zNm C m sp dvs E ta t):=⟨zOR he.out c hm F hr hb hd hx ha.out (za h2) (zAV h3) ht⟩
def zLM(C:Addr)(m:Str)(sp:Sp)(dvs:List V)(E:St->XK)(ta:TE)(t:TA):TE:=fun σ H Q=>ta σ H fun x H1=> ∃a dx fs,x= .ref a/\H1 a=some (.ins C dx fs)/\fs.lookup m=none/\
 t σ H1 fun vs H2=>sp (x::(vs++dvs)) H2 Q (E σ)
theorem zMJ(he:PE X o ta)(c:Cls X.K C)(hm:Meth X.K C m f)(F:FnOk X.prog X.w X.K X.mg X.base CX k f fd ps sp)(hr:Room k X.A)(hb:zO X.K fd ps ds)(hd:zT dvs ds)(hx:zAo CX X Es)(ha:PA X (e::es) t)
  (hst:starEach (e::es) X.env=(false,eval e X.env)::starEach es X.env) (hpl:(backTo pos (starEach es X.env)).any (·.1)=false)
  (ht:eval (.Call (.Attribute o m apos) (e::es) [] pos) X.env=(do
   let ov<-eval o X.env
   standAt apos.atName
   let (f,first)<-holding [ov] (getMethod ov m pl)
   callWith pos f first (backTo pos (starEach (e::es) X.env)) (backToKw pos (keywordEach [] X.env)))):
  PE X (.Call (.Attribute o m apos) (e::es) [] pos) (zLM C m sp dvs Es ta t):=by
 intro pins s σ H Q I h;refine PySem.W.methodCall_KW (pl:=pl) (zW (he pins s σ H _ I h) fun u s1 ⟨x,H1,I1,rx,a,dx,fs,ex,ea,l,q⟩=>?_) ht;subst ex;obtain rfl:u=Value.ref a:=rx;refine zFe I1 ea c hm l ?_;refine PySem.W.callWith_K (first:= [.ref a]) (h₀:=X.base) I.ok.mod.kin hm.kp (zW (ha pos pins s1 σ H1 _ I1 q) fun us s2 ⟨vs,H2,I2,r,q2⟩=>⟨I2.kIn,?_⟩) hst hpl;exact zJD (us:= .ref a::us) (vs:= .ref a::vs) F hr hb hd hx I2 (.cons rfl r) q2
theorem zAp(he:QE X o ta)(c:Cls X.K C)(hm:Meth X.K C m f)(F:FnOk X.prog X.w X.K X.mg X.base CX k f fd ps sp)(hr:Room k X.A)(hb:zO X.K fd ps ds)(hd:zT dvs ds)(hx:zAo CX X Es)(ha:QA X (e::es) t)
  (h2:yK e=true) (h3:zAA es=true)
  (ht:eval (.Call (.Attribute o m apos) (e::es) [] pos) X.env=(do
   let ov<-eval o X.env
   standAt apos.atName
   let (f,first)<-holding [ov] (getMethod ov m pl)
   callWith pos f first (backTo pos (starEach (e::es) X.env)) (backToKw pos (keywordEach [] X.env)))):
  QE X (.Call (.Attribute o m apos) (e::es) [] pos) (zLM C m sp dvs Es ta t):=⟨zMJ he.out c hm F hr hb hd hx ha.out (za h2) (zAV h3) ht⟩
end
section
variable {pos:Pos}
end
end
section
variable {P:Program}{w:World}{K:zUn}{mg:Str->Option Value}{base:Heap}
end
section
variable {X:Cx}{k:Nat}{f:Addr}{fd:FuncData}{ps:List Str}{sp:Sp}{x:Str}{p pos:Pos}{e:Expr}{es:List Expr}{t:TA}
end
end L2
namespace PySem
open PyProof.Rows
section
variable {prog:Program}{w:World}{A:Around}{E:Value->Shared->Prop}{s:Shared}
end
end PySem
namespace PySem
open PyProof.Rows
section
variable {prog:Program}{w:World}{A:Around}{R:Result->Shared->Prop}{I:Addr}{fp wr:List Addr}{G:Array GenState->Array GenState->Prop}{n:Nat}{P:Nat->Value->Prop}{St:Nat->Shared->Prop}
end
section
variable {prog:Program}{w:World}{A:Around}{E:Value->Shared->Prop}{s:Shared}
end
end PySem
namespace PySem.F
end PySem.F
namespace PySem
open PyProof.Rows
section
variable {prog:Program}{w:World}{A:Around}{E:Value->Shared->Prop}{s:Shared}
end
end PySem
namespace PySem
open PyProof.Rows
section
variable {prog:Program}{w:World}{A:Around}{E:Value->Shared->Prop}{s:Shared}{it a tp:Addr}{es:Array (Int×Value)}{ep:Nat}{t:SetTable}{order:List Nat}{vals:List Value}{i:Nat}
end
end PySem
namespace PySem
open PyProof.Rows
section
variable {prog:Program}{w:World}{A:Around}{E:Value->Shared->Prop}{s:Shared}{it a tp:Addr}{es:Array (Int×Value)}{ep:Nat}{t:SetTable}{order:List Nat}{vals:List Value}{i:Nat}
end
end PySem
namespace PySem
open PyProof.Rows
section
variable {prog:Program}{w:World}{A:Around}{E:Value->Shared->Prop}{s:Shared}
end
end PySem
namespace L2
open PySem PySem.Spec PyProof.Rows
section
variable {X:Cx}
theorem zBY: ∀{ks:List Str} {its:List Value},zT (ks.map V.str) its->StrsAre its ks
 | [],_,.nil=> .nil
 | k::ks,_,.cons r t=>by
  obtain ⟨u,e⟩:=r;subst e;exact .cons k u (zBY t)
def zNn(K:zUn):V->List V->Hp->VK->Prop:=fun x xs H Q=> ∃sep p ys,x= .str sep/\xs= [.ref p] /\SqL K H p (ys.map V.str)/\(ys.map (·.length)).sum+ys.length*sep.length<=16777216/\Q (.str (Txt.join sep ys)) H
theorem zOS:MtR X "str.join" (zNn X.K):=by
 intro pins s σ H x xs v us Q I rx rv h;obtain ⟨sep,p,ys,rfl,rfl,hq,hz,q⟩:=h;obtain ⟨t,rfl⟩:=rx;obtain ⟨u,rfl,ru⟩:=zAY rv;cases ru;obtain ⟨its,r,pl,_⟩:=I.list hq;exact join_list pl.isList (ys:=ys) (by simpa using zBY r) hz fun t' k=>⟨.str _,H,I.tok _,⟨_,rfl⟩,q⟩
theorem zEc: ∀(l:List (Str×Tok)),zT ((l.map (·.1)).map V.str) (strValues l)
 | [] => .nil
 |(x,t)::l=> .cons ⟨t,rfl⟩ (zEc l)
def zKX:V->List V->Hp->VK->Prop:=fun x xs H Q=> ∃z y,x= .str z/\xs= [.str y] /\(y.length==0)=false/\z.length+2<=sizeLine/\(Txt.split z y).length<=sizeLine/\ ∀l,H l=none->Q (.ref l) (upd H l (.lst ((Txt.split z y).map V.str)))
theorem zFz(I:Inv X pins σ H s){l:List (Str×Tok)}(e:l.map (·.1)=ys)(hz:ys.length<=sizeLine)(q: ∀l,H l=none->Q (.ref l) (upd H l (.lst (ys.map V.str)))):
  EP X pins σ Q (.ref s.heap.objs.size) {s with heap:=s.heap.push {cls:= .type "list",data:= .seq (strValues l).toArray},toks:=k}:=by
 have I2:=Inv.laid (h':=s.heap.push {cls:= .type "list",data:= .seq (strValues l).toArray}) (t':=k) (a:=s.heap.objs.size) (o:= .lst (ys.map V.str)) I (fun b o e=>zUA _ e) (zUC _)
  ⟨by simpa using hz,strValues l,0,by rw [<-e];exact zEc l,zUQ _ rfl⟩
 exact ⟨.ref s.heap.objs.size,_,I2,rfl,q _ (I.hok.fresh (zUC _))⟩
open PySem.Builtin PySem.Builtin.Str in
theorem zLq:MtR X "str.split" zKX:=by
 intro pins s σ H x xs v us Q I rx rv h;obtain ⟨z,y,rfl,rfl,hy,hsz,hln,q⟩:=h;obtain ⟨t,rfl⟩:=rx;obtain ⟨u,rfl,u',rfl⟩:=zAY rv;have hn:(partsBetween z (occurrences z y 0 z.length (z.length+1)) y.length).length<=sizeLine:=by
  have e1:=StrLaws.occ_length_le z y 0 z.length (z.length+1);rw [length_partsBetween];omega
 cases h1:(decide (z.length<y.length)|| decide (strKind z<strKind y))
 ·cases hf:(occurrences z y 0 z.length (z.length+1)).isEmpty
  ·refine call_meets F.slot_str_split (typeIs_str _ _ _) F.entry_str_split (F.args_str_split_2 _ _) (meets_str_split_sep z y t u' h1 hy hf (by omega) hn) ?_;show wants _ X.xe _ {s with toks:=_,heap:=s.heap.push {cls:= .type "list",data:= .seq (strsFrom s.toks (partsBetween z (occurrences z y 0 z.length (z.length+1)) y.length)).toArray}};rw [strsFrom_eq];exact zFz I ((numbered_texts _ _).trans ((if_neg (ne_true_of_eq_false h1)).trans (if_neg (ne_true_of_eq_false hf))).symm) hln q
  ·exact call_meets F.slot_str_split (typeIs_str _ _ _) F.entry_str_split (F.args_str_split_2 _ _) (meets_str_split_not_found z y t u' h1 hy hf)
    (zFz (l:= [(z,t)]) (k:=s.toks) I ((if_neg (ne_true_of_eq_false h1)).trans (if_pos hf)).symm hln q)
 ·exact call_meets F.slot_str_split (typeIs_str _ _ _) F.entry_str_split (F.args_str_split_2 _ _) (meets_str_split_cannot_occur z y t u' h1)
   (zFz (l:= [(z,t)]) (k:=s.toks) I (if_pos h1).symm hln q)
open PySem.Builtin PySem.Builtin.Str in
section
variable {K:zUn}{o e:Expr}{to te:TE}{apos cpos:Pos}
theorem zII(hK:X.K=K)(ho:QE X o to)(ha:QE X e te)(hb:attributeBase o "join" X.env (eval o X.env)=eval o X.env)(h2:yK e=true)(hl:(apos.endLine==cpos.line)=true):
  QE X (.Call (.Attribute o "join" apos) [e] [] cpos) (tBM K "str" (zNn K) to (zBy te zDK)):=by
 subst hK;exact ⟨zDJ PySem.F.plainAttrs_str PySem.F.slot_str_join PySem.F.type_str_join zOS ho.out (zy ha.out yf (za h2)) hb (by rw [za h2];rfl) hl (za h2) rfl⟩
theorem zOH(hK:X.K=K)(ho:QE X o to)(ha:QE X e te)(hb:attributeBase o "split" X.env (eval o X.env)=eval o X.env)(h2:yK e=true)(hl:(apos.endLine==cpos.line)=true):
  QE X (.Call (.Attribute o "split" apos) [e] [] cpos) (tBM K "str" zKX to (zBy te zDK)):=by
 subst hK;exact ⟨zDJ PySem.F.plainAttrs_str PySem.F.slot_str_split PySem.F.type_str_split zLq ho.out (zy ha.out yf (za h2)) hb (by rw [za h2];rfl) hl (za h2) rfl⟩
theorem zDO{lo hi:Option Expr}{tl th:TO}{pos p2:Pos}(hK:X.K=K)(he:QE X e te)(hl:QO X lo tl)(hu:QO X hi th):QE X (.Subscript e (.Slice lo hi none p2) pos) (tSl (zQe K) te tl th):=by
 subst hK;exact ⟨zEu zPD he.out hl.out hu.out⟩
end
end
section
variable {X:Cx}{pos:Pos}
end
section
variable {M:Model}{A:Around}{E:Value->Shared->Prop}{s:Shared}
end
theorem zDs{h h' B B':Heap}(k: ∀b o,B.get? b=none->h.get? b=some o->(∀vs,o.data≠ .fields vs)->h'.get? b=some o)(kb: ∀b,B.get? b=none->B'.get? b=none): ∀{l:List Env},h.FunFrames B l->h'.FunFrames B' l
 | [],_=>trivial
 | _::_,⟨hk,⟨L,o,hf,hn,ho,hd⟩,hr⟩=>⟨hk,⟨L,o,hf,kb L hn,k L o hn ho hd,hd⟩,zDs k kb hr⟩
def zTi(X:Cx)(E:XK)(e:Value)(s':Shared):Prop:=
 ∃(ea:Addr) (cls a0:Value) (H':Hp) (B:Heap) (fl:Value),e= .ref ea/\s'.os=X.s₀.os/\AllBare s'.gens/\B.StaysIn s'.heap/\B.get? ea=none/\s'.heap.FunFrames B X.stack/\s'.heap.TracedAtW B ea cls a0 fl/\
  HOk X.prog X.w H' B/\FlyU X.fs X.H₀ H' X.s₀.heap B s'.heap/\E cls none H'
def zEM(X:Cx)(E:St->XK):Prop:=X.ex= [] /\X.stack=X.env::X.outer/\X.env.frame=some X.env.locals/\ ∀(σ:St) (e:Value) (s':Shared),X.Ok->zTi X (E σ) e s'->X.xe e s'
section
variable {P:Program}{w:World}{K:zUn}{mg:Str->Option Value}{base:Heap}{N:List Str}{qual:Str}{scope:Scope}{f:Addr}{cd:Value}{A:Around}{outer:List Env}{s₀:Shared}{H₀:Hp}{E:XK}
end
section
variable {X:Cx}{scope:Scope}{cl:List (Str×Addr)}{C:Addr}{N:List Str}{s2:Shared}{H2:Hp}{fp:List Addr}{pins pn:List (Addr×Obj)}{σ σ':St}{H:Hp}{s s':Shared}{e acc:Value}{E:St->XK}{Q:Value->Shared->Prop}
theorem zKL(hp:zEM X E)(I2:Inv X pins σ H2 s2)(f2: ∀b∈fp,@LE.le Nat _ X.s₀.heap.objs.size b)(hC: @LE.le Nat _ s2.heap.objs.size C)(I:Inv (X.comp scope cl C N s2 H2 fp) pn σ' H s)(h:Fly X.prog X.w X.stack H s (E σ) e s'):
  notedBy (model X.prog X.w) X.A (compEnvC scope cl C X.env) (fun e s=>compPost (model X.prog X.w) X.A X.xe none Q acc C (.error e) s) e s':=by
 obtain ⟨hex,hst,hfr,hp⟩:=hp;obtain ⟨ea,cls,a0,H',B,rfl,hos,hb,hfl,hok,U,q⟩:=h;show wpAny _ X.A (noteFrame (.ref ea) X.env) _ _ s';have hfl':=hfl;rw [hst] at hfl';refine wpAny_looks_onW (by rw [I2.ok.frames,hst]) hfr hfl' fun h4 x4 u4=>?_;rw [<-hst] at x4;obtain ⟨m,hn,_⟩:=I.loc;obtain ⟨oC,es,ep,hoC,hdC,rC⟩:=hn;have hCfs:C∉yy X.stack:=fun z=>by
  rcases zUo.mp (I2.stkSub C z) with y | y
  ·have:=I2.lt;have y': @Eq Nat C X.env.locals:=y;have this': @LT.lt Nat _ X.env.locals s2.heap.objs.size:=this;omega
  ·obtain ⟨_,o,ho,_⟩:=I2.ok.funs.mem y;have a1: @LT.lt Nat _ C X.s₀.heap.objs.size:=zAO ho;have a2: @LE.le Nat _ X.s₀.heap.objs.size s2.heap.objs.size:=I2.sz;omega
 have hCH:H C=none:=I.free;have hCB:B.get? C=some oC:=U.keep C oC hoC hCH hCfs;obtain ⟨x41,x42,x43,oe,vs,T,oT,ts,he,hcls,hd,h1,hnT,hTe,hT,hdT,h3⟩:=x4;have neC: ∀b,B.get? b=none->b≠C:=fun b hb z=>by rw [z,hCB] at hb;cases hb
 have hC4:h4.get? C=some oC:=x41 C oC hCB;refine ⟨m,⟨oC,es,ep,hC4,hdC,rC⟩,fun h' sb cenv' _=>?_⟩;have kp: ∀b o,b≠C->h4.get? b=some o->h'.get? b=some o:=fun b o hb e=>(sb.2 b hb).trans e;have he':=kp ea oe (neC ea x42) he;have hT':=kp T oT (neC T hnT) hT;have hsz3:3<ts.size:=(Array.getElem?_eq_some_iff.mp h3).1;unfold PySem.passOn;refine zTz (wpAny_field he' hd h1 ?_);rw [if_neg (show¬((Value.ref T==Value.none)=true) from by simp)];unfold setFlight;refine zTz (zTz (wpAny_field he' hd h1 ?_));rw [if_pos (show (Value.ref T !=Value.none)=true from by simp)];refine wpAny_setField hT' hdT hsz3 (wpAny_throw ?_);have other: ∀b,b≠T->(h'.update T (Obj.mapFields (·.setIfInBounds 3 (cenv'.frame.elim Value.none fun f=>rawInt f)))).get? b=h'.get? b:=fun b hb=>zUe _ _ (Ne.symm hb);have noT: ∀b o,B.get? b=some o->b≠T:=fun b o hb z=>by rw [z,hnT] at hb;cases hb
 have frT: ∀b o,h4.get? b=some o->(∀vs,o.data≠ .fields vs)->b≠T:=fun b o hb hnf z=>by
  rw [z,hT] at hb;injection hb with hb;subst hb;exact hnf ts hdT
 have hH'C:H' C=none:=U.free C oC hoC hCH;have exn: ∀b,b∉X.ex:=fun b=>by rw [hex];simp
 have hlt: ∀b o,X.s₀.heap.get? b=some o->b∉fp/\b≠C:=fun b o e=>by
  have a1: @LT.lt Nat _ b X.s₀.heap.objs.size:=zAO e;have a2: @LE.le Nat _ X.s₀.heap.objs.size s2.heap.objs.size:=I2.sz;refine ⟨fun z=>?_,fun z=>?_⟩
  ·have:=f2 b z;omega
  ·have z': @Eq Nat b C:=z;omega
 have nst: ∀b o,X.s₀.heap.get? b=some o->b∉X.fs->b∉yy X.stack:=fun b o e hb z=>by
  rcases zUo.mp (I2.stkSub b z) with y | y
  ·exact zUG (zUH (zUI e) I2.ok.above) y
  ·exact hb y
 have st1: ∀b,b∈X.fs->b∈yy X.stack:=fun b hb=>by rw [hst];exact zDP hb
 refine hp σ _ _ I2.ok ⟨ea,cls,a0,H',PySem.W.hideAll B [C],_,rfl,?_,hb,fun b o hbo=>?_,?_,zDs (B:=B) (h:=h4) (fun b o hbn hbo hnf=>?_) (fun b hbn=>?_) x43,
  ⟨oe,vs,T,_,_,(other ea (Ne.symm hTe)).trans he',hcls,hd,h1,?_,hTe,zUf _ hT' (Obj.isFreed_of_fields (Obj.data_mapFields hdT _)),Obj.data_mapFields hdT _,by simp [hsz3];rfl⟩,?_,⟨fun b o e n hbf=>?_,fun b o e n hbf=>?_,fun b o e hbf=>?_,fun b o e n=>?_,fun b xs e=>?_,fun b o u e=>?_,fun b ps e=>?_⟩,q⟩
 ·exact hos.trans (I.os.trans I2.os)
 ·have hne:b≠C:=fun z=>by rw [z,PySem.W.hideAll_none [C] (by simp)] at hbo;cases hbo
  have hB:=zUm [C] hbo;rw [other b (noT b o hB)];exact kp b o hne (x41 b o hB)
 ·cases z:(PySem.W.hideAll B [C]).get? ea with
  | none=>rfl
  | some o=>have:=zUm [C] z;rw [x42] at this;cases this
 ·rw [other b (frT b o hbo hnf)];exact kp b o (neC b hbn) hbo
 ·cases z:(PySem.W.hideAll B [C]).get? b with
  | none=>rfl
  | some o=>have:=zUm [C] z;rw [hbn] at this;cases this
 ·cases z:(PySem.W.hideAll B [C]).get? T with
  | none=>rfl
  | some o=>have:=zUm [C] z;rw [hnT] at this;cases this
 ·exact fun a o e=>(hok a o e).stay (fun b u hbb e1=>zUc _ e1 fun hm=>by
   have z:b=C:=by simpa using hm
   rcases hbb with y | y
   ·rw [<-y,z,hH'C] at e;cases e
   ·rw [z,hH'C] at y;cases y) (fun _ q=>q) fun _ _ q=>q
 ·obtain ⟨l1,l2⟩:=hlt b o e;have e1:=I2.base.keep b o e n hbf (exn b);have n1:=I2.base.free b o e n (exn b);have e2:=I.base.keep b o e1 n1 (nst b o e hbf) l1;have n2:=I.base.free b o e1 n1 l1;exact zUc _ (U.keep b o e2 n2 (nst b o e hbf)) (by simpa using l2)
 ·obtain ⟨l1,l2⟩:=hlt b o e;obtain ⟨sl1,e1⟩:=I2.base.slot b o e n hbf (exn b);have n1:=I2.base.free b o e n (exn b);obtain ⟨sl2,e2⟩:=I.base.slot b _ e1 n1 (st1 b hbf) l1;have n2:=I.base.free b _ e1 n1 l1;obtain ⟨sl3,e3⟩:=U.slot b _ e2 n2 (st1 b hbf);obtain ⟨_,o',e3',hd'⟩:=hfl.2.2.1.mem (st1 b hbf);rw [e3] at e3';cases e3';obtain ⟨sl4,e4⟩:=u4 b _ e3 hd';refine ⟨sl4,?_⟩;rw [other b (frT b _ e4 hd')];exact kp b _ l2 e4
 ·obtain ⟨l1,l2⟩:=hlt b o e;obtain ⟨o1,e1⟩:=I2.base.there b o e (exn b);obtain ⟨o2,e2⟩:=I.base.there b o1 e1 l1;obtain ⟨o3,e3⟩:=U.inB b o2 e2 (nst b o e hbf);exact ⟨o3,zUc _ e3 (by simpa using l2)⟩
 ·obtain ⟨l1,l2⟩:=hlt b o e;obtain ⟨o1,e1⟩:=I2.base.there b o e (exn b);obtain ⟨o2,e2⟩:=I.base.there b o1 e1 l1;exact U.free b o2 e2 (I.base.free b o1 e1 (I2.base.free b o e n (exn b)) l1)
 ·exact U.tups b xs (I.base.tups b xs (I2.base.tups b xs e))
 ·exact U.frzs b o u (I.base.frzs b o u (I2.base.frzs b o u e))
 ·obtain ⟨m1,e1⟩:=I2.base.tbls b ps e;obtain ⟨m2,e2⟩:=I.base.tbls b _ e1;obtain ⟨m3,e3⟩:=U.tbls b _ e2;exact ⟨m1++(m2++m3),by rw [e3,Array.append_assoc,Array.append_assoc]⟩
end
abbrev Cx.compX(X:Cx)(scope:Scope)(cl:List (Str×Addr))(C:Addr)(N:List Str)(s₂:Shared)(H₂:Hp)(fp:List Addr)(xe:Value->Shared->Prop):Cx:={X.comp scope cl C N s₂ H₂ fp with xe:=xe}
section
variable {X:Cx}{scope:Scope}{cl:List (Str×Addr)}{C:Addr}{N:List Str}{s₂:Shared}{H₂:Hp}{fp:List Addr}{xe:Value->Shared->Prop}{pins:List (Addr×Obj)}{σ:St}{H:Hp}{s:Shared}
theorem Inv.compX(I:Inv (X.comp scope cl C N s₂ H₂ fp) pins σ H s):Inv (X.compX scope cl C N s₂ H₂ fp xe) pins σ H s:=
 ⟨⟨I.ok.mod,I.ok.kind,I.ok.glob,I.ok.blt,I.ok.above,I.ok.inj,I.ok.has,I.ok.cab,I.ok.hd,I.ok.frames,I.ok.stk,I.ok.exf,I.ok.bs,I.ok.bsz,I.ok.noex,I.ok.exfs,I.ok.funs,I.ok.frf⟩,I.os,I.bare,I.base,I.loc,I.cell,I.free,I.freeC,I.pin,I.hok,I.len⟩
theorem Inv.comp(I:Inv (X.compX scope cl C N s₂ H₂ fp xe) pins σ H s):Inv (X.comp scope cl C N s₂ H₂ fp) pins σ H s:=
 ⟨⟨I.ok.mod,I.ok.kind,I.ok.glob,I.ok.blt,I.ok.above,I.ok.inj,I.ok.has,I.ok.cab,I.ok.hd,I.ok.frames,I.ok.stk,I.ok.exf,I.ok.bs,I.ok.bsz,I.ok.noex,I.ok.exfs,I.ok.funs,I.ok.frf⟩,I.os,I.bare,I.base,I.loc,I.cell,I.free,I.freeC,I.pin,I.hok,I.len⟩
end
theorem zIV{R:Result->Shared->Prop}{E0:Value->Shared->Prop}(hE: ∀e s,E0 e s->notedBy (model P w) A env (fun e s=>R (.error e) s) e s)(J:Nat->Shared->Prop)
  (turn: ∀n s,J n s->wpAny (model P w) A (pyNext it) (fun r s1=>match r with
   | none=>R (.ok .next) s1
   | some v=>wpAny (model P w) A (letOwnedTupleGo target it v) (fun _ s1'=>wpAny (model P w) A (assign target env v) (fun _ s2=>wpAny (model P w) A (zCe ifs env) (fun ok s3=>
     if ok=true then wpAny (model P w) A (eval elt env) (fun x s4=>wpAny (model P w) A (call (.builtin "list.append") [acc,x]) (fun _ s5=> ∃m,m<n/\J m s5) (fun _ _=>False) s4) E0 s3
     else∃m,m<n/\J m s3) (fun _ _=>False) s2) (fun _ _=>False) s1') (fun _ _=>False) s1) (fun _ _=>False) s)
  (n:Nat) (h:J n s):codeAny (model P w) A (.compLoop (.ListComp elt [⟨target,iter,ifs,0⟩] scope pos) 0 it acc env) R s:=by
 refine codeAny_loop rfl J (fun n s hJ=>?_) n h;show wpAny _ A ((compTurn (.ListComp elt [⟨target,iter,ifs,0⟩] scope pos) 0 it acc env).onRaise _) _ _ s;refine wpAny_noted ?_;rw [compTurn_list];refine zTz (wpAny_standAt (zTz (zUS (yX (turn n s hJ)) (fun r s1 h1=>?_) fun _ _ z=>z)));cases r with
 | none=>exact zUE h1
 | some v=>
  refine zTz (zUS (yX h1) (fun _ s2 h3=>zTz (zUS (yX h3) (fun _ s3 h4=>zTz (zUS (yX h4) (fun ok s4 h5=>?_) fun _ _ z=>z)) fun _ _ z=>z)) fun _ _ z=>z);cases ok with
  | false=>exact zUE ⟨rfl,h5⟩
  | true=>exact zTz (zTz (zUS h5 (fun x s5 h6=>zTz (zUS (yX h6) (fun _ s6 h7=>zUE (zUE ⟨rfl,h7⟩)) fun _ _ z=>z)) hE))
def zPK(wi:TI)(g:TG)(tt:TT)(te:(St->XK)->TE)(n:Nat)(fr:List Nat)(E:St->XK):TE:=fun σ H Q=>zFU wi g tt (te fun _=>E σ) n fr σ H Q
def zOq(wi:TI)(g:TG)(tt:TT)(te:(St->XK)->TE)(n:Nat)(fr:List Nat)(E:St->XK):TE:=fun σ H Q=>zLV wi g tt (te fun _=>E σ) n fr σ H Q
theorem fr2{Pp:Str->Nat->Prop}(h:Pp y i)(h':Pp z k): ∀(j:Nat) (y':Str) (i':Nat),[y,z][j]?=some y'-> [i,k][j]?=some i'->Pp y' i':=by
 intro j y' i' h1 h2
 match j with
 | 0=>cases h1;cases h2;exact h
 | 1=>cases h1;cases h2;exact h'
 | j+2=>simp at h1
theorem zMo{X:Cx}{te:(St->XK)->TE}{E:St->XK}(hcm:X.calm=true)(hp:zEM X E)(hN:X.N.Nodup)(hi0:X.N[i0]?=some x)(hx0:Loc X.env.scope x)(hf0:X.fn x=true\/X.env.scope.names.lookup x=some .local)
  (hsw:swapsWith (.ListComp elt [⟨tg,iter,ifs,0⟩] scope pos) (some (.Name x pos')) spos.line X.env=pure true)
  (hi:PI X tg iter wi) (hclos:closureFor scope X.env=pure cl) (hcell: ∀y∈scope.names,y.2≠ .cell) (hkind:scope.kind= .function) (hnames: ∀y∈scope.names,y.2= .local->scope.names.lookup y.1=some .local)
  (hcl: ∀y a,cl.lookup y=some a->X.env.cells.lookup y=some a)
  (hlen:ys.length=fr.length) (hfr: ∀(j:Nat) y i,ys[j]?=some y->fr[j]?=some i->X.N[i]?=some y/\X.env.kindOf y=some .cell/\(relabel scope X.env).names.lookup y=some .cell/\ ∃a,cl.lookup y=some a/\X.env.cells.lookup y=some a)
  (hhas: ∀y,((relabel scope X.env).names.lookup y=some .cell\/(relabel scope X.env).names.lookup y=some .free)-> ∃a,cl.lookup y=some a)
  (hg: ∀C s₂ H₂ fp,PG (X.comp scope cl C (zs++ys) s₂ H₂ fp) tg g) (hc: ∀C s₂ H₂ fp,PTs (X.comp scope cl C (zs++ys) s₂ H₂ fp) ifs tt) (he: ∀C s₂ H₂ fp xe E',zAo (Fly X.prog X.w) (X.compX scope cl C (zs++ys) s₂ H₂ fp xe) E'->PE (X.compX scope cl C (zs++ys) s₂ H₂ fp xe) elt (te E')) (hs: ∀v,foldedSetIterable iter X.env v=pure v:=by intro _;rfl):
  PS X (.Assign [.Name x pos'] (.ListComp elt [⟨tg,iter,ifs,0⟩] scope pos) spos) (zEq (zPK wi g tt te zs.length fr E) (zBv i0)):=by
 intro pins s σ H Dn I h;change zFU wi g tt (te fun _=>E σ) zs.length fr σ H (fun v H1=>zBv i0 v σ H1 Dn.nx) at h;rw [exec_Assign_Name_used _ _ _ _ hsw];refine zTz (wpAny_standAt (zTz ?_));show wpAny _ X.A (do let _<-comprehension (.ListComp elt [⟨tg,iter,ifs,0⟩] scope pos) scope X.env _ (newList []) false (eval iter X.env) (some (assign (.Name x pos') X.env))) _ _ s;refine zTz (zUS (wpAny_comprehension_free (use:=some (assign (.Name x pos') X.env)) (Q:=fun _ s'=>SP X pins Dn .next s') rfl hs hclos hkind hnames (zW (hi pins s σ H _ I h) fun v s1 h1=>zW h1 fun itv s2 h2=>?_)) (fun _ s' hq=>zUE (zUE hq)) fun _ _ e=>e);obtain ⟨it,fp,tn,J,H2,e,I2,T,st2,f2,h2⟩:=h2;subst e;have hD:H2 s2.heap.objs.size=none:=I2.hok.fresh (zUC _);obtain ⟨W,⟨m0,w0⟩,turn⟩:=h2 s2.heap.objs.size hD;refine wpAny_newObj_type (wpAny_newFunctionEnv hcell (by intro y hy;simp at hy) (fun h₁ hns₁ hsb₁=>?_) hkind);dsimp only at hns₁ hsb₁⊢;generalize hH3:s2.heap.push {cls:= .type "list",dict:=none,data:= .seq ([] :List Value).toArray}=H3 at hns₁ hsb₁⊢;have hCs:H3.objs.size=s2.heap.objs.size+1:=by rw [<-hH3,Heap.size_push]
 have old: ∀b o,s2.heap.get? b=some o->h₁.get? b=some o:=fun b o e=>
  hsb₁.extBut b o (zUG (by have:=zAO e;omega)) (zUA _ (hH3▸zUA _ e))
 have hacc:h₁.get? s2.heap.objs.size=some {cls:= .type "list",dict:=none,data:= .seq ([] :List Value).toArray}:=
  hsb₁.extBut _ _ (zUG (by omega)) (zUA _ (hH3▸zUQ _ rfl))
 have fplt: ∀b∈fp,@LT.lt Nat _ b s2.heap.objs.size:=fun b hb=>by
  obtain ⟨o,e,_⟩:=T.obj _ _ st2 b hb;exact zAO e
 have okC:(X.comp scope cl H3.objs.size (zs++ys) s2 H2 fp).Ok:=by
  refine ⟨I2.ok.mod,hkind,I2.ok.glob,I2.ok.blt,?_,fun y z a h1 h2=>I2.ok.inj y z a (hcl y a h1) (hcl z a h2),fun y hy=>hhas y hy,fun y a z _=>(nomatch z),I2.ok.hd,I2.ok.frames,.inl rfl,fun b hb=>⟨?_,fun y a e z=>?_⟩,I2.bs,zUM I2.ok.bsz I2.sz,fun b o e hb=>?_,fun b hb z=>?_,I2.stack,I2.stkFree⟩
  ·show s2.heap.objs.size<=H3.objs.size;omega
  ·show b≠H3.objs.size;have:=fplt b hb;exact zUG (by omega)
  ·exact (f2 b hb).2.2.2.2.1 y a (hcl y a e) z
  ·rcases (f2 b hb).2.2.2.1 with z | z
   ·exact I2.ok.noex b o e z
   ·have z': @LE.le Nat _ X.s₀.heap.objs.size b:=z;have: @LT.lt Nat _ b X.base.objs.size:=zAO e;have:=I2.ok.bsz;omega
  ·rcases zUo.mp (I2.stkSub b z) with y | y
   ·exact (f2 b hb).2.1 y
   ·exact (f2 b hb).2.2.1 y
 have fpok: ∀{H':Hp},(∀b∈fp,H' b=none)-> ∀b∈fp,zBi (X.comp scope cl H3.objs.size (zs++ys) s2 H2 fp) [] H' b:=fun hn b hb=>
  ⟨hn b hb,(okC.exf b hb).1,okC.exfs b hb,.inl hb,(okC.exf b hb).2,fun p hp=>absurd hp (by simp)⟩
 have cellC: ∀y a,cl.lookup y=some a-> ∃v,s2.heap.IsCell a v:=fun y a e=>I2.cell y a (hcl y a e);have zBB:Inv (X.comp scope cl H3.objs.size (zs++ys) s2 H2 fp) [] (List.replicate zs.length none++yL fr σ) (upd H2 s2.heap.objs.size (.lst [])) {s2 with heap:=h₁,toks:=s2.toks+([] :List (Str×Value)).length}:=by
  refine ⟨okC,rfl,I2.bare,Un.laid old (zUC _) hD,⟨_,hns₁,fun j y v e1 e2 e3=>?_⟩,fun y a e=>?_,?_,fun y a e=>?_,fun p hp=>absurd hp (by simp),I2.hok.laid old (zUC _) ⟨zUN _,[],_,.nil,hacc⟩,?_⟩
  ·by_cases hj:j<zs.length
   ·rw [List.getElem?_append_left (by simpa using hj),List.getElem?_replicate] at e2;rw [if_pos hj] at e2;cases e2
   ·obtain ⟨j,rfl⟩: ∃k,j=zs.length+k:=⟨j - zs.length,by omega⟩;have e1':ys[j]?=some y:=by
     have z:=e1;simp only [Cx.comp] at z;rw [List.getElem?_append_right (by omega)] at z;simpa using z
    have e2':(yL fr σ)[j]?=some (some v):=by
     rw [List.getElem?_append_right (by simp)] at e2;simpa using e2
    unfold yL at e2';rw [zUD] at e2';cases q:fr[j]? with
    | none=>rw [q] at e2';cases e2'
    | some i=>
     rw [q] at e2';have e4:(σ[i]?).getD none=some v:=Option.some.inj e2';have e5:σ[i]?=some (some v):=by
      cases q2:σ[i]? with
      | none=>rw [q2] at e4;cases e4
      | some z=>rw [q2] at e4;exact congrArg some e4
     obtain ⟨hN,hk,hl,a,ha,ha'⟩:=hfr j y i e1' q;obtain ⟨m,_,hl2⟩:=I2.loc;obtain ⟨u,r,l⟩:=hl2 i y v hN e5 (.inr (.inl hk));refine ⟨u,r,.inr ⟨.inl hl,a,ha,?_⟩⟩;rcases l with ⟨k,_⟩|⟨_,a2,ea,z⟩
     ·rw [hk] at k;cases k
     ·rw [ha'] at ea;cases ea;obtain ⟨o,ho,hd⟩:=z;exact ⟨o,old _ _ ho,hd⟩
  ·obtain ⟨v,o,ho,hd⟩:=cellC y a e;exact ⟨v,o,old _ _ ho,hd⟩
  ·show upd H2 s2.heap.objs.size (.lst []) H3.objs.size=none;rw [zN (by first | exact zUG (by omega)| exact zUg (by omega))];exact I2.hok.fresh (by omega)
  ·obtain ⟨v,o,ho,hd⟩:=cellC y a e;have:=zAO ho;rw [zN (by first | exact zUG (by omega)| exact zUg (by omega))];exact I2.freeC y a (hcl y a e)
  ·show (List.replicate zs.length none++yL fr σ).length=(zs++ys).length;unfold yL;simp [hlen]
 have loop: ∀s₃:Shared,s₃={s2 with heap:=h₁,toks:=s2.toks+([] :List (Str×Value)).length}->
   codeAny (model X.prog X.w) X.A (.compLoop (.ListComp elt [⟨tg,iter,ifs,0⟩] scope pos) 0 (.ref it) (.ref s2.heap.objs.size) (compEnvC scope cl H3.objs.size X.env)) (compPost (model X.prog X.w) X.A X.xe (some (assign (.Name x pos') X.env)) (fun _ s'=>SP X pins Dn .next s') (.ref s2.heap.objs.size) H3.objs.size) s₃:=by
  rintro s₃ rfl;have flown: ∀e s',(∃pn σ' Hx sx,Inv (X.comp scope cl H3.objs.size (zs++ys) s2 H2 fp) pn σ' Hx sx/\Fly X.prog X.w X.stack Hx sx (E σ) e s')->notedBy (model X.prog X.w) X.A (compEnvC scope cl H3.objs.size X.env) (fun e s=>compPost (model X.prog X.w) X.A X.xe (some (assign (.Name x pos') X.env)) (fun _ s'=>SP X pins Dn .next s') (.ref s2.heap.objs.size) H3.objs.size (.error e) s) e s':=by
   rintro e s' ⟨pn,σ',Hx,sx,Ix,hx⟩;refine zKL (Q:=fun _ s'=>SP X pins Dn .next s') (acc:= .ref s2.heap.objs.size) hp I2 (fun b hb=>?_) (by omega) Ix hx;rcases (f2 b hb).2.2.2.1 with z | z
   ·rw [hp.1] at z;cases z
   ·exact z
  refine zIV (E0:=fun e s'=> ∃pn σ' Hx sx,Inv (X.comp scope cl H3.objs.size (zs++ys) s2 H2 fp) pn σ' Hx sx/\Fly X.prog X.w X.stack Hx sx (E σ) e s') flown (fun n s'=> ∃i pre ys' H',pre.length=zs.length/\Inv (X.comp scope cl H3.objs.size (zs++ys) s2 H2 fp) [] (pre++yL fr σ) H' s'/\tn i s'.heap/\(∀b∈fp,H' b=none)/\W i n ys' H') ?_ m0
   ⟨0,List.replicate zs.length none,[],_,by simp,zBB,T.keep _ _ _ st2 fun b hb o e=>old b o e,fun b hb=>by
    have:=fplt b hb;rw [zN (by first | exact zUG (by omega)| exact zUg (by omega))];exact (f2 b hb).1,w0⟩
  rintro n s3 ⟨i,pre,ys3,H',hpl,I3,st3,fr3,w3⟩;obtain ⟨hl3,alt⟩:=turn i n ys3 H' w3;rcases alt with ⟨stop,qn⟩|⟨go,hz,N,hN,step⟩
  ·refine zUS (T.done (X.comp scope cl H3.objs.size (zs++ys) s2 H2 fp) rfl rfl rfl hcm i [] s3 _ H' (fun _ _=>False) I3 (fpok fr3) st3 stop) (fun r s4 h4=>?_) fun _ _ z=>z.elim;obtain ⟨hr,I4⟩:=h4;subst hr;obtain ⟨m4,hn4,_⟩:=id I4.loc;have back: ∀h'',Heap.SameBut H3.objs.size s4.heap h''->Inv X pins σ H' {s4 with heap:=h''}:=by
    intro h'' hs'';have hb: ∀b o,b≠H3.objs.size->s4.heap.get? b=some o->h''.get? b=some o:=fun b o hb e=>(hs''.2 b hb).trans e;refine I2.call' (s':={s4 with heap:=h''}) (ch:=fp) I4.os ⟨fun b o e n hb' hx'=>?_,fun b o e n hb' hx'=>?_,fun b o e n hx'=>I4.base.free b o e n hx',fun b o e hx'=>?_,I4.base.tups,I4.base.frzs,I4.base.tbls⟩ (fun b u e=>?_) I4.bare fun b hb'=>⟨(f2 b hb').2.2.2.1,(f2 b hb').2.1,(f2 b hb').2.2.2.2.1,(f2 b hb').2.2.2.2.2⟩
    ·exact hb b o (zUG (by have:=zAO e;omega)) (I4.base.keep b o e n hb' hx')
    ·obtain ⟨sl,q⟩:=I4.base.slot b o e n hb' hx';exact ⟨sl,hb b _ (zUG (by have:=zAO e;omega)) q⟩
    ·obtain ⟨o',q⟩:=I4.base.there b o e hx';exact ⟨o',hb b _ (zUG (by have:=zAO e;omega)) q⟩
    ·refine (I4.hok b u e).stay (fun c' w' hc' q=>hb c' w' ?_ q) (fun _ q=>q) fun _ _ q=>q;intro z;have fz:H' H3.objs.size=none:=I4.free;rcases hc' with y | y
     ·rw [<-y,z,fz] at e;cases e
     ·rw [z,fz] at y;cases y
   have I5:Inv X pins σ H' s4:=back s4.heap (Heap.SameBut.refl _ _);have hCs2: @LE.le Nat _ s2.heap.objs.size H3.objs.size:=by omega
   have fz:H' H3.objs.size=none:=I4.free;have cneL:H3.objs.size≠X.env.locals:=fun z=>by
    have z1: @LT.lt Nat _ X.env.locals s2.heap.objs.size:=I2.lt;have z': @Eq Nat H3.objs.size X.env.locals:=z;omega
   have cneC: ∀y c,X.env.cells.lookup y=some c->c≠H3.objs.size:=fun y c e z=>by
    obtain ⟨v,o,ho,_⟩:=I2.cell y c e;have z1:=zAO ho;have z': @Eq Nat c H3.objs.size:=z;omega
   show wpAny _ X.A (assign (.Name x pos') X.env (.ref s2.heap.objs.size)) _ _ s4;refine wpAny_assign_Name (zGS I5 hN hi0 hx0 (v:= .ref s2.heap.objs.size) rfl (fun s5 I6 ⟨a,sba,ha⟩=>?_) hf0);have nea:H3.objs.size≠a:=by
    rcases ha with z | z
    ·rw [z];exact cneL
    ·exact fun y=>cneC x a z y.symm
   obtain ⟨oC,es,ep,hoC,rC⟩:=hn4;refine ⟨m4,⟨oC,es,ep,(sba.2 _ nea).trans hoC,rC⟩,fun h'' hs''=>?_⟩;have hb: ∀b o,b≠H3.objs.size->s5.heap.get? b=some o->h''.get? b=some o:=fun b o hb e=>(hs''.2 b hb).trans e;have neb: ∀b:Addr,b∉ [H3.objs.size] ->b≠H3.objs.size:=fun b hb z=>hb (by simp [z]);have I7:Inv X pins (σ.set i0 (some (.ref s2.heap.objs.size))) H' {s5 with heap:=h''}:=by
    refine I6.call' (s':={s5 with heap:=h''}) (ch:= [H3.objs.size]) rfl ⟨fun b o e n hb' hx'=>hb b o (neb b hx') e,fun b o e n hb' hx'=>⟨o.slots,hb b o (neb b hx') e⟩,fun b o e n hx'=>n,fun b o e hx'=>⟨o,hb b o (neb b hx') e⟩,fun b xs e=>e,fun b o u e=>e,fun b ps e=>⟨#[],by simpa using e⟩⟩ (fun b u e=>?_) I6.bare fun b hb'=>?_
    ·refine (I6.hok b u e).stay (fun c' w' hc' q=>hb c' w' ?_ q) (fun _ q=>q) fun _ _ q=>q;intro z;rcases hc' with y | y
     ·rw [<-y,z,fz] at e;cases e
     ·rw [z,fz] at y;cases y
    ·have eb:b=H3.objs.size:=by simpa using hb'
     subst eb;refine ⟨.inr ?_,cneL,cneC,fun p hp z=>?_⟩
     ·have z1: @LE.le Nat _ X.s₀.heap.objs.size s2.heap.objs.size:=I2.sz;show @LE.le Nat _ X.s₀.heap.objs.size H3.objs.size;omega
     ·have z1:=zAO (I2.pin p hp).1;have z': @Eq Nat p.1 H3.objs.size:=z;omega
   exact ⟨_,H',I7,qn⟩
  ·refine zUS (T.item (X.comp scope cl H3.objs.size (zs++ys) s2 H2 fp) rfl rfl rfl hcm i [] s3 _ H' (fun _ _=>False) I3 (fpok fr3) st3 go) (fun r s4 h4=>?_) fun _ _ z=>z.elim;obtain ⟨u,hr,h4⟩:=h4;subst hr;dsimp only;have asg:wpAny (model X.prog X.w) X.A (letOwnedTupleGo tg (.ref it) u) (fun _ s5=>wpAny (model X.prog X.w) X.A (assign tg (compEnvC scope cl H3.objs.size X.env) u)
     (fun _ s6=> ∃σ5 H6,(∃pn5,Inv (X.comp scope cl H3.objs.size (zs++ys) s2 H2 fp) pn5 σ5 H6 s6/\(∀b∈fp,∃o,(b,o)∈pn5))/\((∃pre2:St,pre2.length=zs.length/\σ5=pre2++yL fr σ)/\
      tt σ5 H6 fun b H3'=>if b=true then te (fun _=>E σ) σ5 H3' fun y H4=>H4 s2.heap.objs.size=some (.lst ys3)/\N (ys3++ [y]) (upd H4 s2.heap.objs.size (.lst (ys3++ [y]))) else N ys3 H3')/\tn (i+1) s6.heap/\ ∀b∈fp,H6 b=none) (fun _ _=>False) s5) (fun _ _=>False) s4:=by
    refine (zW h4 fun _ s5 ⟨x5,H5,I5,r5,y5,st5,fr5⟩=>?_);have I5':=I5.pinned (fpok fr5) (T.obj _ _ st5);refine zUS (hg _ _ _ _ _ s5 _ H5 x5 u _ I5' r5 (step x5 H5 y5 pre hpl)) (fun _ s6 ⟨σ6,H6,I6,q6⟩=>?_) fun _ _ z=>z.elim;exact ⟨σ6,H6,⟨_,I6,fun b hb=>by
     obtain ⟨o,e,_⟩:=T.obj _ _ st5 b hb;exact ⟨o,zUO _ (zAW hb e)⟩⟩,q6,T.keep _ _ _ st5 fun b hb o e=>(I6.pin (b,o) (zUO _ (zUO _ (zAW hb e)))).1,fun b hb=>by
     obtain ⟨o,e,_⟩:=T.obj _ _ st5 b hb;exact (I6.pin (b,o) (zUO _ (zUO _ (zAW hb e)))).2.1⟩
   refine zUS asg (fun _ s5 h5=>zUS h5 (fun _ s6 h6=>?_) fun _ _ z=>z.elim) fun _ _ z=>z.elim;obtain ⟨σ5,H5,⟨pn5,I6,hp6⟩,⟨⟨pre2,hl2,rfl⟩,q6⟩,st6,fr5⟩:=h6;have keepTurn: ∀{σ7:St} {H7:Hp} {s7:Shared},Inv (X.comp scope cl H3.objs.size (zs++ys) s2 H2 fp) pn5 σ7 H7 s7->tn (i+1) s7.heap/\ ∀b∈fp,H7 b=none:=fun {σ7 H7 s7} I7=>by
    refine ⟨T.keep _ _ _ st6 fun b hb o e=>?_,fun b hb=>?_⟩
    ·obtain ⟨o',hm⟩:=hp6 b hb;have a1:=(I6.pin (b,o') (zUO _ hm)).1;rw [e] at a1;cases a1;exact (I7.pin (b,_) (zUO _ hm)).1
    ·obtain ⟨o',hm⟩:=hp6 b hb;exact (I7.pin (b,o') (zUO _ hm)).2.1
   have drop: ∀{σ7:St} {H7:Hp} {s7:Shared},Inv (X.comp scope cl H3.objs.size (zs++ys) s2 H2 fp) pn5 σ7 H7 s7->Inv (X.comp scope cl H3.objs.size (zs++ys) s2 H2 fp) [] σ7 H7 s7:=fun I7=>I7.pins_of fun p hp=>absurd hp (by simp);have tests:wpAny (model X.prog X.w) X.A (zCe ifs (compEnvC scope cl H3.objs.size X.env)) (fun b s7=> ∃H7,Inv (X.comp scope cl H3.objs.size (zs++ys) s2 H2 fp) pn5 (pre2++yL fr σ) H7 s7/\
     (if b=true then te (fun _=>E σ) (pre2++yL fr σ) H7 fun y H4=>H4 s2.heap.objs.size=some (.lst ys3)/\N (ys3++ [y]) (upd H4 s2.heap.objs.size (.lst (ys3++ [y]))) else N ys3 H7)) (fun _ _=>False) s6:=by
    rcases hc H3.objs.size s2 H2 fp with ⟨rfl,rfl⟩|⟨c,rfl,hc2⟩
    ·exact wpAny_tests_nil ⟨H5,I6,q6⟩
    ·exact wpAny_tests_one (zUS (hc2 pn5 s6 _ H5 _ I6 q6) (fun b s7 ⟨H7,I7,q7⟩=>⟨H7,I7,q7⟩) fun _ _ z=>z.elim)
   refine zUS tests (fun b s7 h7=>?_) fun _ _ z=>z.elim;obtain ⟨H7,I7,q7⟩:=h7;cases b with
   | false=>
    obtain ⟨m',hm,w'⟩:=hN _ _ q7;obtain ⟨k1,k2⟩:=keepTurn I7;exact ⟨m',hm,i+1,pre2,ys3,H7,hl2,drop I7,k1,k2,w'⟩
   | true=>
    refine zUS (he _ _ _ _ (fun e s'=> ∃pn σ' Hx sx,Inv (X.comp scope cl H3.objs.size (zs++ys) s2 H2 fp) pn σ' Hx sx/\Fly X.prog X.w X.stack Hx sx (E σ) e s') (fun _=>E σ) (fun pn σ' Hx sx e s' Ix hx=>⟨pn,σ',Hx,sx,Ix.comp,hx⟩) pn5 s7 _ H7 _ I7.compX q7) (fun y s8 h8=>?_) fun _ _ z=>z;obtain ⟨yv,H8,I8',r8,hl8,n8⟩:=h8;have I8:=I8'.comp;refine zUS (zDj (X:=X.comp scope cl H3.objs.size (zs++ys) s2 H2 fp) pn5 s8 _ H8 (.ref s2.heap.objs.size) [yv] (.ref s2.heap.objs.size) [y] (fun z H9=>N (ys3++ [yv]) H9) I8 rfl (.cons r8 .nil) ⟨s2.heap.objs.size,ys3,yv,rfl,rfl,hl8,hz,n8⟩) (fun _ s9 h9=>?_) fun _ _ z=>z.elim;obtain ⟨_,H9,I9,_,n9⟩:=h9;obtain ⟨m',hm,w'⟩:=hN _ _ n9;obtain ⟨k1,k2⟩:=keepTurn I9;exact ⟨m',hm,i+1,pre2,ys3++ [yv],H9,hl2,drop I9,k1,k2,w'⟩
 exact codeAny_compStart_list (loop _ rfl) (T.self X.A 0 _ _ _ (T.keep _ _ _ st2 fun b hb o e=>old b o e) (loop _ rfl))
theorem zCz{X:Cx}{E:St->XK}(hp:zEM X E)(i0:Nat)(hN:X.N.Nodup)(hi0:X.N[i0]?=some x)(hx0:Loc X.env.scope x)(hf0:X.fn x=true\/X.env.scope.names.lookup x=some .local)
  (zs:List Str) {pos:Pos} {scope:Scope} {cl:List (Str×Addr)} (ys:List Str) (fr:List Nat) {wi:TI} {g:TG} {tt:TT} {te:(St->XK)->TE} (hcm:X.calm=true)
  (hi:QI X tg iter wi) (hclos:closureFor scope X.env=pure cl) (hcell: ∀y∈scope.names,y.2≠ .cell) (hkind:scope.kind= .function) (hnames: ∀y∈scope.names,y.2= .local->scope.names.lookup y.1=some .local)
  (hcl: ∀y a,cl.lookup y=some a->X.env.cells.lookup y=some a)
  (hlen:ys.length=fr.length) (hfr: ∀(j:Nat) y i,ys[j]?=some y->fr[j]?=some i->X.N[i]?=some y/\X.env.kindOf y=some .cell/\(relabel scope X.env).names.lookup y=some .cell/\ ∃a,cl.lookup y=some a/\X.env.cells.lookup y=some a)
  (hhas: ∀y,((relabel scope X.env).names.lookup y=some .cell\/(relabel scope X.env).names.lookup y=some .free)-> ∃a,cl.lookup y=some a)
  (hg: ∀C s₂ H₂ fp,QG (X.comp scope cl C (zs++ys) s₂ H₂ fp) tg g) (hc: ∀C s₂ H₂ fp,QTs (X.comp scope cl C (zs++ys) s₂ H₂ fp) ifs tt) (he: ∀C s₂ H₂ fp xe E',zAo (Fly X.prog X.w) (X.compX scope cl C (zs++ys) s₂ H₂ fp xe) E'->QE (X.compX scope cl C (zs++ys) s₂ H₂ fp xe) elt (te E')) (hs: ∀v,foldedSetIterable iter X.env v=pure v)
  (hsw:swapsWith (.ListComp elt [⟨tg,iter,ifs,0⟩] scope pos) (some (.Name x pos')) spos.line X.env=pure true):
  QS X (.Assign [.Name x pos'] (.ListComp elt [⟨tg,iter,ifs,0⟩] scope pos) spos) (zEq (zOq wi g tt te zs.length fr E) (zBv i0)):=
 ⟨fun pins s σ H D I h=>zMo hcm hp hN hi0 hx0 hf0 hsw (zKF hi).out hclos hcell hkind hnames hcl hlen hfr hhas (fun C s H f=>(hg C s H f).out) (fun C s H f=>(hc C s H f).out) (fun C s H f xe E' hx=>(he C s H f xe E' hx).out) hs pins s σ H D I ⟨_,h,fun J H1 h1 D' hD=>by
  obtain ⟨len,Pv,a0,a1,a2,a3,a4⟩:=(h1 D' hD).ex;exact zHk (Q:=fun v H1=>zBv i0 v σ H1 D.nx) D' len Pv a0 a1 a2 a3 a4⟩⟩
section
variable {cells:List (Str×Addr)}
theorem zw(h:cells.lookup k=some a)(t: ∀y b,l.lookup y=some b->cells.lookup y=some b): ∀y b,((k,a)::l).lookup y=some b->cells.lookup y=some b:=by
 intro y b e;rw [List.lookup_cons] at e;cases q:(y==k) with
 | true=>
  rw [q] at e;have:y=k:=by simpa using q
  subst this;rw [h];exact e
 | false=>rw [q] at e;exact t y b e
theorem lk0: ∀(y:Str) (b:Addr),([] :List (Str×Addr)).lookup y=some b->cells.lookup y=some b:=fun _ _ h=>nomatch h
end
section
variable {X:Cx}{P:Program}{w:World}
end
end L2
namespace PySem
open PySem.Spec PyProof PyProof.Rows
theorem zFX(l:Addr)(items:Array Value)(n:Nat)(b:Addr)(items2:Array Value)(n2:Nat)(d2:Option Addr)(sl2:Array (Option Value))(hs0: ¬(!items.isEmpty&&Builtin.List.listTooLong (items.size+items2.size))=true)(hs1:items.size<=sizeLine)(hs2:items.size+items2.size<=sizeLine+1):
  Meets (Builtin.«list.extend» ⟨[.ref l,.ref b],[]⟩) (fun _ R s=>s.heap.get? l=some {cls:= .type "list",dict:=none,data:= .seq items n,slots:= #[]}/\s.heap.get? b=some {cls:= .type "tuple",dict:=d2,data:= .seq items2 n2,slots:=sl2}/\R (.ok (.ret Value.none)) {s with heap:=s.heap.update l (Obj.mapSeq fun x=>x++items2),toks:=s.toks}):=
 .of_wp fun prog w A R s h=>by
  obtain ⟨hp,g,d,tk,os⟩:=s;obtain ⟨hl,hb,h⟩:=h;have f1:=AutoSeq1.idx_int;have f2:=AutoSeq1.sub_tuple_tuple;have f3:=AutoSeq1.sub_list_list;have f4:=AutoSeq1.sub_tuple_list;have f5:=AutoSeq1.sub_list_tuple;have hz':(items++items2).size<=sizeLine+1:=by rw [Array.size_append];exact hs2
  wp_walk using (wpAny_updateSeq hl rfl (hz:=hs1) (_hz':=hz')),wpAny_loadPart' hl,wpAny_loadPart' hb;exact ⟨_,rfl,h⟩
end PySem
namespace L2
open PySem PySem.Spec PyProof.Rows
section
variable {X:Cx}{K:zUn}{o e:Expr}{to te:TE}{apos cpos:Pos}
theorem zQt(hK:X.K=K)(ho:QE X o to)(hb:attributeBase o "pop" X.env (eval o X.env)=eval o X.env)(hl:(apos.endLine==cpos.line)=true):QE X (.Call (.Attribute o "pop" apos) [] [] cpos) (zRZ K "list" zPO to):=by
 subst hK;exact ⟨zRO PySem.F.plainAttrs_list PySem.F.slot_list_pop PySem.F.type_list_pop zPp ho.out hb hl⟩
def zHN:V->List V->Hp->VK->Prop:=fun x vs H Q=> ∃l b xs zs,x= .ref l/\vs= [.ref b] /\H l=some (.lst xs)/\(H b=some (.lst zs)\/H b=some (.tup zs))/\xs.length+zs.length<=sizeLine/\Q .non (upd H l (.lst (xs++zs)))
theorem zJa:MtM X "list.extend" zHN:=by
 intro pins s σ H x vs v us Q I rx rv h;obtain ⟨l,b,xs,zs,rfl,rfl,hH,hB | hB,hz,q⟩:=h
 ·exact zLc pins s σ H _ _ v us Q I rx rv ⟨l,b,xs,zs,rfl,rfl,hH,hB,hz,q⟩
 ·cases rx;obtain ⟨u,rfl,ru⟩:=rv.one;cases ru;obtain ⟨z,its,n,r,hl,e⟩:=I.lstM hH;obtain ⟨z2,its2,r2,o2,e2,c2,⟨n2,d2⟩,_⟩:=(show zo X.prog X.w H s.heap b (.tup zs) from I.hok b _ hB);have hl2:zs.length=its2.length:=zT.length r2;obtain ⟨cls,dct,dta,sl⟩:=o2;have c2':cls= .type "tuple" :=c2;have d2':dta= .seq its2.toArray n2:=d2;subst c2' d2';have hsz:its.toArray.size+its2.toArray.size<=sizeLine:=by rw [zUR,zUR];omega
  have hlong: ¬(!its.toArray.isEmpty&&Builtin.List.listTooLong (its.toArray.size+its2.toArray.size))=true:=by
   rw [zHY hsz,Bool.and_false];exact zUL
  refine call_meets F.slot_list_extend ⟨_,e,rfl⟩ F.entry_list_extend (F.args_list_extend_2 _ _)
   (zFX l its.toArray n b its2.toArray n2 dct sl hlong (by rw [zUR];omega) (by omega)) ⟨e,e2,?_⟩
  refine ⟨.non,_,I.lset (its':=its++its2) hH e (by simp) (r.append r2) ?_,rfl,q⟩;rw [zUY];omega
theorem zMW(hK:X.K=K)(ho:QE X o to)(ha:QE X e te)(hb:attributeBase o "extend" X.env (eval o X.env)=eval o X.env)(h2:yK e=true)(hl:(apos.endLine==cpos.line)=true):
  QE X (.Call (.Attribute o "extend" apos) [e] [] cpos) (tBM K "list" zHN to (zBy te zDK)):=by
 subst hK;exact ⟨zDJ PySem.F.plainAttrs_list PySem.F.slot_list_extend PySem.F.type_list_extend zJa ho.out (zy ha.out yf (za h2)) hb (by rw [za h2];rfl) hl (za h2) rfl⟩
end
end L2
namespace Fr
open PySem PySem.Spec PyProof.Rows L2
theorem zCK{P:Program}{w:World}{K:zUn}{mg:Str->Option Value}{base:Heap}{CX:CXT}{N:List Str}{qual:Str}{scope:Scope}{f:Addr}{cd:Value}{A:Around}{outer:List Env}{s₀:Shared}{H₀:Hp}{E:XK}:
  zEM (zBk CX P w K mg base N qual scope f cd A outer s₀ H₀ E).nox (fun _ _ _ _=>False):=
 ⟨rfl,rfl,rfl,fun σ e s' ok h=>by obtain ⟨_,_,_,_,_,_,_,_,_,_,_,_,_,_,_,q⟩:=h;exact q.elim⟩
end Fr
namespace L2
open PySem PySem.Spec PyProof.Rows
def zDx(f:Obj->Obj):Prop:= ∀o:Obj,o.isFreed=false->(f o).dict=o.dict/\(f o).isFreed=false
def KD(h h':Heap):Prop:= ∀a o,h.get? a=some o-> ∃o',h'.get? a=some o'/\o'.dict=o.dict
theorem KD.refl(h:Heap):KD h h:=fun _ o e=>⟨o,e,rfl⟩
theorem KD.trans(x:KD h1 h2)(y:KD h2 h3):KD h1 h3:=fun a o e=>by
 obtain ⟨o1,e1,d1⟩:=x a o e;obtain ⟨o2,e2,d2⟩:=y a o1 e1;exact ⟨o2,e2,d2.trans d1⟩
theorem KD.update{f:Obj->Obj}(k:zDx f):KD h (h.update a f):=fun b o e=>by
 by_cases z:a=b
 ·subst z;have nf:o.isFreed=false:=(Heap.get?_some_iff.mp e).2;obtain ⟨d,n⟩:=k o nf;exact ⟨f o,zUf f e n,d⟩
 ·exact ⟨o,(zUe h f z).trans e,rfl⟩
theorem KD.push:KD h (h.push o):=fun b u e=>⟨u,zUA _ e,rfl⟩
def DK{α:Type}:Sem α->Prop
 | .pure _=>True
 | .raise _=>True
 | .unsupported _=>True
 | .finish _=>True
 | .rule _ k=>DK (k ())
 | .at _ k=>DK (k ())
 | .load _ _ k=> ∀o,DK (k o)
 | .update _ _ f k=>zDx f/\DK (k ())
 | .loadIfAlive _ k=> ∀o,DK (k o)
 | .point _ k=>DK (k ())
 | .alloc _ k=> ∀a,DK (k a)
 | .fresh k=> ∀t,DK (k t)
 | .ask k=> ∀x,DK (k x)
 | .handled _ k=> ∀x,DK (k x)
 | .stack k=> ∀x,DK (k x)
 | .thread k=> ∀x,DK (k x)
 | _=>False
theorem zRj{α:Type}{M:Model}{Γ:PySem.Ctx}(t:Sem α):DK t-> ∀(Q:α->Pos->Shared->Prop) (E:Value->Pos->Shared->Prop) (p:Pos) (s:Shared),KD h0 s.heap->Sem.wp M Γ t Q E p s->
  Sem.wp M Γ t (fun a p' s'=>Q a p' s'/\KD h0 s'.heap) (fun e p' s'=>E e p' s'/\KD h0 s'.heap) p s:=by
 induction t with
 | pure a=>intro _ Q E p s k h;exact ⟨h,k⟩
 | raise e=>intro _ Q E p s k h;exact ⟨h,k⟩
 | unsupported w=>intro _ Q E p s k h;exact h
 | finish e=>intro _ Q E p s k h;exact h
 | rule tag k ih=>intro d Q E p s kd h;exact ih () d Q E p s kd h
 | «at» p' k ih=>intro d Q E p s kd h;exact ih () d Q E p' s kd h
 | load a part k ih=>
  intro d Q E p s kd h;obtain ⟨o,e,h⟩:=h;exact ⟨o,e,ih o (d o) Q E p s kd h⟩
 | update a part f k ih=>
  intro d Q E p s kd h;exact ⟨h.1,ih () d.2 Q E p _ (kd.trans (KD.update d.1)) h.2⟩
 | loadIfAlive a k ih=>intro d Q E p s kd h;exact ih _ (d _) Q E p s kd h
 | point w k ih=>intro d Q E p s kd h;exact ih () d Q E p s kd h
 | alloc o k ih=>intro d Q E p s kd h;exact ih _ (d _) Q E p _ (kd.trans KD.push) h
 | fresh k ih=>intro d Q E p s kd h;exact ih _ (d _) Q E p _ kd h
 | ask k ih=>intro d Q E p s kd h;exact ih _ (d _) Q E p s kd h
 | handled own k ih=>intro d Q E p s kd h;exact ih _ (d _) Q E p s kd h
 | stack k ih=>intro d Q E p s kd h;exact ih _ (d _) Q E p s kd h
 | thread k ih=>intro d Q E p s kd h;exact ih _ (d _) Q E p s kd h
 | _=>intro d;exact d.elim
theorem zCW{α:Type}{M:Model}{t:Sem α}{Q:α->Shared->Prop}{E:Value->Shared->Prop}(d:DK t)(h:wpAny M A t Q E s):wpAny M A t (fun a s'=>Q a s'/\KD s.heap s'.heap) (fun e s'=>E e s'/\KD s.heap s'.heap) s:=
 fun Γ p hin=>zRj t d _ _ p s (KD.refl _) (h Γ p hin)
theorem DK.bind{α β:Type}{t:Sem α}{k:α->Sem β}(d:DK t)(dk: ∀a,DK (k a)):DK (t>>=k):=by
 show DK (Sem.bind t k)
 induction t with
 | pure a=>exact dk a
 | raise e=>exact True.intro
 | unsupported w=>exact True.intro
 | finish e=>exact True.intro
 | rule tag k ih=>exact ih () d
 | «at» p' k ih=>exact ih () d
 | load a part k ih=>exact fun o=>ih o (d o)
 | update a part f k ih=>exact ⟨d.1,ih () d.2⟩
 | loadIfAlive a k ih=>exact fun o=>ih o (d o)
 | point w k ih=>exact ih () d
 | alloc o k ih=>exact fun a=>ih a (d a)
 | fresh k ih=>exact fun a=>ih a (d a)
 | ask k ih=>exact fun a=>ih a (d a)
 | handled own k ih=>exact fun a=>ih a (d a)
 | stack k ih=>exact fun a=>ih a (d a)
 | thread k ih=>exact fun a=>ih a (d a)
 | _=>exact (show False from d).elim
theorem zHV{g:Array Value->Array Value}:zDx (Obj.mapFields g):=fun o n=>by
 obtain ⟨c,d,x,sl⟩:=o;unfold Obj.mapFields;cases x<;>first | exact ⟨rfl,rfl⟩| exact ⟨rfl,n⟩| cases n
theorem zIO{g:Obj->Array (Option Value)}:zDx (fun o=>{o with slots:=g o}):=fun o n=>by
 obtain ⟨c,d,x,sl⟩:=o;cases x<;>first | exact ⟨rfl,rfl⟩| cases n
theorem zFo:DK (load a):=fun _=>True.intro
theorem zGR{f:Obj->Obj}(k:zDx f):DK (PySem.update a f):=⟨k,True.intro⟩
theorem zEh:DK stack:=fun _=>True.intro
theorem zAL{α:Type}{w:String}:DK (unsupported w:Sem α):=True.intro
theorem yI{α:Type}{a:α}:DK (pure a:Sem α):=True.intro
theorem zIT:DK (fieldsOf v):=by
 unfold fieldsOf;split
 ·refine DK.bind zFo fun o=>?_;split
  ·exact yI
  ·exact zAL
 ·exact zAL
theorem zBK:DK (field v i):=by
 unfold field;refine DK.bind zIT fun vs=>?_;split
 ·exact yI
 ·exact zAL
theorem zAr:DK (setField v i x):=by
 unfold setField;split
 ·unfold updateField;refine DK.bind zFo fun o=>?_;split
  ·split
   ·exact zGR zHV
   ·exact zAL
  ·exact zAL
 ·exact zAL
theorem zHW:DK frameEnvs:=DK.bind zEh fun _=>yI
theorem zKg:DK underTheClaimsCaller:=DK.bind zEh fun _=>yI
theorem zLn:DK (behindIsImport env outer):=by
 unfold behindIsImport;split
 ·exact yI
 ·split
  ·exact yI
  ·exact DK.bind zBK fun _=>yI
theorem zOf:DK (keptBack env i outer):=by
 unfold keptBack;split
 ·split
  ·exact yI
  ·refine DK.bind zKg fun b=>?_;split<;>exact yI
 ·exact yI
theorem zIK: ∀l:List Env,DK (readyFrames l)
 | [] =>yI
 | env::outer=>by
  unfold readyFrames;split
  ·refine DK.bind zFo fun o=>?_;split
   ·exact yI
   ·exact DK.bind zLn fun _=>DK.bind zOf fun _=>DK.bind (zGR zIO) fun _=>zIK outer
  ·exact zAL
theorem zFb:DK (PySem.frameOf env):=by
 unfold PySem.frameOf;refine DK.bind zHW fun l=>?_;refine DK.bind ?_ fun r=>?_
 ·unfold frameObject;split
  ·exact yI
  ·exact DK.bind (zIK _) fun _=>yI
 ·split
  ·exact yI
  ·exact zAL
theorem zHe:DK (entryPlaceOf f b):=by
 unfold entryPlaceOf;refine DK.bind zEh fun l=>?_;split<;>exact yI
theorem zHs:DK (EntryCells.newEntry a b c d e l):=by
 unfold EntryCells.newEntry newFields newObj;generalize (_:List Value).toArray=vs;dsimp only;have asis: ∀vs:Array Value,DK (newObjAsIs (.type "traceback") (.fields vs)):=fun vs=>by
  unfold newObjAsIs;refine DK.bind (fun _=>True.intro) fun a=>?_;exact yI
 split
 ·exact DK.bind zAL fun _=>asis _
 ·exact asis _
theorem zEv:DK (leaving env e):=by
 unfold leaving;refine DK.bind ?_ fun _=>?_
 ·unfold noteFrame;split
  ·rename_i f hf
   refine DK.bind zBK fun h=>?_;have rest:DK (do
     let x<-PySem.frameOf env
     let y<-entryPlaceOf f (h !=Value.none)
     let z<-EntryCells.newEntry h x Value.none (rawInt f) Value.none y
     setField e 1 z):=DK.bind zFb fun _=>DK.bind zHe fun _=>DK.bind zHs fun _=>zAr
   dsimp only;split
   ·refine DK.bind zBK fun g=>?_;split
    ·exact yI
    ·exact DK.bind zAr fun _=>rest
   ·exact rest
  ·exact zAL
 ·unfold setFlight;refine DK.bind zBK fun tb=>?_;split
  ·exact zAr
  ·exact yI
def yo(P:Program)(w:World):CXT:=fun outer H s E e s'=>
 ∃(ea:Addr) (cls a0:Value) (H':Hp) (B:Heap),e= .ref ea/\s'.os=s.os/\AllBare s'.gens/\Heap.FlyingW B outer ea cls a0 s'.heap/\HOk P w H' B/\FlyU (yy outer) H H' s.heap B s'.heap/\
  (E cls none H'\/ ∃oe dx,s'.heap.get? ea=some oe/\oe.dict=some dx/\E cls (some dx) H')
section
variable {P:Program}{w:World}{K:zUn}{mg:Str->Option Value}{base:Heap}{N:List Str}{qual:Str}{scope:Scope}{f:Addr}{cd:Value}{A:Around}{outer:List Env}{s₀:Shared}{H₀:Hp}{E:XK}
theorem yj:zAo (yo P w) (zBk (yo P w) P w K mg base N qual scope f cd A outer s₀ H₀ E) (fun _=>E):=by
 intro pins σ H s e s' I h;obtain ⟨ea,cls,a0,H',B,he,hos,hb,hfl,hok,U,q⟩:=h;subst he;show wpAny (model P w) (A.deeper (envOfC qual scope s₀.heap.objs.size f cd)) (leaving (envOfC qual scope s₀.heap.objs.size f cd) (.ref ea)) (fun _ s''=>yo P w outer H₀ s₀ E (.ref ea) s'') (fun e' s''=>yo P w outer H₀ s₀ E e' s'') s';have hfr:(A.deeper (envOfC qual scope s₀.heap.objs.size f cd)).frames=some (envOfC qual scope s₀.heap.objs.size f cd::outer):=I.ok.frames;have nx: ∀b:Addr,b∉([] :List Addr):=fun b=>by simp
 have nst: ∀b o,s₀.heap.get? b=some o->b∉yy outer->b∉yy (envOfC qual scope s₀.heap.objs.size f cd::outer):=fun b o e hb z=>by
  rcases zUo.mp (I.stkSub b z) with y | y
  ·exact zUG (zUH (zUI e) I.ok.above) y
  ·exact hb y
 have base1:wpAny (model P w) (A.deeper (envOfC qual scope s₀.heap.objs.size f cd)) (leaving (envOfC qual scope s₀.heap.objs.size f cd) (.ref ea)) (fun _ s''=>s''.os=s'.os/\s''.gens=s'.gens/\Heap.FlyingW B outer ea cls a0 s''.heap/\s'.heap.UpToSlots s''.heap) (fun _ _=>False) s':=
  wpAny_leaves_onW hfr rfl hfl fun h' x1 x2=>⟨rfl,rfl,x1,x2⟩
 refine zUS (zCW zEv base1) (fun _ s'' z=>?_) fun _ _ z=>z.1.elim;obtain ⟨⟨o1,o2,x1,x2⟩,kd⟩:=z;refine ⟨ea,cls,a0,H',B,rfl,o1.trans (hos.trans I.os),by rw [o2];exact hb,x1,hok,⟨fun b o e n hb=>?_,fun b o e n hb=>?_,fun b o e hb=>?_,fun b o e n=>?_,fun b xs e=>U.tups b xs (I.base.tups b xs e),fun b o u e=>U.frzs b o u (I.base.frzs b o u e),fun b ps e=>?_⟩,?_⟩
 ·exact U.keep b o (I.base.keep b o e n hb (nx b)) (I.base.free b o e n (nx b)) (nst b o e hb)
 ·obtain ⟨sl,e1⟩:=I.base.slot b o e n hb (nx b);obtain ⟨sl2,e2⟩:=U.slot b _ e1 (I.base.free b o e n (nx b)) (zDP hb);obtain ⟨_,o',e3,hd⟩:=hfl.2.2.1.mem (zDP hb);rw [e2] at e3;cases e3;obtain ⟨sl3,z3⟩:=x2 b _ e2 hd;exact ⟨sl3,z3⟩
 ·obtain ⟨o1,e1⟩:=I.base.there b o e (nx b);exact U.inB b o1 e1 (nst b o e hb)
 ·obtain ⟨o1,e1⟩:=I.base.there b o e (nx b);exact U.free b o1 e1 (I.base.free b o e n (nx b))
 ·obtain ⟨m1,e1⟩:=I.base.tbls b ps e;obtain ⟨m2,e2⟩:=U.tbls b _ e1;exact ⟨m1++m2,by rw [e2,Array.append_assoc]⟩
 ·rcases q with q |⟨oe,dx,e1,d1,q⟩
  ·exact .inl q
  ·obtain ⟨o',e2,d2⟩:=kd ea oe e1;exact .inr ⟨o',dx,e2,d2.trans d1,q⟩
end
end L2
namespace PySem
open PySem.Spec
section
variable {M:Model}{A:Around}{E:Value->Shared->Prop}{env:Env}{nm q:Str}{C N:Addr}{bs bm:List Value}{hdct:Bool}{sn:List Str}{sub:List Value}{ab:Bool}{col:Option Bool}{dd:Option Addr}{k0 k1 k2 k3 k5:Option Value}{newId:String}
theorem zHS{x:Sem Value}{Q:Flow->Shared->Prop}(base:bm.contains (.type "BaseException")=true)(calm:A.handled=none)
  (made:wpAny M A x (fun v s1=> ∃(e t:Addr) (dx:Option Addr) (sl:Array (Option Value)),v= .ref e/\s1.heap.get? C=some (excClassObj nm q C N bs bm hdct sn sub ab col dd k0 k1 k2 k3 k5 newId)/\
   s1.heap.get? e=some ⟨.ref C,dx,.fields #[.ref t,.none,.none,.none,.bool false,.none],sl⟩/\E (.ref e) s1) E s):wpAny M A (raiseStmt env (some x) none) Q E s:=by
 have top:(Value.ref C::bm).contains (.type "BaseException")=true:=by rw [List.contains_cons,base,Bool.or_true]
 unfold raiseStmt;refine zTz (zUS made (fun v s1 q1=>?_) fun _ _ z=>z);obtain ⟨e,t,dx,sl,rfl,cl,ob,fin⟩:=q1;obtain ⟨hp,gn,dr,tk,os⟩:=s1
 repeat (first | with_reducible refine wpAny_loadPart_at ob ?_ | with_reducible refine wpAny_loadPart_at cl ?_ |(with_reducible refine wpAny_isSubtype_exc cl ?_;rw [top])| wp_step)
 exact wpAny_raiseNew_none calm fin
end
end PySem
namespace L2
open PySem PySem.Spec PyProof.Rows
def off(H:Hp)(a:Addr):Hp:=fun b=>if b=a then none else H b
theorem zAw(h:b≠a):off H a b=H b:=by unfold off;rw [if_neg h]
theorem zRW(H:Hp)(a:Addr):off H a a=none:=by unfold off;rw [if_pos rfl]
theorem zLp(h:off H a b=some o):b≠a/\H b=some o:=by
 by_cases z:b=a
 ·rw [z,zRW] at h;cases h
 ·rw [zAw z] at h;exact ⟨z,h⟩
def zFr(X:Cx)(C:Addr)(E:St->XK):Prop:= ∀(pins:List (Addr×Obj)) (σ:St) (H:Hp) (s:Shared) (ea dx:Addr),Inv X pins σ H s->X.s₀.heap.objs.size<=ea->H ea=some (XO ea C (some dx))->E σ (.ref C) (some dx) (off H ea)->X.xe (.ref ea) s
section
variable {P:Program}{w:World}{K:zUn}{mg:Str->Option Value}{base:Heap}{N:List Str}{qual:Str}{scope:Scope}{f C:Addr}{cd:Value}{A:Around}{outer:List Env}{s₀:Shared}{H₀:Hp}{E:XK}
theorem zAK:zFr (zBk (yo P w) P w K mg base N qual scope f cd A outer s₀ H₀ E) C (fun _=>E):=by
 intro pins σ H s ea dx I hnew hea q;show wpAny (model P w) (A.deeper (envOfC qual scope s₀.heap.objs.size f cd)) (leaving (envOfC qual scope s₀.heap.objs.size f cd) (.ref ea)) (fun _ s''=>yo P w outer H₀ s₀ E (.ref ea) s'') (fun e' s''=>yo P w outer H₀ s₀ E e' s'') s;have hfr:(A.deeper (envOfC qual scope s₀.heap.objs.size f cd)).frames=some (envOfC qual scope s₀.heap.objs.size f cd::outer):=I.ok.frames;have nx: ∀b:Addr,b∉([] :List Addr):=fun b=>by simp
 have hnew': ∀b o,s₀.heap.get? b=some o->b≠ea:=fun b o e z=>by
  have h1:=zUI e;have h2:s₀.heap.objs.size<=ea:=hnew;rw [z] at h1;exact absurd h1 (Nat.not_lt.mpr h2)
 have nst: ∀b o,s₀.heap.get? b=some o->b∉yy outer->b∉ea::yy (envOfC qual scope s₀.heap.objs.size f cd::outer):=fun b o e hb z=>by
  rcases zUo.mp z with y | y
  ·exact hnew' b o e y
  ·rcases zUo.mp (I.stkSub b y) with y | y
   ·exact zUG (zUH (zUI e) I.ok.above) y
   ·exact hb y
 have ff:s.heap.FunFrames base (envOfC qual scope s₀.heap.objs.size f cd::outer):=I.stack;have hin: ∀env∈(envOfC qual scope s₀.heap.objs.size f cd::outer),∀b,env.frame=some b->b∈ea::yy (envOfC qual scope s₀.heap.objs.size f cd::outer):=fun env he b hb=>zUd _ (List.mem_filterMap.mpr ⟨env,he,hb⟩);obtain ⟨⟨o,ho,hc,hn,hd,t,hdt⟩,_⟩:=(show zo P w H s.heap ea (XO ea C (some dx)) from I.hok ea _ hea);have hokB:HOk P w (off H ea) (PySem.W.hideAll s.heap (ea::yy (envOfC qual scope s₀.heap.objs.size f cd::outer))):=fun a u e=>by
  obtain ⟨hne,e'⟩:=zLp e;refine (I.hok a u e').stay (fun b v hb e1=>zUc _ e1 fun hm=>?_) (fun b z=>?_) fun b z y=>?_
  ·rcases zUo.mp hm with y | y
   ·rcases hb with z | z
    ·exact hne (z.symm.trans y)
    ·rw [y,hea] at z;cases z
   ·have z:=I.stkFree b y;rcases hb with y2 | y2
    ·rw [y2,e'] at z;cases z
    ·rw [y2] at z;cases z
  ·rw [zAw fun y=>by rw [y,hea] at z;cases z];exact z
  ·rw [zAw fun x=>by rw [x,hea] at y;cases y];exact y
 have base1:wpAny (model P w) (A.deeper (envOfC qual scope s₀.heap.objs.size f cd)) (leaving (envOfC qual scope s₀.heap.objs.size f cd) (.ref ea)) (fun _ s''=>s''.os=s.os/\s''.gens=s.gens/\Heap.FlyingW (PySem.W.hideAll s.heap (ea::yy (envOfC qual scope s₀.heap.objs.size f cd::outer))) outer ea (.ref C) (.ref t) s''.heap/\s.heap.UpToSlots s''.heap) (fun _ _=>False) s:=by
  refine wpAny_leaving_firstW (base:=PySem.W.hideAll s.heap (ea::yy (envOfC qual scope s₀.heap.objs.size f cd::outer))) (a0:= .ref t) hfr (PySem.W.funFrames_hide ff hin) rfl ho (fun b o q=>zUm _ q) (PySem.W.hideAll_none _ (by simp)) hdt rfl rfl fun h' hL=>?_;obtain ⟨k1,⟨_,_,k2⟩,k3,k4⟩:=hL;rw [hc] at k3;exact ⟨rfl,rfl,⟨k1,PySem.W.hideAll_none _ (by simp),k2,k3⟩,k4⟩
 refine zUS (zCW zEv base1) (fun _ s'' z=>?_) fun _ _ z=>z.1.elim;obtain ⟨⟨o1,o2,x1,x4⟩,kd⟩:=z;refine ⟨ea,.ref C,.ref t,off H ea,_,rfl,o1.trans I.os,by rw [o2];exact I.bare,x1,hokB,⟨fun b o e n hb=>?_,fun b o e n hb=>?_,fun b o e hb=>?_,fun b o e n=>?_,fun b xs e=>?_,fun b o u e=>?_,fun b ps e=>?_⟩,?_⟩
 ·exact zUc _ (I.base.keep b o e n hb (nx b)) (nst b o e hb)
 ·obtain ⟨sl,e1⟩:=I.base.slot b o e n hb (nx b);obtain ⟨_,o',e3,hd⟩:=ff.mem (zDP hb);rw [e1] at e3;cases e3;obtain ⟨sl3,z3⟩:=x4 b _ e1 hd;exact ⟨sl3,z3⟩
 ·obtain ⟨o1,e1⟩:=I.base.there b o e (nx b);exact ⟨o1,zUc _ e1 (nst b o e hb)⟩
 ·rw [zAw (hnew' b o e)];exact I.base.free b o e n (nx b)
 ·have z:=I.base.tups b xs e;rw [zAw fun y=>by rw [y,hea] at z;cases z];exact z
 ·have z:=I.base.frzs b o u e;rw [zAw fun y=>by rw [y,hea] at z;cases z];exact z
 ·obtain ⟨m,z⟩:=I.base.tbls b ps e;exact ⟨m,by rw [zAw fun y=>by rw [y,hea] at z;cases z];exact z⟩
 ·obtain ⟨o',e2,d2⟩:=kd ea o ho;exact .inr ⟨o',dx,e2,d2.trans hd,q⟩
end
section
variable {X:Cx}{CX:CXT}{k:Nat}{f C:Addr}{fd:FuncData}{ps:List Str}{sp:Sp}{E0:XK}{E:St->XK}{x:Str}{np cpos pos:Pos}{e:Expr}{es:List Expr}{t:TA}
theorem zJk{pins:List (Addr×Obj)}{σ:St}{H:Hp}{s:Shared}{Q:VK}{us:List Value}{vs:List V}(M:MkX X.K C f)(F:FnOk X.prog X.w X.K X.mg X.base CX k f fd ps sp)(hr:Room (k+1) X.A)(hb:zO X.K fd ps [])
  (hx:zAm CX X E0) (I:Inv X pins σ H s) (r:zT vs us) (hz:vs.length<=sizeLine)
  (h: ∀ea,H ea=none->sp (.ref ea::vs) (upd H ea (XO ea C none)) (fun v H2=>v= .non/\Q (.ref ea) H2) E0):
  wpAny (model X.prog X.w) X.A (call (.ref C) us) (EP X pins σ fun v H2=>Q v H2/\ ∃ea,v= .ref ea/\s.heap.objs.size<=ea) X.xe s:=by
 obtain ⟨bm,N,nm,qn,bs,hdct,sn,sub,ab,col,dd,k0,k1,k2,k3,k5,mN,hC,hn,hi,T⟩:=zIt I.kIn M.ex;have hfn:PySem.W.typeIn X.K (.ref f)=some (.type "function"):=beq_iff_eq.mp M.fn;obtain ⟨oI,hl,hoc⟩:=Option.map_eq_some_iff.mp (show (X.K.lookup f).map (·.cls)=some (.type "function") from hfn);obtain ⟨hp0,g,d,tk,os⟩:=s;refine zOO PySem.F.excBase_ValueError T hC hn hi (I.kIn _ _ hl) hoc (fun h' ea hle hm=>?_) (by rw [<-r.length];exact hz);obtain ⟨ta,hta,_,_⟩:=hm.there;have hq:=h ea (I.hok.fresh hle);have I2:Inv X pins σ (upd H ea (XO ea C none)) ⟨h',g,d,tk,os⟩:=I.laid (t':=tk) hm.keeps hle (zNp ⟨_,hta,rfl,rfl,rfl,_,rfl⟩);have r2:zT (V.ref ea::vs) (Value.ref ea::us):= .cons rfl r;have hl2:(Value.ref ea::us++ []).length=ps.length:=by
  have e:=r2.length;rw [F.len _ _ _ _ hq] at e;rw [zUX];exact e.symm
 have hb2:=hb ⟨h',g,d,tk,os⟩ (Value.ref ea::us) I2.kIn hl2;rw [zUX] at hb2;refine wpAny_call (zUl (F.run _ X.stack _ _ ⟨Value.ref ea::us,[]⟩ (Value.ref ea::us) _ _ E0 (hr.make C us []) (I2.env0.make C us []) hb2 r2 hq) fun r s' hq'=>?_);cases r with
 | error e=>exact hx pins σ _ _ e s' I2 hq'
 | ok fl=>
  cases fl with
  | ret u=>
   obtain ⟨v,H',I3,rv,ev,q3⟩:=I2.after hq';subst ev;exact ⟨rv,⟨V.ref ea,H',I3,rfl,q3,ea,rfl,hle⟩⟩
  | next=>exact False.elim hq'
  | brk=>exact False.elim hq'
  | cont=>exact False.elim hq'
def zIy(C:Addr)(sp:Sp)(E0:XK)(E:St->XK)(t:TA):TS:=fun _ σ H=>t σ H fun vs H1=>vs.length<=sizeLine/\ ∀ea,H1 ea=none->
 sp (.ref ea::vs) (upd H1 ea (XO ea C none)) (fun r H2=>r= .non/\ ∃a dx,V.ref ea= .ref a/\H2 a=some (XO a C (some dx))/\E σ (.ref C) (some dx) (off H2 a)) E0
theorem zKS(M:MkX X.K C f)(F:FnOk X.prog X.w X.K X.mg X.base CX k f fd ps sp)(hr:Room (k+1) X.A)(hg:Gl X x)(hm:X.mg x=some (.ref C))(hb:zO X.K fd ps [])(hx:zAm CX X E0)(ho:zFr X C E)(hc:X.calm=true)
  (ha:PA X (e::es) t) (hdb:(x==("__debug__" :Str))=false) (he:starEach (e::es) X.env=(false,eval e X.env)::starEach es X.env) (hpl:(backTo cpos (starEach es X.env)).any (·.1)=false):
  PS X (.Raise (some (.Call (.Name x np) (e::es) [] cpos)) none pos) (zIy C sp E0 E t):=by
 intro pins s σ H D I h;obtain ⟨bm,N,nm,qn,bs,hdct,sn,sub,ab,col,dd,k0,k1,k2,k3,k5,mN,hC,hN,hi,T⟩:=zIt I.ok.mod.kin M.ex;have big:X.s₀.heap.objs.size<=s.heap.objs.size:=I.sz;have made:wpAny (model X.prog X.w) X.A (eval (.Call (.Name x np) (e::es) [] cpos) X.env) (EP X pins σ fun v H2=>(∃a dx,v= .ref a/\H2 a=some (XO a C (some dx))/\E σ (.ref C) (some dx) (off H2 a))/\ ∃ea,v= .ref ea/\X.s₀.heap.objs.size<=ea) X.xe s:=by
  refine zUk (zCF I hg hm ?_ hdb);refine PySem.W.callWith_K (h₀:=X.base) I.ok.mod.kin M.kp (zW (ha cpos pins s σ H _ I h) fun us s1 ⟨vs,H1,I1,r,q⟩=>⟨I1.kIn,?_⟩) he hpl;refine zW (zJk (Q:=fun v H2=> ∃a dx,v= .ref a/\H2 a=some (XO a C (some dx))/\E σ (.ref C) (some dx) (off H2 a)) M F hr hb hx I1 r q.1 q.2) fun v s2 ⟨y,H2,I2,rv,q2,ea,ey,hle⟩=>?_;exact ⟨y,H2,I2,rv,q2,ea,ey,zUM (show X.s₀.heap.objs.size<=s1.heap.objs.size from I1.sz) hle⟩
 rw [arm_exec_Raise];refine zTz (wpAny_standAt ?_);simp only [evalOpt,Option.map];refine zHS (C:=C) (nm:=nm) (q:=qn) (N:=N) (bs:=bs) (bm:=bm) (hdct:=hdct) (sn:=sn) (sub:=sub) (ab:=ab) (col:=col) (dd:=dd) (k0:=k0) (k1:=k1) (k2:=k2) (k3:=k3) (k5:=k5) (newId:= "ValueError.__new__") (T.hasType PySem.F.excBase_ValueError.hasBase) (I.ok.hd hc) (zTz (zW made fun v s1 ⟨y,H1,I1,rv,⟨a,dx,ey,ea,q⟩,a',ey',hle⟩=>zTz (wpAny_standAt (zUE ?_))));subst ey;cases ey';obtain rfl:v=Value.ref a:=rv;obtain ⟨⟨o,h1,h2,h3,h4,td,h5⟩,_⟩:=(show zo X.prog X.w H1 s1.heap a (XO a C (some dx)) from I1.hok a _ ea);obtain ⟨c,d,u,sl⟩:=o;have h2':c= .ref C:=h2;have h5':u= .fields #[.ref td,.none,.none,.none,.bool false,.none] :=h5;subst h2' h5';exact ⟨a,td,d,sl,rfl,I1.bk _ _ hC,h1,ho pins σ H1 s1 a dx I1 hle ea q⟩
theorem zBO(M:MkX X.K C f)(F:FnOk X.prog X.w X.K X.mg X.base CX k f fd ps sp)(hr:Room (k+1) X.A)(hg:Gl X x)(hm:X.mg x=some (.ref C))(hb:zO X.K fd ps [])(hx:zAm CX X E0)(ho:zFr X C E)(hc:X.calm=true)
  (ha:QA X (e::es) t) (hdb:(x==("__debug__" :Str))=false) (h2:yK e=true) (h3:zAA es=true):
  QS X (.Raise (some (.Call (.Name x np) (e::es) [] cpos)) none pos) (zIy C sp E0 E t):=⟨zKS M F hr hg hm hb hx ho hc ha.out hdb (za h2) (zAV h3)⟩
end
section
variable {P:Program}{w:World}{K:zUn}{mg:Str->Option Value}{base:Heap}{N:List Str}{qual:Str}{scope:Scope}{f:Addr}{cd:Value}{A:Around}{outer:List Env}{s₀:Shared}{H₀:Hp}{E:XK}
end
theorem zHq:DK (noteFrame e env):=by
 unfold noteFrame;split
 ·rename_i f hf
  refine DK.bind zBK fun h=>?_;have rest:DK (do
    let x<-PySem.frameOf env
    let y<-entryPlaceOf f (h !=Value.none)
    let z<-EntryCells.newEntry h x Value.none (rawInt f) Value.none y
    setField e 1 z):=DK.bind zFb fun _=>DK.bind zHe fun _=>DK.bind zHs fun _=>zAr
  dsimp only;split
  ·refine DK.bind zBK fun g=>?_;split
   ·exact yI
   ·exact DK.bind zAr fun _=>rest
  ·exact rest
 ·exact zAL
theorem zDv{f:Option Addr}:DK (setFlight e f):=by
 unfold setFlight;refine DK.bind zBK fun tb=>?_;split
 ·exact zAr
 ·exact yI
def XCf(a:Addr)(C:Value)(dx:Addr)(h:Heap):Prop:= ∃o,h.get? a=some o/\o.cls=C/\PySem.W.notCls o=true/\o.dict=some dx
def zCm(a:Addr)(C:Value):Option Addr->HO
 | none=>zQq a C
 | some dx=> .ext (XCf a C dx)
theorem yM(h:Heap)(x:XCf a C dx h):KAt a C h:=let ⟨o,e,c,_⟩:=x;⟨o,e,c⟩
theorem zOP{d:Option Addr}(x:KAt a C h)(n: ∃o,h.get? a=some o/\PySem.W.notCls o=true)(hd: ∀dx,d=some dx-> ∃o,h.get? a=some o/\o.dict=some dx):zo P w H h a (zCm a C d):=by
 cases d with
 | none=>exact zOX x
 | some dx=>
  obtain ⟨o,e,c⟩:=x;obtain ⟨o1,e1,n1⟩:=n;obtain ⟨o2,e2,d2⟩:=hd dx rfl;rw [e] at e1 e2;cases e1;cases e2;exact ⟨⟨o,e,c,n1,d2⟩,⟨o,e⟩,fun h1 h2 ⟨o1,e1,c1⟩ k=>⟨o1,k o1 e1,c1⟩⟩
def zFP(K:zUn)(Cv:Value)(i:Nat)(ts:TS)(D:Ends):St->XK:=fun σ cls d H=>PySem.W.exmOne K cls Cv=some true/\ ∀ea,H ea=none->
 ts {nx:=fun σ' H'=>D.nx (σ'.set i none) H',rt:=D.rt,bk:=fun σ' H'=>D.bk (σ'.set i none) H',ct:=fun σ' H'=>D.ct (σ'.set i none) H'} (σ.set i (some (.ref ea))) (upd H ea (zCm ea cls d))
def zKD(K:zUn)(Cv:Value)(i:Nat)(tb:(St->XK)->TS)(ts:TS):TS:=fun D σ H=>tb (zFP K Cv i ts D) D σ H
theorem zOw{X:Cx}{tb:(St->XK)->TS}(hst:X.stack=X.env::X.outer)(hfr:X.env.frame=some X.env.locals)(hN:X.N.Nodup)(hi:X.N[i]?=some n)(hn:X.env.scope.names.lookup n=some .local)
  (hg:Gl X xc) (hm:X.mg xc=some Cv\/(X.mg xc=none/\bootBuiltins xc=some Cv/\xc≠ "__name__"))
  (hb: ∀ps xe E,zAo (yo X.prog X.w) (X.tryB ps xe) E->PSs (X.tryB ps xe) body (tb E)) (hs: ∀e,PSs (X.inExc e) (b₀::suite) ts) (hdb:(xc==("__debug__" :Str))=false:=by decide):
  PS X (.Try body [.ExceptHandler (some (.Name xc np)) (some n) (b₀::suite) hpos] [] [] pos) (zKD X.K Cv i tb ts):=by
 intro pins s σ H D I h;have fall: ∀(σ1:St) (H1 H':Hp) (s1 s':Shared) (ea:Addr) (cls a0:Value) (B:Heap),Inv X pins σ1 H1 s1->s'.os=s1.os->AllBare s'.gens->Heap.FlyingW B X.stack ea cls a0 s'.heap->HOk X.prog X.w H' B->FlyU (yy X.stack) H1 H' s1.heap B s'.heap-> ∀d,(∀dx,d=some dx-> ∃oe,s'.heap.get? ea=some oe/\oe.dict=some dx)->zFP X.K Cv i ts D σ1 cls d H'->
   wpAny (model X.prog X.w) X.A (noteFrame (.ref ea) X.env) (fun _ s₂=>wpAny (model X.prog X.w) X.A (setFlight (.ref ea) none) (fun _ s₃=>wpAny (model X.prog X.w) X.A (handleBy (.ref ea) X.env [.ExceptHandler (some (.Name xc np)) (some n) (b₀::suite) hpos]) (SP X pins D) X.xe s₃) X.xe s₂) X.xe s':=by
  intro σ1 H1 H' s1 s' ea cls a0 B I1 hos hbare hfl hok U d hdx q;obtain ⟨he,q⟩:=q;have ff:=hfl.2.2.1;rw [hst] at hfl;have b4:wpAny (model X.prog X.w) X.A (noteFrame (.ref ea) X.env) (fun _ s₂=> ∃h4,s₂={s' with heap:=h4}/\Heap.HeldW B (X.env::X.outer) ea cls a0 X.env.locals h4/\s'.heap.UpToSlots h4) (fun _ _=>False) s':=
   wpAny_looks_onW (by rw [I1.ok.frames,hst]) hfr hfl fun h4 x4 u4=>⟨h4,rfl,x4,u4⟩
  refine zUS (zCW zHq b4) (fun _ s₂ z4=>?_) fun _ _ z=>z.1.elim;obtain ⟨⟨h4,e4,x4,u4⟩,kd4⟩:=z4;subst e4;have b5:wpAny (model X.prog X.w) X.A (setFlight (.ref ea) none) (fun _ s₂=> ∃h5,s₂={s' with heap:=h5}/\Heap.FlyingW B (X.env::X.outer) ea cls a0 h5/\h4.UpToSlots h5) (fun _ _=>False) {s' with heap:=h4}:=
   wpAny_landsW x4 fun h5 x5 u5=>⟨h5,rfl,x5,u5⟩
  refine zUS (zCW zDv b5) (fun _ s₂ z5=>?_) fun _ _ z=>z.1.elim;obtain ⟨⟨h5,e5,x5,u5⟩,kd5⟩:=z5;subst e5;have kd45:KD s'.heap h5:=kd4.trans kd5;have U5:FlyU (yy X.stack) H1 H' s1.heap B h5:=U.land ff (u4.trans u5);have hf1: ∀b∈yy X.stack,H1 b=none:=I1.stkFree;have I5:Inv X pins σ1 H' {s' with heap:=h5}:=I1.call' (s':={s' with heap:=h5}) hos (U5.un x5.1 hf1) (hok.kept x5.1) hbare fun b z=>nomatch z;have ty5:PySem.W.Looks (model X.prog X.w) h5 (typeOf (.ref ea)) cls:=by
   obtain ⟨ob,hob,hc⟩:=x5.there;subst hc;exact (PySem.W.Looks.ld hob).andThen .now
  have I5':=I5.inExc ea;refine wpAny_handleBy_cons (codeAny_handlers_test ?_) (by intro z;cases z);have go:wpAny (model X.prog X.w) (X.A.mark (some (.ref ea))) (eval (.Name xc np) X.env) (fun c s₁=>c=Cv/\s₁={s' with heap:=h5}) (notedBy (model X.prog X.w) (X.A.mark (some (.ref ea))) X.env (cameBackBy (model X.prog X.w) X.A X.env X.xe)) {s' with heap:=h5}:=by
   rcases hm with hm |⟨hm,hv,hnn⟩
   ·exact zCF (X:=X.inExc ea) I5' hg hm ⟨rfl,rfl⟩ hdb
   ·exact zCN (X:=X.inExc ea) I5' hg hm hv ⟨rfl,rfl⟩ hnn hdb
  refine zUS go (fun c s₁ hc=>?_) fun _ _ z=>z;obtain ⟨hc1,hc2⟩:=hc;subst hc1 hc2;refine (PySem.W.exm_one I5.kIn ty5 he).here ?_;show codeAny _ _ _ _ _;refine codeAny_handlers_suite_as ?_;have b6:wpAny (model X.prog X.w) (X.A.mark (some (.ref ea))) (setFlight (.ref ea) none) (fun _ s₂=> ∃h6,s₂={s' with heap:=h6}/\Heap.FlyingW B (X.env::X.outer) ea cls a0 h6/\h5.UpToSlots h6) (fun _ _=>False) {s' with heap:=h5}:=
   lands_againW x5 fun h6 x6 u6=>⟨h6,rfl,x6,u6⟩
  refine zUS (zCW zDv b6) (fun _ s₂ z6=>?_) fun _ _ z=>z.1.elim;obtain ⟨⟨h6,e6,x6,u6⟩,kd6⟩:=z6;subst e6;have kd56:KD s'.heap h6:=kd45.trans kd6;have ff5:=x5.2.2.1;rw [<-hst] at ff5;have U6:FlyU (yy X.stack) H1 H' s1.heap B h6:=U5.land ff5 u6;have hBe:B.get? ea=none:=x6.2.1;have he':H' ea=none:=hok.untracked hBe;obtain ⟨oe,hoe,hoc⟩:=x6.there;obtain ⟨oe',vs',hoe',_,hod',_⟩:=x6.first;have ns1:s1.heap.get? ea=none:=by
   cases z:s1.heap.get? ea with
   | none=>rfl
   | some o=>
    by_cases y:ea∈yy X.stack
    ·have y':=y;rw [hst] at y';obtain ⟨_,o2,e2,d2⟩:=x6.2.2.1.mem y';rw [hoe'] at e2;cases e2;exact absurd hod' (d2 vs')
    ·obtain ⟨o',e'⟩:=U6.inB ea o z y;rw [hBe] at e';cases e'
  have nu: ∀b o,s1.heap.get? b=some o->b≠ea:=fun b o e z=>by rw [z,ns1] at e;cases e
  have hok6:HOk X.prog X.w H' h6:=hok.kept x6.1;have hokE:HOk X.prog X.w (upd H' ea (zCm ea cls d)) h6:=fun b u e=>by
   by_cases y:b=ea
   ·subst y;rw [zE] at e;cases e;exact zOP ⟨oe,hoe,hoc⟩ ⟨oe',hoe',by unfold PySem.W.notCls;rw [hod']⟩ fun dx hd=>by
     obtain ⟨o1,e1,d1⟩:=hdx dx hd;obtain ⟨o2,e2,d2⟩:=kd56 _ o1 e1;exact ⟨o2,e2,d2.trans d1⟩
   ·rw [zN y] at e;exact (hok6 b u e).stay (fun _ _ _ z=>z) (fun c z=>by rw [zN (zh z he')];exact z) fun c xs z=>by rw [zN (zh z he')];exact z
  have un6:=U6.un x6.1 hf1;have unE:Un (yy X.stack) [] H1 (upd H' ea (zCm ea cls d)) s1.heap h6:=
   ⟨un6.keep,un6.slot,fun b o e n hx=>by rw [zN (nu b o e)];exact un6.free b o e n hx,un6.there,fun b xs e=>by
    have z:=un6.tups b xs e;rw [zN (zh z he')];exact z,fun b o u e=>by
    have z:=un6.frzs b o u e;rw [zN (zh z he')];exact z,fun b ps e=>by
    obtain ⟨m,z⟩:=un6.tbls b ps e;exact ⟨m,by rw [zN (zh z he')];exact z⟩⟩
  have I6:Inv X pins σ1 (upd H' ea (zCm ea cls d)) {s' with heap:=h6}:=I1.call' (s':={s' with heap:=h6}) hos unE hokE hbare fun b z=>nomatch z;refine zCJ (X:=X.inExc ea) (I6.inExc ea) hN hi (.inl hn) (v:= .ref ea) rfl (fun s7 I7=>?_) (.inr hn);refine zUS (hs ea pins s7 _ _ _ I7 (q ea he')) (fun f s8 h8=>?_) fun _ _ z=>z.elim;cases f with
  | next=>
   obtain ⟨σ',H8,I8,q8⟩:=h8;exact zCi (I8.outExc I.ok) hN hi hn fun s9 I9=>⟨_,H8,I9,q8⟩
  | brk=>
   obtain ⟨σ',H8,I8,q8⟩:=h8;exact zCi (I8.outExc I.ok) hN hi hn fun s9 I9=>⟨_,H8,I9,q8⟩
  | cont=>
   obtain ⟨σ',H8,I8,q8⟩:=h8;exact zCi (I8.outExc I.ok) hN hi hn fun s9 I9=>⟨_,H8,I9,q8⟩
  | ret u=>
   obtain ⟨v,σ',H8,I8,r8,q8⟩:=h8;exact zCi (I8.outExc I.ok) hN hi hn fun s9 I9=>⟨v,_,H8,I9,r8,q8⟩
 refine wpAny_Try_except ?_;refine zUS (hb pins (fun e s₁=>wpAny (model X.prog X.w) X.A (noteFrame e X.env) (fun _ s₂=>wpAny (model X.prog X.w) X.A (setFlight e none) (fun _ s₃=>wpAny (model X.prog X.w) X.A (handleBy e X.env [.ExceptHandler (some (.Name xc np)) (some n) (b₀::suite) hpos]) (SP X pins D) X.xe s₃) X.xe s₂) X.xe s₁)
  (zFP X.K Cv i ts D) ?_ [] s σ H D (I.tryB _) h) (fun f s1 q=>?_) fun _ _ z=>z
 ·intro ps σ1 H1 s1 e s' I1 hfly;obtain ⟨ea,cls,a0,H',B,he,hos,hbare,hfl,hok,U,q⟩:=hfly;subst he;rcases q with q |⟨oe,dx,e1,d1,q⟩
  ·exact fall σ1 H1 H' s1 s' ea cls a0 B (I1.untry I.ok) hos hbare hfl hok U none (fun dx z=>nomatch z) q
  ·exact fall σ1 H1 H' s1 s' ea cls a0 B (I1.untry I.ok) hos hbare hfl hok U (some dx) (fun dx' z=>by cases z;exact ⟨oe,e1,d1⟩) q
 ·have q':=q.untry I.ok;cases f with
  | next=>exact wpAny_execs_nil q'
  | ret v=>exact q'
  | brk=>exact q'
  | cont=>exact q'
theorem zPY{X:Cx}{K:zUn}{body:List Stmt}{xc n:Str}{np hpos pos:Pos}{b₀:Stmt}{suite:List Stmt}{tb:(St->XK)->TS}{ts:TS}{Cv:Value}(i:Nat)(hK:X.K=K)(hst:X.stack=X.env::X.outer)(hfr:X.env.frame=some X.env.locals)(hN:X.N.Nodup)(hi:X.N[i]?=some n)(hn:X.env.scope.names.lookup n=some .local)
  (hg:Gl X xc) (hm:X.mg xc=some Cv\/(X.mg xc=none/\bootBuiltins xc=some Cv/\xc≠ "__name__"))
  (hb: ∀ps xe E,zAo (yo X.prog X.w) (X.tryB ps xe) E->QB (X.tryB ps xe) body (tb E)) (hs: ∀e,QB (X.inExc e) (b₀::suite) ts) (hdb:(xc==("__debug__" :Str))=false):
  QS X (.Try body [.ExceptHandler (some (.Name xc np)) (some n) (b₀::suite) hpos] [] [] pos) (zKD K Cv i tb ts):=by
 subst hK;exact ⟨zOw hst hfr hN hi hn hg hm (fun ps xe E hp=>(hb ps xe E hp).out) (fun e=>(hs e).out) hdb⟩
section
variable {X:Cx}{e:Expr}{f:Str}{pos:Pos}{ta:TE}
def tXc(K:zUn)(ta:TE)(f:Str):TE:=fun σ H Q=>ta σ H fun x H1=> ∃a C dx fs v,x= .ref a/\H1 a=some (zCm a (.ref C) (some dx))/\H1 dx=some (XD dx fs)/\XCls K C/\yO K C f/\fs.lookup f=some v/\Q v H1
theorem zSp{K:zUn}(hK:X.K=K)(he:PE X e ta)(hb:attributeBase e f X.env (eval e X.env)=eval e X.env):PE X (.Attribute e f pos) (tXc K ta f):=by
 subst hK;intro pins s σ H Q I h;refine zIl hb (zW (he pins s σ H _ I h) fun u s1 ⟨x,H1,I1,rx,a,C,dx,fs,v,ex,ea,ed,c,n,l,q⟩=>?_);subst ex;obtain rfl:u=Value.ref a:=rx;obtain ⟨⟨o,ho,hc,hn,hd⟩,_⟩:=(show zo X.prog X.w H1 s1.heap a (.ext (XCf a (.ref C) dx)) from I1.hok a _ ea);obtain ⟨⟨mA,ns,r,wi⟩,_⟩:=(show zo X.prog X.w H1 s1.heap dx (XD dx fs) from I1.hok dx _ ed);obtain ⟨od,hod,hl⟩:=zGN ns;obtain ⟨uv,hu,ru⟩:=zAQ.some_of (v:=v) (o:=mA f) (by rw [<-l];exact r f);have J:PySem.W.InstAt s1.heap a o C (some od):=⟨ho,hc,hn,by rw [hd];exact hod⟩;exact PySem.W.xget_value I1.kIn J c.ga c.gn c.be (PySem.W.findObj_own c.hd n rfl (by rw [hl,hu])) (zGU ru) ⟨v,H1,I1.tok _,ru,q⟩
theorem zMy{K:zUn}(hK:X.K=K)(he:QE X e ta)(hb:attributeBase e f X.env (eval e X.env)=eval e X.env):QE X (.Attribute e f pos) (tXc K ta f):=⟨zSp hK he.out hb⟩
end
end L2
namespace PySem
open PyProof.Rows
section
variable {prog:Program}{w:World}{K:Type}[DecidableEq K]{knd:KeyKind prog w K}{A:Around}{R:Result->Shared->Prop}{d it l:Addr}{items:Array Value}{ps:List (K×Value)}
end
section
variable {prog:Program}{w:World}{K:Type}[DecidableEq K]{knd:KeyKind prog w K}{A:Around}{E:Value->Shared->Prop}{s:Shared}
end
end PySem
namespace L2
open PySem PySem.Spec PyProof.Rows
section
variable {X:Cx}
end
end L2
namespace PySem
open PyProof.Rows
section
variable {prog:Program}{w:World}{K:Type}[DecidableEq K]{knd:KeyKind prog w K}{A:Around}{E:Value->Shared->Prop}{s:Shared}
theorem zIZ{R:Result->Shared->Prop}{kvs:List (K×Value)}(hh:A.handled=none)(hd:(d==sysModules)=false)(hm:s.heap.DictAt knd d kvs ep)(hn:kvs.length<=sizeLine)
  (hS:s.heap.get? S=some {cls:= .type "list",data:= .seq #[] c₀})
  (hR: ∀h' tk acc' c',(∀b o,b≠S->s.heap.get? b=some o->h'.get? b=some o)->h'.get? S=some {cls:= .type "list",dict:=none,data:= .seq acc' c',slots:= #[]}->
   ItemsOf (fun i v=> ∃k x,kvs[i]?=some (k,x)/\knd.is k v=true) acc' kvs.length->R (.ok (.ret res)) {s with heap:=h',toks:=tk}):
  wpAny (model prog w) A.in1 (Builtin.List.listExtendWith (.ref S) (.ref d) res)
   (fun fin s'=>match fin with | .done f=>R (.ok f) s' | .again c'=>c'.quiet=true/\codeAny (model prog w) A c' R s') (fun e s'=>R (.error e) s') s:=by
 have hlt:d<s.heap.objs.size:=hm.lt_size;have hSlt:S<s.heap.objs.size:=zUI hS;have hSd:S≠d:=by
  intro e;subst e;obtain ⟨o,es,ho,hc,_⟩:=id hm;rw [hS] at ho;cases ho;have z:Value.type "list" =Value.type "dict" :=hc.1;exact absurd z (by decide)
 have h1:Builtin.List.listSameRef (.ref S) (.ref d)=false:=by
  simp only [Builtin.List.listSameRef,beq_eq_false_iff_ne];exact hSd
 have hT:s.TypeIs (.ref d) "dict" :=hm.dictOf.typeIs;unfold Builtin.List.listExtendWith;refine zTz (wpAny_typeOf hT ?_);rw [if_neg (by rw [h1];decide)];refine zTz (wpAny_pyIter_dict hd hm ?_);have hit:(s.heap.push {cls:= .type "dict_keyiterator",data:= .fields #[.ref d,.int 0 0,.int kvs.length 0,.int ep 0]}).get? s.heap.objs.size
   =some {cls:= .type "dict_keyiterator",data:= .fields #[.ref d,.int 0 0,.int kvs.length 0,.int ep 0]}:=zUQ _ rfl
 have hm2:=hm.push {cls:= .type "dict_keyiterator",data:= .fields #[.ref d,.int 0 0,.int kvs.length 0,.int ep 0]};have hS₂:(s.heap.push {cls:= .type "dict_keyiterator",data:= .fields #[.ref d,.int 0 0,.int kvs.length 0,.int ep 0]}).get? S=some {cls:= .type "list",data:= .seq #[] c₀}:=zUA _ hS;have old2: ∀b o,s.heap.get? b=some o->(s.heap.push {cls:= .type "dict_keyiterator",data:= .fields #[.ref d,.int 0 0,.int kvs.length 0,.int ep 0]}).get? b=some o:=fun b o e=>zUA _ e;generalize s.heap.push {cls:= .type "dict_keyiterator",data:= .fields #[.ref d,.int 0 0,.int kvs.length 0,.int ep 0]}=h2 at hit hm2 hS₂ old2⊢;have hT2:Shared.TypeIs {s with heap:=h2} (.ref d) "dict" :=hm2.dictOf.typeIs;refine zTz (zUi ?_);unfold Builtin.List.listLengthHint;refine zTz (wpAny_specialOf hT2 F.slot_dict_len.lookup ?_);generalize hid:("dict.__len__" :String)=id0
 wp_delta
 rw [show splitId id0=some ("dict","__len__") from by subst hid;decide+kernel];subst hid;refine zTz (wpAny_isInstance (b:=true) hT2 isSubtype_dict_dict ?_);rw [if_neg (by decide)];dsimp only;rw [if_pos (by decide+kernel)];refine zTz (wpAny_typeOf hT2 ?_);refine zUE ?_;show wpAny _ A.in1 (rule "list.extend.makes-room" >>=fun _=>Builtin.List.listTouch (.ref S)>>=fun _=>
  again (.builtin "list.extend.loop" ⟨[.ref S,.ref s.heap.objs.size,res],[]⟩)) _ _ _
 refine zTz (wpAny_rule ?_);refine zTz ?_;show wpAny _ A.in1 (updateSeq S (·.push .none)>>=fun _=>updateSeq S (·.pop)) _ _ _;refine zTz (wpAny_updateSeq hS₂ rfl ?_);have hS₃:=zUf (Obj.mapSeq (·.push Value.none)) hS₂ rfl;refine wpAny_updateSeq hS₃ rfl ?_;have hS₄:=zUf (Obj.mapSeq (·.pop)) hS₃ rfl;have oth: ∀b o,b≠S->h2.get? b=some o->((h2.update S (Obj.mapSeq (·.push Value.none))).update S (Obj.mapSeq (·.pop))).get? b=some o:=
  fun b o hb e=>(zUe _ _ (Ne.symm hb)).trans ((zUe _ _ (Ne.symm hb)).trans e)
 have ne1:s.heap.objs.size≠S:=zUg hSlt;have hit4:=oth _ _ ne1 hit;have hm4:=hm2.at' fun o e=>oth d o (Ne.symm hSd) e;refine zUE ⟨plainId_quiet F.plain_extend_loop _,codeAny_extend_loopS (Walks.dictKeys (knd:=knd) (A:=A.in1) hh s.heap.objs.size d (zUG hlt) kvs ep).toS hn _ ?_ _ kvs.length 0 _ _ _ rfl (zUN _)
  ⟨⟨_,hit4,rfl,rfl⟩,hm4⟩ hS₄ (ItemsOf.nil _) fun s' acc' c' hmv hS' hacc=>?_⟩
 ·intro z;rcases zUo.mp z with y | y
  ·exact ne1 y.symm
  ·have y':S=d:=by simpa using y
   exact hSd y'
 ·obtain ⟨hp',g',dr',tk',os'⟩:=s';obtain ⟨m1,m2,m3,m4,m5⟩:=hmv;cases m2;cases m3;cases m4;refine hR hp' tk' acc' c' (fun b o hb e=>m1 b o (fun z=>?_) (oth b o hb (old2 b o e))) hS' hacc;rcases zUo.mp z with y | y
  ·exact hb y
  ·have y':b=s.heap.objs.size:=by simpa using y
   exact zUG (zUI e) y'
theorem zGG{Q:Value->Shared->Prop}{kvs:List (K×Value)}(hh:A.handled=none)(hd:(d==sysModules)=false)(hm:s.heap.DictAt knd d kvs ep)(hn:kvs.length<=sizeLine)
  (hQ: ∀h' tk acc' c',(∀b o,s.heap.get? b=some o->h'.get? b=some o)->h'.get? s.heap.objs.size=some {cls:= .type "list",dict:=none,data:= .seq acc' c',slots:= #[]}->
   ItemsOf (fun i v=> ∃k x,kvs[i]?=some (k,x)/\knd.is k v=true) acc' kvs.length->Q (.ref s.heap.objs.size) {s with heap:=h',toks:=tk}):
  wpAny (model prog w) A (call (.type "list") [.ref d]) Q E s:=by
 refine callType_codes (Q₁:=fun obj s₁=>obj= .ref s.heap.objs.size/\s₁={s with heap:=s.heap.push {cls:= .type "list",data:= .seq #[]}}) F.called_list (F.typeCall_list_1 _) F.entry_list_init
  (code_list_new _ ⟨rfl,rfl⟩) fun obj s₁ h₁=>?_
 obtain ⟨rfl,rfl⟩:=h₁;have hS:(s.heap.push {cls:= .type "list",data:= .seq #[]}).get? s.heap.objs.size=some {cls:= .type "list",data:= .seq #[]}:=zUQ _ rfl;refine ⟨⟨_,hS,rfl⟩,F.args_list_init_2 _ _,?_⟩;show wpAny _ _ (do let old<-Builtin.List.listItems (.ref s.heap.objs.size);Builtin.List.listUpdate (.ref s.heap.objs.size) (fun _=> #[]);letGo old.toList.reverse;Builtin.List.listExtendWith (.ref s.heap.objs.size) (.ref d) .none) _ _ _;refine zTz ?_;unfold Builtin.List.listItems;refine zTz (wpAny_seqItems hS rfl (zUE ?_));show wpAny _ _ (updateSeq s.heap.objs.size (fun _=> #[])>>=fun _=>letGo (#[] :Array Value).toList.reverse>>=fun _=>Builtin.List.listExtendWith (.ref s.heap.objs.size) (.ref d) .none) _ _ _;refine zTz (wpAny_updateSeq hS rfl ?_);have hS₂:=zUf (Obj.mapSeq (fun _=>(#[] :Array Value))) hS rfl;have oth: ∀b o,b≠s.heap.objs.size->(s.heap.push {cls:= .type "list",data:= .seq #[]}).get? b=some o->((s.heap.push {cls:= .type "list",data:= .seq #[]}).update s.heap.objs.size (Obj.mapSeq (fun _=>(#[] :Array Value)))).get? b=some o:=
  fun b o hb e=>(zUe _ _ (Ne.symm hb)).trans e
 refine zTz (wpAny_letGo ?_);have hm2:=(hm.push {cls:= .type "list",data:= .seq #[]}).at' fun o e=>oth d o (zUG hm.lt_size) e;refine zIZ (knd:=knd) (A:=A.in1) (c₀:=_) hh hd hm2 hn hS₂ fun h' tk acc' c' hk hS' hacc=>?_;exact ⟨rfl,hQ h' tk acc' c' (fun b o e=>hk b o (zUG (zUI e)) (oth b o (zUG (zUI e)) (zUA _ e))) hS' hacc⟩
end
end PySem
namespace L2
open PySem PySem.Spec PyProof.Rows
section
variable {X:Cx}
theorem zJJ(hc:X.calm=true):yY X (.type "list") (fun xs H Q=> ∃(a:Addr) (kvs:List (Key×V)),xs= [.ref a] /\Rd H a (.dK kvs)/\ ∀l,H l=none->Q (.ref l) (upd H l (.lst (kvs.map fun p=>kV p.1)))):=by
 intro pins s σ H xs us Q I r h;obtain ⟨a,kvs,rfl,e,q⟩:=h;obtain ⟨u,rfl,ru⟩:=zAY r;cases ru;obtain ⟨z,hs,vs,rel,dd⟩:=zCC I.hok e;obtain ⟨ep,da⟩:=dd.dictAt;have lv:=KV.length rel;refine zGG (knd:=yU X.prog X.w) (I.ok.hd hc) hs da (by omega) fun h' tk acc' c' kp ho items=>?_;have gen: ∀(us:List Value) (ps:List (Key×V)),us.length=ps.length->(∀(j:Nat) v p,us[j]?=some v->ps[j]?=some p->(yU X.prog X.w).is p.1 v=true)->zT (ps.map fun p=>kV p.1) us:=by
  intro us
  induction us with
  | nil=>
   intro ps hl _;cases ps with
   | nil=>exact .nil
   | cons p ps=>simp at hl
  | cons v us ih=>
   intro ps hl hv;cases ps with
   | nil=>simp at hl
   | cons p ps=>exact .cons (zQN (hv 0 v p rfl rfl)) (ih ps (by simpa using hl) fun j v' p' e1 e2=>hv (j+1) v' p' (by simpa using e1) (by simpa using e2))
 have hv:zT (kvs.map fun p=>kV p.1) acc'.toList:=by
  refine gen _ _ (by have e:=items.1;simp only [Array.length_toList,e];omega) fun j v p e1 e2=>?_;obtain ⟨k,x,e3,e4⟩:=items.2 j v (by simpa using e1);have e5:(vs.map (·.1))[j]?=some k:=by rw [zUD,e3];rfl
  rw [<-KV.keys rel,zUD,e2] at e5;have e6:p.1=k:=Option.some.inj e5;rw [e6];exact e4
 have I2:=Inv.laid (h':=h') (t':=tk) (a:=s.heap.objs.size) (o:= .lst (kvs.map fun p=>kV p.1)) I kp (zUC _) ⟨by rw [zUF];exact z,acc'.toList,c',hv,by simpa using ho⟩;exact ⟨.ref s.heap.objs.size,_,I2,rfl,q _ (I.hok.fresh (zUC _))⟩
end
theorem zIj: ∀(n:Nat) {x:V} {d:PyData},Dat H n x d->d.depth<=n:=by
 have all: ∀{n:Nat},(∀{x:V} {d:PyData},Dat H n x d->d.depth<=n)-> ∀{xs:List V} {ds:List PyData},Paired (Dat H n) xs ds->PyData.depthAll ds<=n:=by
  intro n ih xs ds p
  induction p with
  | nil=>simp only [PyData.depthAll];exact zUN _
  | cons h _ q=>
   have a:=ih h;simp only [PyData.depthAll];omega
 intro n
 induction n with
 | zero=>
  intro x d h;cases x<;>first | exact h.elim |(cases (show d=_ from h);simp only [PyData.depth];exact zUN _)
 | succ n ih=>
  intro x d h;cases x with
  | ref a=>
   rcases h with ⟨xs,ds,rfl,e,p⟩|⟨xs,ds,rfl,e,p⟩
   ·simp only [PyData.depth];have:=all ih p;omega
   ·simp only [PyData.depth];have:=all ih p;omega
  | byt b=>exact h.elim
  | flt b=>exact h.elim
  | ty b=>exact h.elim
  | _=>cases (show d=_ from h);simp only [PyData.depth];exact zUN _
section
variable {X:Cx}{K:zUn}
def zPq(n:Nat)(neg:Bool):R2:=fun x y H Q=> ∃d e,Dat H n x d/\Dat H n y e/\d.canLay0=true/\e.canLay0=true/\Q (.bl (if neg then !PyData.eqv d e else PyData.eqv d e)) H
theorem zMg(hu:X.A.units+n<cLine):OpR X (compareOp .Eq) (zPq n false):=by
 intro pins s σ H x y v u Q I rx ry h;obtain ⟨d,e,hd,he,c1,c2,q⟩:=h;obtain ⟨as,ra⟩:=zCd I n hd rx;obtain ⟨bs,rb⟩:=zCd I n he ry;have l1:=zIj n hd;have l2:=zIj n he;exact SeqAt.compareEq_reads ra rb c1 c2 (by omega) ⟨.bl _,H,I,rfl,q⟩
end
section
variable {X:Cx}{K:zUn}{o e i value:Expr}{f:Str}{pos pos' apos p:Pos}{ta tv td ty:TE}{CX:CXT}{k:Nat}{g C:Addr}{fd:FuncData}{ps:List Str}{sp:Sp}{dvs:List V}{ds:List Value}{E:XK}{x m:Str}
theorem zAu(hK:X.K=K)(he:QE X e ta)(hb:attributeBase e f X.env (eval e X.env)=eval e X.env):QE X (.Attribute e f pos) (zPf K ta f):=by
 subst hK;exact ⟨zQU he.out hb⟩
theorem zJf(hK:X.K=K)(ha:QE X o ta)(hv:QE X value tv)(hs:swapsWith value (some (.Attribute o f pos')) pos.line X.env=pure false):QS X (.Assign [.Attribute o f pos'] value pos) (zQv K ta tv f):=by
 subst hK;exact ⟨zPl ha.out hv.out hs⟩
theorem zHA(hu:X.A.units+1<cLine)(hi:QE X i ty)(ho:QE X o td)(h:behindInMarks .In o=false):QT X (.Compare i [.In] [o] pos) (tB (zQp ty td)):=⟨zDl (zQn hu hi.out ho.out) h⟩
def zRe(td ty tv:TE):TS:=fun D σ H=>tv σ H fun v H1=>td σ H1 fun x H2=>ty σ H2 fun y H3=>zNQ x y v H3 fun H4=>D.nx σ H4
theorem zLF(ho:QE X o td)(hi:QE X i ty)(hv:QE X value tv)(hs:swapsWith value (some (.Subscript o i pos')) pos.line X.env=pure false):QS X (.Assign [.Subscript o i pos'] value pos) (zRe td ty tv):=by
 refine ⟨fun pins s σ H D I h=>?_⟩;refine wpAny_Assign_Subscript (zW (hv.out pins s σ H _ I h) fun r s1 ⟨v,H1,I1,rv,q1⟩=>zW (ho.out pins s1 σ H1 _ I1 q1) fun u s2 ⟨x,H2,I2,rx,q2⟩=>zW (hi.out pins s2 σ H2 _ I2 q2) fun iv s3 ⟨y,H3,I3,ry,q3⟩=>?_) hs;exact zW (zLx pins s3 σ H3 x y v u iv r _ I3 rx ry rv q3) fun _ s4 ⟨H4,I4,q4⟩=>⟨σ,H4,I4,q4⟩
end
end L2
namespace PySem
open PyProof.Rows
section
variable {prog:Program}{w:World}{K:Type}[DecidableEq K]{knd:KeyKind prog w K}{A:Around}{E:Value->Shared->Prop}{s:Shared}
end
end PySem
namespace L2
open PySem PySem.Spec PyProof.Rows
open PyProof
section
variable {X:Cx}{K:zUn}{o e:Expr}{to te:TE}{apos cpos p0:Pos}{j:Nat}
end
section
variable {X:Cx}{scope:Scope}{cl:List (Str×Addr)}{C:Addr}{N:List Str}{s₂:Shared}{H₂:Hp}{fp:List Addr}{xe:Value->Shared->Prop}{pins:List (Addr×Obj)}{σ:St}{H:Hp}{s:Shared}
end
section
variable {X:Cx}{K:zUn}{CX:CXT}{k:Nat}{f C:Addr}{fd:FuncData}{ps:List Str}{sp:Sp}{dvs:List V}{ds:List Value}{E:XK}{x:Str}{p pos:Pos}{e:Expr}{es:List Expr}{t:TA}
theorem zKT(M:Mk X.K C f)(F:FnOk X.prog X.w X.K X.mg X.base CX k f fd ps sp)(hr:Room (k+1) X.A)(hg:Gl X x)(hm:X.mg x=some (.ref C))(hb:zO X.K fd ps ds)(hd:zT dvs ds)(hx:zAm CX X E)
  (ha:QA X (e::es) t) (h1:(x==("__debug__" :Str))=false) (h2:yK e=true) (h3:zAA es=true):QE X (.Call (.Name x p) (e::es) [] pos) (zNl C sp dvs E t):=⟨zOm M F hr hg hm hb hd hx ha.out h1 (za h2) (zAV h3)⟩
end
section
variable {X:Cx}{K:zUn}{o i e:Expr}{to ti te:TE}{tl th:TO}{lo hi:Option Expr}{pos p2 tpos:Pos}
theorem zAe(hK:X.K=K)(he:QE X e te)(hl:QO X lo tl)(hu:QO X hi th):QE X (.Subscript e (.Slice lo hi none p2) pos) (tSl (zRS K) te tl th):=by
 subst hK;exact ⟨zEu zLm he.out hl.out hu.out⟩
end
section
variable {X:Cx}{K:zUn}
end
section
variable {X:Cx}{K:zUn}
variable {o:Expr}{to:TE}{apos cpos:Pos}
end
section
variable {X:Cx}{CX:CXT}{k i:Nat}{f g:Addr}{fd gd:FuncData}{ps qs:List Str}{sp sq:Sp}{dvs:List V}{ds:List Value}{E:XK}{x:Str}{p pos:Pos}{e:Expr}{es:List Expr}{t:TA}
end
end L2
namespace PySem
open PyProof.Rows
section
variable {prog:Program}{w:World}{A:Around}{E:Value->Shared->Prop}{s:Shared}
end
end PySem
namespace PySem
open PyProof.Rows
section
variable {prog:Program}{w:World}{A:Around}{R:Result->Shared->Prop}{I:Addr}{fp wr:List Addr}{G:Array GenState->Array GenState->Prop}{n:Nat}{P:Nat->Value->Prop}{St:Nat->Shared->Prop}
end
section
variable {prog:Program}{w:World}{A:Around}{E:Value->Shared->Prop}{s:Shared}
end
end PySem
namespace PySem
open PyProof.Rows
section
variable {prog:Program}{w:World}{A:Around}{E:Value->Shared->Prop}{s:Shared}{it a tp:Addr}{es:Array (Int×Value)}{ep:Nat}{t:SetTable}{order:List Nat}{vals:List Value}{i:Nat}
end
end PySem
namespace PySem
open PyProof.Rows
section
variable {prog:Program}{w:World}{A:Around}{E:Value->Shared->Prop}{s:Shared}
end
end PySem
namespace L2
open PySem PySem.Spec PyProof.Rows
section
variable {X:Cx}{P:Program}{w:World}
end
end L2
namespace PySem.F
theorem slot_none_hash:Slot "NoneType" "__hash__" "NoneType.__hash__" :=Slot.of (owner:= "NoneType") (n:= "__hash__") (by rw [typeLookup_type,builtinLookup_eq_fast];kernel_rfl) (by decide+kernel) (by decide+kernel) (by decide+kernel) (by first | exact .inl (by decide+kernel)| exact .inr (by decide+kernel)) (by rw [isSubtype_type];kernel_rfl)
theorem entry_none_hash:entryFor table "NoneType.__hash__" =some Builtin.«NoneType.__hash__»:=entryFor_of_tree (by kernel_rfl)
theorem args_none_hash(a:Value):argsOk "NoneType.__hash__" ⟨[a],[]⟩:=by unfold argsOk;kernel_rfl
end PySem.F
namespace PySem
open PyProof.Rows
section
variable {prog:Program}{w:World}{A:Around}{E:Value->Shared->Prop}{s:Shared}
theorem zIU{Q:Int->Shared->Prop}(h:Q 4238894112 {s with toks:=s.toks+1}):wpAny (model prog w) A (pyHash Value.none) Q E s:=by
 show wpAny (model prog w) A (pyHashByItsType Value.none) Q E s;refine W.pyHash_slot (T:= "NoneType") rfl F.slot_none_hash F.entry_none_hash (F.args_none_hash _) (by decide) (.inl rfl) ?_;unfold Builtin.«NoneType.__hash__»;refine zTz (m:=slotArgs "__hash__" 0 _) (zUE ?_);unfold retInt;refine zTz (wpAny_mkInt (zUE ⟨_,_,rfl,?_⟩));exact h
end
end PySem
namespace L2
open PySem PySem.Spec PyProof.Rows
def zFu:Option Str->Value->Bool
 | none,.none=>true
 | none,_=>false
 | some x,v=>Value.isStrOf x v
def nsH(w:World):Option Str->Int
 | none=>4238894112
 | some x=>hashStr w x
theorem zAD: ∀{k:Option Str} {v:Value},zFu k v=true->(k=none/\v=Value.none)\/(∃x t,k=some x/\v=Value.str x t)
 | none,v,h=>by cases v<;>first | exact .inl ⟨rfl,rfl⟩| cases h
 | some x,v,h=>by
  obtain ⟨t,e⟩:=Value.isStrOf_shape (x:=x) (v:=v) h;exact .inr ⟨x,t,rfl,e⟩
theorem zDQ(x:Str)(t:Tok):zFu (some x) (.str x t)=true:=by simp [zFu,Value.isStrOf]
theorem zSa(a b:Str):decide ((some a:Option Str)=some b)=decide (a=b):=by
 by_cases e:a=b
 ·subst e;simp
 ·have h: ¬(some a:Option Str)=some b:=fun q=>e (Option.some.inj q);rw [zUW h,zUW e]
def zDg(prog:Program)(w:World):PySem.KeyKind prog w (Option Str) where
 is:=zFu
 hash:=nsH w
 inj:=fun v a b ha hb=>by
  rcases zAD ha with ⟨rfl,rfl⟩|⟨x,t,rfl,rfl⟩
  ·rcases zAD hb with ⟨rfl,e⟩|⟨y,u,rfl,e⟩
   ·rfl
   ·exact nomatch e
  ·rcases zAD hb with ⟨rfl,e⟩|⟨y,u,rfl,e⟩
   ·exact nomatch e
   ·injection e with e1 _;rw [e1]
 byValue:=fun k v h=>by
  rcases zAD h with ⟨rfl,rfl⟩|⟨x,t,rfl,rfl⟩<;>rfl
 pyHash:=fun hv h=>by
  rcases zAD hv with ⟨rfl,rfl⟩|⟨x,t,rfl,rfl⟩
  ·exact zIU h
  ·exact wpAny_pyHash_str h
 eqBool:=fun hu hv h=>by
  rcases zAD hu with ⟨rfl,rfl⟩|⟨x,t,rfl,rfl⟩
  ·rcases zAD hv with ⟨rfl,rfl⟩|⟨y,u,rfl,rfl⟩
   ·exact SeqAt.EqAt.same Value.none _ _ _ _ (by simpa using h)
   ·exact SeqAt.EqAt.none_str y u _ _ _ _ (by simpa using h)
  ·rcases zAD hv with ⟨rfl,rfl⟩|⟨y,u,rfl,rfl⟩
   ·exact SeqAt.EqAt.str_none x t _ _ _ _ (by simpa using h)
   ·rw [zSa] at h;exact wpAny_eqBool_str h
 «strs»:=fun k x t v h=>by
  rcases zAD h with ⟨rfl,e⟩|⟨y,u,rfl,e⟩
  ·exact nomatch e
  ·injection e with e1 _;subst e1;cases v<;>rfl
structure KDic(w:World)(K:zUn)(a:Addr)(kvs:List (Str×Int)):Prop where
 ne:(a==sysModules)=false
 nd:(kvs.map (·.1)).Nodup
 ex: ∃es n,K.lookup a=some {cls:= .type "dict",dict:=none,data:= .dict es n,slots:= #[]}/\PySem.W.KeysLit w.params es.toList/\Paired (fun (e:DictEntry) (kv:Str×Int)=>(∃t,e.key= .str kv.1 t)/\ ∃t,e.val= .int kv.2 t) es.toList kvs
def opt:V->Option (Option Str)
 | .non=>some none
 | .str x=>some (some x)
 | _=>none
def kdV(kvs:List (Str×Int))(x:Str):Option Int:=(kvs.find? fun kv=>decide (kv.1=x)).map (·.2)
def kdO(kvs:List (Str×Int)):V->Option Int
 | .str x=>kdV kvs x
 | _=>none
theorem zHf{P:Params}: ∀{es:List DictEntry},PySem.W.KeysLit P es-> ∀e∈es,∃x t,e.key= .str x t/\e.hash=PyData.keyHash P x
 | [],_,e,h=>(nomatch h)
 | e0::es,hl,e,h=>by
  unfold PySem.W.KeysLit at hl;rcases zUo.mp h with rfl | h
  ·exact hl.1
  ·exact zHf hl.2 e h
section
variable {X:Cx}{pins:List (Addr×Obj)}{σ:St}{H:Hp}{s:Shared}{a:Addr}{kvs:List (Str×Int)}{A:Around}{E:Value->Shared->Prop}
theorem zHz: ∀{es:List DictEntry} {kvs:List (Str×Int)},Paired (fun (e:DictEntry) (kv:Str×Int)=>(∃t,e.key= .str kv.1 t)/\ ∃t,e.val= .int kv.2 t) es kvs->
  ∃vs:List (Option Str×Value),Pairs (zDg prog w) es vs/\vs.map (·.1)=kvs.map (fun kv=>some kv.1)/\ ∀x,(valueAt vs (some x)).isSome=(kdV kvs x).isSome/\(∀i,kdV kvs x=some i-> ∃t,valueAt vs (some x)=some (.int i t))/\valueAt vs none=none
 | _,_,.nil=>⟨[],.nil,rfl,fun x=>⟨rfl,fun i h=>(nomatch h),rfl⟩⟩
 | e::es,kv::kvs,.cons h r=>by
  obtain ⟨vs,h1,h2,h3⟩:=zHz (prog:=prog) (w:=w) r;obtain ⟨⟨t,hk⟩,u,hv⟩:=h;refine ⟨(some kv.1,e.val)::vs,.cons (show zFu (some kv.1) e.key=true by rw [hk];exact zDQ _ t) rfl h1,by rw [zUr,zUr,h2],fun x=>?_⟩;obtain ⟨h4,h5,h6⟩:=h3 x;by_cases z:kv.1=x
  ·subst z;have e1:valueAt ((some kv.1,e.val)::vs) (some kv.1)=some e.val:=by simp [valueAt]
   have e2:kdV (kv::kvs) kv.1=some kv.2:=by simp [kdV]
   rw [e1,e2,hv];exact ⟨rfl,fun i h=>by cases h;exact ⟨u,rfl⟩,by simpa [valueAt] using h6⟩
  ·have z': ¬(some kv.1:Option Str)=some x:=fun q=>z (Option.some.inj q);have e1:valueAt ((some kv.1,e.val)::vs) (some x)=valueAt vs (some x):=by simp [valueAt,z]
   have e2:kdV (kv::kvs) x=kdV kvs x:=by simp [kdV,z]
   rw [e1,e2];exact ⟨h4,h5,by simpa [valueAt] using h6⟩
theorem zNT(I:Inv X pins σ H s)(k:KDic X.w X.K a kvs): ∃vs:List (Option Str×Value),s.heap.DictOf (zDg X.prog X.w) a vs/\ ∀x,(valueAt vs (some x)).isSome=(kdV kvs x).isSome/\(∀i,kdV kvs x=some i-> ∃t,valueAt vs (some x)=some (.int i t))/\valueAt vs none=none:=by
 obtain ⟨es,n,hk,hl,hp⟩:=k.ex;obtain ⟨vs,h1,h2,h3⟩:=zHz (prog:=X.prog) (w:=X.w) hp;refine ⟨vs,⟨_,es,n,I.kIn a _ hk,⟨rfl,rfl,rfl⟩,rfl,fun e he=>?_,h1,?_⟩,h3⟩
 ·obtain ⟨x,t,e1,e2⟩:=zHf hl e (Array.mem_toList_iff.mpr he);exact ⟨some x,show zFu (some x) e.key=true by rw [e1];exact zDQ x t,e2⟩
 ·rw [h2];have:=k.nd;rw [show kvs.map (fun kv=>some kv.1)=(kvs.map (·.1)).map some by rw [List.map_map];rfl];exact List.Pairwise.map _ (fun _ _ h e=>h (Option.some.inj e)) this
def zIf(kvs:List (Str×Int))(ty:TE):TE:=fun σ H Q=>ty σ H fun y H1=>(opt y).isSome=true/\Q (.bl (!(kdO kvs y).isSome)) H1
def zJu(kvs:List (Str×Int))(ty:TE):TE:=fun σ H Q=>ty σ H fun y H1=> ∃x i,y= .str x/\kdV kvs x=some i/\Q (.int i) H1
end
section
variable {X:Cx}{a:Addr}{kvs:List (Str×Int)}{o i:Expr}{pos:Pos}{ty:TE}
theorem zLS(k:KDic X.w X.K a kvs)(hi:PE X i ty)(ho:PE X o (tC (.ref a))):PC X .NotIn i o (zIf kvs ty):=by
 intro pins s σ H Q I h;refine zW (hi pins s σ H _ I h) fun iv s1 ⟨y,H1,I1,ry,⟨hy,q1⟩⟩=>zW (ho pins s1 σ H1 (fun x H2=>x= .ref a/\Q (.bl (!(kdO kvs y).isSome)) H2) I1 ⟨rfl,q1⟩) fun u s2 ⟨x,H2,I2,rx,ex,q2⟩=>?_;subst ex;obtain rfl:u=Value.ref a:=rx;obtain ⟨vs,dd,hv⟩:=zNT I2 k;cases y with
 | non=>
  cases (show iv=Value.none from ry);refine wpAny_notIn_of (knd:=zDg X.prog X.w) (k:=none) rfl k.ne dd.mapOf ?_;rw [(hv Str.empty).2.2];exact ⟨.bl true,H2,I2.tok _,rfl,q2⟩
 | str x=>
  obtain ⟨t,rfl⟩:=(show∃t,iv=Value.str x t from ry);refine wpAny_notIn_of (knd:=zDg X.prog X.w) (k:=some x) (zDQ x t) k.ne dd.mapOf ?_;rw [(hv x).1];exact ⟨.bl _,H2,I2.tok _,rfl,q2⟩
 | _=>cases hy
theorem zPB(k:KDic X.w X.K a kvs)(ho:PE X o (tC (.ref a)))(hi:PE X i ty)(hs:zIM i):PE X (.Subscript o i pos) (zJu kvs ty):=by
 intro pins s σ H Q I h;refine zIk PySem.F.slot_dict_getitem.lookup hs (zW (ho pins s σ H (fun x H1=>x= .ref a/\zJu kvs ty σ H1 Q) I ⟨rfl,h⟩) fun u s1 ⟨x,H1,I1,rx,ex,q1⟩=>zW (hi pins s1 σ H1 _ I1 q1) fun iv s2 ⟨y,H2,I2,ry,z,j,ey,hz,q2⟩=>?_);subst ex ey;obtain rfl:u=Value.ref a:=rx;obtain ⟨t,rfl⟩:=(show∃t,iv=Value.str z t from ry);obtain ⟨vs,dd,hv⟩:=zNT I2 k;obtain ⟨t',ht⟩:=(hv z).2.1 j hz;exact ⟨dd.typeIs,wpAny_getItem_of (knd:=zDg X.prog X.w) (k:=some z) (zDQ z t) dd.mapOf ht ⟨.int j,H2,I2.tok _,⟨t',rfl⟩,q2⟩⟩
theorem zIL(k:KDic X.w X.K a kvs)(hi:QE X i ty)(ho:QE X o (tC (.ref a)))(h:behindInMarks .NotIn o=false):QT X (.Compare i [.NotIn] [o] pos) (tB (zIf kvs ty)):=⟨zDl (zLS k hi.out ho.out) h⟩
theorem zLI(k:KDic X.w X.K a kvs)(ho:QE X o (tC (.ref a)))(hi:QE X i ty)(hs:zIM i):QE X (.Subscript o i pos) (zJu kvs ty):=⟨zPB k ho.out hi.out hs⟩
end
end L2
namespace PySem
open PyProof.Rows
section
variable {prog:Program}{w:World}{A:Around}{E:Value->Shared->Prop}{s:Shared}
theorem zCa{items:Array Value}{Q:Value->Shared->Prop}(hit:s.heap.IsTupleIter it l i)(hl:s.heap.IsTuple l items)(hx:items[i]?=some x)
  (h: ∀h',h'.IsTupleIter it l (i+1)->Heap.SameBut it s.heap h'->Q x {s with heap:=h'}):wpAny (model prog w) A (Builtin.SmallTypes.nextOf (.ref it)) Q E s:=by
 obtain ⟨o,ho,hc,hd⟩:=id hit;obtain ⟨ol,hol,hcl,nl,hdl⟩:=id hl;have hT:s.TypeIs (.ref it) "tuple_iterator" :=⟨o,ho,hc⟩;unfold Builtin.SmallTypes.nextOf;refine zTz (wpAny_callSpecial?_slot (name:=Str.ofString "__next__") hT F.slot_tuple_iterator_next (wpAny_call_entry F.slot_tuple_iterator_next hT F.entry_tuple_iterator_next ?_ (F.args_tuple_iterator_next_1 _)));unfold Builtin.«tuple_iterator.__next__»
 wp_delta
 refine zTz (zUE ?_)
 try dsimp only
 refine zTz (wpAny_field ho hd rfl ?_);rw [if_neg (by simp)];refine zTz (wpAny_field ho hd rfl ?_)
 try dsimp only
 refine zTz (wpAny_seqItems hol hdl ?_)
 try dsimp only
 rw [show ((i:Nat):Int).toNat=i from rfl,hx]
 try dsimp only
 refine zTz (wpAny_setField ho hd (by simp) ?_);have h1:=zUf (Obj.mapFields (·.setIfInBounds 1 (rawInt ((i:Int)+1)))) ho (Obj.isFreed_of_fields (Obj.data_mapFields hd _));refine zUE ⟨_,rfl,zUE (h _ ⟨_,h1,(Obj.cls_mapFields ..).trans hc,?_⟩ (Heap.SameBut.update ..))⟩;rw [Obj.data_mapFields hd];simp [rawInt]
theorem zCq{items:Array Value}{Q:Value->Shared->Prop}(hh:A.handled=none)(hit:s.heap.IsTupleIter it l i)(hl:s.heap.IsTuple l items)(hx:items[i]?=none)
  (h: ∀h' e,Heap.ExtBut it s.heap h'->(∃o,h'.get? e=some o/\o.cls= .type "StopIteration")->E (.ref e) {s with heap:=h'}):wpAny (model prog w) A (Builtin.SmallTypes.nextOf (.ref it)) Q E s:=by
 obtain ⟨o,ho,hc,hd⟩:=id hit;obtain ⟨ol,hol,hcl,nl,hdl⟩:=id hl;have hT:s.TypeIs (.ref it) "tuple_iterator" :=⟨o,ho,hc⟩;unfold Builtin.SmallTypes.nextOf;refine zTz (wpAny_callSpecial?_slot (name:=Str.ofString "__next__") hT F.slot_tuple_iterator_next (wpAny_call_entry F.slot_tuple_iterator_next hT F.entry_tuple_iterator_next ?_ (F.args_tuple_iterator_next_1 _)));unfold Builtin.«tuple_iterator.__next__»
 wp_delta
 refine zTz (zUE ?_)
 try dsimp only
 refine zTz (wpAny_field ho hd rfl ?_);rw [if_neg (by simp)];refine zTz (wpAny_field ho hd rfl ?_)
 try dsimp only
 refine zTz (wpAny_seqItems hol hdl ?_)
 try dsimp only
 rw [show ((i:Nat):Int).toNat=i from rfl,hx]
 try dsimp only
 refine zTz (wpAny_rule ?_);refine zTz (wpAny_setField ho hd (by simp) ?_);unfold Builtin.SmallTypes.stopIteration;refine zTz ?_;simp only [newExc,newTuple];refine zTz (wpAny_newObj_type ?_ (by size_fits));refine zTz (m:=firstArgMember _ _) (wpAny_of_eq (a:=Value.none) (by first | rfl |(simp only [firstArgMember];rfl)) ?_);refine wpAny_newObj_type ?_ (by size_fits);simp only [raiseNew];refine zTz (wpAny_handled ?_);rw [show A.in1.handled=none from hh];refine zTz (zUE (wpAny_throw ?_));exact h _ _ (fun b o hb e=>zUA _ (zUA _ ((Heap.SameBut.update ..).extBut b o hb e))) ⟨_,zUQ _ rfl,rfl⟩
theorem Draws.tuple(hh:A.handled=none)(it l:Addr)(hne:l≠it)(items:Array Value):Draws prog w A it [it,l] items.size (fun i v=>items[i]?=some v) fun i h=>h.IsTupleIter it l i/\h.IsTuple l items where
 live:=fun i h ⟨⟨o,ho,_⟩,_⟩=>⟨o,ho⟩
 frame:=fun i h h' ⟨⟨o,ho,r⟩,⟨ol,hol,r2⟩⟩ k=>⟨⟨o,k it (by simp) _ ho,r⟩,⟨ol,k l (by simp) _ hol,r2⟩⟩
 item:=fun i s Q E hi ⟨h1,h2⟩ hQ=>by
  have hx:items[i]?=some items[i] :=Array.getElem?_eq_getElem hi;exact zCa h1 h2 hx fun h' h1' sb=>hQ items[i] h' s.toks hx ⟨h1',let ⟨ol,hol,r⟩:=h2;⟨ol,sb.extBut l ol hne hol,r⟩⟩ sb
 done:=fun s Q E ⟨h1,h2⟩ hQ=>zCq hh h1 h2 (Array.getElem?_eq_none (zUC _)) fun h' e eb ho=>hQ h' e eb ho
theorem zDc(l:Addr)(items:Array Value)(n:Nat)(c:Value)(dct:Option Addr)(sl:Array (Option Value))(hc:c= .type "tuple"):Meets (Builtin.«enumerate.__new__» ⟨[.type "enumerate",.ref l],[]⟩) fun _ R s=>
  s.heap.get? l=some {cls:=c,dict:=dct,data:= .seq items n,slots:=sl}/\R (Except.ok (Flow.ret (Value.ref (s.heap.push {cls:= .type "tuple_iterator",data:= .fields #[.ref l,.int 0 0]}).objs.size)))
   {s with heap:=(s.heap.push {cls:= .type "tuple_iterator",data:= .fields #[.ref l,.int 0 0]}).push {cls:= .type "enumerate",data:= .fields #[.none,.bool false,.ref s.heap.objs.size,rawInt 0,.none,.none]}}:=Meets.of_wp fun prog w A R s h=>by
  obtain ⟨hp,g,d,tk,os⟩:=s;obtain ⟨hl,h⟩:=h;subst hc;have hsub:=sub_enumerate;have hL:Heap.IsTuple (Shared.heap ⟨hp,g,d,tk,os⟩) l items:=⟨_,hl,rfl,n,rfl⟩
  wp_walk using AutoSeq1.wpAny_loadPart' hl
  refine wpAny_stack_any fun st=>zUE ?_;split
  ·rename_i c _ _ _ _ _
   cases (c==Value.type "enumerate")
   ·wp_walk using AutoSeq1.wpAny_loadPart' hl,wpAny_pyIter_tuple hL
    exact ⟨_,rfl,h⟩
   ·wp_walk using AutoSeq1.wpAny_loadPart' hl,wpAny_pyIter_tuple hL
    exact ⟨_,rfl,h⟩
  ·wp_walk using AutoSeq1.wpAny_loadPart' hl,wpAny_pyIter_tuple hL
   exact ⟨_,rfl,h⟩
theorem zDW{items:Array Value}{Q:Value->Shared->Prop}(hL:s.heap.IsTuple l items)
  (h: ∀h',IsEnum h' (s.heap.objs.size+1) s.heap.objs.size 0 .none->h'.IsTupleIter s.heap.objs.size l 0->h'.objs.size=s.heap.objs.size+2->
   (∀b o,s.heap.get? b=some o->h'.get? b=some o)->Q (.ref (s.heap.objs.size+1)) {s with heap:=h'}):
  wpAny (model prog w) A (call (.type "enumerate") [.ref l]) Q E s:=by
 obtain ⟨⟨c,dct,dt,sl⟩,hl,hc,n,hd⟩:=hL;replace hd:dt= .seq items n:=hd;subst hd;refine callType_new F.called_enumerate (by decide) (F.typeCall_enumerate_1 _) (F.newCall_enumerate_1 _) (fun obj=>F.args_object_init_2 obj _) F.entry_enumerate_new
  (zDc l items n c dct sl hc) ⟨hl,?_⟩
 have hz:(s.heap.push {cls:= .type "tuple_iterator",data:= .fields #[.ref l,.int 0 0]}).objs.size=s.heap.objs.size+1:=Heap.size_push ..;show _/\_;rw [hz];have he:IsEnum ((s.heap.push {cls:= .type "tuple_iterator",data:= .fields #[.ref l,.int 0 0]}).push
   {cls:= .type "enumerate",data:= .fields #[.none,.bool false,.ref s.heap.objs.size,rawInt 0,.none,.none]}) (s.heap.objs.size+1) s.heap.objs.size 0 .none:=by
  have:=zUQ (s.heap.push {cls:= .type "tuple_iterator",data:= .fields #[.ref l,.int 0 0]})
   (o:={cls:= .type "enumerate",data:= .fields #[.none,.bool false,.ref s.heap.objs.size,rawInt 0,.none,.none]}) rfl
  rw [hz] at this;exact this
 refine ⟨⟨_,he,rfl⟩,h _ he ⟨_,zUA _ (zUQ _ rfl),rfl,rfl⟩ (by rw [Heap.size_push,hz]) fun b o x=>zUA _ (zUA _ x)⟩
end
end PySem
namespace L2
open PySem PySem.Spec PyProof.Rows
def zQY(l:Addr):It:=
 ⟨fun i H=> ∃xs x,H l=some (.tup xs)/\xs[i]?=some x,fun i H x H'=> ∃t y,(∀xs,H l=some (.tup xs)->xs[i]?=some y)/\H t=none/\x= .ref t/\H'=upd H t (.tup [.int i,y]),fun i H=> ∃xs,H l=some (.tup xs)/\xs.length=i⟩
theorem zJX{P:Program}{w:World}{K:zUn}{elts:List Expr}{x1}{pos:Pos}(l e it:Addr)(hne:e≠it)(hle:l≠e)(hli:l≠it):Turn P w K (.Tuple elts x1 pos) (zQY l) [e,it] e (fun i h=> ∃old,IsEnum h e it i old/\h.IsTupleIter it l i) where
 mem:=by simp
 obj:=fun i h st b hb=>by
  obtain ⟨old,e1,o,e2,c,d⟩:=st;rcases zUo.mp hb with r | r
  ·subst r;exact ⟨_,e1,fun v z=>by
    have z':Data.fields _=Data.cell v:=z;cases z'⟩
  ·have r':b=it:=by simpa using r
   subst r';exact ⟨o,e2,fun v z=>by rw [d] at z;cases z⟩
 keep:=fun i h h' st k=>let ⟨old,e1,e2⟩:=st;⟨old,k e (by simp) _ e1,let ⟨o,z,r⟩:=e2;⟨o,k it (by simp) o z,r⟩⟩
 item:=by
  intro X hP hw hK hc i pins s σ H E I hf st hg;subst hP hw hK;obtain ⟨xs,x,hq,hx⟩:=hg;obtain ⟨old,hen,hit⟩:=st;obtain ⟨its,rv,p⟩:=I.tupl hq;obtain ⟨u,hu,ru⟩:=rv.get hx;obtain ⟨f0,f1,f2,f3,f4,f5⟩:=hf e (by simp);obtain ⟨g0,g1,g2,g3,g4,g5⟩:=hf it (by simp);have hlt:i<its.toArray.size:=by
   have:=(zUy.mp hu).1;simpa using this
  refine wpAny_pyNext_enum_itemD (Draws.tuple (A:=X.A.in1) (show X.A.in1.handled=none from I.ok.hd hc) it l hli its.toArray) hen ⟨hit,p⟩ hlt hne (by simp [hne,Ne.symm hle]) fun u' h1 tk hu' heo hit1 ht hz1 hk=>⟨_,rfl,?_⟩;have hit1:=hit1.1;obtain rfl:u=u':=by
   have e1:its.toArray[i]?=some u':=hu';have e2:its.toArray[i]?=some u:=by simpa using hu
   rw [e1] at e2;cases e2;rfl
  refine wpAny_letOwnedTupleGo_enum heo fun h2 he2 hs2=>?_;replace hs2:Heap.SameBut e h1 h2:=hs2;have hn1:s.heap.objs.size≠e:=zUg (zUI hen);have hn2:s.heap.objs.size≠it:=by
   obtain ⟨o,z,_⟩:=hit;exact zUg (zUI z)
  have old': ∀b q,b≠e->b≠it->s.heap.get? b=some q->h2.get? b=some q:=fun b q hb hb2 z=>(hs2.2 b hb).trans (hk b q hb hb2 z);have new:h2.get? s.heap.objs.size=some {cls:= .type "tuple",data:= .seq #[.int i tk,u]}:=(hs2.2 _ hn1).trans ht;obtain ⟨oi,hoi,hci⟩:=id hit;obtain ⟨oj,hoj,hcj⟩:=id hit1;have hoj2:h2.get? it=some oj:=(hs2.2 it (Ne.symm hne)).trans hoj;have I1:Inv X pins σ (upd H s.heap.objs.size (.tup [.int i,x])) {s with heap:=s.heap.push {cls:= .type "tuple",data:= .seq #[.int i tk,u]},toks:=tk+1}:=
   I.laid (fun b q e=>zUA _ e) (zUC _) ⟨by show 2<=sizeLine;decide,[.int i tk,u],.cons ⟨_,rfl⟩ (.cons ru .nil),_,zUQ _ rfl,rfl,⟨_,rfl⟩,rfl⟩
  have I2:=Inv.turnedL (h':=h2) (t':=tk+1) (ch:= [e,it]) I1 (fun b q hb z=>by
   have hb1:b≠e:=fun y=>hb (by simp [y]);have hb2:b≠it:=fun y=>hb (by simp [y]);replace z:(s.heap.push {cls:= .type "tuple",data:= .seq #[.int i tk,u]}).get? b=some q:=z;by_cases hbs:b=s.heap.objs.size
   ·subst hbs;rw [zUQ _ rfl] at z;cases z;exact new
   ·rw [Heap.get?_push_ne _ _ _ hbs] at z;exact old' b q hb1 hb2 z) (fun b hb=>(hf b hb).upd (by
     rcases zUo.mp hb with r | r
     ·subst r;exact Ne.symm hn1
     ·have r':b=it:=by simpa using r
      subst r';exact Ne.symm hn2))
  refine ⟨.ref s.heap.objs.size,_,I2,rfl,⟨_,x,fun ys hy=>by rw [hq] at hy;cases hy;exact hx,I.hok.fresh (zUC _),rfl,rfl⟩,⟨u,?_,oj,hoj2,hcj⟩,fun b hb=>?_⟩
  ·have z:((i+1:Nat):Int)=(i:Int)+1:=by omega
   rw [z];exact he2
  ·rcases zUo.mp hb with r | r
   ·subst r;rw [zN (Ne.symm hn1)];exact f0
   ·have r':b=it:=by simpa using r
    subst r';rw [zN (Ne.symm hn2)];exact g0
 done:=by
  intro X hP hw hK hc i pins s σ H E I hf st hg;subst hP hw hK;obtain ⟨xs,hq,hx⟩:=hg;obtain ⟨old,hen,hit⟩:=st;obtain ⟨its,rv,p⟩:=I.tupl hq;obtain ⟨g0,g1,g2,g3,g4,g5⟩:=hf it (by simp);have hl:=rv.length;have hz:its.toArray.size=i:=by simp;omega
  subst hz;exact wpAny_pyNext_enum_endD (Draws.tuple (A:=X.A.in1) (show X.A.in1.handled=none from I.ok.hd hc) it l hli its.toArray) hen ⟨hit,p⟩ fun h' eb=>⟨rfl,I.turned (t':=s.toks) (fun b o hb e=>eb b o hb e) g0 g1 g3 g4 g5⟩
 self:=fun A i s Q E st h=>by
  obtain ⟨old,e1,_⟩:=st;exact wpAny_pyIter_enum e1 h
def zLG(ta:TA):TI:=fun σ H R=>ta σ H fun vs H1=> ∃a,vs= [.ref a] /\(∃xs,H1 a=some (.tup xs))/\R (zQY a) H1
theorem zLy{X:Cx}{a:Expr}{ta:TA}{p pos tpos:Pos}{elts:List Expr}{x1}(hg:Gl X "enumerate")(hm:X.mg "enumerate" =none)(ha:PA X [a] ta)(hs:starEach [a] X.env= [(false,eval a X.env)]):
  PI X (.Tuple elts x1 tpos) (.Call (.Name "enumerate" p) [a] [] pos) (zLG ta):=by
 intro pins s σ H R I h;refine Call_ (zCN I hg hm boot_enumerate (PyProof.Rows.callWith_type1 (zW (ha pos pins s σ H _ I h) fun us s1 ⟨vs,H1,I1,r1,q1⟩=>?_) hs rfl));obtain ⟨l,e,⟨xs,hq⟩,q⟩:=q1;subst e;obtain ⟨u,rfl,ru⟩:=zAY r1;cases ru;obtain ⟨its,rv,pl⟩:=I1.tupl hq;refine zDW pl fun h' he hit hsz hk=>?_;refine wpAny_pyIter_enum he ?_;have hl2:l≠s1.heap.objs.size:=by
  obtain ⟨o,z,_⟩:=pl;exact zUG (zUI z)
 have hl1:l≠s1.heap.objs.size+1:=by
  obtain ⟨o,z,_⟩:=pl;have y:l<s1.heap.objs.size:=zUI z;exact zUG (Nat.lt_succ_of_lt y)
 refine ⟨_,[s1.heap.objs.size+1,s1.heap.objs.size],_,_,H1,rfl,I1.kept (t':=s1.toks) hk,zJX l _ _ (Nat.succ_ne_self _) hl1 hl2,⟨_,he,hit⟩,fun b hb=>?_,q⟩;rcases zUo.mp hb with r | r
 ·subst r;exact I1.fpOk (Nat.le_succ _) (I1.hok.fresh (Nat.le_succ _))
 ·have r':b=s1.heap.objs.size:=by simpa using r
  subst r';exact I1.fpOk (zUC _) (I1.hok.fresh (zUC _))
theorem zFn{X:Cx}{x1}(hg:Gl X "enumerate")(hm:X.mg "enumerate" =none)(ha:QA X [a] ta)(h2:yK a=true):
  QI X (.Tuple elts x1 tpos) (.Call (.Name "enumerate" p) [a] [] pos) (zLG ta):=⟨zLy hg hm ha.out (by rw [za h2];rfl)⟩
theorem zKv{X:Cx}:QS X (.Return none pos) zNf:=⟨zPC⟩
end L2
namespace PySem
open PyProof.Rows
section
variable {prog:Program}{w:World}{A:Around}{E:Value->Shared->Prop}{s:Shared}
theorem zEk{Q:Value->Shared->Prop}(hL:s.heap.IsList d its.toArray)(hSt:StrsAre its ss)(h64:its.length<64)
  (h: ∀(h1 h':Heap) tk out ss' e,(∀b o,s.heap.get? b=some o->h1.get? b=some o)->(∀b o,h1.get? b=some o->h'.get? b=some o)->h'.get? h1.objs.size=some (seqObj "list" out e)->StrsAre out.toList ss'->ss'.Perm ss->sortedS ss'=true->Q (.ref h1.objs.size) {s with heap:=h',toks:=tk}):
  wpAny (model prog w) A (call (.builtin "sorted") [.ref d]) Q E s:=by
 obtain ⟨o,ho,hc,n,hd⟩:=hL;refine Calls.call_function_entry kind_sorted plain_sorted entry_sorted (args_sorted1 _) ?_;unfold Builtin.«sorted»;refine zTz (m:=checkCount "sorted" 1 1 _) (zUE ?_);refine zTz (wpAny_collect_seq d (.inl rfl) ho hc hd (fun h1 k1=>?_) (by rw [zUJ];simp;omega));refine zTz (wpAny_newList ?_ (by simp only [];rw [zUJ];omega));have hoL:(h1.push (seqObj "list" its.toArray 0)).get? h1.objs.size=some (seqObj "list" its.toArray 0):=zUQ _ rfl;show wpAny _ _ _ _ _ {s with heap:=h1.push (seqObj "list" its.toArray 0),toks:=s.toks};refine zTz (zUi (wpAny_call_entry slot_list_sort ⟨_,hoL,rfl⟩ entry_list_sort (list_sort_treeK strKind_oneLt hoL hSt.keysOf (fun v₁ v₂ rest e=>keyKind_strs (by rw [<-e];exact hSt)) h64 fun st' a1 a2=>⟨_,rfl,?_⟩) (args_list_sort _)));obtain ⟨ss',b1,b2,b3⟩:=sorted_out_str hSt a1 a2;obtain ⟨e,he⟩:=sortedHeap_at (out:=((arrOf st').map (·.2))) hoL;refine zUE ⟨_,rfl,h h1 _ _ _ ss' e k1 (fun b o q1=>?_) he b1 b2 b3⟩;have lt1:=zUI q1;rw [sortedHeap_old (zUG lt1) (by rw [size_push'];exact Nat.lt_succ_of_lt lt1)];exact zUA _ q1
end
end PySem
namespace L2
open PySem PySem.Spec PyProof.Rows
section
variable {X:Cx}{K:zUn}
theorem zID(hK:X.K=K):yY X (.builtin "sorted") (fun xs H Q=> ∃(a:Addr) (ks:List Str),xs= [.ref a] /\SqL K H a (ks.map V.str)/\ks.length<64/\
  ∀(l:Addr) (ks':List Str),H l=none->ks'.Perm ks->sortedS ks'=true->Q (.ref l) (upd H l (.lst (ks'.map V.str)))):=by
 subst hK;intro pins s σ H xs us Q I r h;obtain ⟨a,ks,rfl,hq,h64,q⟩:=h;obtain ⟨u,rfl,ru⟩:=zAY r;cases ru;obtain ⟨its,r',pl,hz⟩:=I.list hq;have hl:=r'.length;refine zEk pl.isList (zBY r') (by simp at hl;omega) fun h1 h' tk out ss' ep' k1 k2 ho hS hp hsd=>?_;have I1:Inv X pins σ H {s with heap:=h1,toks:=tk}:=I.kept k1;have lo:ss'.length<=sizeLine:=by
  have:=hp.length_eq;rw [zUJ];omega
 have I2:=Inv.laid (h':=h') (t':=tk) (a:=h1.objs.size) (o:= .lst (ss'.map V.str)) I1 k2 (zUC _) ⟨by simpa using lo,out.toList,ep',zGk hS,by simpa using ho⟩;exact ⟨.ref h1.objs.size,_,I2,rfl,q _ ss' (I1.hok.fresh (zUC _)) hp hsd⟩
theorem zJT{kt k2 pt2}(hc:X.calm=true)(hN:X.N.Nodup)(hi:X.N[i]?=some x)(hj:X.N[j]?=some y)(hij:i≠j)
  (hx:X.env.scope.names.lookup x=some .local) (hy:X.env.scope.names.lookup y=some .local) (ha:QA X [a,b] ta)
  (hw:swappedStores [.Tuple [.Name x px,.Name y py] kt pt] (.Tuple [a,b] k2 pt2) X.env=pure (some [x,y]))
  (hs:swapsWithSole [.Tuple [.Name x px,.Name y py] kt pt] (.Tuple [a,b] k2 pt2) pos.line X.env=pure false):
  QS X (.Assign [.Tuple [.Name x px,.Name y py] kt pt] (.Tuple [a,b] k2 pt2) pos) (zRT i j ta):=⟨zPX hc hN hi hj hij hx hy ha.out hw hs⟩
def zIu:V->List V->Hp->VK->Prop:=fun x vs H Q=> ∃(l:Addr) (ss:List Str) (y:Str) (j:Nat),x= .ref l/\vs= [.str y] /\H l=some (.lst (ss.map V.str))/\ss[j]?=some y/\(∀m z,m<j->ss[m]?=some z->z≠y)/\Q .non (upd H l (.lst ((ss.eraseIdx j).map V.str)))
def eqT(y:Str):Value->Bool
 | .str x _=>x==y
 | _=>false
theorem zKj(ss:List Str)(j:Nat):(ss.eraseIdx j).map V.str=(ss.map V.str).eraseIdx j:=by
 rw [List.eraseIdx_eq_take_drop_succ,List.eraseIdx_eq_take_drop_succ,zUT,List.map_take,List.map_drop]
theorem zIQ(a b:Str)(t u:Tok):MeetsSeq.EqGives (.str a t) (.str b u) (a==b):=fun _ _ _ _ _ _ h=>wpAny_eqBool_str h
theorem zKi:MtM X "list.remove" zIu:=by
 intro pins s σ H x vs v us Q I rx rv h;obtain ⟨l,ss,y,j,rfl,rfl,hH,hj,hno,q⟩:=h;cases rx;obtain ⟨u,rfl,ru⟩:=rv.one;obtain ⟨t,rfl⟩:=ru;obtain ⟨z,its,n,r,hl,e⟩:=I.lstM hH;have sa:=zBY r;have hlen:its.length=ss.length:=by simpa using hl.symm
 have gt: ∀(i:Nat) (v:Value),its[i]?=some v-> ∃x t,ss[i]?=some x/\v= .str x t:=by
  clear hH hj hno q e hl hlen r z
  induction sa with
  | nil=>intro i v h;simp at h
  | cons x t _ ih=>
   intro i v h;cases i with
   | zero=>simp at h;exact ⟨x,t,rfl,h.symm⟩
   | succ i=>exact ih i v (by simpa using h)
 have jl:j<ss.length:=(zUy.mp hj).1;have jl':j<its.toArray.size:=by simp;omega
 refine call_meets F.slot_list_remove ⟨_,e,rfl⟩ F.entry_list_remove (F.args_list_remove_2 _ _) (MeetsSeq.list_remove l its.toArray n (.str y t) (eqT y) (fun w hw=>?_) j jl' ?_ (fun m hm hlt=>?_) (by rw [zUR];omega)) ⟨e,?_⟩
 ·obtain ⟨i,hi,ei⟩:=List.getElem_of_mem (show w∈its by simpa using hw);obtain ⟨x,t',_,rfl⟩:=gt i w (zUy.mpr ⟨hi,ei⟩);exact zIQ x y t' t
 ·obtain ⟨x,t',e1,e2⟩:=gt j its[j] (zTy _);show eqT y its[j] =true;rw [e2];rw [hj] at e1;cases e1;simp [eqT]
 ·have hm':m<its.length:=by simpa using hm
  obtain ⟨x,t',e1,e2⟩:=gt m its[m] (zTy hm');show eqT y its[m] =false;rw [e2];have:=hno m x hlt e1;simp [eqT,this]
 ·rw [zKj] at q;refine ⟨.non,_,I.lset (its':=its.eraseIdx j) hH e ?_ (r.eraseIdx j) ?_,rfl,q⟩
  ·show its.toArray.eraseIdxIfInBounds j=(its.eraseIdx j).toArray;rw [List.eraseIdxIfInBounds_toArray]
  ·have:=zGl (ss.map V.str) j;omega
theorem zMs(hK:X.K=K)(ho:QE X o to)(ha:QE X e te)(hb:attributeBase o "remove" X.env (eval o X.env)=eval o X.env)(h2:yK e=true)(hl:(apos.endLine==cpos.line)=true):
  QE X (.Call (.Attribute o "remove" apos) [e] [] cpos) (tBM K "list" zIu to (zBy te zDK)):=by
 subst hK;exact ⟨zDJ PySem.F.plainAttrs_list PySem.F.slot_list_remove PySem.F.type_list_remove zKi ho.out (zy ha.out yf (za h2)) hb (by rw [za h2];rfl) hl (za h2) rfl⟩
end
end L2
namespace PySem
open PyProof.Rows
theorem zEB:typeLookup (.type "tuple") "__bool__" =pure none:=by rw [typeLookup_type,builtinLookup_eq_fast];kernel_rfl
section
variable {prog:Program}{w:World}{A:Around}{E:Value->Shared->Prop}{s:Shared}
theorem zDX{items:Array Value}{Q:Value->Shared->Prop}(hl:s.heap.IsTuple l items)(hfit:(items.size:Int)<2^63)
  (h:Q (.int items.size (s.toks+1)) {s with toks:=s.toks+1+1}):wpAny (model prog w) A (Builtin.«len» ⟨[.ref l],[]⟩) (fun fin s'=> ∃r,fin= .done (.ret r)/\Q r s') E s:=by
 obtain ⟨o,ho,hc,n,hd⟩:=id hl;have hT:s.TypeIs (.ref l) "tuple" :=⟨o,ho,hc⟩;unfold Builtin.«len»;refine zTz (m:=oneArg "len" _) (zUE ?_);refine zTz (m:=callSpecial? (.ref l) (Str.ofString "__len__")) (wpAny_callSpecial?_slot (name:=Str.ofString "__len__") hT F.slot_tuple_len
  (wpAny_call_entry F.slot_tuple_len hT F.entry_tuple_len ?_ (F.args_tuple_len_1 _)))
 ·show wpAny _ _ (do retInt (<-Builtin.Tuple.tupleItemsOf (.ref l)).size) _ _ s;refine zTz (tupleItemsOf_ hl ?_);refine zTz (wpAny_mkInt (zUE ⟨_,rfl,?_⟩));refine zTz (zUi (zUE ?_));refine zTz (wpAny_letGo ?_);show wpAny _ _ (if ((items.size:Nat):Int)<0 then _ else _) _ _ _;rw [if_neg (by omega)];show wpAny _ _ (if ((items.size:Nat):Int)≥2^63 then _ else _) _ _ _;rw [if_neg (by omega)];exact zTz (wpAny_mkInt (zUE ⟨_,rfl,h⟩))
theorem zDf{items:Array Value}{Q:Bool->Shared->Prop}(hl:s.heap.IsTuple l items)(hfit:(items.size:Int)<2^63)
  (h:Q (!items.isEmpty) {s with toks:=s.toks+1+1}):wpAny (model prog w) A (truthy (.ref l)) Q E s:=by
 have hT:s.TypeIs (.ref l) "tuple" :=by
  obtain ⟨o,ho,hc,_⟩:=id hl;exact ⟨o,ho,hc⟩
 have hne:((items.size:Int) !=0)=!items.isEmpty:=by
  unfold Array.isEmpty;rcases Nat.eq_zero_or_pos items.size with e | e
  ·rw [e];rfl
  ·have h2:items.size≠0:=by omega
   have h1:((items.size:Int) !=0)=true:=bne_iff_ne.mpr (by omega);rw [h1,zUW h2];rfl
 have key:wpAny (model prog w) A (runValue (.builtin "len" ⟨[.ref l],[]⟩)) (fun r s'=>r= .int items.size (s.toks+1)/\Q (!items.isEmpty) s') E s:=by
  refine wpAny_runValue (codeAny_builtin entry_len ?_);rw [Around.under_plainId plain_len _];exact zUS (zDX (Q:=fun r s'=>r= .int items.size (s.toks+1)/\Q (!items.isEmpty) s') hl hfit ⟨rfl,h⟩)
   (fun fin s' h'=>by obtain ⟨r,rfl,hq⟩:=h';exact hq) fun _ _ e=>e
 unfold truthy
 first
  | refine zTz (wpAny_callSpecial?_none (name:=Str.ofString "__bool__") hT zEB ?_)
  | refine zTz (zUE (zTz (wpAny_callSpecial?_none (name:=Str.ofString "__bool__") hT zEB ?_)))
 first
  | refine zTz (wpAny_specialOf (name:=Str.ofString "__len__") hT F.slot_tuple_len.lookup ?_)
  | refine zTz (zUE (zTz (wpAny_specialOf (name:=Str.ofString "__len__") hT F.slot_tuple_len.lookup ?_)))
 first
  | exact zTz (zUS key (fun r s' h'=>by obtain ⟨rfl,hq⟩:=h';exact zUE (hne▸hq)) fun _ _ e=>e)
  | exact zTz (zUE (zTz (zUS key (fun r s' h'=>by obtain ⟨rfl,hq⟩:=h';exact zUE (hne▸hq)) fun _ _ e=>e)))
end
end PySem
namespace L2
open PySem PySem.Spec PyProof.Rows
section
variable {X:Cx}{a b:Expr}{rest:List Expr}{pos:Pos}{ta tb:TE}
inductive XOrT (tb:TE) (x:V) (σ:St) (H:Hp) (Q:VK):Prop
 | non (h:x= .non) (q:tb σ H Q)
 | tup (p:Addr) (xs:List V) (h:x= .ref p) (e:H p=some (.tup xs)) (l:xs.length<=1000) (q0:xs= [] ->tb σ H Q) (q1:xs≠ [] ->Q x H)
def zTd(ta tb:TE):TE:=fun σ H Q=>ta σ H fun x H1=>XOrT tb x σ H1 Q
theorem zSQ(ha:QE X a ta)(hb:QE X (.BoolOp .Or (b::rest) pos) tb):QE X (.BoolOp .Or (a::b::rest) pos) (zTd ta tb):=by
 refine ⟨?_⟩;intro pins s σ H Q I h;refine BoolOp_or (zW (ha.out pins s σ H _ I h) fun v s1 ⟨x,H1,I1,r1,q1⟩=>?_);cases q1 with
 | non h q=>
  subst h;cases r1;refine wpAny_of_eq (a:=false) rfl ?_;exact hb.out pins s1 σ H1 Q I1 q
 | tup p xs h e l q0 q1=>
  subst h;cases r1;obtain ⟨its,r,ht⟩:=I1.tupl e;have hl:=r.length;refine zDf ht (by simp;omega) ?_;cases xs with
  | nil=>
   have:its= [] :=by cases its with | nil=>rfl | cons=>simp at hl
   subst this;exact hb.out pins _ σ H1 Q (I1.kept (t':=s1.toks+1+1) fun b o e=>e) (q0 rfl)
  | cons y ys=>
   cases its with
   | nil=>simp at hl
   | cons z zs=>exact ⟨.ref p,H1,I1.kept (t':=s1.toks+1+1) fun b o e=>e,rfl,q1 (by simp)⟩
end
end L2
namespace PySem
open PyProof.Rows
theorem zEr:fillsNumberSlot (.type "tuple") "mul" =pure false:=
 fillsNumberSlot_seq (id:= "tuple.__mul__") (r:=some (.builtin "tuple.__rmul__")) F.slot_tuple_mul.lookup (by decide+kernel) F.slot_tuple_rmul.lookup (by decide+kernel)
theorem zIG:seqRepeat? (.type "tuple")=pure (some (.builtin "tuple.__mul__")):=by
 unfold seqRepeat?;rw [seqSlot_of (T:= "tuple") (name:= "__mul__") (id:= "tuple.__mul__") F.slot_tuple_mul.lookup (by decide+kernel),seqSlot_of (T:= "tuple") (name:= "__rmul__") (id:= "tuple.__rmul__") F.slot_tuple_rmul.lookup (by decide+kernel)];rfl
theorem zFy(a:Int)(t:Tok)(l:Addr)(items:Array Value)(n:Nat)(dct:Option Addr)(sl:Array (Option Value)):
  Meets (Builtin.«int.__rmul__» ⟨[.int a t,.ref l],[]⟩) (fun _ R s=>s.heap.get? l=some {cls:= .type "tuple",dict:=dct,data:= .seq items n,slots:=sl}/\R (.ok (.ret Value.notImplemented)) s):=
 .of_wp fun prog w A R s h=>by obtain ⟨hp,g,d,tk,os⟩:=s;obtain ⟨hl,h⟩:=h;wp_walk using AutoSeq1.wpAny_loadPart' hl;exact ⟨_,rfl,h⟩
theorem zGm(l:Addr)(v:Value)(n:Nat)(dct:Option Addr)(sl:Array (Option Value))(u:Tok):
  Meets (Builtin.«tuple.__mul__» ⟨[.ref l,.int 1 u],[]⟩) (fun _ R s=>s.heap.get? l=some {cls:= .type "tuple",dict:=dct,data:= .seq #[v] n,slots:=sl}/\R (.ok (.ret (.ref l))) s):=
 .of_wp fun prog w A R s h=>by
  obtain ⟨hp,g,d,tk,os⟩:=s;obtain ⟨hl,h⟩:=h
  wp_walk using AutoSeq1.wpAny_loadPart' hl
  exact ⟨_,rfl,h⟩
theorem zFk(l:Addr)(v:Value)(n:Nat)(dct:Option Addr)(sl:Array (Option Value))(x:Int)(u:Tok)(h2:2<=x)(h6:x<=60):
  Meets (Builtin.«tuple.__mul__» ⟨[.ref l,.int x u],[]⟩) (fun _ R s=>s.heap.get? l=some {cls:= .type "tuple",dict:=dct,data:= .seq #[v] n,slots:=sl}/\
   R (.ok (.ret (.ref s.heap.objs.size))) {s with heap:=s.heap.push {cls:= .type "tuple",data:= .seq (List.foldl (fun x1 x2=>x1++x2) #[] (List.replicate x.toNat #[v]))}}):=
 .of_wp fun prog w A R s h=>by
  obtain ⟨hp,g,d,tk,os⟩:=s;obtain ⟨hl,h⟩:=h
  wp_walk using AutoSeq1.wpAny_loadPart' hl
  have c1:(decide (x< -2^63)|| decide (x≥2^63))=false:=by
   rw [zUW (by omega),zUW (by omega)];rfl
  have c2:(x==1)=false:=beq_eq_false_iff_ne.mpr (by omega);have c3:decide (x<=0)=false:=zUW (by omega);refine wpAny_ite_false (by rw [c1];rfl) ?_
  wp_walk using AutoSeq1.wpAny_loadPart' hl
  have sz:(((#[v] :Array Value).size:Nat):Int)=1:=rfl;refine wpAny_ite_false (zUW (by rw [sz];omega)) ?_
  wp_walk using AutoSeq1.wpAny_loadPart' hl
  refine wpAny_ite_false (zUW (by
   unfold Builtin.Tuple.tupleTooMany;rw [sz,zUJ];simp;omega)) ?_
  wp_walk using AutoSeq1.wpAny_loadPart' hl
  refine wpAny_ite_false (zUW (by
   have e:=L2.zDo [v] x.toNat [];rw [List.nil_append] at e;have e:List.foldl (fun x1 x2=>x1++x2) #[] (List.replicate x.toNat (#[v] :Array Value))=(List.replicate x.toNat [v]).flatten.toArray:=e;rw [e,zUR,L2.zOn,zUJ];simp;omega)) ?_
  wp_walk using AutoSeq1.wpAny_loadPart' hl
  exact ⟨_,rfl,h⟩
end PySem
namespace L2
open PySem PySem.Spec PyProof.Rows
section
variable {X:Cx}{K:zUn}
inductive XRepT (x y:V) (H:Hp) (Q:VK):Prop
 | mk (p:Addr) (k:Int) (v:V) (h1:x= .ref p) (h2:y= .int k) (h3:H p=some (.tup [v])) (h4:1<=k) (h5:k<=60) (q1:k=1->Q (.ref p) H) (q2:k≠1-> ∀q,H q=none->Q (.ref q) (upd H q (.tup (List.replicate k.toNat v))))
def zNo:R2:=fun x y H Q=>XRepT x y H Q
theorem zHb{α:Type}(v:α): ∀n:Nat,(List.replicate n [v]).flatten=List.replicate n v
 | 0=>rfl
 | n+1=>by rw [List.replicate_succ,List.flatten_cons,zHb v n,List.replicate_succ];rfl
theorem zOY:OpR X (binaryOp .Mult) zNo:=by
 intro pins s σ H x y v u Q I rx ry h;obtain ⟨p,k,z,rfl,rfl,hp,k1,k6,q1,q2⟩:=h;cases rx;obtain ⟨t,rfl⟩:=ry;obtain ⟨its,r,ht⟩:=I.tupl hp;obtain ⟨w0,rfl,rw0⟩: ∃w0,its= [w0] /\zX z w0:=by
  cases r with
  | cons r rr=>cases rr;exact ⟨_,rfl,r⟩
 obtain ⟨⟨c,dct,dt,sl⟩,ho,hc,n,hd⟩:=ht;replace hc:c= .type "tuple" :=hc;replace hd:dt= .seq #[w0] n:=hd;subst hc hd;refine wpAny_binaryOp_repeat_ref (T:= "tuple") (U:= "int") (by decide) ⟨_,ho,rfl⟩ (fun s'=>typeIs_int s' k t) zEr F.fills_int_mul F.slot_int_rmul zIG F.slot_int_index.lookup
  (call_meets F.slot_int_rmul (typeIs_int s k t) F.entry_int_rmul (F.args_int_rmul_2 _ _) (zFy k t p #[w0] n dct sl) ⟨ho,rfl,⟨_,ho,rfl⟩,?_⟩)
 by_cases hk:k=1
 ·subst hk;exact call_meets F.slot_tuple_mul ⟨_,ho,rfl⟩ F.entry_tuple_mul (F.args_tuple_mul_2 _ _) (zGm p w0 n dct sl t) ⟨ho,⟨.ref p,H,I,rfl,q1 rfl⟩⟩
 ·refine call_meets F.slot_tuple_mul ⟨_,ho,rfl⟩ F.entry_tuple_mul (F.args_tuple_mul_2 _ _) (zFk p w0 n dct sl k t (by omega) k6) ⟨ho,?_⟩;have e:=zDo [w0] k.toNat [];rw [List.nil_append,zHb] at e;have e:List.foldl (fun x1 x2=>x1++x2) #[] (List.replicate k.toNat (#[w0] :Array Value))=(List.replicate k.toNat w0).toArray:=e;rw [e];have rv:zT (List.replicate k.toNat z) (List.replicate k.toNat w0):=by
   generalize k.toNat=m
   induction m with
   | zero=>exact .nil
   | succ m ih=>rw [List.replicate_succ,List.replicate_succ];exact .cons rw0 ih
  exact ⟨.ref _,_,I.laid (t':=s.toks) (o:= .tup (List.replicate k.toNat z)) (fun b o e=>zUA _ e) (zUC _) ⟨by rw [List.length_replicate,zUJ];omega,_,rv,_,zUQ _ rfl,rfl,⟨_,rfl⟩,rfl⟩,rfl,q2 hk _ (I.hok.fresh (zUC _))⟩
theorem zFa(ha:QE X a ta)(hb:QE X b tb):QE X (.BinOp a .Mult b pos) (tOp zNo ta tb):=yt zOY ha hb
end
end L2
namespace HT
open PySem PySem.Spec PyProof.Rows
section
variable {prog:Program}{w:World}{A:Around}{E:Value->Shared->Prop}{s:Shared}
theorem getItem_tuple_whole{items:Array Value}{lo hi:Option Int}{Q:Value->Shared->Prop}(ht:IsTup s.heap t items)(hs:s.heap.IsSliceOf sl vl vu .none)(pl:IsPart vl lo)(pu:IsPart vu hi)
  (hw:sIx items.size 0 lo=0/\sIx items.size items.size hi=items.size)
  (h:Q (.ref t) s):wpAny (model prog w) A (getItem (.ref t) (.ref sl)) Q E s:=by
 obtain ⟨os,hos,hcs,hds⟩:=id hs;have hTs:s.TypeIs (.ref sl) "slice" :=⟨os,hos,hcs⟩;unfold getItem
 try with_reducible refine zUi ?_
 first | refine zTz (zUE ?_)| skip
 refine zTz (wpAny_sequenceKey ht.typeIs (by decide) ?_);refine zTz (wpAny_callSpecial?_slot (name:=Str.ofString "__getitem__") ht.typeIs PyProof.Rows.slot_tuple_getitem
  (wpAny_call_entry PyProof.Rows.slot_tuple_getitem ht.typeIs entry_tuple_getitem ?_ (args_tuple_getitem _ _)))
 show wpAny _ _ (Builtin.Tuple.tupleItemsOf (.ref t)>>=_) _ _ s;refine zTz (tupleItemsOf_ ht ?_);refine zTz (wpAny_typeOf hTs ?_);rw [if_pos (by decide)];refine zTz (zCQ hs pl pu ?_);have hyes:(((sIx items.size 0 lo:Nat):Int)==0&&(1:Int)==1&&(sIx items.size items.size hi - sIx items.size 0 lo)==items.size)=true:=by
  rw [hw.1,hw.2];simp
 show wpAny _ _ (if (((sIx items.size 0 lo:Nat):Int)==0&&(1:Int)==1&&(sIx items.size items.size hi - sIx items.size 0 lo)==items.size)=true then _ else _) _ _ s;rw [if_pos hyes];refine zTz (m:=Builtin.Tuple.tupleIsExact _) ?_;unfold Builtin.Tuple.tupleIsExact;refine zTz (wpAny_typeOf ht.typeIs (zUE ?_));rw [if_pos (by decide)];refine zTz (wpAny_rule ?_)
 first
  | exact zUE ⟨_,rfl,zUE h⟩
  | exact zTz (zUE (zUE ⟨_,rfl,zUE h⟩))
end
end HT
namespace L2
open PySem PySem.Spec PyProof.Rows
section
variable {X:Cx}{K:zUn}{e:Expr}{te:TE}{tl th:TO}{lo hi:Option Expr}{pos p2:Pos}
inductive XSlW (K:zUn) (x:V) (lo hi:Option Int) (H:Hp) (Q:VK):Prop
 | mk (a:Addr) (xs:List V) (h1:x= .ref a) (h2:SqT K H a xs) (q1:(HT.sIx xs.length 0 lo=0/\HT.sIx xs.length xs.length hi=xs.length)->Q (.ref a) H) (q2: ¬(HT.sIx xs.length 0 lo=0/\HT.sIx xs.length xs.length hi=xs.length)-> ∀p,H p=none->Q (.ref p) (upd H p (.tup (yW xs lo hi))))
def zQd(K:zUn):V->Option Int->Option Int->Hp->VK->Prop:=fun x lo hi H Q=>XSlW K x lo hi H Q
theorem zOb:SlR X (zQd X.K):=by
 intro pins s σ H x v vl vu lo hi sl Q I rx hs pl pu h;obtain ⟨a,xs,rfl,hx,q1,q2⟩:=h;by_cases hw:HT.sIx xs.length 0 lo=0/\HT.sIx xs.length xs.length hi=xs.length
 ·cases rx;obtain ⟨its,r,ht,hz⟩:=I.tuple hx;have hlen:its.toArray.size=xs.length:=by rw [zUR];exact r.length.symm
  refine ⟨"tuple",_,PyProof.Rows.slot_tuple_getitem.lookup,ht.typeIs,?_⟩;exact HT.getItem_tuple_whole ht hs pl pu (by rw [hlen];exact hw) ⟨.ref a,H,I,rfl,q1 hw⟩
 ·exact zLm pins s σ H _ v vl vu lo hi sl Q I rx hs pl pu ⟨a,xs,rfl,hx,hw,q2 hw⟩
theorem zSA(hK:X.K=K)(he:QE X e te)(hl:QO X lo tl)(hu:QO X hi th):QE X (.Subscript e (.Slice lo hi none p2) pos) (tSl (zQd K) te tl th):=by
 subst hK;exact ⟨zEu zOb he.out hl.out hu.out⟩
end
def zPt(K:zUn):List V->Hp->VK->Prop:=fun xs H Q=> ∃(ea C tp:Addr) (cs:List Addr) (φ:Heap->Prop),xs= [.ref ea,.ref tp] /\H tp=some (.tup (cs.map V.ref))/\H ea=some (.ext φ)/\(∀h,φ h->KAt ea (.ref C) h)/\XCls K C/\(∀c∈cs,PySem.W.kitOne K (.ref C) (.ref c)=some false)/\Q (.bl false) H
theorem zIv: ∀{cs:List Addr} {its:List Value},zT (cs.map V.ref) its->its=cs.map Value.ref
 | [],_,h=>by cases h;rfl
 | c::cs,_,h=>by
  cases h with
  | cons a b=>rw [zIv b];cases a;rfl
theorem zGY{K:zUn}{t:Value}: ∀{cs:List Addr},(∀c∈cs,PySem.W.kitOne K t (.ref c)=some false)->PySem.W.kitAny K t (cs.map Value.ref)=some false
 | [],_=>rfl
 | c::cs,h=>by
  show PySem.W.kitAny K t (.ref c::cs.map Value.ref)=_;unfold PySem.W.kitAny;rw [h c (List.mem_cons_self ..)];exact zGY fun d hd=>h d (zUd _ hd)
theorem zIR{X:Cx}{K:zUn}(hK:X.K=K):yY X (.builtin "isinstance") (zPt K):=by
 subst hK;intro pins s σ H xs us Q I r h;obtain ⟨ea,C,tp,cs,φ,rfl,htp,hH,hφ,xc,e,q⟩:=h;obtain ⟨u,v,rfl,ru,rv⟩:=zT.two r;cases (show u=_ from ru);cases (show v=_ from rv);obtain ⟨its,r',ht⟩:=I.tupl htp;obtain rfl:=zIv r';obtain ⟨⟨c,dct,dt,sl⟩,ho,hc,n,hd⟩:=ht;replace hc:c= .type "tuple" :=hc;replace hd:dt= .seq (cs.map Value.ref).toArray n:=hd;subst hc hd;obtain ⟨p,_⟩:=(show zo X.prog X.w H s.heap ea (.ext φ) from I.hok ea _ hH);exact PySem.W.kia_tup (zHZ xc) I.kIn (hφ _ p) ho (zGY e) (fun z=>nomatch z) fun tk=>⟨.bl false,H,I.tok tk,rfl,q⟩
end L2
namespace FrM
open PySem PyProof.Rows
def ltS(a b:Str):Prop:=a.cps.toList<b.cps.toList
theorem zGM: ∀(ks:List Str) (p:Str),risingS p ks=true->(∀x∈ks,¬ltS x p)/\ks.Pairwise fun a b=> ¬ltS b a
 | [],_,_=>⟨fun _ h=>(nomatch h),.nil⟩
 | x::r,p,h=>by
  unfold risingS at h;rw [zUp,ltCps_eq] at h;obtain ⟨h1,h2⟩:=h;have h1': ¬x.cps.toList<p.cps.toList:=of_decide_eq_false (by rw [zVA] at h1;exact h1);change¬ltS x p at h1';obtain ⟨h3,h4⟩:=zGM r x h2;have tr: ∀y,¬ltS y x-> ¬ltS y p:=fun y hy hyp=>by
   have a:p.cps.toList<=x.cps.toList:=h1';have b:x.cps.toList<=y.cps.toList:=hy;exact (List.le_trans a b:p.cps.toList<=y.cps.toList) hyp
  refine ⟨fun y hy=>?_,.cons (fun y hy=>h3 y hy) h4⟩;rcases zUo.mp hy with z | z
  ·subst z;exact h1'
  ·exact tr y (h3 y z)
theorem zKU(h:sortedS ks=true)(nd:ks.Nodup):ks.Pairwise ltS:=by
 have h1:ks.Pairwise fun a b=> ¬ltS b a:=by
  cases ks with
  | nil=>exact .nil
  | cons x r=>obtain ⟨h3,h4⟩:=zGM r x h;exact .cons (fun y hy=>h3 y hy) h4
 refine (h1.and nd).imp ?_;rintro a b ⟨p,q⟩;have p':a.cps.toList<=b.cps.toList:=p;rcases List.le_iff_lt_or_eq.mp p' with z | z
 ·exact z
 ·exact absurd (by cases a;cases b;congr 1;exact Array.toList_inj.mp z) q
end FrM
namespace Fr
open PySem PySem.Spec PyProof.Rows L2 FrM
def top(i:Nat):Stmt:=PySem.Challenge.pw_measurewise_k07_what_names_stand_for.main.body.getD i (.Pass ⟨0,0,0,0⟩)
abbrev zDC:Stmt:=top 18
abbrev zEN:Stmt:=top 19
abbrev zDU:Stmt:=top 20
abbrev zJm:Stmt:=top 22
abbrev zJo:Stmt:=top 23
abbrev zGq:Stmt:=top 25
abbrev zKJ:Stmt:=top 26
abbrev zDA:Stmt:=top 38
abbrev zCw:Stmt:=top 39
abbrev zEP:Stmt:=top 40
abbrev zFJ:Stmt:=top 41
abbrev zGx:Stmt:=top 42
abbrev zFI:Stmt:=top 43
abbrev zHB:Stmt:=top 44
abbrev zEL:Stmt:=top 47
abbrev zJN:Stmt:=top 48
abbrev zGw:Stmt:=top 49
abbrev zJc:Stmt:=top 51
abbrev zFf:Stmt:=top 52
abbrev zFc:Stmt:=top 53
abbrev zFs:Stmt:=top 55
abbrev zFl:Stmt:=top 56
abbrev zFg:Stmt:=top 57
abbrev zEz:Stmt:=top 58
abbrev zJR:Stmt:=top 59
abbrev zGs:Stmt:=top 60
abbrev zJx:Stmt:=top 61
abbrev zDb:Stmt:=top 62
abbrev zHE:Stmt:=top 63
abbrev zES:Stmt:=top 64
abbrev zFB:Stmt:=top 65
abbrev zHJ:Stmt:=top 66
abbrev zGu:Stmt:=top 67
abbrev zKM:Stmt:=top 68
abbrev zHL:Stmt:=top 69
abbrev zGI:Stmt:=top 70
theorem zCx:bootBuiltins "list" =some (.type "list"):=by decide+kernel
theorem zFv:bootBuiltins "dict" =some (.type "dict"):=by decide+kernel
theorem zFi:bootBuiltins "all" =some (.builtin "all"):=by decide+kernel
theorem zKr:bootBuiltins "sorted" =some (.builtin "sorted"):=by decide+kernel
theorem zLC:bootBuiltins "max" =some (.builtin "max"):=by decide+kernel
theorem zf:bootBuiltins "isinstance" =some (.builtin "isinstance"):=by decide+kernel
theorem yB:bootBuiltins "len" =some (.builtin "len"):=by decide+kernel
theorem zKh:bootBuiltins "int" =some (.type "int"):=by decide+kernel
theorem zIo:bootBuiltins "bool" =some (.type "bool"):=by decide+kernel
theorem yn:bootBuiltins "tuple" =some (.type "tuple"):=by decide+kernel
theorem zKz:bootBuiltins "str" =some (.type "str"):=by decide+kernel
theorem zGp:bootBuiltins "ValueError" =some (.type "ValueError"):=by decide+kernel
inductive Kd (H:Hp):V->Prop
 | non:Kd H .non
 | bl (b:Bool):Kd H (.bl b)
 | int (i:Int):Kd H (.int i)
 | str (x:Str):Kd H (.str x)
 | lst {a:Addr} {xs:List V} (e:H a=some (.lst xs)):Kd H (.ref a)
 | tup {a:Addr} {xs:List V} (e:H a=some (.tup xs)):Kd H (.ref a)
def isW:V->Bool
 | .int _=>true
 | _=>false
def zML:V->Bool
 | .int _=>true
 | .bl _=>true
 | _=>false
theorem zJw(K:zUn):PySem.W.kitOne K (.type "NoneType") (.type "int")=some false:=by kernel_rfl
theorem zJp(K:zUn):PySem.W.kitOne K (.type "bool") (.type "int")=some true:=by kernel_rfl
theorem zLf(K:zUn):PySem.W.kitOne K (.type "int") (.type "int")=some true:=by kernel_rfl
theorem zKm(K:zUn):PySem.W.kitOne K (.type "str") (.type "int")=some false:=by kernel_rfl
theorem zJv(K:zUn):PySem.W.kitOne K (.type "list") (.type "int")=some false:=by kernel_rfl
theorem zIa(K:zUn):PySem.W.kitOne K (.type "tuple") (.type "int")=some false:=by kernel_rfl
theorem zIc(K:zUn):PySem.W.kitOne K (.type "bool") (.type "bool")=some true:=by kernel_rfl
theorem zEw(K:zUn):PySem.W.kitOne K (.type "int") (.type "bool")=some false:=by kernel_rfl
theorem zCG(K:zUn):PySem.W.kitOne K (.type "NoneType") (.type "tuple")=some false:=by kernel_rfl
theorem zCr(K:zUn):PySem.W.kitOne K (.type "str") (.type "tuple")=some false:=by kernel_rfl
theorem zCX(K:zUn):PySem.W.kitOne K (.type "list") (.type "tuple")=some false:=by kernel_rfl
theorem zr(K:zUn):PySem.W.kitOne K (.type "tuple") (.type "tuple")=some true:=by kernel_rfl
theorem zBm(K:zUn):PySem.W.kitOne K (.type "int") (.type "tuple")=some false:=by kernel_rfl
theorem zHa(K:zUn):PySem.W.kitOne K (.type "bool") (.type "tuple")=some false:=by kernel_rfl
theorem zRH(K:zUn)(k:Kd H x): ∃t,TyOf K H x t/\PySem.W.kitOne K t (.type "int")=some (zML x):=by
 cases k with
 | non=>exact ⟨_,.non,zJw K⟩
 | bl b=>exact ⟨_,.bl b,zJp K⟩
 | int i=>exact ⟨_,.int i,zLf K⟩
 | str x=>exact ⟨_,.str x,zKm K⟩
 | lst e=>exact ⟨_,.lst e,zJv K⟩
 | tup e=>exact ⟨_,.tup e,zIa K⟩
theorem zPH(K:zUn)(k:Kd H x)(h:zML x=true): ∃t,TyOf K H x t/\PySem.W.kitOne K t (.type "bool")=some (!isW x):=by
 cases k with
 | bl b=>exact ⟨_,.bl b,zIc K⟩
 | int i=>exact ⟨_,.int i,zEw K⟩
 | non=>cases h
 | str x=>cases h
 | lst e=>cases h
 | tup e=>cases h
structure Bn(mg:Str->Option Value):Prop where
 isi:mg "isinstance" =none
 int:mg "int" =none
 bool:mg "bool" =none
 tuple:mg "tuple" =none
 len:mg "len" =none
 range:mg "range" =none
 str:mg "str" =none
 abs:mg "abs" =none
 verr:mg "ValueError" =none
 list:mg "list" =none
 dict:mg "dict" =none
 all:mg "all" =none
 sorted:mg "sorted" =none
 any:mg "any" =none
 max:mg "max" =none
 enumerate:mg "enumerate" =none
section
variable {P:Program}{w:World}{K:zUn}{mg:Str->Option Value}{base:Heap}
def zEK:Sp:=fun vs H Q _=> ∃x,vs= [x] /\Kd H x/\Q (.bl (isW x)) H
theorem zPE:FnScope ["thing"] ["thing"] (zK zDC):=fs
theorem zEs(F:Fun K "is_whole" "is_whole" zDC f fd)(B:Bn mg):FnOk P w K mg base CX0 1 f fd ["thing"] zEK:=by
 refine F.ok zPE (fun vs H Q E h=>?_) (fun _ A _ s H vs Q E hr h=>?_)
 ·obtain ⟨x,rfl,_⟩:=h;rfl
 ·obtain ⟨x,rfl,kd,q⟩:=h;refine ⟨_,yz (zBV (zLT (zBh zDN (by rfl) B.isi zf (zy (pv 0) (zy (zEU (v:= .ty "int") (by rfl) B.int zKh rfl) yf)))
   (zLH (zPV (zBh zDN (by rfl) B.isi zf (zy (pv 0) (zy (zEU (v:= .ty "bool") (by rfl) B.bool zIo rfl) yf))))))),?_⟩
  obtain ⟨t,ty,e⟩:=zRH K kd;refine ⟨x,rfl,x,.ty "int",t,.type "int",_,rfl,rfl,ty,e,_,rfl,?_⟩;cases hx:zML x with
  | false=>
   refine zD ?_;have:isW x=false:=by cases x<;>first | rfl | cases hx
   rw [this] at q;exact q
  | true=>
   refine zI ?_;obtain ⟨t',ty',e'⟩:=zPH K kd hx;refine ⟨x,rfl,x,.ty "bool",t',.type "bool",_,rfl,rfl,ty',e',_,rfl,?_⟩;rw [Bool.not_not];exact q
def zNs:Sp:=fun vs H Q _=> ∃a b:Int,vs= [.int a,.int b] /\0<b/\Q (.int ((Int.gcd a b:Nat):Int)) H
theorem zEI:FnScope ["above","below","greater","lesser","rest"] ["above","below"] (zK zJm):=fs
theorem zQW(F:Fun K "common_divisor" "common_divisor" zJm f fd):FnOk P w K mg base CX0 1 f fd ["above","below"] zNs:=by
 refine F.ok zEI (fun vs H Q E h=>?_) (fun _ A _ s H vs Q E hr h=>?_)
 ·obtain ⟨a,b,rfl,_⟩:=h;rfl
 ·obtain ⟨a,b,rfl,hb,q⟩:=h;refine ⟨_,yp (zCT (i:=2) zEI.nd rfl (Or.inl rfl) (pv 1)) (yp (zCT (i:=3) zEI.nd rfl (Or.inl rfl) (zAc zCO (pv 0) (pv 1)))
   (yp (zHl PassesOwn.never (zDD zBx (pv 3) ye (zDy _))
    (yp (zCT (i:=4) zEI.nd rfl (Or.inl rfl) (zAc zCO (pv 2) (pv 3))) (yp (zCT (i:=2) zEI.nd rfl (Or.inl rfl) (pv 3)) (yz (zCT (i:=3) zEI.nd rfl (Or.inl rfl) (pv 4))))))
   (yz (zBV (pv 2))))),?_⟩
  refine ⟨_,rfl,_,rfl,_,rfl,_,_,rfl,rfl,hb,?_⟩;refine zMa (fun σ H'=>H'=H/\ ∃(g l:Int) (r:Option V),σ= [some (.int a),some (.int b),some (.int g),some (.int l),r] /\0<g/\0<=l/\Int.gcd g l=Int.gcd a b)
   (fun (σ:L2.St) _=>match σ[3]? with | some (some (V.int l))=>l.toNat | _=>0) ⟨rfl,b,a % b,none,rfl,hb,zUP _ (by omega),zHR a b hb⟩ ?_ ?_
  ·rintro σ H' ⟨rfl,g,l,r,rfl,hg,hl,e⟩;refine ⟨_,rfl,_,_,rfl,rfl,_,rfl,?_⟩;refine zp (fun z=>?_) (fun z=>?_)
   ·have hp:0<l:=by simpa using z
    refine ⟨_,rfl,_,rfl,_,_,rfl,rfl,hp,_,rfl,_,rfl,⟨rfl,l,g % l,_,rfl,hp,zUP _ (by omega),?_⟩,?_⟩
    ·rw [zHR g l hp,e]
    ·show (g % l).toNat<l.toNat;have:=zUK g hp;have:=zUP g (by omega:l≠0);omega
   ·have hz:l=0:=by
     have: ¬0<l:=by simpa using z
     omega
    subst hz;refine ⟨_,rfl,?_⟩;rw [<-e,zMI g (by omega)] at q;exact q
  ·rintro σ H' R R' hR ⟨v,e1,i,j,e2,e3,k,e4,q'⟩;exact ⟨v,e1,i,j,e2,e3,k,e4,hR _ _ q'⟩
theorem zA.upd(hp:H p=none):zA H (L2.upd H p o):=fun b u e=>by rw [zN (zh e hp)];exact e
theorem zA.store(s:zA H H')(hD:H D=none):zA H (L2.upd H' D o):=fun b u e=>by rw [zN (zh e hD)];exact s b u e
theorem zA.none(s:zA H H')(h:H' a=none):H a=none:=by
 cases z:H a with
 | none=>rfl
 | some o=>rw [s _ _ z] at h;cases h
theorem yH(h:H a=none)(o:HO): ∃G,L2.upd H a o=G/\zA H G/\G a=some o:=⟨_,rfl,zA.upd h,zE⟩
theorem bs(n:Nat)(h:n<=60:=by decide):n<=sizeLine:=by rw [zUJ];omega
theorem zSX{b:Bool}{p q:Prop}(h:b=false)(hq:q):if b=true then p else q:=by rw [h];exact hq
theorem zSm{b:Bool}{p q:Prop}(h:b=true)(hq:p):if b=true then p else q:=by rw [h];exact hq
theorem zAt(h:σ.length=1): ∃a,σ= [a] :=List.length_eq_one_iff.mp h
theorem Paired.get'{α β:Type}{F:α->β->Prop}{xs:List α}{ys:List β}(h:Paired F xs ys){i:Nat}{x:α}(e:xs[i]?=some x): ∃y,ys[i]?=some y/\F x y:=by
 induction h generalizing i with
 | nil=>simp at e
 | @cons a b l1 l2 h1 _ ih=>
  cases i with
  | zero=>simp at e;subst e;exact ⟨b,rfl,h1⟩
  | succ i=>exact ih (by simpa using e)
theorem Paired.snoc'{α β:Type}{F:α->β->Prop}{xs:List α}{ys:List β}{a:α}{b:β}(h:Paired F xs ys)(k:F a b):Paired F (xs++ [a]) (ys++ [b]):=by
 induction h with
 | nil=>exact .cons k .nil
 | cons r _ ih=>exact .cons r ih
theorem Paired.app{α β:Type}{F:α->β->Prop}{xs zs:List α}{ys ws:List β}(h:Paired F xs ys)(k:Paired F zs ws):Paired F (xs++zs) (ys++ws):=by
 induction h with
 | nil=>exact k
 | cons r _ ih=>exact .cons r ih
theorem Paired.len{α β:Type}{F:α->β->Prop}{xs:List α}{ys:List β}(h:Paired F xs ys):xs.length=ys.length:=by
 induction h with
 | nil=>rfl
 | cons _ _ ih=>simp [ih]
theorem Paired.mapM{α β:Type}{F G:α->β->Prop}{xs:List α}{ys:List β}(h:Paired F xs ys)(f: ∀a b,a∈xs->F a b->G a b):Paired G xs ys:=by
 induction h with
 | nil=>exact .nil
 | cons r _ ih=>exact .cons (f _ _ (by simp) r) (ih fun a b ha=>f a b (by simp [ha]))
theorem bz(h:n<=60):n<=sizeLine:=by rw [zUJ];omega
section
variable {o:HO}{n j:Nat}{H:Hp}{Q:VK}{a b:Addr}{xs ys:List V}{lo hi:Option Int}
theorem nw(q: ∀p G,zA H G->G p=some o->Q (.ref p) G)(h:n<=60:=by exact Nat.le_of_ble_eq_true rfl):XMk o n H Q:=⟨bz h,fun p hp=>q p _ (zA.upd hp) zE⟩
theorem yc(q: ∀p G,H p=none->zA H G->G p=some o->Q (.ref p) G)(h:n<=60:=by exact Nat.le_of_ble_eq_true rfl):XMk o n H Q:=⟨bz h,fun p hp=>q p _ hp (zA.upd hp) zE⟩
theorem ct(ea:H a=some (.tup xs))(eb:H b=some (.tup ys))(q: ∀p G,zA H G->G p=some (.tup (xs++ys))->Q (.ref p) G)(h:xs.length+ys.length<=60:=by exact Nat.le_of_ble_eq_true rfl):XCatE K (.ref a) (.ref b) H Q:=
 ⟨a,b,xs,ys,rfl,rfl,SqT.of ea,SqT.of eb,bz h,fun z=>q b H (zA.refl H) (by rw [z];exact eb),fun _ z=>q a H (zA.refl H) (by rw [z,zUX];exact ea),fun _ _ p hp=>q p _ (zA.upd hp) zE⟩
theorem zHu(ea:H a=some (.lst xs))(eb:H b=some (.lst ys))(h:xs.length+ys.length<=sizeLine)(q: ∀p G,H p=none->zA H G->G p=some (.lst (xs++ys))->Q (.ref p) G):XCat (.ref a) (.ref b) H Q:=⟨a,b,xs,ys,rfl,rfl,ea,eb,h,fun p hp=>q p _ hp (zA.upd hp) zE⟩
theorem cls(ea:H a=some (.lst xs))(eb:H b=some (.lst ys))(h:xs.length+ys.length<=sizeLine)(q: ∀p G,zA H G->G p=some (.lst (xs++ys))->Q (.ref p) G):XCat (.ref a) (.ref b) H Q:=⟨a,b,xs,ys,rfl,rfl,ea,eb,h,fun p hp=>q p _ (zA.upd hp) zE⟩
theorem cl(ea:H a=some (.lst xs))(eb:H b=some (.lst ys))(q: ∀p G,zA H G->G p=some (.lst (xs++ys))->Q (.ref p) G)(h:xs.length+ys.length<=60:=by exact Nat.le_of_ble_eq_true rfl):XCat (.ref a) (.ref b) H Q:=cls ea eb (bz h) q
theorem sll(e:H a=some (.lst xs))(q: ∀p G,zA H G->G p=some (.lst (yW xs lo hi))->Q (.ref p) G):XSlL K (.ref a) lo hi H Q:=⟨a,xs,rfl,SqL.of e,fun p hp=>q p _ (zA.upd hp) zE⟩
theorem slc(ys:List V)(e:H a=some (.tup xs))(q: ∀p G,zA H G->G p=some (.tup ys)->Q (.ref p) G)(hy:yW xs lo hi=ys:=by rfl)(h:decide (HT.sIx xs.length 0 lo=0/\HT.sIx xs.length xs.length hi=xs.length)=false:=by rfl):XSlT K (.ref a) lo hi H Q:=
 ⟨a,xs,rfl,SqT.of e,of_decide_eq_false h,fun p hp=>by rw [hy];exact q p _ (zA.upd hp) zE⟩
theorem sto(e:H a=some (.tup xs))(h:j<xs.length)(q: ∀p G,zA H G->G p=some (.tup (xs.take j))->Q (.ref p) G):XSlT K (.ref a) none (some (j:Int)) H Q:=
 slc (xs.take j) e q (by unfold yW;rw [HT.sIx_nat,HT.sIx_none,List.drop_zero];congr 1;omega) (zUW fun z=>by have z:=z.2;rw [HT.sIx_nat] at z;omega)
theorem sfr(e:H a=some (.tup xs))(h:j<xs.length)(q: ∀p G,zA H G->G p=some (.tup (xs.drop (j+1)))->Q (.ref p) G):XSlT K (.ref a) (some ((j:Int)+1)) none H Q:=
 slc (xs.drop (j+1)) e q (by unfold yW;rw [show (j:Int)+1=((j+1:Nat):Int) by omega,HT.sIx_nat,HT.sIx_none,show min (j+1) xs.length=j+1 by omega];exact List.take_of_length_le (by rw [List.length_drop];exact zUC _))
  (zUW fun z=>by have z:=z.1;rw [show (j:Int)+1=((j+1:Nat):Int) by omega,HT.sIx_nat] at z;omega)
end
def zDm:List V->Bool
 | [.int a,.int b] =>decide (0<b)&&decide (Int.gcd a b=1)
 | _=>false
inductive NoT (H:Hp):V->Prop
 | non:NoT H .non
 | str (x:Str):NoT H (.str x)
 | int (i:Int):NoT H (.int i)
 | lst {a:Addr} {xs:List V} (e:H a=some (.lst xs)):NoT H (.ref a)
theorem zKR(K:zUn)(k:NoT H x): ∃t,TyOf K H x t/\PySem.W.kitOne K t (.type "tuple")=some false:=by
 cases k with
 | non=>exact ⟨_,.non,zCG K⟩
 | str x=>exact ⟨_,.str x,zCr K⟩
 | int i=>exact ⟨_,.int i,zBm K⟩
 | lst e=>exact ⟨_,.lst e,zCX K⟩
def zOA:Sp:=fun vs H Q _=> ∃x:V,vs= [x] /\((NoT H x/\Q (.bl false) H)\/ ∃p xs,x= .ref p/\H p=some (.tup xs)/\(∀y∈xs,Kd H y)/\Q (.bl (zDm xs)) H)
theorem zST:FnScope ["thing"] ["thing"] (zK zJo):=fs
theorem zRM(F:Fun K "is_fraction" "is_fraction" zJo f fd)(B:Bn mg)
  (FW:Fun K "is_whole" "is_whole" zDC fW fdW) (bW:zO K fdW ["thing"] []) (mW:mg "is_whole" =some (.ref fW))
  (FD:Fun K "common_divisor" "common_divisor" zJm fD fdD) (bD:zO K fdD ["above","below"] []) (mD:mg "common_divisor" =some (.ref fD)):
  FnOk P w K mg base CX0 2 f fd ["thing"] zOA:=by
 have GW:FnOk P w K mg base CX0 1 fW fdW ["thing"] zEK:=zEs FW B;have GD:FnOk P w K mg base CX0 1 fD fdD ["above","below"] zNs:=zQW FD;refine F.ok zST (fun vs H Q E h=>?_) (fun _ A _ s H vs Q E hr h=>?_)
 ·obtain ⟨x,rfl,_⟩:=h;rfl
 ·obtain ⟨x,rfl,h⟩:=h;refine ⟨_,yp (zGz (zGr (zFS (zFh (zBh zDN (by rfl) B.isi zf (zy (pv 0) (zy (zEU (v:= .ty "tuple") (by rfl) B.tuple yn rfl) yf)))))
    (zHm (zDD yw (zBh zCY (by rfl) B.len yB (zy (pv 0) yf)) ye (zDy _)))).pt (yz (zBV zJK)) zEW)
   (yp (zGz (zGr (zFS (zFh (zCE GW hr (by rfl) mW FW.kp bW .nil zP (zy (zBw zDB (pv 0) ye (fun _ _=>rfl)) yf))))
     (zGr (zFS (zFh (zCE GW hr (by rfl) mW FW.kp bW .nil zP (zy (zBw zDB (pv 0) ye (fun _ _=>rfl)) yf))))
      (zHm (zDD zDd (zBw zDB (pv 0) ye (fun _ _=>rfl)) ye (zDy _))))).pt (yz (zBV zJK)) zEW)
   (yz (zBV (zIq zZ (zCE GD hr (by rfl) mD FD.kp bD .nil zP (zy (zBw zDB (pv 0) ye (fun _ _=>rfl)) (zy (zBw zDB (pv 0) ye (fun _ _=>rfl)) yf))) ye (zDy _))))),?_⟩
  rcases h with ⟨nt,q⟩|⟨p,xs,rfl,hp,hk,q⟩
  ·obtain ⟨t,ty,e⟩:=zKR K nt;refine ⟨_,rfl,_,.ty "tuple",t,.type "tuple",_,rfl,rfl,ty,e,_,rfl,?_⟩;refine zI ?_;refine zI ?_;exact q
  ·refine ⟨_,rfl,_,.ty "tuple",_,.type "tuple",_,rfl,rfl,.tup hp,zr K,_,rfl,?_⟩;refine zD ?_;refine ⟨_,rfl,p,xs,rfl,.inr (SqT.of hp),rfl,_,rfl,?_⟩;by_cases hl:xs.length=2
   ·obtain ⟨y,z,rfl⟩: ∃y z,xs= [y,z] :=by
     match xs,hl with
     | [y,z],_=>exact ⟨y,z,rfl⟩
    have ky:Kd H y:=hk y (by simp);have kz:Kd H z:=hk z (by simp);refine zNZ rfl ?_;refine ⟨_,rfl,p,_,_,y,rfl,rfl,SqT.of hp,rfl,y,rfl,ky,_,rfl,?_⟩;cases hy:isW y with
    | false=>
     refine zI ?_;refine zI ?_;have:zDm [y,z] =false:=by cases y<;>first | rfl | cases hy
     rw [this] at q;exact q
    | true=>
     obtain ⟨a,rfl⟩: ∃i,y= .int i:=by cases y<;>first | exact ⟨_,rfl⟩| cases hy
     refine zD ?_;refine ⟨_,rfl,p,_,_,z,rfl,rfl,SqT.of hp,rfl,z,rfl,kz,_,rfl,?_⟩;cases hz:isW z with
     | false=>
      refine zI ?_;refine zI ?_;have:zDm [.int a,z] =false:=by cases z<;>first | rfl | cases hz
      rw [this] at q;exact q
     | true=>
      obtain ⟨b,rfl⟩: ∃i,z= .int i:=by cases z<;>first | exact ⟨_,rfl⟩| cases hz
      refine zD ?_;refine ⟨_,rfl,p,_,_,_,rfl,rfl,SqT.of hp,rfl,b,1,rfl,rfl,_,rfl,?_⟩;refine zp (fun c=>?_) (fun c=>?_)
      ·have hb: ¬0<b:=by
        have:b<1:=by simpa using c
        omega
       have:zDm [.int a,.int b] =false:=by
        show (decide (0<b)&&_)=false;rw [zUW hb];rfl
       rw [this] at q;exact q
      ·have hb:0<b:=by
        have: ¬b<1:=by simpa using c
        omega
       refine ⟨_,rfl,p,_,_,_,rfl,rfl,SqT.of hp,rfl,_,rfl,p,_,_,_,rfl,rfl,SqT.of hp,rfl,a,b,rfl,hb,rfl,?_⟩;have:zDm [.int a,.int b] =decide (V.int ((Int.gcd a b:Nat):Int)=V.int 1):=by
        show (decide (0<b)&&decide (Int.gcd a b=1))=_;rw [zUV hb,Bool.true_and];rw [zUv];simp;omega
       rw [this] at q;exact q
   ·have e1:zDm xs=false:=by
     match xs,hl with
     | [],_=>rfl
     | [x],_=>cases x<;>rfl
     | [x,y],h=>exact absurd rfl h
     | x::y::z::r,_=>cases x<;>cases y<;>rfl
    rw [e1] at q;have e2:decide (V.int (xs.length:Int)=V.int 2)=false:=by
     rw [zUW];intro z;injection z with z;omega
    rw [e2];refine zI ?_;exact q
def zHC:Sp:=fun vs H Q _=> ∃n k:Int,vs= [.int n,.int k] /\0<=k/\k<=1000/\ ∀r:Int,0<=r->r<2147483629->Q (.int r) H
theorem zNG:FnScope ["_law_number_here","_law_k"] ["_law_number_here","_law_k"] (zK zFs):=fs
theorem zKe(F:Fun K "_law_mixed" "_law_mixed" zFs f fd):FnOk P w K mg base CX0 1 f fd ["_law_number_here","_law_k"] zHC:=by
 refine F.ok zNG (fun vs H Q E h=>?_) (fun _ A _ s H vs Q E hr h=>?_)
 ·obtain ⟨n,k,rfl,_⟩:=h;rfl
 ·obtain ⟨n,k,rfl,h0,h1,q⟩:=h;refine ⟨_,yp (zCT (i:=0) zNG.nd rfl (Or.inl rfl) (zAc zCO (zAc zCP (zAc zFN (zAc zFN (zAc zCO (pv 0) ye) (zAc zCP (zAc zCP ye (pv 1)) (pv 1))) (zAc zCP ye (pv 1))) ye) ye))
   (yz (zBV (zAc zCO (zAc zCP (pv 0) (zAc zFN ye (zAc zCP ye (pv 1)))) ye))),?_⟩
  refine ⟨_,rfl,_,_,rfl,rfl,(by show (0:Int)<2147483647;decide),_,rfl,_,_,rfl,rfl,.inl ⟨by decide,by decide⟩,_,rfl,_,_,rfl,rfl,.inr ⟨by omega,by omega⟩,_,_,rfl,rfl,_,rfl,_,_,rfl,rfl,.inl ⟨by decide,by decide⟩,_,_,rfl,rfl,
   _,_,rfl,rfl,.inr ⟨by decide,by decide⟩,_,_,rfl,rfl,(by show (0:Int)<2147483647;decide),?_⟩
  refine ⟨_,rfl,_,rfl,_,_,rfl,rfl,.inl ⟨by decide,by decide⟩,_,_,rfl,rfl,_,_,rfl,rfl,.inr ⟨by omega,by omega⟩,_,_,rfl,rfl,(by show (0:Int)<2147483629;decide),?_⟩;exact q _ (zUP _ (by decide)) (zUK _ (by decide))
def zHM(K:zUn):Sp:=fun vs H Q _=> ∃(a:Addr) (ns:List Int) (k:Int),vs= [.ref a,.int k] /\SqL K H a (ns.map V.int)/\ns.length<=63/\0<=k/\k<=1000/\ ∀(r:Int) H',zA H H'->0<=r->r<2147483629->Q (.int r) H'
theorem zSS:FnScope ["_law_script","_law_k"] ["_law_script","_law_k"] (zK zFl):=fs
theorem zRE(F:Fun K "_law_number" "_law_number" zFl f fd)(B:Bn mg)(FM:Fun K "_law_mixed" "_law_mixed" zFs fM fdM)(bM:zO K fdM ["_law_number_here","_law_k"] [])(mM:mg "_law_mixed" =some (.ref fM)):
  FnOk P w K mg base CX0 2 f fd ["_law_script","_law_k"] (zHM K):=by
 have GM:FnOk P w K mg base CX0 1 fM fdM ["_law_number_here","_law_k"] zHC:=zKe FM;refine F.ok zSS (fun vs H Q E h=>?_) (fun _ A _ s H vs Q E hr h=>?_)
 ·obtain ⟨a,ns,k,rfl,_⟩:=h;rfl
 ·obtain ⟨a,ns,k,rfl,hs,hl,h0,h1,q⟩:=h;have hu:=zAb hr;refine ⟨_,yp (zGz (zDD (zEe (Nat.lt_of_succ_lt hu)) (pv 0) (zLk yf) (zDy _)) (yz (zBV (zCE GM hr (by rfl) mM FM.kp bM .nil zP (zy ye (zy (pv 1) yf))))) zEW)
   (yz (zBV (zCE GM hr (by rfl) mM FM.kp bM .nil zP (zy (zBw zJA (pv 0) (zAc zCO (pv 1) (zBh zCY (by rfl) B.len yB (zy (pv 0) yf))) (fun _ _=>rfl)) (zy (pv 1) yf))))),?_⟩
  refine ⟨_,rfl,zUN _,fun p hp=>?_⟩;have s1:zA H (L2.upd H p (.lst [])):=zA.upd hp;refine ⟨a,p,_,rfl,rfl,s1.seq hs,SqL.of zE,_,rfl,?_⟩;cases ns with
  | nil=>
   refine zI ?_;exact ⟨_,rfl,17,k,rfl,h0,h1,fun r r0 r1=>q r _ s1 r0 r1⟩
  | cons n ns=>
   refine zD ?_;have hlen:(0:Int)<(((n::ns).map V.int).length:Int):=by simp
   have m0:=zUP k (by omega:(((n::ns).map V.int).length:Int)≠0);have m1:=zUK k hlen;obtain ⟨j,hj⟩: ∃j:Nat,k %(((n::ns).map V.int).length:Int)=j:=⟨(k %(((n::ns).map V.int).length:Int)).toNat,by omega⟩;have hj2:j<(n::ns).length:=by
    rw [hj,zUF] at m1;omega
   refine ⟨_,rfl,_,rfl,_,rfl,a,_,rfl,.inl (s1.seq hs),_,_,rfl,rfl,hlen,a,_,_,.int ((n::ns)[j]),rfl,rfl,s1.seq hs,?_,_,rfl,_,k,rfl,h0,h1,fun r r0 r1=>q r _ s1 r0 r1⟩;rw [hj];refine zg ?_;rw [zUD,zTy hj2];rfl
def zBI(x:Str):Bool:=!decide (x.cps.toList<("a" :Str).cps.toList)&&!decide (("z" :Str).cps.toList<x.cps.toList)
def zNX:Sp:=fun vs H Q _=> ∃x:Str,vs= [.str x] /\Q (.bl (zBI x)) H
theorem zRl:FnScope ["sign"] ["sign"] (zK zEN):=fs
theorem zQT(F:Fun K "is_small_letter" "is_small_letter" zEN f fd):FnOk P w K mg base CX0 1 f fd ["sign"] zNX:=by
 refine F.ok zRl (fun vs H Q E h=>?_) (fun _ A _ s H vs Q E hr h=>?_)
 ·obtain ⟨x,rfl,_⟩:=h;rfl
 ·obtain ⟨x,rfl,q⟩:=h;refine ⟨_,QB.out (zH (zS (zGB zDq zDq zG (qw 0 rfl) zG rfl))),?_⟩;refine ⟨_,rfl,"a",x,rfl,rfl,_,rfl,?_⟩;refine zp (fun c=>?_) (fun c=>?_)
  ·refine ⟨x,"z",rfl,rfl,?_⟩;unfold zBI at q;rw [c,Bool.true_and] at q;exact q
  ·have c':(!decide (x.cps.toList<("a" :Str).cps.toList))=false:=by simpa using c
   unfold zBI at q;rw [c',Bool.false_and] at q;exact q
def zEJ:List Str:= ["unit","take","let","fun","show","if","then","else","loop","for","do"]
def yJ:V->Bool
 | .str x=>decide (1<=x.length)&&decide (x.length<=8)&&(x.cps.toList.all fun c=>zBI ⟨#[c]⟩)&&!inV (.str x) (zEJ.map V.str)
 | _=>false
structure Gv(K:zUn)(mg:Str->Option Value)(W:Addr):Prop where
 mw:mg "WORDS" =some (.ref W)
 kw: ∀H,SqT K H W (zEJ.map V.str)
 ml: ∃t,mg "MOST_LETTERS" =some (.int 8 t)
def isS:V->Bool
 | .str _=>true
 | _=>false
theorem zJP(K:zUn):PySem.W.kitOne K (.type "NoneType") (.type "str")=some false:=by kernel_rfl
theorem zJM(K:zUn):PySem.W.kitOne K (.type "bool") (.type "str")=some false:=by kernel_rfl
theorem zGb(K:zUn):PySem.W.kitOne K (.type "str") (.type "str")=some true:=by kernel_rfl
theorem zLX(K:zUn):PySem.W.kitOne K (.type "int") (.type "str")=some false:=by kernel_rfl
theorem zJy(K:zUn):PySem.W.kitOne K (.type "list") (.type "str")=some false:=by kernel_rfl
theorem zIb(K:zUn):PySem.W.kitOne K (.type "tuple") (.type "str")=some false:=by kernel_rfl
theorem zKx(K:zUn)(k:Kd H x): ∃t,TyOf K H x t/\PySem.W.kitOne K t (.type "str")=some (isS x):=by
 cases k with
 | non=>exact ⟨_,.non,zJP K⟩
 | bl b=>exact ⟨_,.bl b,zJM K⟩
 | int i=>exact ⟨_,.int i,zLX K⟩
 | str x=>exact ⟨_,.str x,zGb K⟩
 | lst e=>exact ⟨_,.lst e,zJy K⟩
 | tup e=>exact ⟨_,.tup e,zIb K⟩
theorem zPs(h:isS x=true): ∃z,x= .str z:=by cases x<;>first | exact ⟨_,rfl⟩| cases h
def Ths(H:Hp)(x:V):Prop:=Kd H x/\ ∀z,x= .str z->z.length<=5000
def zDp:Sp:=fun vs H Q _=> ∃x:V,vs= [x] /\Ths H x/\ ∀H',zA H H'->Q (.bl (yJ x)) H'
theorem zPx:FnScope ["thing"] ["thing"] (zK zDU):=fs
theorem zPA(F:Fun K "is_name" "is_name" zDU f fd)(B:Bn mg)(G:Gv K mg W)
  (FL:Fun K "is_small_letter" "is_small_letter" zEN fL fdL) (bL:zO K fdL ["sign"] []) (mL:mg "is_small_letter" =some (.ref fL)):FnOk P w K mg base CX0 2 f fd ["thing"] zDp:=by
 have GL:FnOk P w K mg base CX0 1 fL fdL ["sign"] zNX:=zQT FL;obtain ⟨t8,m8⟩:=G.ml;refine F.ok zPx (fun vs H Q E h=>?_) (fun _ A _ s H vs Q E hr h=>?_)
 ·obtain ⟨x,rfl,_⟩:=h;rfl
 ·obtain ⟨x,rfl,⟨kx,lx⟩,q⟩:=h;refine ⟨_,QB.out (zF
   (zV (t_w (zAI (zAl (zAM (zq (zAE (K:=K) rfl) rfl B.isi zf (qc (qw 0 rfl) (qc (zAv (v:= .ty "str") rfl B.str zKz rfl (by decide) rfl) zB rfl) rfl) rfl) (fun _=>rfl))) (zAN (zAl (zFw zBb zBb zC (zq zIB rfl B.len yB (qc (qw 0 rfl) zB rfl) rfl) (zt (v:= .int 8) rfl m8 ⟨t8,rfl⟩ rfl) rfl))))) (zH
    (zS zAP)) zU) (zH
   (zS (zCf (zq (zCb (K:=K) rfl rfl) rfl B.all zFi (qc (yx (cl:= []) ["sign"] [] [] rfl (zSC (qw 0 rfl)) rfl (by decide+kernel) rfl (by decide+kernel) (fun _ _ h=>nomatch h) rfl (fun j y i h=>nomatch h) (yF rfl) (fun _ _ _ _=>(zb 0 (show (["sign"] :List Str).Nodup by decide+kernel) rfl (.inl rfl) (.inr rfl))) (fun _ _ _ _=>zAn) (fun _ _ _ _=>(zR GL hr rfl mL FL.kp bL .nil zP (qc (qw 0 rfl) zB rfl) rfl rfl rfl)) (fun _=>rfl)) zB rfl) rfl) (zCg (zFF (zBR (K:=K) rfl) (qw 0 rfl) (zt (v:= .ref W) rfl G.mw rfl rfl) rfl)))))),?_⟩
  obtain ⟨ty,hty,hk⟩:=zKx K kx;refine ⟨_,rfl,_,.ty "str",ty,.type "str",_,rfl,rfl,hty,hk,_,rfl,?_⟩;cases hs:isS x with
  | true=>
   obtain ⟨z,rfl⟩:=zPs hs;have hz:=lx z rfl;refine zD ?_;refine ⟨_,rfl,z,rfl,by rw [zUJ];omega,1,_,rfl,rfl,_,rfl,?_⟩;have nm:yJ (.str z)=(decide (1<=z.length)&&decide (z.length<=8)&&(z.cps.toList.all fun c=>zBI ⟨#[c]⟩)&&!inV (.str z) (zEJ.map V.str)):=rfl;refine zp (fun c1=>?_) (fun c1=>?_)
   ·refine ⟨_,_,rfl,rfl,_,rfl,?_⟩;have h1:1<=z.length:=by
     have:(1:Int)<=(z.length:Int):=of_decide_eq_true c1;omega
    show (if (!decide ((z.length:Int)<=8))=true then _ else _);refine zp (fun c2=>?_) (fun c2=>?_)
    ·have h8: ¬z.length<=8:=by
      have: ¬(z.length:Int)<=8:=by simpa using c2
      omega
     rw [nm,zUW h8] at q;simp only [Bool.and_false,Bool.false_and] at q;exact q H (zA.refl H)
    ·have h8:z.length<=8:=by
      have:(z.length:Int)<=8:=by simpa using c2
      omega
     refine ⟨_,rfl,z,rfl,fun D hD=>?_⟩;refine zx z.cps.size (fun i ys H'=>i<=z.cps.size/\ys=(z.cps.toList.take i).map (fun c=>V.bl (zBI ⟨#[c]⟩))/\H'=upd H D (.lst ys)) ⟨zUN _,rfl,rfl⟩ (by have:z.cps.size=z.length:=rfl;rw [zUJ];omega) ?_ ?_ ?_
     ·rintro i ys H' hi ⟨_,rfl,rfl⟩;refine ⟨by simp;omega,zE,fun h=>h,fun h=>Nat.le_of_eq h.symm⟩
     ·rintro i ys H' x H'' hi ⟨_,rfl,rfl⟩ ⟨rfl,c,hc,rfl⟩ pre hpre;obtain ⟨p0,rfl⟩:=List.length_eq_one_iff.mp hpre;refine ⟨⟨[some (.str ⟨#[c]⟩)],rfl,rfl⟩,?_⟩;refine zI ?_;refine ⟨_,rfl,⟨#[c]⟩,rfl,zE,hi,?_,?_⟩
      ·have hc':z.cps.toList[i]?=some c:=by simpa using hc
       rw [zUU,hc',Option.toList_some,zUT];rfl
      ·rw [zEG]
     ·rintro ys H' ⟨_,rfl,rfl⟩;refine ⟨D,(z.cps.toList.take z.cps.size).map fun c=>zBI ⟨#[c]⟩,rfl,?_,_,rfl,?_⟩
      ·rw [List.map_map];exact SqL.of zE
      ·have ea:((z.cps.toList.take z.cps.size).map fun c=>zBI ⟨#[c]⟩).all id=z.cps.toList.all fun c=>zBI ⟨#[c]⟩:=by
        rw [show z.cps.size=z.cps.toList.length by simp,List.take_length,List.all_map];rfl
       rw [ea];rw [nm,zUV h1,zUV h8,Bool.true_and,Bool.true_and] at q;refine zp (fun c3=>?_) (fun c3=>?_)
       ·rw [c3,Bool.true_and] at q;refine ⟨_,rfl,W,_,rfl,.inr (G.kw _),rfl,by decide+kernel,q _ (zA.upd hD)⟩
       ·have c3':(z.cps.toList.all fun c=>zBI ⟨#[c]⟩)=false:=by simpa using c3
        rw [c3',Bool.false_and] at q;exact q _ (zA.upd hD)
   ·have h1: ¬1<=z.length:=by
     have: ¬(1:Int)<=(z.length:Int):=fun y=>c1 (zUV y);omega
    rw [nm,zUW h1] at q;simp only [Bool.false_and] at q;refine ⟨_,rfl,?_⟩;refine zI ?_;exact q H (zA.refl H)
  | false=>
   refine zI ?_;refine zI ?_;have:yJ x=false:=by cases x<;>first | rfl | cases hs
   rw [this] at q;exact q H (zA.refl H)
def Nm(n:Str):Prop:=yJ (.str n)=true
theorem Nm.len(h:Nm n):n.length<=8:=by
 unfold Nm yJ at h;simp only [zUp,decide_eq_true_eq] at h;exact h.1.1.2
theorem Kd.same(h:Kd H x)(s:zA H H'):Kd H' x:=by
 cases h with
 | non=>exact .non
 | bl b=>exact .bl b
 | int i=>exact .int i
 | str x=>exact .str x
 | lst e=>exact .lst (s _ _ e)
 | tup e=>exact .tup (s _ _ e)
inductive NoTp (H:Hp):V->Prop
 | non:NoTp H .non
 | str (x:Str):NoTp H (.str x)
 | int (i:Int):NoTp H (.int i)
 | lst {a:Addr} {xs:List V} (e:H a=some (.lst xs)):NoTp H (.ref a)
theorem NoTp.ty(K:zUn)(k:NoTp H x): ∃t,TyOf K H x t/\PySem.W.kitOne K t (.type "tuple")=some false:=by
 cases k with
 | non=>exact ⟨_,.non,zCG K⟩
 | str x=>exact ⟨_,.str x,zCr K⟩
 | int i=>exact ⟨_,.int i,zBm K⟩
 | lst e=>exact ⟨_,.lst e,zCX K⟩
theorem NoTp.same(h:NoTp H x)(s:zA H H'):NoTp H' x:=by
 cases h with
 | non=>exact .non
 | str x=>exact .str x
 | int i=>exact .int i
 | lst e=>exact .lst (s _ _ e)
inductive Pr (H:Hp):V->Bool->Prop
 | good {t:Addr} {n:Str} {e:Int} (h:H t=some (.tup [.str n,.int e])) (hl:n.length<=5000):Pr H (.ref t) (yJ (.str n))
 | noT {x:V} (h:NoTp H x):Pr H x false
 | len {t:Addr} {xs:List V} (h:H t=some (.tup xs)) (hl:xs.length≠2):Pr H (.ref t) false
 | noW {t:Addr} {n:Str} {x:V} (h:H t=some (.tup [.str n,x])) (hl:n.length<=5000) (k:Kd H x) (hw:isW x=false):Pr H (.ref t) false
theorem Pr.same(h:Pr H x b)(s:zA H H'):Pr H' x b:=by
 cases h with
 | good h hl=>exact .good (s _ _ h) hl
 | noT h=>exact .noT (h.same s)
 | len h hl=>exact .len (s _ _ h) hl
 | noW h hl k hw=>exact .noW (s _ _ h) hl (k.same s) hw
def zKa:Sp:=fun vs H Q _=> ∃(x:V) (b:Bool),vs= [x] /\Pr H x b/\ ∀H',zA H H'->Q (.bl b) H'
theorem zPW:FnScope ["thing"] ["thing"] (zK zGq):=fs
theorem zDF(h:n.length<=5000):Ths H (.str n):=⟨.str n,fun z e=>by cases e;exact h⟩
theorem zPF(F:Fun K "is_pair" "is_pair" zGq f fd)(B:Bn mg)
  (FN:Fun K "is_name" "is_name" zDU fN fdN) (bN:zO K fdN ["thing"] []) (mN:mg "is_name" =some (.ref fN)) (GN:FnOk P w K mg base CX0 2 fN fdN ["thing"] zDp)
  (FW:Fun K "is_whole" "is_whole" zDC fW fdW) (bW:zO K fdW ["thing"] []) (mW:mg "is_whole" =some (.ref fW)):FnOk P w K mg base CX0 3 f fd ["thing"] zKa:=by
 have GW:FnOk P w K mg base CX0 1 fW fdW ["thing"] zEK:=zEs FW B;refine F.ok zPW (fun vs H Q E h=>?_) (fun _ A _ s H vs Q E hr h=>?_)
 ·obtain ⟨x,b,rfl,_⟩:=h;rfl
 ·obtain ⟨x,b,rfl,pr,q⟩:=h;have hr1:Room 1 _:=hr.mono (by decide);refine ⟨_,QB.out (zF
   (zV (t_w (zAI (zAl (zAM (zq (zAE (K:=K) rfl) rfl B.isi zf (qc (qw 0 rfl) (qc (zAv (v:= .ty "tuple") rfl B.tuple yn rfl (by decide) rfl) zB rfl) rfl) rfl) (fun _=>rfl))) (zAN (zL yw (zq (zm (K:=K) rfl) rfl B.len yB (qc (qw 0 rfl) zB rfl) rfl) zC rfl)))) (zH
    (zS zAP)) zU) (zH
   (zS (zCf (zR GN hr rfl mN FN.kp bN .nil zP (qc (zJ (K:=K) rfl (qw 0 rfl) zC (fun _ _=>rfl)) zB rfl) rfl rfl rfl) (zCg (zR GW hr1 rfl mW FW.kp bW .nil zP (qc (zJ (K:=K) rfl (qw 0 rfl) zC (fun _ _=>rfl)) zB rfl) rfl rfl rfl)))))),?_⟩
  have cs:(∃t n y,x= .ref t/\H t=some (.tup [.str n,y])/\n.length<=5000/\Kd H y/\(yJ (.str n)&&isW y)=b)\/(NoTp H x/\b=false)\/ ∃t xs,x= .ref t/\H t=some (.tup xs)/\xs.length≠2/\b=false:=by
   cases pr with
   | @good t n e h hl=>exact .inl ⟨t,n,.int e,rfl,h,hl,.int e,by simp [isW]⟩
   | noT h=>exact .inr (.inl ⟨h,rfl⟩)
   | @len t xs h hl=>exact .inr (.inr ⟨t,xs,rfl,h,hl,rfl⟩)
   | @noW t n y h hl k hw=>exact .inl ⟨t,n,y,rfl,h,hl,k,by rw [hw,Bool.and_false]⟩
  rcases cs with ⟨t,n,y,rfl,ht,hl,ky,hb⟩|⟨h,rfl⟩|⟨t,xs,rfl,h,hl,rfl⟩
  ·refine ⟨_,rfl,_,.ty "tuple",_,.type "tuple",_,rfl,rfl,.tup ht,zr K,_,rfl,zD ?_⟩;refine ⟨_,rfl,t,_,rfl,.inr (SqT.of ht),rfl,_,rfl,?_⟩;refine zNZ rfl ?_;refine ⟨_,rfl,t,_,_,_,rfl,rfl,SqT.of ht,rfl,_,rfl,zDF hl,fun H' s'=>⟨_,rfl,?_⟩⟩;cases hn:yJ (.str n) with
   | true=>
    rw [hn,Bool.true_and] at hb;refine zI ?_;exact ⟨_,rfl,t,_,_,_,rfl,rfl,SqT.of (s' _ _ ht),rfl,_,rfl,ky.same s',by rw [hb];exact q H' s'⟩
   | false=>
    rw [hn,Bool.false_and] at hb;refine zD ?_;rw [<-hb] at q;exact q H' s'
  ·obtain ⟨ty,h1,h2⟩:=h.ty K;refine ⟨_,rfl,_,.ty "tuple",_,.type "tuple",_,rfl,rfl,h1,h2,_,rfl,?_⟩;refine zI ?_;refine zI ?_;exact q H (zA.refl H)
  ·refine ⟨_,rfl,_,.ty "tuple",_,.type "tuple",_,rfl,rfl,.tup h,zr K,_,rfl,zD ?_⟩;refine ⟨_,rfl,t,_,rfl,.inr (SqT.of h),rfl,_,rfl,?_⟩;refine zp (fun c=>q H (zA.refl H)) (fun c=>?_);exfalso;have:V.int (xs.length:Int)=V.int 2:=by simpa using c
   injection this with this;omega
inductive UW (H:Hp):Str->List V->Bool->Prop
 | nil (a:Str):UW H a [] true
 | bad {a:Str} {x:V} {xs:List V} (h:Pr H x false):UW H a (x::xs) false
 | stop {a:Str} {t:Addr} {n:Str} {e:Int} {xs:List V} (h:H t=some (.tup [.str n,.int e])) (nm:Nm n) (hs:e=0\/ ¬ltS a n):UW H a (.ref t::xs) false
 | step {a:Str} {t:Addr} {n:Str} {e:Int} {xs:List V} {b:Bool} (h:H t=some (.tup [.str n,.int e])) (nm:Nm n) (he:e≠0) (hl:ltS a n) (r:UW H n xs b):UW H a (.ref t::xs) b
theorem UW.same(h:UW H a xs b)(s:zA H H'):UW H' a xs b:=by
 induction h with
 | nil a=>exact .nil a
 | bad h=>exact .bad (h.same s)
 | stop h nm hs=>exact .stop (s _ _ h) nm hs
 | step h nm he hl _ ih=>exact .step (s _ _ h) nm he hl ih
def zNj:Sp:=fun vs H Q _=> ∃(x:V) (b:Bool),vs= [x] /\((NoTp H x/\b=false)\/ ∃t xs,x= .ref t/\H t=some (.tup xs)/\xs.length<=1000/\UW H "" xs b)/\ ∀H',zA H H'->Q (.bl b) H'
theorem zGy:FnScope ["thing","ahead","pair"] ["thing"] (zK zKJ):=fs
theorem zPu(F:Fun K "is_unit" "is_unit" zKJ f fd)(B:Bn mg)
  (FP:Fun K "is_pair" "is_pair" zGq fP fdP) (bP:zO K fdP ["thing"] []) (mP:mg "is_pair" =some (.ref fP)) (GP:FnOk P w K mg base CX0 3 fP fdP ["thing"] zKa):FnOk P w K mg base CX0 4 f fd ["thing"] zNj:=by
 refine F.ok zGy (fun vs H Q E h=>?_) (fun _ A _ s H vs Q E hr h=>?_)
 ·obtain ⟨x,b,rfl,_⟩:=h;rfl
 ·obtain ⟨x,b,rfl,kx,q⟩:=h;refine ⟨_,QB.out (zF
   (zV (zAl (zAM (zq (zAE (K:=K) rfl) rfl B.isi zf (qc (qw 0 rfl) (qc (zAv (v:= .ty "tuple") rfl B.tuple yn rfl (by decide) rfl) zB rfl) rfl) rfl) (fun _=>rfl))) (zH
    (zS zAP)) zU) (zF
   (zY 1 zGy.nd rfl zG rfl) (zF
   (zAh PassesOwn.never rfl (zBT (K:=K) rfl (qw 0 rfl)) (zb 2 zGy.nd rfl (Or.inl rfl) (.inr rfl)) (zF
    (zV (t_w (zAI (zAl (zAM (zR GP hr rfl mP FP.kp bP .nil zP (qc (qw 2 rfl) zB rfl) rfl rfl rfl) (fun _=>rfl))) (zAI (zL zZ (zJ (K:=K) rfl (qw 2 rfl) zC (fun _ _=>rfl)) zC rfl) (zAN (zL zDq (zJ (K:=K) rfl (qw 2 rfl) zC (fun _ _=>rfl)) (qw 1 rfl) rfl))))) (zH
     (zS zAP)) zU) (zH
    (zY 1 zGy.nd rfl (zJ (K:=K) rfl (qw 2 rfl) zC (fun _ _=>rfl)) rfl))) (fun _=>rfl)) (zH
   (zS zAP))))),?_⟩
  rcases kx with ⟨h,rfl⟩|⟨t,xs,rfl,ht,hz,uw⟩
  ·obtain ⟨ty,h1,h2⟩:=h.ty K;refine ⟨_,rfl,_,.ty "tuple",_,.type "tuple",_,rfl,rfl,h1,h2,_,rfl,?_⟩;refine zI ?_;exact q H (zA.refl H)
  ·refine ⟨_,rfl,_,.ty "tuple",_,.type "tuple",_,rfl,rfl,.tup ht,zr K,_,rfl,zD ?_⟩;refine ⟨_,rfl,t,rfl,⟨_,SqT.of ht⟩,?_⟩;refine zAB xs.length (fun i σ H'=> ∃a v,i<=xs.length/\UW H' a (xs.drop i) b/\σ= [some (.ref t),some (.str a),v] /\zA H H') ?_ ?_ ?_ ?_ ?_
   ·exact ⟨"",none,zUN _,uw,rfl,zA.refl H⟩
   ·rintro i σ H2 hi ⟨a,v,_,_,_,s2⟩;exact ⟨_,_,SqT.of (s2 _ _ ht),zTy hi⟩
   ·rintro σ H2 ⟨a,v,_,_,_,s2⟩;exact ⟨_,SqT.of (s2 _ _ ht),zUC _⟩
   ·rintro i σ H2 x H3 hi ⟨a,v,_,u2,rfl,s2⟩ ⟨rfl,hx⟩;have hx':=hx _ (SqT.of (s2 _ _ ht));rw [zTy hi] at hx';cases hx';have ed:xs.drop i=xs[i] ::xs.drop (i+1):=(List.getElem_cons_drop hi).symm;rw [ed] at u2;generalize hX:xs[i] =x at u2;cases u2 with
    | bad h=>
     refine ⟨_,rfl,x,false,rfl,h,fun H4 s4=>⟨_,rfl,?_⟩⟩;exact zI (zI (q H4 (s2.trans s4)))
    | @stop _ tt n e _ h nm hs=>
     have hp:Pr H3 (.ref tt) true:=by have z:=Pr.good h (by have:=nm.len;omega);rw [show yJ (.str n)=true from nm] at z;exact z
     refine ⟨_,rfl,_,true,rfl,hp,fun H4 s4=>⟨_,rfl,zD ?_⟩⟩;have h4:=s4 _ _ h;refine ⟨_,rfl,tt,_,_,_,rfl,rfl,SqT.of h4,rfl,rfl,_,rfl,?_⟩;refine zp (fun c=>zI (q H4 (s2.trans s4))) (fun c=>?_);have he:e≠0:=fun z=>c (by rw [z];rfl);refine ⟨_,rfl,tt,_,_,_,rfl,rfl,SqT.of h4,rfl,_,rfl,n,a,rfl,rfl,_,rfl,?_⟩;have hl: ¬ltS a n:=hs.resolve_left he;have hd:(!decide (a.cps.toList<n.cps.toList))=true:=by rw [zUW (show¬a.cps.toList<n.cps.toList from hl)];rfl
     rw [hd];exact zI (q H4 (s2.trans s4))
    | @step _ tt n e _ _ h nm he hl r=>
     have hp:Pr H3 (.ref tt) true:=by have z:=Pr.good h (by have:=nm.len;omega);rw [show yJ (.str n)=true from nm] at z;exact z
     refine ⟨_,rfl,_,true,rfl,hp,fun H4 s4=>⟨_,rfl,zD ?_⟩⟩;have h4:=s4 _ _ h;refine ⟨_,rfl,tt,_,_,_,rfl,rfl,SqT.of h4,rfl,rfl,_,rfl,?_⟩;refine zp (fun c=>?_) (fun c=>?_)
     ·exfalso;have:V.int e=V.int 0:=of_decide_eq_true c;injection this with this;exact he this
     ·refine ⟨_,rfl,tt,_,_,_,rfl,rfl,SqT.of h4,rfl,_,rfl,n,a,rfl,rfl,_,rfl,?_⟩;have hd:(!decide (a.cps.toList<n.cps.toList))=false:=by rw [zUV (show a.cps.toList<n.cps.toList from hl)];rfl
      rw [hd];refine zD ?_;exact ⟨_,rfl,tt,_,_,_,rfl,rfl,SqT.of h4,rfl,n,_,hi,r.same s4,rfl,s2.trans s4⟩
   ·rintro σ H2 ⟨a,v,_,u2,rfl,s2⟩;rw [List.drop_length] at u2;cases u2;exact q H2 s2
abbrev Us:=List (Str×Int)
def Un(H:Hp)(y:V)(us:Us):Prop:= ∃u ts,y= .ref u/\H u=some (.tup (ts.map V.ref))/\Paired (fun t (p:Str×Int)=>H t=some (.tup [.str p.1,.int p.2])) ts us
theorem Un.same(h:Un H y us)(s:zA H H'):Un H' y us:=let ⟨u,ts,e,h1,h2⟩:=h;⟨u,ts,e,s _ _ h1,Paired.mapM h2 fun _ _ _ e=>s _ _ e⟩
def UpU:Str->Us->Prop
 | _,[] =>True
 | a,p::us=>Nm p.1/\p.2≠0/\ltS a p.1/\UpU p.1 us
structure GoodU(us:Us):Prop where
 up:UpU "" us
 e9: ∀p∈us,-9<=p.2/\p.2<=9
 le:us.length<=100
inductive Ex
 | num (a b:Int) (u:Option Us)
 | nam (s:Str)
 | neg (e:Ex)
 | bin (w:Str) (e f:Ex)
 | pow (e:Ex) (k:Int)
 | ite (a b c d:Ex)
 | loop (s:Str) (e:Ex) (k:Int) (f:Ex)
 | call1 (s:Str) (e:Ex)
 | call2 (s:Str) (e f:Ex)
 | call3 (s:Str) (e f g:Ex)
def uV(H:Hp)(y:V):Option Us->Prop
 | none=>y= .non
 | some us=>Un H y us
def Xt(H:Hp):Ex->V->Prop
 | .num a b u,v=> ∃t p y,v= .ref t/\H t=some (.tup [.str "number",.ref p,y])/\H p=some (.tup [.int a,.int b])/\uV H y u
 | .nam s,v=> ∃t,v= .ref t/\H t=some (.tup [.str "name",.str s])
 | .neg e,v=> ∃t x,v= .ref t/\H t=some (.tup [.str "negative",x])/\Xt H e x
 | .bin w e f,v=> ∃t x y,v= .ref t/\H t=some (.tup [.str w,x,y])/\Xt H e x/\Xt H f y
 | .pow e k,v=> ∃t x,v= .ref t/\H t=some (.tup [.str "power",x,.int k])/\Xt H e x
 | .ite a b c d,v=> ∃t x y z u,v= .ref t/\H t=some (.tup [.str "if",x,y,z,u])/\Xt H a x/\Xt H b y/\Xt H c z/\Xt H d u
 | .loop s e k f,v=> ∃t x y,v= .ref t/\H t=some (.tup [.str "loop",.str s,x,.int k,y])/\Xt H e x/\Xt H f y
 | .call1 s e,v=> ∃t q x,v= .ref t/\H t=some (.tup [.str "call",.str s,.ref q])/\H q=some (.tup [x])/\Xt H e x
 | .call2 s e f,v=> ∃t q x y,v= .ref t/\H t=some (.tup [.str "call",.str s,.ref q])/\H q=some (.tup [x,y])/\Xt H e x/\Xt H f y
 | .call3 s e f g,v=> ∃t q x y z,v= .ref t/\H t=some (.tup [.str "call",.str s,.ref q])/\H q=some (.tup [x,y,z])/\Xt H e x/\Xt H f y/\Xt H g z
def zc(H H':Hp):Prop:= ∀b xs,H b=some (.tup xs)->H' b=some (.tup xs)
theorem Un.sameT(h:Un H y us)(s:zc H H'):Un H' y us:=let ⟨u,ts,e,h1,h2⟩:=h;⟨u,ts,e,s _ _ h1,Paired.mapM h2 fun _ _ _ e=>s _ _ e⟩
theorem uV.sameT(h:uV H y u)(s:zc H H'):uV H' y u:=by
 cases u with
 | none=>exact h
 | some us=>exact Un.sameT h s
theorem Xt.sameT(s:zc H H'): ∀{e:Ex} {v:V},Xt H e v->Xt H' e v
 | .num ..,_,⟨t,p,y,e,h1,h2,h3⟩=>⟨t,p,y,e,s _ _ h1,s _ _ h2,h3.sameT s⟩
 | .nam _,_,⟨t,e,h⟩=>⟨t,e,s _ _ h⟩
 | .neg _,_,⟨t,x,e,h,h1⟩=>⟨t,x,e,s _ _ h,h1.sameT s⟩
 | .bin ..,_,⟨t,x,y,e,h,h1,h2⟩=>⟨t,x,y,e,s _ _ h,h1.sameT s,h2.sameT s⟩
 | .pow ..,_,⟨t,x,e,h,h1⟩=>⟨t,x,e,s _ _ h,h1.sameT s⟩
 | .ite ..,_,⟨t,x,y,z,u,e,h,h1,h2,h3,h4⟩=>⟨t,x,y,z,u,e,s _ _ h,h1.sameT s,h2.sameT s,h3.sameT s,h4.sameT s⟩
 | .loop ..,_,⟨t,x,y,e,h,h1,h2⟩=>⟨t,x,y,e,s _ _ h,h1.sameT s,h2.sameT s⟩
 | .call1 ..,_,⟨t,q,x,e,h,h0,h1⟩=>⟨t,q,x,e,s _ _ h,s _ _ h0,h1.sameT s⟩
 | .call2 ..,_,⟨t,q,x,y,e,h,h0,h1,h2⟩=>⟨t,q,x,y,e,s _ _ h,s _ _ h0,h1.sameT s,h2.sameT s⟩
 | .call3 ..,_,⟨t,q,x,y,z,e,h,h0,h1,h2,h3⟩=>⟨t,q,x,y,z,e,s _ _ h,s _ _ h0,h1.sameT s,h2.sameT s,h3.sameT s⟩
theorem Xt.same(s:zA H H')(h:Xt H e v):Xt H' e v:=h.sameT fun b xs k=>s b _ k
theorem zc.lst(h:H l=some (.lst xs)):zc H (L2.upd H l o):=fun b ys e=>by rw [zN fun z=>by rw [z,h] at e;cases e];exact e
theorem zc.trans(a:zc H H1)(b:zc H1 H2):zc H H2:=fun c xs e=>b c xs (a c xs e)
theorem zA.t(s:zA H H'):zc H H':=fun b xs k=>s b _ k
def zHT(w:Str):Prop:=w= "plus" \/w= "minus" \/w= "times" \/w= "over"
def OkN(a b:Int)(u:Option Us):Prop:=0<=a/\0<b/\Int.gcd a b=1/\match u with
 | none=>a=0/\b=1
 | some us=>GoodU us
def Ok:Ex->Prop
 | .num a b u=>OkN a b u
 | .nam s=>Nm s
 | .neg e=>Ok e
 | .bin w e f=>zHT w/\Ok e/\Ok f
 | .pow e k=>Ok e/\ -5<=k/\k<=5
 | .ite a b c d=>Ok a/\Ok b/\Ok c/\Ok d
 | .loop s e k f=>Nm s/\Ok e/\0<=k/\k<=12/\Ok f
 | .call1 s e=>Nm s/\Ok e
 | .call2 s e f=>Nm s/\Ok e/\Ok f
 | .call3 s e f g=>Nm s/\Ok e/\Ok f/\Ok g
def zi:Ex->List Ex
 | .num ..=> []
 | .nam _=> []
 | .neg e=> [e]
 | .bin _ e f=> [e,f]
 | .pow e _=> [e]
 | .ite a b c d=> [a,b,c,d]
 | .loop _ e _ f=> [e,f]
 | .call1 _ e=> [e]
 | .call2 _ e f=> [e,f]
 | .call3 _ e f g=> [e,f,g]
abbrev XtL(H:Hp)(xs:List V)(es:List Ex):Prop:=Paired (fun x e=>Xt H e x) xs es
def wiB(x:V)(l m:Int):Bool:=match x with
 | .int i=>decide (l<=i)&&decide (i<=m)
 | _=>false
def zMp:Sp:=fun vs H Q _=> ∃(x:V) (l m:Int),vs= [x,.int l,.int m] /\Kd H x/\Q (.bl (wiB x l m)) H
theorem zTn:FnScope ["thing","least","most"] ["thing","least","most"] (zK zDA):=fs
theorem zSr(F:Fun K "is_within" "is_within" zDA f fd)
  (FW:Fun K "is_whole" "is_whole" zDC fW fdW) (bW:zO K fdW ["thing"] []) (mW:mg "is_whole" =some (.ref fW)) (GW:FnOk P w K mg base CX0 1 fW fdW ["thing"] zEK):FnOk P w K mg base CX0 2 f fd ["thing","least","most"] zMp:=by
 refine F.ok zTn (fun vs H Q E h=>?_) (fun _ A _ s H vs Q E hr1 h=>?_)
 ·obtain ⟨x,l,m,rfl,_⟩:=h;rfl
 ·obtain ⟨x,l,m,rfl,kx,q⟩:=h;refine ⟨_,QB.out (zH
   (zS (zCf (zR GW hr1 rfl mW FW.kp bW .nil zP (qc (qw 0 rfl) zB rfl) rfl rfl rfl) (zCg (zGB zBb zBb (qw 1 rfl) (qw 0 rfl) (qw 2 rfl) rfl))))),?_⟩
  refine ⟨_,rfl,x,rfl,kx,_,rfl,?_⟩;cases x with
  | int i=>
   refine zI ⟨_,rfl,_,rfl,_,_,rfl,rfl,_,rfl,?_⟩;have q:Q (.bl (decide (l<=i)&&decide (i<=m))) H:=q;refine zp (fun c=>?_) (fun c=>?_)
   ·rw [show decide (l<=i)=true from c,Bool.true_and] at q;exact ⟨_,rfl,_,_,rfl,rfl,q⟩
   ·rw [show decide (l<=i)=false by simpa using c,Bool.false_and] at q;have c':decide (l<=i)=false:=by simpa using c
    exact q
  | _=>exact zD q
theorem zSU(h:Paired (fun t (p:Str×Int)=>H t=some (.tup [.str p.1,.int p.2])) ts us): ∀{a:Str},UpU a us->UW H a (ts.map V.ref) true:=by
 induction h with
 | nil=>exact fun _=> .nil _
 | cons h1 _ ih=>exact fun ⟨n,e,l,r⟩=> .step h1 n e l (ih r)
def zMx(us:Us):Bool:=us.all fun p=>wiB (.int p.2) (-9) 9
def zMB:Sp:=fun vs H Q _=> ∃(x:V) (b:Bool),vs= [x] /\((NoTp H x/\b=false)\/ ∃us,Un H x us/\UpU "" us/\us.length<=100/\b=zMx us)/\ ∀H',zA H H'->Q (.bl b) H'
theorem zTL:FnScope ["thing"] ["thing"] (zK zCw):=fs
structure Gn(K:zUn)(mg:Str->Option Value)(N:Addr):Prop where
 e: ∃t,mg "MOST_EXPONENT" =some (.int 9 t)
 p: ∃t,mg "MOST_POWER" =some (.int 5 t)
 r: ∃t,mg "MOST_ROUNDS" =some (.int 12 t)
 a: ∃t,mg "MOST_PARAMS" =some (.int 3 t)
 n: ∃t,mg "MOST_NODES" =some (.int 40 t)
 d: ∃t,mg "MOST_DEPTH" =some (.int 10 t)
 rw: ∃t,mg "MOST_ROWS" =some (.int 16 t)
 u: ∃t,mg "MOST_UNITS" =some (.int 6 t)
 mN:mg "NOUGHT" =some (.ref N)
 kN: ∀H,SqT K H N [.int 0,.int 1]
theorem zRg(F:Fun K "is_small_unit" "is_small_unit" zCw f fd)(B:Bn mg)(G:Gn K mg N)
  (FU:Fun K "is_unit" "is_unit" zKJ fU fdU) (bU:zO K fdU ["thing"] []) (mU:mg "is_unit" =some (.ref fU)) (GU:FnOk P w K mg base CX0 4 fU fdU ["thing"] zNj)
  (FI:Fun K "is_within" "is_within" zDA fI fdI) (bI:zO K fdI ["thing","least","most"] []) (mI:mg "is_within" =some (.ref fI)) (GI:FnOk P w K mg base CX0 2 fI fdI ["thing","least","most"] zMp):FnOk P w K mg base CX0 5 f fd ["thing"] zMB:=by
 obtain ⟨te,me⟩:=G.e;refine F.ok zTL (fun vs H Q E h=>?_) (fun _ A _ s H vs Q E hr4 h=>?_)
 ·obtain ⟨x,b,rfl,_⟩:=h;rfl
 ·obtain ⟨x,b,rfl,kx,q⟩:=h;have hr2:Room 2 _:=hr4.mono (by decide);refine ⟨_,QB.out (zH
   (zS (zCf (zR GU hr4 rfl mU FU.kp bU .nil zP (qc (qw 0 rfl) zB rfl) rfl rfl rfl) (zCg (zq (zCb (K:=K) rfl rfl) rfl B.all zFi (qc (yx (cl:= []) ["pair"] [] [] rfl (zBT (K:=K) rfl (qw 0 rfl)) rfl (by decide+kernel) rfl (by decide+kernel) (fun _ _ h=>nomatch h) rfl (fun j y i h=>nomatch h) (yF rfl) (fun _ _ _ _=>(zb 0 (show (["pair"] :List Str).Nodup by decide+kernel) rfl (.inl rfl) (.inr rfl))) (fun _ _ _ _=>zAn) (fun _ _ _ _=>(zR GI hr2 rfl mI FI.kp bI .nil zP (qc (zJ (K:=K) rfl (qw 0 rfl) zC (fun _ _=>rfl)) (qc (zER (zt (v:= .int 9) rfl me ⟨te,rfl⟩ rfl)) (qc (zt (v:= .int 9) rfl me ⟨te,rfl⟩ rfl) zB rfl) rfl) rfl) rfl rfl rfl)) (fun _=>rfl)) zB rfl) rfl))))),?_⟩
  rcases kx with ⟨kx,rfl⟩|⟨us,⟨u,ts,rfl,hu,hts⟩,up,le,rfl⟩
  ·exact ⟨_,rfl,x,false,rfl,.inl ⟨kx,rfl⟩,fun H1 s1=>⟨_,rfl,zD (q H1 s1)⟩⟩
  ·have lt:=Paired.len hts;refine ⟨_,rfl,.ref u,true,rfl,.inr ⟨u,_,rfl,hu,by rw [zUF];omega,zSU hts up⟩,fun H1 s1=>⟨_,rfl,zI ?_⟩⟩;have hu1:=s1 _ _ hu;have hts1:=Paired.mapM hts fun _ _ _ e=>s1 _ _ e;refine ⟨_,rfl,u,rfl,⟨_,SqT.of hu1⟩,fun D hD=>?_⟩;refine zx us.length (fun i ys H'=>i<=us.length/\ys=((us.take i).map fun p=>wiB (.int p.2) (-9) 9).map V.bl/\H'=L2.upd H1 D (.lst ys)) ⟨zUN _,by simp,rfl⟩ (by rw [zUJ];omega) ?_ ?_ ?_
   ·rintro i ys H2 hi ⟨_,rfl,rfl⟩;have e2:=zA.upd hD (o:= .lst (((us.take i).map fun p=>wiB (.int p.2) (-9) 9).map V.bl)) _ _ hu1;exact ⟨by simp;omega,zE,fun h=>⟨_,_,SqT.of e2,zTy (by simp;omega)⟩,fun h=>⟨_,SqT.of e2,by simp;omega⟩⟩
   ·rintro i ys H2 x H3 hi ⟨_,rfl,rfl⟩ ⟨rfl,hx⟩ pre hpre;obtain ⟨p0,rfl⟩:=zAt hpre;have sD:=zA.upd hD (o:= .lst (((us.take i).map fun p=>wiB (.int p.2) (-9) 9).map V.bl));have hx':=hx _ (SqT.of (sD _ _ hu1));have hit:i<ts.length:=by omega
    rw [zUD,zTy hit] at hx';cases hx';obtain ⟨p,ep,hp⟩:=Paired.get' hts1 (zTy hit);refine ⟨⟨[some (.ref ts[i])],rfl,rfl⟩,zI ?_⟩;refine ⟨_,rfl,ts[i],_,_,_,rfl,rfl,SqT.of (sD _ _ hp),rfl,_,rfl,_,_,_,rfl,.int _,zE,hi,?_,by rw [zEG]⟩;rw [zUU,ep];simp
   ·rintro ys H2 ⟨_,rfl,rfl⟩;rw [List.take_of_length_le (zUC _)];refine ⟨D,us.map fun p=>wiB (.int p.2) (-9) 9,rfl,SqL.of zE,?_⟩;rw [List.all_map];exact q _ (s1.trans (zA.upd hD))
def zQE:Sp:=fun vs H Q _=> ∃(p:Addr) (a b:Int) (y:V) (u:Option Us),vs= [.ref p,y] /\H p=some (.tup [.int a,.int b])/\uV H y u/\OkN a b u/\ ∀H',zA H H'->Q (.bl true) H'
theorem zTV:FnScope ["amount","unit"] ["amount","unit"] (zK zEP):=fs
theorem zGO(h:GoodU us):zMx us=true:=List.all_eq_true.mpr fun p hp=>by
 have:=h.e9 p hp;show (decide (-9<=p.2)&&decide (p.2<=9))=true;rw [zUV this.1,zUV this.2];rfl
theorem zSk(F:Fun K "is_number" "is_number" zEP f fd)(B:Bn mg)(G:Gn K mg N)
  (FF:Fun K "is_fraction" "is_fraction" zJo fF fdF) (bF:zO K fdF ["thing"] []) (mF:mg "is_fraction" =some (.ref fF)) (GF:FnOk P w K mg base CX0 2 fF fdF ["thing"] zOA)
  (FS:Fun K "is_small_unit" "is_small_unit" zCw fS fdS) (bS:zO K fdS ["thing"] []) (mS:mg "is_small_unit" =some (.ref fS)) (GS:FnOk P w K mg base CX0 5 fS fdS ["thing"] zMB):FnOk P w K mg base CX0 6 f fd ["amount","unit"] zQE:=by
 have mN:=G.mN;refine F.ok zTV (fun vs H Q E h=>?_) (fun _ A _ s H vs Q E hr5 h=>?_)
 ·obtain ⟨p,a,b,y,u,rfl,_⟩:=h;rfl
 ·obtain ⟨p,a,b,y,u,rfl,hp,hy,⟨a0,b0,g1,hu⟩,q⟩:=h;have hr2:Room 2 _:=hr5.mono (by decide);have huT:=Nat.lt_of_succ_lt (zAb hr5);refine ⟨_,QB.out (zF
   (zV (t_w (zAI (zAl (zAM (zR GF hr2 rfl mF FF.kp bF .nil zP (qc (qw 0 rfl) zB rfl) rfl rfl rfl) (fun _=>rfl))) (zAN (zL zDd (zJ (K:=K) rfl (qw 0 rfl) zC (fun _ _=>rfl)) zC rfl)))) (zH
    (zS zAP)) zU) (zF
   (zV (zRv (qw 1 rfl) rfl) (zH
    (zS (zFF (zRV (K:=K) rfl huT) (qw 0 rfl) (zt (v:= .ref N) rfl mN rfl rfl) rfl))) zU) (zH
   (zS (zR GS hr5 rfl mS FS.kp bS .nil zP (qc (qw 1 rfl) zB rfl) rfl rfl rfl))))),?_⟩
  have fr:zDm [.int a,.int b] =true:=by
   simp [zDm,g1,b0]
   try omega
  refine ⟨_,rfl,.ref p,rfl,.inr ⟨p,_,rfl,hp,fun z hz=>by simp at hz;rcases hz with rfl | rfl<;>exact .int _,?_⟩⟩;rw [fr];refine ⟨_,rfl,zD ?_⟩;refine ⟨_,rfl,p,_,_,_,rfl,rfl,SqT.of hp,rfl,_,_,rfl,rfl,false,congrArg V.bl (zUW (by omega)),zD ?_⟩;cases u with
  | none=>
   have hy:y= .non:=hy;subst hy;obtain ⟨rfl,rfl⟩:=hu;refine ⟨_,rfl,_,rfl,zSm (by rfl) ?_⟩;exact ⟨_,rfl,p,N,[.int 0,.int 1],rfl,rfl,SqT.of hp,G.kN H,fun x hx=>by simp at hx;rcases hx with rfl | rfl<;>rfl,q H (zA.refl H)⟩
  | some us=>
   obtain ⟨v,ts,rfl,h1,h2⟩:=hy;refine ⟨_,rfl,_,rfl,zSX (by rfl) ?_⟩;have hu:GoodU us:=hu;refine ⟨_,rfl,.ref v,true,rfl,.inr ⟨us,⟨v,ts,rfl,h1,h2⟩,hu.up,hu.le,(zGO hu).symm⟩,q⟩
inductive NoTq (H:Hp):V->Prop
 | non:NoTq H .non
 | bl (b:Bool):NoTq H (.bl b)
 | int (i:Int):NoTq H (.int i)
 | str (x:Str):NoTq H (.str x)
 | lst {a:Addr} {xs:List V} (e:H a=some (.lst xs)):NoTq H (.ref a)
 | dic {a:Addr} {kvs:List (Key×V)} (e:H a=some (.dK kvs)):NoTq H (.ref a)
theorem zHh(K:zUn):PySem.W.kitOne K (.type "dict") (.type "tuple")=some false:=by kernel_rfl
theorem NoTq.ty(K:zUn)(k:NoTq H x): ∃t,TyOf K H x t/\PySem.W.kitOne K t (.type "tuple")=some false:=by
 cases k with
 | non=>exact ⟨_,.non,zCG K⟩
 | bl b=>exact ⟨_,.bl b,zHa K⟩
 | int i=>exact ⟨_,.int i,zBm K⟩
 | str x=>exact ⟨_,.str x,zCr K⟩
 | lst e=>exact ⟨_,.lst e,zCX K⟩
 | dic e=>exact ⟨_,.dK e,zHh K⟩
theorem NoTq.same(k:NoTq H x)(s:zA H H'):NoTq H' x:=by
 cases k with
 | non=>exact .non
 | bl b=>exact .bl b
 | int i=>exact .int i
 | str x=>exact .str x
 | lst e=>exact .lst (s _ _ e)
 | dic e=>exact .dic (s _ _ e)
inductive WdO (H:Hp):V->Option Str->Prop
 | noT {x:V} (h:NoTq H x):WdO H x none
 | emp {t:Addr} (e:H t=some (.tup [])):WdO H (.ref t) none
 | noS {t:Addr} {y:V} {ys:List V} (e:H t=some (.tup (y::ys))) (k:Kd H y) (h:isS y=false):WdO H (.ref t) none
 | str {t:Addr} {w:Str} {ys:List V} (e:H t=some (.tup (.str w::ys))):WdO H (.ref t) (some w)
def wdV:Option Str->V
 | none=> .non
 | some w=> .str w
def zMA:Sp:=fun vs H Q _=> ∃(x:V) (o:Option Str),vs= [x] /\WdO H x o/\Q (wdV o) H
theorem zTQ:FnScope ["thing"] ["thing"] (zK zFJ):=fs
theorem zRy(F:Fun K "word_of" "word_of" zFJ f fd)(B:Bn mg):FnOk P w K mg base CX0 1 f fd ["thing"] zMA:=by
 refine F.ok zTQ (fun vs H Q E h=>?_) (fun _ A _ s H vs Q E hr h=>?_)
 ·obtain ⟨x,o,rfl,_⟩:=h;rfl
 ·obtain ⟨x,o,rfl,hw,q⟩:=h;refine ⟨_,QB.out (zF
   (zV (t_w (zAi (zAM (zq (zAE (K:=K) rfl) rfl B.isi zf (qc (qw 0 rfl) (qc (zAv (v:= .ty "tuple") rfl B.tuple yn rfl (by decide) rfl) zB rfl) rfl) rfl) (fun _=>rfl)) (zAi (zL zBx (zq (zm (K:=K) rfl) rfl B.len yB (qc (qw 0 rfl) zB rfl) rfl) zC rfl) (zAU (zAM (zq (zAE (K:=K) rfl) rfl B.isi zf (qc (zJ (K:=K) rfl (qw 0 rfl) zC (fun _ _=>rfl)) (qc (zAv (v:= .ty "str") rfl B.str zKz rfl (by decide) rfl) zB rfl) rfl) rfl) (fun _=>rfl)))))) (zH
    (zS (zJ (K:=K) rfl (qw 0 rfl) zC (fun _ _=>rfl)))) zU) (zH
   (zS zBX))),?_⟩
  cases hw with
  | noT h=>
   obtain ⟨ty,h1,h2⟩:=h.ty K;exact ⟨_,rfl,_,.ty "tuple",_,.type "tuple",_,rfl,rfl,h1,h2,_,rfl,zD (zD q)⟩
  | @emp t e=>
   exact ⟨_,rfl,_,.ty "tuple",_,.type "tuple",_,rfl,rfl,.tup e,zr K,_,rfl,zI ⟨_,rfl,t,_,rfl,.inr (SqT.of e),_,_,rfl,rfl,_,rfl,zD (zD q)⟩⟩
  | @noS t y ys e k h=>
   obtain ⟨ty,h1,h2⟩:=zKx K k;rw [h] at h2;exact ⟨_,rfl,_,.ty "tuple",_,.type "tuple",_,rfl,rfl,.tup e,zr K,_,rfl,zI ⟨_,rfl,t,_,rfl,.inr (SqT.of e),_,_,rfl,rfl,true,congrArg V.bl (zUV (by simp)),zI ⟨_,rfl,t,_,_,_,rfl,rfl,SqT.of e,zg (j:=0) rfl,_,.ty "str",_,.type "str",_,rfl,rfl,h1,h2,_,rfl,zD q⟩⟩⟩
  | @str t w ys e=>
   exact ⟨_,rfl,_,.ty "tuple",_,.type "tuple",_,rfl,rfl,.tup e,zr K,_,rfl,zI ⟨_,rfl,t,_,rfl,.inr (SqT.of e),_,_,rfl,rfl,true,congrArg V.bl (zUV (by simp)),zI ⟨_,rfl,t,_,_,_,rfl,rfl,SqT.of e,zg (j:=0) rfl,_,.ty "str",_,.type "str",_,rfl,rfl,.str w,zGb K,_,rfl,zI ⟨_,rfl,t,_,_,_,rfl,rfl,SqT.of e,zg (j:=0) rfl,q⟩⟩⟩⟩
def LF:List (Str×Int):= [("number",3),("name",2),("negative",2),("plus",3),("minus",3),("times",3),("over",3),("power",3),("if",5),("loop",5),("call",3)]
theorem zBJ(h:Nm n):Ths H (.str n):=zDF (zUM h.len (by decide))
def zQF:Sp:=fun vs H Q _=> ∃x:V,vs= [x] /\((x= .non/\Q (.bl false) H)\/ ∃e,Xt H e x/\Ok e/\ ∀H',zA H H'->Q (.bl true) H')
theorem zQQ:FnScope ["thing","word"] ["thing"] (zK zGx):=fs
theorem zSW(F:Fun K "has_form" "has_form" zGx f fd)(B:Bn mg)(G:Gn K mg N)(kF:KDic w K LFa LF)(mLF:mg "LENGTHS_forms" =some (.ref LFa))
  (FO:Fun K "word_of" "word_of" zFJ fO fdO) (bO:zO K fdO ["thing"] []) (mO:mg "word_of" =some (.ref fO)) (GO:FnOk P w K mg base CX0 1 fO fdO ["thing"] zMA)
  (FN:Fun K "is_number" "is_number" zEP fN fdN) (bN:zO K fdN ["amount","unit"] []) (mN:mg "is_number" =some (.ref fN)) (GN:FnOk P w K mg base CX0 6 fN fdN ["amount","unit"] zQE)
  (FM:Fun K "is_name" "is_name" zDU fM fdM) (bM:zO K fdM ["thing"] []) (mM:mg "is_name" =some (.ref fM)) (GM:FnOk P w K mg base CX0 2 fM fdM ["thing"] zDp)
  (FI:Fun K "is_within" "is_within" zDA fI fdI) (bI:zO K fdI ["thing","least","most"] []) (mI:mg "is_within" =some (.ref fI)) (GI:FnOk P w K mg base CX0 2 fI fdI ["thing","least","most"] zMp):FnOk P w K mg base CX0 7 f fd ["thing"] zQF:=by
 obtain ⟨tp,mp⟩:=G.p;obtain ⟨tr,mr⟩:=G.r;obtain ⟨ta,ma⟩:=G.a;refine F.ok zQQ (fun vs H Q E h=>?_) (fun _ A _ s H vs Q E hr6 h=>?_)
 ·obtain ⟨x,rfl,_⟩:=h;rfl
 ·obtain ⟨x,rfl,h⟩:=h;have hr2:Room 2 _:=hr6.mono (by decide);have hr1:Room 1 _:=hr6.mono (by decide);refine ⟨_,QB.out (zF
   (zY 1 zQQ.nd rfl (zR GO hr1 rfl mO FO.kp bO .nil zP (qc (qw 0 rfl) zB rfl) rfl rfl rfl) rfl) (zF
   (zV (t_w (zAI (zIL kF (qw 1 rfl) (zt (v:= .ref LFa) rfl mLF rfl rfl) rfl) (zAN (zL yw (zq (zm (K:=K) rfl) rfl B.len yB (qc (qw 0 rfl) zB rfl) rfl) (zLI kF (zt (v:= .ref LFa) rfl mLF rfl rfl) (qw 1 rfl) (fun _ _=>rfl)) rfl)))) (zH
    (zS zAP)) zU) (zF
   (zV (zL zZ (qw 1 rfl) zG rfl) (zH
    (zS (zR GN hr6 rfl mN FN.kp bN .nil zP (qc (zJ (K:=K) rfl (qw 0 rfl) zC (fun _ _=>rfl)) (qc (zJ (K:=K) rfl (qw 0 rfl) zC (fun _ _=>rfl)) zB rfl) rfl) rfl rfl rfl))) zU) (zF
   (zV (zL zZ (qw 1 rfl) zG rfl) (zH
    (zS (zR GM hr2 rfl mM FM.kp bM .nil zP (qc (zJ (K:=K) rfl (qw 0 rfl) zC (fun _ _=>rfl)) zB rfl) rfl rfl rfl))) zU) (zF
   (zV (zL zZ (qw 1 rfl) zG rfl) (zH
    (zS (zR GI hr2 rfl mI FI.kp bI .nil zP (qc (zJ (K:=K) rfl (qw 0 rfl) zC (fun _ _=>rfl)) (qc (zER (zt (v:= .int 5) rfl mp ⟨tp,rfl⟩ rfl)) (qc (zt (v:= .int 5) rfl mp ⟨tp,rfl⟩ rfl) zB rfl) rfl) rfl) rfl rfl rfl))) zU) (zF
   (zV (zL zZ (qw 1 rfl) zG rfl) (zH
    (zS (zCf (zR GM hr2 rfl mM FM.kp bM .nil zP (qc (zJ (K:=K) rfl (qw 0 rfl) zC (fun _ _=>rfl)) zB rfl) rfl rfl rfl) (zCg (zR GI hr2 rfl mI FI.kp bI .nil zP (qc (zJ (K:=K) rfl (qw 0 rfl) zC (fun _ _=>rfl)) (qc zC (qc (zt (v:= .int 12) rfl mr ⟨tr,rfl⟩ rfl) zB rfl) rfl) rfl) rfl rfl rfl))))) zU) (zF
   (zV (zL zZ (qw 1 rfl) zG rfl) (zH
    (zS (zCf (zR GM hr2 rfl mM FM.kp bM .nil zP (qc (zJ (K:=K) rfl (qw 0 rfl) zC (fun _ _=>rfl)) zB rfl) rfl rfl rfl) (zCf (zq (zAE (K:=K) rfl) rfl B.isi zf (qc (zJ (K:=K) rfl (qw 0 rfl) zC (fun _ _=>rfl)) (qc (zAv (v:= .ty "tuple") rfl B.tuple yn rfl (by decide) rfl) zB rfl) rfl) rfl) (zCg (zGB zBb zBb zC (zq (zm (K:=K) rfl) rfl B.len yB (qc (zJ (K:=K) rfl (qw 0 rfl) zC (fun _ _=>rfl)) zB rfl) rfl) (zt (v:= .int 3) rfl ma ⟨ta,rfl⟩ rfl) rfl)))))) zU) (zH
   (zS zAP))))))))),?_⟩
  rcases h with ⟨rfl,q⟩|⟨e,hx,ok,q⟩
  ·exact ⟨_,rfl,_,none,rfl,.noT .non,_,rfl,rfl,_,rfl,zI (zI q)⟩
  cases e with
  | num a b u=>
   obtain ⟨t,p,y,rfl,h1,h2,h3⟩:=hx;refine ⟨_,rfl,_,some "number",rfl,.str h1,_,rfl,rfl,_,rfl,zD ⟨_,rfl,t,_,rfl,.inr (SqT.of h1),_,rfl,_,3,rfl,rfl,rfl,_,rfl,zD ?_⟩⟩;exact ⟨_,rfl,rfl,_,rfl,zI ⟨_,rfl,t,_,_,_,rfl,rfl,SqT.of h1,rfl,_,rfl,t,_,_,_,rfl,rfl,SqT.of h1,rfl,p,a,b,y,u,rfl,h2,h3,ok,q⟩⟩
  | nam s=>
   obtain ⟨t,rfl,h1⟩:=hx;refine ⟨_,rfl,_,some "name",rfl,.str h1,_,rfl,rfl,_,rfl,zD ⟨_,rfl,t,_,rfl,.inr (SqT.of h1),_,rfl,_,2,rfl,rfl,rfl,_,rfl,zD ?_⟩⟩;refine ⟨_,rfl,rfl,_,rfl,zD ⟨_,rfl,rfl,_,rfl,zI ⟨_,rfl,t,_,_,_,rfl,rfl,SqT.of h1,rfl,_,rfl,zBJ ok,fun H' s'=>?_⟩⟩⟩;rw [show yJ (.str s)=true from ok];exact q H' s'
  | neg e=>
   obtain ⟨t,x,rfl,h1,h2⟩:=hx;refine ⟨_,rfl,_,some "negative",rfl,.str h1,_,rfl,rfl,_,rfl,zD ⟨_,rfl,t,_,rfl,.inr (SqT.of h1),_,rfl,_,2,rfl,rfl,rfl,_,rfl,zD ?_⟩⟩;exact ⟨_,rfl,rfl,_,rfl,zD ⟨_,rfl,rfl,_,rfl,zD ⟨_,rfl,rfl,_,rfl,zD ⟨_,rfl,rfl,_,rfl,zD ⟨_,rfl,rfl,_,rfl,zD (q H (zA.refl H))⟩⟩⟩⟩⟩
  | bin wd e f=>
   obtain ⟨t,x,y,rfl,h1,h2,h3⟩:=hx;obtain ⟨hw,_⟩:=ok;rcases hw with rfl | rfl | rfl | rfl
   all_goals refine ⟨_,rfl,_,some _,rfl,.str h1,_,rfl,rfl,_,rfl,zD ⟨_,rfl,t,_,rfl,.inr (SqT.of h1),_,rfl,_,3,rfl,rfl,rfl,_,rfl,zD ?_⟩⟩
   all_goals exact ⟨_,rfl,rfl,_,rfl,zD ⟨_,rfl,rfl,_,rfl,zD ⟨_,rfl,rfl,_,rfl,zD ⟨_,rfl,rfl,_,rfl,zD ⟨_,rfl,rfl,_,rfl,zD (q H (zA.refl H))⟩⟩⟩⟩⟩
  | pow e k=>
   obtain ⟨t,x,rfl,h1,h2⟩:=hx;obtain ⟨_,k0,k1⟩:=ok;refine ⟨_,rfl,_,some "power",rfl,.str h1,_,rfl,rfl,_,rfl,zD ⟨_,rfl,t,_,rfl,.inr (SqT.of h1),_,rfl,_,3,rfl,rfl,rfl,_,rfl,zD ?_⟩⟩;refine ⟨_,rfl,rfl,_,rfl,zD ⟨_,rfl,rfl,_,rfl,zD ⟨_,rfl,rfl,_,rfl,zI ⟨_,rfl,t,_,_,_,rfl,rfl,SqT.of h1,rfl,_,rfl,.int k,-5,5,rfl,.int k,?_⟩⟩⟩⟩;rw [show wiB (.int k) (-5) 5=true by show (decide (-5<=k)&&decide (k<=5))=true;rw [zUV k0,zUV k1];rfl];exact q H (zA.refl H)
  | ite a b c d=>
   obtain ⟨t,x,y,z,u,rfl,h1,_⟩:=hx;refine ⟨_,rfl,_,some "if",rfl,.str h1,_,rfl,rfl,_,rfl,zD ⟨_,rfl,t,_,rfl,.inr (SqT.of h1),_,rfl,_,5,rfl,rfl,rfl,_,rfl,zD ?_⟩⟩;exact ⟨_,rfl,rfl,_,rfl,zD ⟨_,rfl,rfl,_,rfl,zD ⟨_,rfl,rfl,_,rfl,zD ⟨_,rfl,rfl,_,rfl,zD ⟨_,rfl,rfl,_,rfl,zD (q H (zA.refl H))⟩⟩⟩⟩⟩
  | loop s e k f=>
   obtain ⟨t,x,y,rfl,h1,_⟩:=hx;obtain ⟨hs,_,k0,k1,_⟩:=ok;refine ⟨_,rfl,_,some "loop",rfl,.str h1,_,rfl,rfl,_,rfl,zD ⟨_,rfl,t,_,rfl,.inr (SqT.of h1),_,rfl,_,5,rfl,rfl,rfl,_,rfl,zD ?_⟩⟩;refine ⟨_,rfl,rfl,_,rfl,zD ⟨_,rfl,rfl,_,rfl,zD ⟨_,rfl,rfl,_,rfl,zD ⟨_,rfl,rfl,_,rfl,zI ⟨_,rfl,t,_,_,_,rfl,rfl,SqT.of h1,rfl,_,rfl,zBJ hs,fun H' s'=>?_⟩⟩⟩⟩⟩;rw [show yJ (.str s)=true from hs];refine ⟨_,rfl,zI ⟨_,rfl,t,_,_,_,rfl,rfl,SqT.of (s' _ _ h1),rfl,.int k,0,12,rfl,.int k,?_⟩⟩;rw [show wiB (.int k) 0 12=true by show (decide (0<=k)&&decide (k<=12))=true;rw [zUV k0,zUV k1];rfl];exact q H' s'
  | call1 s e=>
   obtain ⟨t,q1,x,rfl,h1,h0,_⟩:=hx;have hs:=ok.1;refine ⟨_,rfl,_,some "call",rfl,.str h1,_,rfl,rfl,_,rfl,zD ⟨_,rfl,t,_,rfl,.inr (SqT.of h1),_,rfl,_,3,rfl,rfl,rfl,_,rfl,zD ?_⟩⟩;refine ⟨_,rfl,rfl,_,rfl,zD ⟨_,rfl,rfl,_,rfl,zD ⟨_,rfl,rfl,_,rfl,zD ⟨_,rfl,rfl,_,rfl,zD ⟨_,rfl,rfl,_,rfl,zI ⟨_,rfl,t,_,_,_,rfl,rfl,SqT.of h1,rfl,_,rfl,zBJ hs,fun H' s'=>?_⟩⟩⟩⟩⟩⟩;rw [show yJ (.str s)=true from hs];refine ⟨_,rfl,zI ⟨_,rfl,t,_,_,_,rfl,rfl,SqT.of (s' _ _ h1),rfl,_,.ty "tuple",_,.type "tuple",_,rfl,rfl,.tup (s' _ _ h0),zr K,_,rfl,zI ?_⟩⟩;exact ⟨_,rfl,t,_,_,_,rfl,rfl,SqT.of (s' _ _ h1),rfl,q1,_,rfl,.inr (SqT.of (s' _ _ h0)),_,_,rfl,rfl,_,rfl,zI ⟨_,_,rfl,rfl,q H' s'⟩⟩
  | call2 s e f=>
   obtain ⟨t,q1,x,y,rfl,h1,h0,_⟩:=hx;have hs:=ok.1;refine ⟨_,rfl,_,some "call",rfl,.str h1,_,rfl,rfl,_,rfl,zD ⟨_,rfl,t,_,rfl,.inr (SqT.of h1),_,rfl,_,3,rfl,rfl,rfl,_,rfl,zD ?_⟩⟩;refine ⟨_,rfl,rfl,_,rfl,zD ⟨_,rfl,rfl,_,rfl,zD ⟨_,rfl,rfl,_,rfl,zD ⟨_,rfl,rfl,_,rfl,zD ⟨_,rfl,rfl,_,rfl,zI ⟨_,rfl,t,_,_,_,rfl,rfl,SqT.of h1,rfl,_,rfl,zBJ hs,fun H' s'=>?_⟩⟩⟩⟩⟩⟩;rw [show yJ (.str s)=true from hs];refine ⟨_,rfl,zI ⟨_,rfl,t,_,_,_,rfl,rfl,SqT.of (s' _ _ h1),rfl,_,.ty "tuple",_,.type "tuple",_,rfl,rfl,.tup (s' _ _ h0),zr K,_,rfl,zI ?_⟩⟩;exact ⟨_,rfl,t,_,_,_,rfl,rfl,SqT.of (s' _ _ h1),rfl,q1,_,rfl,.inr (SqT.of (s' _ _ h0)),_,_,rfl,rfl,_,rfl,zI ⟨_,_,rfl,rfl,q H' s'⟩⟩
  | call3 s e f g=>
   obtain ⟨t,q1,x,y,z,rfl,h1,h0,_⟩:=hx;have hs:=ok.1;refine ⟨_,rfl,_,some "call",rfl,.str h1,_,rfl,rfl,_,rfl,zD ⟨_,rfl,t,_,rfl,.inr (SqT.of h1),_,rfl,_,3,rfl,rfl,rfl,_,rfl,zD ?_⟩⟩;refine ⟨_,rfl,rfl,_,rfl,zD ⟨_,rfl,rfl,_,rfl,zD ⟨_,rfl,rfl,_,rfl,zD ⟨_,rfl,rfl,_,rfl,zD ⟨_,rfl,rfl,_,rfl,zI ⟨_,rfl,t,_,_,_,rfl,rfl,SqT.of h1,rfl,_,rfl,zBJ hs,fun H' s'=>?_⟩⟩⟩⟩⟩⟩;rw [show yJ (.str s)=true from hs];refine ⟨_,rfl,zI ⟨_,rfl,t,_,_,_,rfl,rfl,SqT.of (s' _ _ h1),rfl,_,.ty "tuple",_,.type "tuple",_,rfl,rfl,.tup (s' _ _ h0),zr K,_,rfl,zI ?_⟩⟩;exact ⟨_,rfl,t,_,_,_,rfl,rfl,SqT.of (s' _ _ h1),rfl,q1,_,rfl,.inr (SqT.of (s' _ _ h0)),_,_,rfl,rfl,_,rfl,zI ⟨_,_,rfl,rfl,q H' s'⟩⟩
def zFx:Sp:=fun vs H Q _=> ∃(x:V) (e:Ex),vs= [x] /\Xt H e x/\Ok e/\ ∀l xs H',zA H H'->H l=none->H' l=some (.lst xs)->XtL H' xs (zi e)->Q (.ref l) H'
theorem zQm:FnScope ["told","word"] ["told"] (zK zFI):=fs
theorem zSi(F:Fun K "kids_of" "kids_of" zFI f fd)(B:Bn mg):FnOk P w K mg base CX0 1 f fd ["told"] zFx:=by
 refine F.ok zQm (fun vs H Q E h=>?_) (fun _ A _ s H vs Q E hr h=>?_)
 ·obtain ⟨x,e,rfl,_⟩:=h;rfl
 ·obtain ⟨x,e,rfl,hx,ok,q⟩:=h;refine ⟨_,QB.out (zF
   (zY 1 zQm.nd rfl (zJ (K:=K) rfl (qw 0 rfl) zC (fun _ _=>rfl)) rfl) (zF
   (zV (t_w (zAI (zL zZ (qw 1 rfl) zG rfl) (zAN (zL zZ (qw 1 rfl) zG rfl)))) (zH
    (zS (zd zB))) zU) (zF
   (zV (zL zZ (qw 1 rfl) zG rfl) (zH
    (zS (zd (qc (zJ (K:=K) rfl (qw 0 rfl) zC (fun _ _=>rfl)) zB rfl)))) zU) (zF
   (zV (zL zZ (qw 1 rfl) zG rfl) (zH
    (zS (zd (qc (zJ (K:=K) rfl (qw 0 rfl) zC (fun _ _=>rfl)) (qc (zJ (K:=K) rfl (qw 0 rfl) zC (fun _ _=>rfl)) zB rfl) rfl)))) zU) (zF
   (zV (zL zZ (qw 1 rfl) zG rfl) (zH
    (zS (zBZ (zBz (K:=K) rfl) rfl B.list zCx (qc (zJ (K:=K) rfl (qw 0 rfl) zC (fun _ _=>rfl)) zB rfl) rfl))) zU) (zH
   (zS (zBZ (zBz (K:=K) rfl) rfl B.list zCx (qc (zAe (K:=K) rfl (qw 0 rfl) (yE zC) yR) zB rfl) rfl)))))))),?_⟩
  cases e with
  | num a b u=>
   obtain ⟨t,p,y,rfl,h1,h2,h3⟩:=hx;refine ⟨_,rfl,t,_,_,_,rfl,rfl,SqT.of h1,rfl,_,rfl,rfl,_,rfl,zI (zI ⟨bs 0,fun l hl=>?_⟩)⟩;exact q l [] _ (zA.upd hl) hl zE .nil
  | nam s=>
   obtain ⟨t,rfl,h1⟩:=hx;refine ⟨_,rfl,t,_,_,_,rfl,rfl,SqT.of h1,rfl,_,rfl,rfl,_,rfl,zD ⟨_,rfl,rfl,_,rfl,zI ⟨bs 0,fun l hl=>?_⟩⟩⟩;exact q l [] _ (zA.upd hl) hl zE .nil
  | pow e k=>
   obtain ⟨t,x,rfl,h1,h2⟩:=hx;refine ⟨_,rfl,t,_,_,_,rfl,rfl,SqT.of h1,rfl,_,rfl,rfl,_,rfl,zD ⟨_,rfl,rfl,_,rfl,zD ⟨_,rfl,rfl,_,rfl,zI ⟨_,rfl,t,_,_,_,rfl,rfl,SqT.of h1,rfl,bs 1,fun l hl=>?_⟩⟩⟩⟩;exact q l _ _ (zA.upd hl) hl zE (.cons (h2.same (zA.upd hl)) .nil)
  | loop s e k f=>
   obtain ⟨t,x,y,rfl,h1,h2,h3⟩:=hx;refine ⟨_,rfl,t,_,_,_,rfl,rfl,SqT.of h1,rfl,_,rfl,rfl,_,rfl,zD ⟨_,rfl,rfl,_,rfl,zD ⟨_,rfl,rfl,_,rfl,zD ⟨_,rfl,rfl,_,rfl,zI ⟨_,rfl,t,_,_,_,rfl,rfl,SqT.of h1,rfl,_,rfl,t,_,_,_,rfl,rfl,SqT.of h1,rfl,bs 2,fun l hl=>?_⟩⟩⟩⟩⟩;exact q l _ _ (zA.upd hl) hl zE (.cons (h2.same (zA.upd hl)) (.cons (h3.same (zA.upd hl)) .nil))
  | call1 s e=>
   obtain ⟨t,q1,x,rfl,h1,h0,h2⟩:=hx;refine ⟨_,rfl,t,_,_,_,rfl,rfl,SqT.of h1,rfl,_,rfl,rfl,_,rfl,zD ⟨_,rfl,rfl,_,rfl,zD ⟨_,rfl,rfl,_,rfl,zD ⟨_,rfl,rfl,_,rfl,zD ⟨_,rfl,rfl,_,rfl,zI ⟨_,rfl,t,_,_,_,rfl,rfl,SqT.of h1,rfl,q1,_,rfl,.inr (SqT.of h0),fun l hl=>?_⟩⟩⟩⟩⟩⟩;exact q l _ _ (zA.upd hl) hl zE (.cons (h2.same (zA.upd hl)) .nil)
  | call2 s e f=>
   obtain ⟨t,q1,x,y,rfl,h1,h0,h2,h3⟩:=hx;refine ⟨_,rfl,t,_,_,_,rfl,rfl,SqT.of h1,rfl,_,rfl,rfl,_,rfl,zD ⟨_,rfl,rfl,_,rfl,zD ⟨_,rfl,rfl,_,rfl,zD ⟨_,rfl,rfl,_,rfl,zD ⟨_,rfl,rfl,_,rfl,zI ⟨_,rfl,t,_,_,_,rfl,rfl,SqT.of h1,rfl,q1,_,rfl,.inr (SqT.of h0),fun l hl=>?_⟩⟩⟩⟩⟩⟩;exact q l _ _ (zA.upd hl) hl zE (.cons (h2.same (zA.upd hl)) (.cons (h3.same (zA.upd hl)) .nil))
  | call3 s e f g=>
   obtain ⟨t,q1,x,y,z,rfl,h1,h0,h2,h3,h4⟩:=hx;refine ⟨_,rfl,t,_,_,_,rfl,rfl,SqT.of h1,rfl,_,rfl,rfl,_,rfl,zD ⟨_,rfl,rfl,_,rfl,zD ⟨_,rfl,rfl,_,rfl,zD ⟨_,rfl,rfl,_,rfl,zD ⟨_,rfl,rfl,_,rfl,zI ⟨_,rfl,t,_,_,_,rfl,rfl,SqT.of h1,rfl,q1,_,rfl,.inr (SqT.of h0),fun l hl=>?_⟩⟩⟩⟩⟩⟩;exact q l _ _ (zA.upd hl) hl zE (.cons (h2.same (zA.upd hl)) (.cons (h3.same (zA.upd hl)) (.cons (h4.same (zA.upd hl)) .nil)))
  | neg e=>
   obtain ⟨t,x,rfl,h1,h2⟩:=hx;refine ⟨_,rfl,t,_,_,_,rfl,rfl,SqT.of h1,rfl,_,rfl,rfl,_,rfl,zD ⟨_,rfl,rfl,_,rfl,zD ⟨_,rfl,rfl,_,rfl,zD ⟨_,rfl,rfl,_,rfl,zD ⟨_,rfl,rfl,_,rfl,zD ⟨_,rfl,_,rfl,t,_,rfl,SqT.of h1,fun z=>absurd z.1 (show¬HT.sIx 2 0 (some 1)=0 by decide),fun p hp=>⟨p,_,rfl,.inr (SqT.of zE),fun l hl=>?_⟩⟩⟩⟩⟩⟩⟩;have sp:=(zA.upd hp (o:= .tup [x])).trans (zA.upd hl (o:= .lst [x]));exact q l _ _ sp (zA.none (zA.upd hp) hl) zE (.cons (h2.same sp) .nil)
  | bin wd e f=>
   obtain ⟨t,x,y,rfl,h1,h2,h3⟩:=hx;obtain ⟨hw,_⟩:=ok;rcases hw with rfl | rfl | rfl | rfl
   all_goals refine ⟨_,rfl,t,_,_,_,rfl,rfl,SqT.of h1,rfl,_,rfl,rfl,_,rfl,zD ⟨_,rfl,rfl,_,rfl,zD ⟨_,rfl,rfl,_,rfl,zD ⟨_,rfl,rfl,_,rfl,zD ⟨_,rfl,rfl,_,rfl,zD ⟨_,rfl,_,rfl,t,_,rfl,SqT.of h1,fun z=>absurd z.1 (show¬HT.sIx 3 0 (some 1)=0 by decide),fun p hp=>⟨p,_,rfl,.inr (SqT.of zE),fun l hl=>?_⟩⟩⟩⟩⟩⟩⟩
   all_goals have sp:=(zA.upd hp (o:= .tup [x,y])).trans (zA.upd hl (o:= .lst [x,y]))
   all_goals exact q l _ _ sp (zA.none (zA.upd hp) hl) zE (.cons (h2.same sp) (.cons (h3.same sp) .nil))
  | ite a b c d=>
   obtain ⟨t,x,y,z,u,rfl,h1,h2,h3,h4,h5⟩:=hx;refine ⟨_,rfl,t,_,_,_,rfl,rfl,SqT.of h1,rfl,_,rfl,rfl,_,rfl,zD ⟨_,rfl,rfl,_,rfl,zD ⟨_,rfl,rfl,_,rfl,zD ⟨_,rfl,rfl,_,rfl,zD ⟨_,rfl,rfl,_,rfl,zD ⟨_,rfl,_,rfl,t,_,rfl,SqT.of h1,fun z=>absurd z.1 (show¬HT.sIx 5 0 (some 1)=0 by decide),fun p hp=>⟨p,_,rfl,.inr (SqT.of zE),fun l hl=>?_⟩⟩⟩⟩⟩⟩⟩;have sp:=(zA.upd hp (o:= .tup [x,y,z,u])).trans (zA.upd hl (o:= .lst [x,y,z,u]));exact q l _ _ sp (zA.none (zA.upd hp) hl) zE (.cons (h2.same sp) (.cons (h3.same sp) (.cons (h4.same sp) (.cons (h5.same sp) .nil))))
def zQ:Ex->Nat
 | .num ..=>1
 | .nam _=>1
 | .neg e=>1+zQ e
 | .bin _ e f=>1+(zQ e+zQ f)
 | .pow e _=>1+zQ e
 | .ite a b c d=>1+(zQ a+(zQ b+(zQ c+zQ d)))
 | .loop _ e _ f=>1+(zQ e+zQ f)
 | .call1 _ e=>1+zQ e
 | .call2 _ e f=>1+(zQ e+zQ f)
 | .call3 _ e f g=>1+(zQ e+(zQ f+zQ g))
def ze:Ex->Nat
 | .num ..=>1
 | .nam _=>1
 | .neg e=>1+ze e
 | .bin _ e f=>1+max (ze e) (ze f)
 | .pow e _=>1+ze e
 | .ite a b c d=>1+max (ze a) (max (ze b) (max (ze c) (ze d)))
 | .loop _ e _ f=>1+max (ze e) (ze f)
 | .call1 _ e=>1+ze e
 | .call2 _ e f=>1+max (ze e) (ze f)
 | .call3 _ e f g=>1+max (ze e) (max (ze f) (ze g))
theorem zCB(e:Ex):zQ e=1+((zi e).map zQ).sum:=by cases e<;>simp [zQ,zi]
theorem zBj(h:k∈zi e):ze k+1<=ze e:=by
 cases e<;>simp [zi] at h<;>simp only [ze] <;>first | omega |(rcases h with rfl | rfl | rfl | rfl<;>omega)|(rcases h with rfl | rfl | rfl<;>omega)|(rcases h with rfl | rfl<;>omega)|(subst h;omega)
theorem zDk(ok:Ok e)(h:k∈zi e):Ok k:=by
 cases e with
 | num | nam=>simp [zi] at h
 | neg e=>simp [zi] at h;subst h;exact ok
 | bin w e f=>simp [zi] at h;rcases h with rfl | rfl;exact ok.2.1;exact ok.2.2
 | pow e n=>simp [zi] at h;subst h;exact ok.1
 | ite a b c d=>simp [zi] at h;rcases h with rfl | rfl | rfl | rfl;exact ok.1;exact ok.2.1;exact ok.2.2.1;exact ok.2.2.2
 | loop s e n f=>simp [zi] at h;rcases h with rfl | rfl;exact ok.2.1;exact ok.2.2.2.2
 | call1 s e=>simp [zi] at h;subst h;exact ok.2
 | call2 s e f=>simp [zi] at h;rcases h with rfl | rfl;exact ok.2.1;exact ok.2.2
 | call3 s e f g=>simp [zi] at h;rcases h with rfl | rfl | rfl;exact ok.2.1;exact ok.2.2.1;exact ok.2.2.2
theorem zEt(e:Ex):(zi e).length<=4:=by cases e<;>simp [zi]
structure Itm(H:Hp)(t:Addr)(p:Ex×Nat):Prop where
 ex: ∃v,H t=some (.tup [v,.int (p.2:Int)])/\Xt H p.1 v
 ok:Ok p.1
 dp:p.2+ze p.1<=11
theorem Itm.sameT{p:Ex×Nat}(h:Itm H t p)(s:zc H H'):Itm H' t p:=⟨let ⟨v,e,x⟩:=h.ex;⟨v,s _ _ e,x.sameT s⟩,h.ok,h.dp⟩
def tot(ps:List (Ex×Nat)):Nat:=(ps.map fun p=>zQ p.1).sum
theorem zHc(ps:List (Ex×Nat))(p:Ex×Nat):tot (ps++ [p])=tot ps+zQ p.1:=by simp [tot]
theorem zAx(e:Ex):1<=zQ e:=by cases e<;>simp [zQ]
theorem Paired.snocI{α β:Type}{F:α->β->Prop}{xs:List α}{x:α}: ∀{zs:List β},Paired F (xs++ [x]) zs-> ∃ys y,zs=ys++ [y] /\Paired F xs ys/\F x y:=by
 induction xs with
 | nil=>
  intro zs h;cases h with
  | cons h r=>
   cases r;exact ⟨[],_,rfl,.nil,h⟩
 | cons a xs ih=>
  intro zs h;cases h with
  | @cons _ b _ l2 h r=>
   obtain ⟨ys,y,rfl,h1,h2⟩:=ih r;exact ⟨b::ys,y,rfl,.cons h h1,h2⟩
theorem zOT{ps:List (Ex×Nat)}(h:Paired (Itm H) ts ps):ts.length<=tot ps:=by
 induction h with
 | nil=>exact zUC _
 | @cons a b l1 l2 _ _ ih=>
  have:=zAx b.1;simp only [tot,zUr,List.sum_cons,zUu] at ih⊢;omega
theorem zCM(e:Ex):1<=ze e:=by cases e<;>simp [ze]
theorem zOL(ps qs:List (Ex×Nat)):tot (ps++qs)=tot ps+tot qs:=by simp [tot]
theorem zMQ(e:Ex)(d:Nat):tot ((zi e).map fun k=>(k,d))+1=zQ e:=by
 rw [zCB e,tot,List.map_map];have:((zi e).map ((fun p:Ex×Nat=>zQ p.1)∘fun k=>(k,d)))=(zi e).map zQ:=List.map_congr_left fun _ _=>rfl;rw [this];omega
def zPm:Sp:=fun vs H Q _=> ∃(x:V) (b:Bool),vs= [x] /\((x= .non/\b=false)\/ ∃e,Xt H e x/\Ok e/\zQ e<=40/\ze e<=10/\b=true)/\ ∀H',zA H H'->Q (.bl b) H'
theorem zGD:FnScope ["thing","count","left","last","kid"] ["thing"] (zK zHB):=fs
theorem zRt(F:Fun K "is_expression" "is_expression" zHB f fd)(B:Bn mg)(G:Gn K mg N)
  (FF:Fun K "has_form" "has_form" zGx fF fdF) (bF:zO K fdF ["thing"] []) (mF:mg "has_form" =some (.ref fF)) (GF:FnOk P w K mg base CX0 7 fF fdF ["thing"] zQF)
  (FK:Fun K "kids_of" "kids_of" zFI fK fdK) (bK:zO K fdK ["told"] []) (mK:mg "kids_of" =some (.ref fK)) (GK:FnOk P w K mg base CX0 1 fK fdK ["told"] zFx):FnOk P w K mg base CX0 8 f fd ["thing"] zPm:=by
 obtain ⟨tn,mn⟩:=G.n;obtain ⟨td,md⟩:=G.d;refine F.ok zGD (fun vs H Q E h=>?_) (fun _ A _ s H vs Q E hr7 h=>?_)
 ·obtain ⟨x,b,rfl,_⟩:=h;rfl
 ·obtain ⟨x,b,rfl,hx,q⟩:=h;have hr1:Room 1 _:=hr7.mono (by decide);refine ⟨_,QB.out (zF
   (zY 1 zGD.nd rfl zC rfl) (zF
   (zY 2 zGD.nd rfl (zd (qc (zM (qc (qw 0 rfl) (qc zC zB rfl) rfl)) zB rfl)) rfl) (zF
   (zJB PassesOwn.never (zL zBx (zq (zm (K:=K) rfl) rfl B.len yB (qc (qw 2 rfl) zB rfl) rfl) zC rfl) (zF
    (zY 3 zGD.nd rfl (zQt (K:=K) rfl (qw 2 rfl) rfl rfl) rfl) (zF
    (zY 1 zGD.nd rfl (yg (qw 1 rfl) zC) rfl) (zF
    (zV (t_w (zAI (zL zBx (qw 1 rfl) (zt (v:= .int 40) rfl mn ⟨tn,rfl⟩ rfl) rfl) (zAI (zL zBx (zJ (K:=K) rfl (qw 3 rfl) zC (fun _ _=>rfl)) (zt (v:= .int 10) rfl md ⟨td,rfl⟩ rfl) rfl) (zAN (zAl (zAM (zR GF hr7 rfl mF FF.kp bF .nil zP (qc (zJ (K:=K) rfl (qw 3 rfl) zC (fun _ _=>rfl)) zB rfl) rfl rfl rfl) (fun _=>rfl))))))) (zH
     (zS zAP)) zU) (zH
    (zAh PassesOwn.never rfl (zCR (K:=K) rfl (zR GK hr1 rfl mK FK.kp bK .nil zP (qc (zJ (K:=K) rfl (qw 3 rfl) zC (fun _ _=>rfl)) zB rfl) rfl rfl rfl)) (zb 4 zGD.nd rfl (Or.inl rfl) (.inr rfl)) (zH
     (yP (zAk (K:=K) rfl (qw 2 rfl) (zM (qc (qw 4 rfl) (qc (yg (zJ (K:=K) rfl (qw 3 rfl) zC (fun _ _=>rfl)) zC) zB rfl) rfl)) rfl rfl rfl) rfl)) (fun _=>rfl))))))) (zH
   (zS zAP))))),?_⟩
  refine ⟨_,rfl,nw fun t0 H1 s1 e1=>?_⟩;refine yc fun lf H2 hlf s2 e2=>?_;have nlf:=zA.none s1 hlf;have s02:=s1.trans s2;rcases hx with ⟨rfl,rfl⟩|⟨e0,hx,ok0,n0,d0,rfl⟩
  ·refine ⟨fun m σ H'=>σ= [some .non,some (.int 0),some (.ref lf),none,none] /\H'=H2,⟨0,rfl,rfl⟩,?_⟩;rintro m σ H' ⟨rfl,rfl⟩;refine ⟨_,rfl,lf,_,rfl,.inl (SqL.of e2),_,_,rfl,rfl,_,rfl,zI ⟨fun _ _=>False,fun _ _ z=>z.elim,?_⟩⟩;refine ⟨_,rfl,.inl ⟨rfl,_,SqL.of e2⟩,lf,_,.ref t0,rfl,rfl,e2,rfl,?_⟩;have e3:zc H' (L2.upd H' lf (.lst [])):=zc.lst e2;have et:=e3 _ _ (s2 _ _ e1);exact ⟨_,rfl,_,_,rfl,rfl,_,rfl,_,_,rfl,rfl,_,rfl,zD ⟨_,rfl,t0,_,_,_,rfl,rfl,SqT.of et,rfl,_,_,rfl,rfl,_,rfl,zD ⟨_,rfl,t0,_,_,_,rfl,rfl,SqT.of et,rfl,.non,rfl,.inl ⟨rfl,_,rfl,zI (q _ (zA.store s02 nlf))⟩⟩⟩⟩
  ·refine ⟨fun m σ H'=> ∃(ps:List (Ex×Nat)) (ts:List Addr) (c:Nat) (s3 s4:Option V),σ= [some x,some (.int (c:Int)),some (.ref lf),s3,s4] /\zA H H'/\H' lf=some (.lst (ts.map V.ref))/\Paired (Itm H') ts ps/\c+tot ps=zQ e0/\m=tot ps,
    ⟨_,[(e0,1)],[t0],0,none,none,rfl,s02,e2,.cons ⟨⟨x,s2 _ _ e1,hx.same s02⟩,ok0,by show 1+ze e0<=11;omega⟩ .nil,by simp [tot],rfl⟩,?_⟩
   rintro m σ H' ⟨ps,ts,c,s3,s4,rfl,sm,el,its,hc,rfl⟩;refine ⟨_,rfl,lf,_,rfl,.inl (SqL.of el),_,_,rfl,rfl,_,rfl,zp (fun cc=>?_) (fun cc=>?_)⟩
   ·have hne:ts≠ [] :=fun z=>by rw [z] at cc;simp at cc
    obtain ⟨ts',t,rfl⟩: ∃ts' t,ts=ts'++ [t] :=⟨ts.dropLast,ts.getLast hne,(List.dropLast_concat_getLast hne).symm⟩;obtain ⟨ps',p,rfl,its',it⟩:=Paired.snocI its;obtain ⟨e,d⟩:=p;have tl:=zOT its';rw [zHc] at hc;have np:=zAx e;have dp:d+ze e<=11:=it.dp;have dpos:=zCM e;refine ⟨fun σ' H''=> ∃m',m'<tot (ps'++ [(e,d)])/\ ∃(ps:List (Ex×Nat)) (ts:List Addr) (c:Nat) (s3 s4:Option V),σ'= [some x,some (.int (c:Int)),some (.ref lf),s3,s4] /\zA H H''/\H'' lf=some (.lst (ts.map V.ref))/\Paired (Itm H'') ts ps/\c+tot ps=zQ e0/\m'=tot ps,fun _ _ z=>z,?_⟩;refine ⟨_,rfl,.inl ⟨rfl,_,SqL.of el⟩,lf,_,.ref t,rfl,rfl,el,by simp,?_⟩;rw [show ((ts'++ [t]).map V.ref).dropLast=ts'.map V.ref by rw [zUT];simp];have T3:zc H' (L2.upd H' lf (.lst (ts'.map V.ref))):=zc.lst el;have el3:(L2.upd H' lf (.lst (ts'.map V.ref))) lf=_:=zE;have sm3:zA H (L2.upd H' lf (.lst (ts'.map V.ref))):=zA.store sm nlf;have it3:=it.sameT T3;have its3:=Paired.mapM its' fun a v _ k=>Itm.sameT k T3;generalize L2.upd H' lf (.lst (ts'.map V.ref))=H3 at T3 el3 sm3 it3 its3⊢;clear its its' it T3 el;obtain ⟨v,et,hv⟩:=it3.ex;have et:H3 t=some (.tup [v,.int (d:Int)]):=et;have hv:Xt H3 e v:=hv;have hn40:c+(tot ps'+zQ e)=zQ e0:=hc;refine ⟨_,rfl,_,_,rfl,rfl,_,rfl,_,_,rfl,rfl,false,congrArg V.bl (zUW (by omega)),zD ⟨_,rfl,t,_,_,_,rfl,rfl,SqT.of et,rfl,_,_,rfl,rfl,false,congrArg V.bl (zUW (by omega)),zD ⟨_,rfl,t,_,_,_,rfl,rfl,SqT.of et,rfl,v,rfl,.inr ⟨e,hv,it3.ok,fun H4 s4'=>⟨_,rfl,zD ?_⟩⟩⟩⟩⟩;refine ⟨_,rfl,t,_,_,_,rfl,rfl,SqT.of (s4' _ _ et),rfl,v,e,rfl,hv.same s4',it3.ok,fun l xs H5 s5 nl el5 hxs=>⟨l,rfl,⟨_,SqL.of el5⟩,?_⟩⟩;have s35:=s4'.trans s5;have nlf':l≠lf:=fun z=>by rw [z,s4' _ _ el3] at nl;cases nl
    have lx:=Paired.len hxs;have k4:=zEt e;refine zAB xs.length (fun i σ H''=> ∃(ts2:List Addr) (s4:Option V),σ= [some x,some (.int ((c:Int)+1)),some (.ref lf),some (.ref t),s4] /\i<=xs.length/\zA H H''/\H'' lf=some (.lst ((ts'++ts2).map V.ref))/\ts2.length=i/\Paired (Itm H'') (ts'++ts2) (ps'++((zi e).take i).map fun k=>(k,d+1))/\zc H5 H''/\H'' l=some (.lst xs))
     ⟨[],_,rfl,zUN _,sm3.trans s35,by rw [zUX];exact s35 _ _ el3,rfl,by simp only [List.take_zero,List.map_nil,zUX];exact Paired.mapM its3 fun a v _ k=>Itm.sameT k (zA.t s35),fun b ys k=>k,el5⟩ ?_ ?_ ?_ ?_
    ·rintro i σ H'' hi ⟨ts2,s4,rfl,_,_,_,_,_,_,ell⟩;exact ⟨_,_,SqL.of ell,zTy hi⟩
    ·rintro σ H'' ⟨ts2,s4,rfl,_,_,_,_,_,_,ell⟩;exact ⟨_,SqL.of ell,zUC _⟩
    ·rintro i σ H6 y H7 hi ⟨ts2,s4,rfl,_,s6,elf,l2,it6,T6,ell⟩ ⟨rfl,hy⟩;have hy':=hy _ (SqL.of ell);rw [zTy hi] at hy';cases hy';obtain ⟨k,ek,hk⟩:=Paired.get' hxs (zTy hi);have hkm:=zUa ek;have dk:=zBj hkm;have et7:=T6 _ _ (s35 _ _ et);refine ⟨_,rfl,.inl ⟨rfl,_,SqL.of elf⟩,_,rfl,_,rfl,t,_,_,_,rfl,rfl,SqT.of et7,rfl,_,_,rfl,rfl,nw fun pn H8 s8 e8=>?_⟩;have elf8:=s8 _ _ elf;refine ⟨lf,_,_,rfl,rfl,elf8,by rw [zUJ];simp;omega,?_⟩;have T9:zc H8 (L2.upd H8 lf (.lst ((ts'++ts2).map V.ref++ [.ref pn]))):=zc.lst elf8;have T79:=(zA.t s8).trans T9;refine ⟨ts2++ [pn],_,rfl,hi,zA.store (s6.trans s8) nlf,by rw [zE,<-List.append_assoc,zUT (l₁:=ts'++ts2)];rfl,by simp [l2],?_,T6.trans T79,by rw [zN nlf'];exact s8 _ _ ell⟩;have eA:ps'++(((zi e).take (i+1)).map fun k=>(k,d+1))=(ps'++((zi e).take i).map fun k=>(k,d+1))++ [(k,d+1)] :=by
      rw [zUU,ek,zUT,List.append_assoc];rfl
     rw [eA,<-List.append_assoc];refine Paired.snoc' (Paired.mapM it6 fun a v _ k=>Itm.sameT k T79) ⟨⟨xs[i],?_,(hk.sameT T6).sameT T79⟩,zDk it3.ok hkm,by show d+1+ze k<=11;omega⟩;exact T9 _ _ e8
    ·rintro σ H6 ⟨ts2,s4,rfl,_,s6,elf,l2,it6,T6,ell⟩;rw [List.take_of_length_le (by omega)] at it6;have tk:=zMQ e (d+1);have ta:=zOL ps' ((zi e).map fun k=>(k,d+1));refine ⟨_,?_,_,_,c+1,_,_,rfl,s6,elf,it6,?_,rfl⟩
     ·rw [zHc];simp only;omega
     ·omega
   ·exact q H' sm
inductive Rw
 | unit (n:Str)
 | take (n:Str) (us:Us)
 | let' (n:Str) (e:Ex)
 | fun' (n:Str) (ps:List Str) (e:Ex)
 | show' (e:Ex)
def Rt(H:Hp):Rw->V->Prop
 | .unit n,v=> ∃t,v= .ref t/\H t=some (.tup [.str "unit",.str n])
 | .take n us,v=> ∃t y,v= .ref t/\H t=some (.tup [.str "take",.str n,y])/\Un H y us
 | .let' n e,v=> ∃t x,v= .ref t/\H t=some (.tup [.str "let",.str n,x])/\Xt H e x
 | .fun' n ps e,v=> ∃t q x,v= .ref t/\H t=some (.tup [.str "fun",.str n,.ref q,x])/\H q=some (.tup (ps.map V.str))/\Xt H e x
 | .show' e,v=> ∃t x,v= .ref t/\H t=some (.tup [.str "show",x])/\Xt H e x
theorem Rt.sameT(s:zc H H'): ∀{r:Rw} {v:V},Rt H r v->Rt H' r v
 | .unit _,_,⟨t,e,h⟩=>⟨t,e,s _ _ h⟩
 | .take ..,_,⟨t,y,e,h,h1⟩=>⟨t,y,e,s _ _ h,h1.sameT s⟩
 | .let' ..,_,⟨t,x,e,h,h1⟩=>⟨t,x,e,s _ _ h,h1.sameT s⟩
 | .fun' ..,_,⟨t,q,x,e,h,h0,h1⟩=>⟨t,q,x,e,s _ _ h,s _ _ h0,h1.sameT s⟩
 | .show' _,_,⟨t,x,e,h,h1⟩=>⟨t,x,e,s _ _ h,h1.sameT s⟩
theorem Rt.same(s:zA H H')(h:Rt H r v):Rt H' r v:=h.sameT (zA.t s)
structure OkE(e:Ex):Prop where
 ok:Ok e
 n:zQ e<=40
 d:ze e<=10
def OkR:Rw->Prop
 | .unit n=>Nm n
 | .take n us=>Nm n/\GoodU us
 | .let' n e=>Nm n/\OkE e
 | .fun' n ps e=>Nm n/\1<=ps.length/\ps.length<=3/\(∀p∈ps,Nm p)/\OkE e
 | .show' e=>OkE e
inductive PaB (H:Hp):V->Bool->Prop
 | noT {x:V} (h:NoTq H x):PaB H x false
 | len {q:Addr} {xs:List V} (e:H q=some (.tup xs)) (h:xs.length=0\/3<xs.length) (h2:xs.length<=1000):PaB H (.ref q) false
 | all {q:Addr} {xs:List V} (e:H q=some (.tup xs)) (h1:1<=xs.length) (h3:xs.length<=3) (k: ∀x∈xs,Ths H x):PaB H (.ref q) (xs.all yJ)
theorem PaB.same(h:PaB H x b)(s:zA H H'):PaB H' x b:=by
 cases h with
 | noT h=>exact .noT (h.same s)
 | len e h h2=>exact .len (s _ _ e) h h2
 | all e h1 h3 k=>exact .all (s _ _ e) h1 h3 fun x hx=>⟨(k x hx).1.same s,(k x hx).2⟩
def zRL:Sp:=fun vs H Q _=> ∃(x:V) (b:Bool),vs= [x] /\PaB H x b/\ ∀H',zA H H'->Q (.bl b) H'
theorem zTj:FnScope ["thing"] ["thing"] (zK zEL):=fs
theorem Ths.same(h:Ths H x)(s:zA H H'):Ths H' x:=⟨h.1.same s,h.2⟩
theorem zSn(F:Fun K "are_params" "are_params" zEL f fd)(B:Bn mg)(G:Gn K mg N)
  (FM:Fun K "is_name" "is_name" zDU fM fdM) (bM:zO K fdM ["thing"] []) (mM:mg "is_name" =some (.ref fM)) (GM:FnOk P w K mg base CX0 2 fM fdM ["thing"] zDp):FnOk P w K mg base CX0 3 f fd ["thing"] zRL:=by
 obtain ⟨ta,ma⟩:=G.a;refine F.ok zTj (fun vs H Q E h=>?_) (fun _ A _ s H vs Q E hr2 h=>?_)
 ·obtain ⟨x,b,rfl,_⟩:=h;rfl
 ·obtain ⟨x,b,rfl,hx,q⟩:=h;refine ⟨_,QB.out (zF
   (zV (t_w (zAI (zAl (zAM (zq (zAE (K:=K) rfl) rfl B.isi zf (qc (qw 0 rfl) (qc (zAv (v:= .ty "tuple") rfl B.tuple yn rfl (by decide) rfl) zB rfl) rfl) rfl) (fun _=>rfl))) (zAN (zAl (zFw zBb zBb zC (zq (zm (K:=K) rfl) rfl B.len yB (qc (qw 0 rfl) zB rfl) rfl) (zt (v:= .int 3) rfl ma ⟨ta,rfl⟩ rfl) rfl))))) (zH
    (zS zAP)) zU) (zH
   (zS (zq (zCb (K:=K) rfl rfl) rfl B.all zFi (qc (yx (cl:= []) ["param"] [] [] rfl (zBT (K:=K) rfl (qw 0 rfl)) rfl (by decide+kernel) rfl (by decide+kernel) (fun _ _ h=>nomatch h) rfl (fun j y i h=>nomatch h) (yF rfl) (fun _ _ _ _=>(zb 0 (show (["param"] :List Str).Nodup by decide+kernel) rfl (.inl rfl) (.inr rfl))) (fun _ _ _ _=>zAn) (fun _ _ _ _=>(zR GM hr2 rfl mM FM.kp bM .nil zP (qc (qw 0 rfl) zB rfl) rfl rfl rfl)) (fun _=>rfl)) zB rfl) rfl)))),?_⟩
  cases hx with
  | noT h=>
   obtain ⟨ty,h1,h2⟩:=h.ty K;exact ⟨_,rfl,_,.ty "tuple",_,.type "tuple",_,rfl,rfl,h1,h2,_,rfl,zI (zI (q H (zA.refl H)))⟩
  | @len qa xs e h h2=>
   refine ⟨_,rfl,_,.ty "tuple",_,.type "tuple",_,rfl,rfl,.tup e,zr K,_,rfl,zD ?_⟩;refine ⟨_,rfl,qa,_,rfl,.inr (SqT.of e),_,_,rfl,rfl,_,rfl,zp (fun c=>?_) (fun c=>?_)⟩
   ·have c1:(1:Int)<=(xs.length:Int):=by simpa using c
    exact ⟨_,_,rfl,rfl,false,congrArg V.bl (zUW (by omega)),zI (q H (zA.refl H))⟩
   ·refine ⟨false,?_,zI (q H (zA.refl H))⟩;rfl
  | @all qa xs e h1 h3 k=>
   refine ⟨_,rfl,_,.ty "tuple",_,.type "tuple",_,rfl,rfl,.tup e,zr K,_,rfl,zD ?_⟩;refine ⟨_,rfl,qa,_,rfl,.inr (SqT.of e),_,_,rfl,rfl,true,congrArg V.bl (zUV (by omega)),zI ⟨_,_,rfl,rfl,true,congrArg V.bl (zUV (by omega)),zD ?_⟩⟩;refine ⟨_,rfl,qa,rfl,⟨_,SqT.of e⟩,fun D hD=>?_⟩;refine zx xs.length (fun i ys H'=>i<=xs.length/\ys=((xs.take i).map yJ).map V.bl/\zA H H'/\H' D=some (.lst ys)) ⟨zUN _,by simp,zA.upd hD,zE⟩ (by rw [zUJ];omega) ?_ ?_ ?_
   ·rintro i ys H2 hi ⟨_,rfl,s2,e2⟩;exact ⟨by simp;omega,e2,fun h=>⟨_,_,SqT.of (s2 _ _ e),zTy h⟩,fun h=>⟨_,SqT.of (s2 _ _ e),by omega⟩⟩
   ·rintro i ys H2 x H3 hi ⟨_,rfl,s2,e2⟩ ⟨rfl,hx⟩ pre hpre;obtain ⟨p0,rfl⟩:=zAt hpre;have hx':=hx _ (SqT.of (s2 _ _ e));rw [zTy hi] at hx';cases hx';refine ⟨⟨[some xs[i]],rfl,rfl⟩,zI ?_⟩;refine ⟨_,rfl,xs[i],rfl,(k _ (zUb hi)).same s2,fun H4 s4=>⟨s4 _ _ e2,hi,?_,zA.store (s2.trans s4) hD,zE⟩⟩;rw [zUU,zTy hi,zUT,zUT];rfl
   ·rintro ys H2 ⟨_,rfl,s2,e2⟩;rw [List.take_of_length_le (zUC _)] at e2;refine ⟨D,xs.map yJ,rfl,SqL.of e2,?_⟩;rw [List.all_map];exact q _ s2
def LS:List (Str×Int):= [("unit",2),("take",3),("let",3),("fun",4),("show",2)]
inductive OdR (H:Hp):V->Prop
 | wd {x:V} (h:WdO H x none):OdR H x
 | no {t:Addr} {w:Str} {ys:List V} (e:H t=some (.tup (.str w::ys))) (h:kdV LS w=none):OdR H (.ref t)
 | len {t:Addr} {w:Str} {ys:List V} {k:Int} (e:H t=some (.tup (.str w::ys))) (h:kdV LS w=some k) (hk:((ys.length+1:Nat):Int)≠k):OdR H (.ref t)
 | shw {t:Addr} (e:H t=some (.tup [.str "show",.non])):OdR H (.ref t)
 | nam {t:Addr} {w:Str} {y:V} {ys:List V} {k:Int} (e:H t=some (.tup (.str w::y::ys))) (h:kdV LS w=some k) (hk:((ys.length+2:Nat):Int)=k) (hw:w≠ "show") (hy:Ths H y) (hn:yJ y=false):OdR H (.ref t)
 | tak {t:Addr} {n:Str} {y:V} (e:H t=some (.tup [.str "take",.str n,y])) (hn:Nm n) (h:NoTp H y\/ ∃us,Un H y us/\UpU "" us/\us.length<=100/\zMx us=false):OdR H (.ref t)
 | par {t:Addr} {n:Str} {y x:V} (e:H t=some (.tup [.str "fun",.str n,y,x])) (hn:Nm n) (h:PaB H y false):OdR H (.ref t)
def RwB(H:Hp)(x:V)(b:Bool):Prop:=(∃r,Rt H r x/\OkR r/\b=true)\/(OdR H x/\b=false)
def zRG:Sp:=fun vs H Q _=> ∃(x:V) (b:Bool),vs= [x] /\RwB H x b/\ ∀H',zA H H'->Q (.bl b) H'
theorem zRC:FnScope ["thing","word"] ["thing"] (zK zJN):=fs
theorem zMh{H:Hp}{q:Addr}{ps:List Str}(e:H q=some (.tup (ps.map V.str)))(h1:1<=ps.length)(h3:ps.length<=3)(k: ∀p∈ps,Nm p):PaB H (.ref q) true:=by
 have:(ps.map V.str).all yJ=true:=by
  rw [List.all_map];exact List.all_eq_true.mpr fun p hp=>k p hp
 rw [<-this];refine .all e (by simpa using h1) (by simpa using h3) fun x hx=>?_;obtain ⟨p,hp,rfl⟩:=zUt.mp hx;exact zBJ (k p hp)
theorem zSR{f fO fX fM fS fA LSa:Addr}{fd fdO fdX fdM fdS fdA:FuncData}(F:Fun K "is_row" "is_row" zJN f fd)(B:Bn mg)(kS:KDic w K LSa LS)(mLS:mg "LENGTHS_scopes" =some (.ref LSa))
  (FO:Fun K "word_of" "word_of" zFJ fO fdO) (bO:zO K fdO ["thing"] []) (mO:mg "word_of" =some (.ref fO)) (GO:FnOk P w K mg base CX0 1 fO fdO ["thing"] zMA)
  (FX:Fun K "is_expression" "is_expression" zHB fX fdX) (bX:zO K fdX ["thing"] []) (mX:mg "is_expression" =some (.ref fX)) (GX:FnOk P w K mg base CX0 8 fX fdX ["thing"] zPm)
  (FM:Fun K "is_name" "is_name" zDU fM fdM) (bM:zO K fdM ["thing"] []) (mM:mg "is_name" =some (.ref fM)) (GM:FnOk P w K mg base CX0 2 fM fdM ["thing"] zDp)
  (FS:Fun K "is_small_unit" "is_small_unit" zCw fS fdS) (bS:zO K fdS ["thing"] []) (mS:mg "is_small_unit" =some (.ref fS)) (GS:FnOk P w K mg base CX0 5 fS fdS ["thing"] zMB)
  (FA:Fun K "are_params" "are_params" zEL fA fdA) (bA:zO K fdA ["thing"] []) (mA:mg "are_params" =some (.ref fA)) (GA:FnOk P w K mg base CX0 3 fA fdA ["thing"] zRL):FnOk P w K mg base CX0 9 f fd ["thing"] zRG:=by
 refine F.ok zRC (fun vs H Q E h=>?_) (fun _ A _ s H vs Q E hr8 h=>?_)
 ·obtain ⟨x,b,rfl,_⟩:=h;rfl
 ·obtain ⟨x,b,rfl,hx,q⟩:=h;have hr5:Room 5 _:=hr8.mono (by decide);have hr3:Room 3 _:=hr8.mono (by decide);have hr2:Room 2 _:=hr8.mono (by decide);have hr1:Room 1 _:=hr8.mono (by decide);refine ⟨_,QB.out (zF
   (zY 1 zRC.nd rfl (zR GO hr1 rfl mO FO.kp bO .nil zP (qc (qw 0 rfl) zB rfl) rfl rfl rfl) rfl) (zF
   (zV (t_w (zAI (zIL kS (qw 1 rfl) (zt (v:= .ref LSa) rfl mLS rfl rfl) rfl) (zAN (zL yw (zq (zm (K:=K) rfl) rfl B.len yB (qc (qw 0 rfl) zB rfl) rfl) (zLI kS (zt (v:= .ref LSa) rfl mLS rfl rfl) (qw 1 rfl) (fun _ _=>rfl)) rfl)))) (zH
    (zS zAP)) zU) (zF
   (zV (zL zZ (qw 1 rfl) zG rfl) (zH
    (zS (zR GX hr8 rfl mX FX.kp bX .nil zP (qc (zJ (K:=K) rfl (qw 0 rfl) zC (fun _ _=>rfl)) zB rfl) rfl rfl rfl))) zU) (zF
   (zV (zAl (zAM (zR GM hr2 rfl mM FM.kp bM .nil zP (qc (zJ (K:=K) rfl (qw 0 rfl) zC (fun _ _=>rfl)) zB rfl) rfl rfl rfl) (fun _=>rfl))) (zH
    (zS zAP)) zU) (zF
   (zV (zL zZ (qw 1 rfl) zG rfl) (zH
    (zS (zR GS hr5 rfl mS FS.kp bS .nil zP (qc (zJ (K:=K) rfl (qw 0 rfl) zC (fun _ _=>rfl)) zB rfl) rfl rfl rfl))) zU) (zF
   (zV (zL zZ (qw 1 rfl) zG rfl) (zH
    (zS (zR GX hr8 rfl mX FX.kp bX .nil zP (qc (zJ (K:=K) rfl (qw 0 rfl) zC (fun _ _=>rfl)) zB rfl) rfl rfl rfl))) zU) (zF
   (zV (zL zZ (qw 1 rfl) zG rfl) (zH
    (zS (zCf (zR GA hr3 rfl mA FA.kp bA .nil zP (qc (zJ (K:=K) rfl (qw 0 rfl) zC (fun _ _=>rfl)) zB rfl) rfl rfl rfl) (zCg (zR GX hr8 rfl mX FX.kp bX .nil zP (qc (zJ (K:=K) rfl (qw 0 rfl) zC (fun _ _=>rfl)) zB rfl) rfl rfl rfl))))) zU) (zH
   (zS zAP))))))))),?_⟩
  rcases hx with ⟨r,hr,ok,rfl⟩|⟨od,rfl⟩
  ·cases r with
   | unit n=>
    obtain ⟨t,rfl,h1⟩:=hr;refine ⟨_,rfl,_,some "unit",rfl,.str h1,_,rfl,rfl,_,rfl,zD ⟨_,rfl,t,_,rfl,.inr (SqT.of h1),_,rfl,_,2,rfl,rfl,rfl,_,rfl,zD ?_⟩⟩;refine ⟨_,rfl,rfl,_,rfl,zD ⟨_,rfl,t,_,_,_,rfl,rfl,SqT.of h1,rfl,_,rfl,zBJ ok,fun H1 s1=>?_⟩⟩;rw [show yJ (.str n)=true from ok];exact ⟨_,rfl,zD ⟨_,rfl,rfl,_,rfl,zD ⟨_,rfl,rfl,_,rfl,zD ⟨_,rfl,rfl,_,rfl,zD (q H1 s1)⟩⟩⟩⟩
   | take n us=>
    obtain ⟨t,y,rfl,h1,hu⟩:=hr;refine ⟨_,rfl,_,some "take",rfl,.str h1,_,rfl,rfl,_,rfl,zD ⟨_,rfl,t,_,rfl,.inr (SqT.of h1),_,rfl,_,3,rfl,rfl,rfl,_,rfl,zD ?_⟩⟩;refine ⟨_,rfl,rfl,_,rfl,zD ⟨_,rfl,t,_,_,_,rfl,rfl,SqT.of h1,rfl,_,rfl,zBJ ok.1,fun H1 s1=>?_⟩⟩;rw [show yJ (.str n)=true from ok.1];exact ⟨_,rfl,zD ⟨_,rfl,rfl,_,rfl,zI ⟨_,rfl,t,_,_,_,rfl,rfl,SqT.of (s1 _ _ h1),rfl,y,true,rfl,.inr ⟨us,hu.same s1,ok.2.up,ok.2.le,(zGO ok.2).symm⟩,fun H2 s2=>q H2 (s1.trans s2)⟩⟩⟩
   | let' n e=>
    obtain ⟨t,x,rfl,h1,hx⟩:=hr;refine ⟨_,rfl,_,some "let",rfl,.str h1,_,rfl,rfl,_,rfl,zD ⟨_,rfl,t,_,rfl,.inr (SqT.of h1),_,rfl,_,3,rfl,rfl,rfl,_,rfl,zD ?_⟩⟩;refine ⟨_,rfl,rfl,_,rfl,zD ⟨_,rfl,t,_,_,_,rfl,rfl,SqT.of h1,rfl,_,rfl,zBJ ok.1,fun H1 s1=>?_⟩⟩;rw [show yJ (.str n)=true from ok.1];exact ⟨_,rfl,zD ⟨_,rfl,rfl,_,rfl,zD ⟨_,rfl,rfl,_,rfl,zI ⟨_,rfl,t,_,_,_,rfl,rfl,SqT.of (s1 _ _ h1),rfl,x,true,rfl,.inr ⟨e,hx.same s1,ok.2.ok,ok.2.n,ok.2.d,rfl⟩,fun H2 s2=>q H2 (s1.trans s2)⟩⟩⟩⟩
   | fun' n ps e=>
    obtain ⟨t,qa,x,rfl,h1,h0,hx⟩:=hr;obtain ⟨hn,p1,p3,hp,oe⟩:=ok;refine ⟨_,rfl,_,some "fun",rfl,.str h1,_,rfl,rfl,_,rfl,zD ⟨_,rfl,t,_,rfl,.inr (SqT.of h1),_,rfl,_,4,rfl,rfl,rfl,_,rfl,zD ?_⟩⟩;refine ⟨_,rfl,rfl,_,rfl,zD ⟨_,rfl,t,_,_,_,rfl,rfl,SqT.of h1,rfl,_,rfl,zBJ hn,fun H1 s1=>?_⟩⟩;rw [show yJ (.str n)=true from hn];exact ⟨_,rfl,zD ⟨_,rfl,rfl,_,rfl,zD ⟨_,rfl,rfl,_,rfl,zD ⟨_,rfl,rfl,_,rfl,zI ⟨_,rfl,t,_,_,_,rfl,rfl,SqT.of (s1 _ _ h1),rfl,.ref qa,true,rfl,zMh (s1 _ _ h0) p1 p3 hp,fun H2 s2=>⟨_,rfl,zI ⟨_,rfl,t,_,_,_,rfl,rfl,SqT.of ((s1.trans s2) _ _ h1),rfl,x,true,rfl,.inr ⟨e,hx.same (s1.trans s2),oe.ok,oe.n,oe.d,rfl⟩,fun H3 s3=>q H3 ((s1.trans s2).trans s3)⟩⟩⟩⟩⟩⟩⟩
   | show' e=>
    obtain ⟨t,x,rfl,h1,hx⟩:=hr;refine ⟨_,rfl,_,some "show",rfl,.str h1,_,rfl,rfl,_,rfl,zD ⟨_,rfl,t,_,rfl,.inr (SqT.of h1),_,rfl,_,2,rfl,rfl,rfl,_,rfl,zD ?_⟩⟩;exact ⟨_,rfl,rfl,_,rfl,zI ⟨_,rfl,t,_,_,_,rfl,rfl,SqT.of h1,rfl,x,true,rfl,.inr ⟨e,hx,ok.ok,ok.n,ok.d,rfl⟩,q⟩⟩
  ·cases od with
   | wd h=>exact ⟨_,rfl,_,none,rfl,h,_,rfl,rfl,_,rfl,zI (zI (q H (zA.refl H)))⟩
   | @no t w ys e h=>
    refine ⟨_,rfl,_,some w,rfl,.str e,_,rfl,rfl,true,?_,zI (zI (q H (zA.refl H)))⟩;show V.bl (!(kdV LS w).isSome)=_;rw [h];rfl
   | @len t w ys k e h hk=>
    refine ⟨_,rfl,_,some w,rfl,.str e,_,rfl,rfl,false,?_,zD ⟨_,rfl,t,_,rfl,.inr (SqT.of e),_,rfl,w,k,rfl,h,rfl,true,?_,zI (q H (zA.refl H))⟩⟩
    ·show V.bl (!(kdV LS w).isSome)=_;rw [h];rfl
    ·have: ¬V.int (((V.str w::ys).length:Nat):Int)=V.int k:=fun z=>hk (by injection z);exact congrArg V.bl (by rw [zUW this];rfl)
   | @shw t e=>
    refine ⟨_,rfl,_,some "show",rfl,.str e,_,rfl,rfl,_,rfl,zD ⟨_,rfl,t,_,rfl,.inr (SqT.of e),_,rfl,_,2,rfl,rfl,rfl,_,rfl,zD ?_⟩⟩;exact ⟨_,rfl,rfl,_,rfl,zI ⟨_,rfl,t,_,_,_,rfl,rfl,SqT.of e,rfl,.non,false,rfl,.inl ⟨rfl,rfl⟩,q⟩⟩
   | @nam t w y ys k e h hk hw hy hn=>
    refine ⟨_,rfl,_,some w,rfl,.str e,_,rfl,rfl,false,?_,zD ⟨_,rfl,t,_,rfl,.inr (SqT.of e),_,rfl,w,k,rfl,h,rfl,false,?_,zD ?_⟩⟩
    ·show V.bl (!(kdV LS w).isSome)=_;rw [h];rfl
    ·have:V.int (((V.str w::y::ys).length:Nat):Int)=V.int k:=by rw [<-hk];rfl
     exact congrArg V.bl (by rw [zUV this];rfl)
    ·have hw':decide (V.str w=V.str "show")=false:=zUW fun z=>hw (by injection z);refine ⟨_,rfl,rfl,false,congrArg V.bl hw',zD ⟨_,rfl,t,_,_,_,rfl,rfl,SqT.of e,zg (j:=1) rfl,y,rfl,hy,fun H1 s1=>?_⟩⟩;rw [hn];exact ⟨_,rfl,zI (q H1 s1)⟩
   | @tak t n y e hn h=>
    refine ⟨_,rfl,_,some "take",rfl,.str e,_,rfl,rfl,_,rfl,zD ⟨_,rfl,t,_,rfl,.inr (SqT.of e),_,rfl,_,3,rfl,rfl,rfl,_,rfl,zD ?_⟩⟩;refine ⟨_,rfl,rfl,_,rfl,zD ⟨_,rfl,t,_,_,_,rfl,rfl,SqT.of e,rfl,_,rfl,zBJ hn,fun H1 s1=>?_⟩⟩;rw [show yJ (.str n)=true from hn];refine ⟨_,rfl,zD ⟨_,rfl,rfl,_,rfl,zI ⟨_,rfl,t,_,_,_,rfl,rfl,SqT.of (s1 _ _ e),rfl,y,false,rfl,?_,fun H2 s2=>q H2 (s1.trans s2)⟩⟩⟩;rcases h with h |⟨us,hu,up,le,ha⟩
    ·exact .inl ⟨h.same s1,rfl⟩
    ·exact .inr ⟨us,hu.same s1,up,le,ha.symm⟩
   | @par t n y x e hn h=>
    refine ⟨_,rfl,_,some "fun",rfl,.str e,_,rfl,rfl,_,rfl,zD ⟨_,rfl,t,_,rfl,.inr (SqT.of e),_,rfl,_,4,rfl,rfl,rfl,_,rfl,zD ?_⟩⟩;refine ⟨_,rfl,rfl,_,rfl,zD ⟨_,rfl,t,_,_,_,rfl,rfl,SqT.of e,rfl,_,rfl,zBJ hn,fun H1 s1=>?_⟩⟩;rw [show yJ (.str n)=true from hn];exact ⟨_,rfl,zD ⟨_,rfl,rfl,_,rfl,zD ⟨_,rfl,rfl,_,rfl,zD ⟨_,rfl,rfl,_,rfl,zI ⟨_,rfl,t,_,_,_,rfl,rfl,SqT.of (s1 _ _ e),rfl,y,false,rfl,h.same s1,fun H2 s2=>⟨_,rfl,zD (q H2 (s1.trans s2))⟩⟩⟩⟩⟩⟩
def zAf:Rw->Bool
 | .unit _=>true
 | _=>false
def yb(rs:List Rw):Nat:=(rs.filter zAf).length
abbrev RtL(H:Hp)(xs:List V)(rs:List Rw):Prop:=Paired (fun x r=>Rt H r x/\OkR r) xs rs
inductive PrB (H:Hp):V->Bool->Prop
 | noT {x:V} (h:NoTq H x):PrB H x false
 | len {t:Addr} {xs:List V} (e:H t=some (.tup xs)) (h:xs.length=0\/16<xs.length) (h2:xs.length<=1000):PrB H (.ref t) false
 | bad {t:Addr} {xs:List V} {bs:List Bool} (e:H t=some (.tup xs)) (h1:1<=xs.length) (h2:xs.length<=16) (k:Paired (RwB H) xs bs) (hb:bs.all id=false):PrB H (.ref t) false
 | good {t:Addr} {xs:List V} {rs:List Rw} (e:H t=some (.tup xs)) (h1:1<=xs.length) (h2:xs.length<=16) (k:RtL H xs rs):PrB H (.ref t) (decide (yb rs<=6))
theorem OdR.same(h:OdR H x)(s:zA H H'):OdR H' x:=by
 cases h with
 | wd h=>
  cases h with
  | noT h=>exact .wd (.noT (h.same s))
  | emp e=>exact .wd (.emp (s _ _ e))
  | noS e k h=>exact .wd (.noS (s _ _ e) (k.same s) h)
 | no e h=>exact .no (s _ _ e) h
 | len e h hk=>exact .len (s _ _ e) h hk
 | shw e=>exact .shw (s _ _ e)
 | nam e h hk hw hy hn=>exact .nam (s _ _ e) h hk hw (hy.same s) hn
 | tak e hn h=>exact .tak (s _ _ e) hn (h.elim (fun h=> .inl (h.same s)) fun ⟨us,a,b⟩=> .inr ⟨us,a.same s,b⟩)
 | par e hn h=>exact .par (s _ _ e) hn (h.same s)
theorem RwB.same(h:RwB H x b)(s:zA H H'):RwB H' x b:=h.elim (fun ⟨r,a,c⟩=> .inl ⟨r,a.same s,c⟩) fun ⟨a,c⟩=> .inr ⟨a.same s,c⟩
theorem RtL.same(h:RtL H xs rs)(s:zA H H'):RtL H' xs rs:=Paired.mapM h fun _ _ _ ⟨a,c⟩=>⟨a.same s,c⟩
theorem RtL.b(h:RtL H xs rs):Paired (RwB H) xs (List.replicate xs.length true):=by
 induction h with
 | nil=>exact .nil
 | cons h _ ih=>exact .cons (.inl ⟨_,h.1,h.2,rfl⟩) ih
theorem Rt.head(h:Rt H r v): ∃t w ys,v= .ref t/\H t=some (.tup (.str w::ys))/\decide (V.str w=V.str "unit")=zAf r:=by
 cases r with
 | unit n=>obtain ⟨t,e,h⟩:=h;exact ⟨t,_,_,e,h,rfl⟩
 | take n us=>obtain ⟨t,y,e,h,_⟩:=h;exact ⟨t,_,_,e,h,rfl⟩
 | let' n e=>obtain ⟨t,y,e,h,_⟩:=h;exact ⟨t,_,_,e,h,rfl⟩
 | fun' n ps e=>obtain ⟨t,q,y,e,h,_⟩:=h;exact ⟨t,_,_,e,h,rfl⟩
 | show' e=>obtain ⟨t,y,e,h,_⟩:=h;exact ⟨t,_,_,e,h,rfl⟩
def zQM:Sp:=fun vs H Q _=> ∃(x:V) (b:Bool),vs= [x] /\PrB H x b/\ ∀H',zA H H'->Q (.bl b) H'
theorem zTP:FnScope ["thing"] ["thing"] (zK zGw):=fs
theorem zRq(F:Fun K "is_program" "is_program" zGw f fd)(B:Bn mg)(G:Gn K mg N)
  (FR:Fun K "is_row" "is_row" zJN fR fdR) (bR:zO K fdR ["thing"] []) (mR:mg "is_row" =some (.ref fR)) (GR:FnOk P w K mg base CX0 9 fR fdR ["thing"] zRG):FnOk P w K mg base CX0 10 f fd ["thing"] zQM:=by
 obtain ⟨trw,mrw⟩:=G.rw;obtain ⟨tu,mu⟩:=G.u;refine F.ok zTP (fun vs H Q E h=>?_) (fun _ A _ s H vs Q E hr9 h=>?_)
 ·obtain ⟨x,b,rfl,_⟩:=h;rfl
 ·obtain ⟨x,b,rfl,hx,q⟩:=h;refine ⟨_,QB.out (zF
   (zV (t_w (zAI (zAl (zAM (zq (zAE (K:=K) rfl) rfl B.isi zf (qc (qw 0 rfl) (qc (zAv (v:= .ty "tuple") rfl B.tuple yn rfl (by decide) rfl) zB rfl) rfl) rfl) (fun _=>rfl))) (zAN (zAl (zFw zBb zBb zC (zq (zm (K:=K) rfl) rfl B.len yB (qc (qw 0 rfl) zB rfl) rfl) (zt (v:= .int 16) rfl mrw ⟨trw,rfl⟩ rfl) rfl))))) (zH
    (zS zAP)) zU) (zF
   (zV (zAl (zAM (zq (zCb (K:=K) rfl rfl) rfl B.all zFi (qc (yx (cl:= []) ["row"] [] [] rfl (zBT (K:=K) rfl (qw 0 rfl)) rfl (by decide+kernel) rfl (by decide+kernel) (fun _ _ h=>nomatch h) rfl (fun j y i h=>nomatch h) (yF rfl) (fun _ _ _ _=>(zb 0 (show (["row"] :List Str).Nodup by decide+kernel) rfl (.inl rfl) (.inr rfl))) (fun _ _ _ _=>zAn) (fun _ _ _ _=>(zR GR hr9 rfl mR FR.kp bR .nil zP (qc (qw 0 rfl) zB rfl) rfl rfl rfl)) (fun _=>rfl)) zB rfl) rfl) (fun _=>rfl))) (zH
    (zS zAP)) zU) (zH
   (zS (zFF zBb (zq (zm (K:=K) rfl) rfl B.len yB (qc (yx (cl:= []) ["row"] [] [] rfl (zBT (K:=K) rfl (qw 0 rfl)) rfl (by decide+kernel) rfl (by decide+kernel) (fun _ _ h=>nomatch h) rfl (fun j y i h=>nomatch h) (yF rfl) (fun _ _ _ _=>(zb 0 (show (["row"] :List Str).Nodup by decide+kernel) rfl (.inl rfl) (.inr rfl))) (fun _ _ _ _=>(zCH (zL zZ (zJ (K:=K) rfl (qw 0 rfl) zC (fun _ _=>rfl)) zG rfl))) (fun _ _ _ _=>(qw 0 rfl)) (fun _=>rfl)) zB rfl) rfl) (zt (v:= .int 6) rfl mu ⟨tu,rfl⟩ rfl) rfl))))),?_⟩
  have cs:(NoTq H x/\b=false)\/ ∃t xs,x= .ref t/\H t=some (.tup xs)/\xs.length<=1000/\(((xs.length=0\/16<xs.length)/\b=false)\/(1<=xs.length/\xs.length<=16/\ ∃bs,Paired (RwB H) xs bs/\((bs.all id=false/\b=false)\/(bs.all id=true/\ ∃rs,RtL H xs rs/\b=decide (yb rs<=6))))):=by
   cases hx with
   | noT h=>exact .inl ⟨h,rfl⟩
   | len e h h2=>exact .inr ⟨_,_,rfl,e,h2,.inl ⟨h,rfl⟩⟩
   | bad e h1 h2 k hb=>exact .inr ⟨_,_,rfl,e,by omega,.inr ⟨h1,h2,_,k,.inl ⟨hb,rfl⟩⟩⟩
   | good e h1 h2 k=>exact .inr ⟨_,_,rfl,e,by omega,.inr ⟨h1,h2,_,k.b,.inr ⟨by simp,_,k,rfl⟩⟩⟩
  rcases cs with ⟨h,rfl⟩|⟨t,xs,rfl,e,lx,h⟩
  ·obtain ⟨ty,h1,h2⟩:=h.ty K;exact ⟨_,rfl,_,.ty "tuple",_,.type "tuple",_,rfl,rfl,h1,h2,_,rfl,zI (zI (q H (zA.refl H)))⟩
  refine ⟨_,rfl,_,.ty "tuple",_,.type "tuple",_,rfl,rfl,.tup e,zr K,_,rfl,zD ?_⟩;rcases h with ⟨h,rfl⟩|⟨h1,h2,bs,kb,h⟩
  ·refine ⟨_,rfl,t,_,rfl,.inr (SqT.of e),_,_,rfl,rfl,_,rfl,zp (fun c=>?_) (fun c=>?_)⟩
   ·have c1:(1:Int)<=(xs.length:Int):=by simpa using c
    exact ⟨_,_,rfl,rfl,false,congrArg V.bl (zUW (by omega)),zI (q H (zA.refl H))⟩
   ·exact ⟨false,rfl,zI (q H (zA.refl H))⟩
  refine ⟨_,rfl,t,_,rfl,.inr (SqT.of e),_,_,rfl,rfl,true,congrArg V.bl (zUV (by omega)),zI ⟨_,_,rfl,rfl,true,congrArg V.bl (zUV (by omega)),zD ?_⟩⟩;have lb:=Paired.len kb;refine ⟨_,rfl,t,rfl,⟨_,SqT.of e⟩,fun D hD=>?_⟩;refine zx xs.length (fun i ys H'=>i<=xs.length/\ys=(bs.take i).map V.bl/\zA H H'/\H' D=some (.lst ys)) ⟨zUN _,by simp,zA.upd hD,zE⟩ (by rw [zUJ];omega) ?_ ?_ ?_
  ·rintro i ys H2 hi ⟨_,rfl,s2,e2⟩;exact ⟨by simp;omega,e2,fun h=>⟨_,_,SqT.of (s2 _ _ e),zTy h⟩,fun h=>⟨_,SqT.of (s2 _ _ e),by omega⟩⟩
  ·rintro i ys H2 x H3 hi ⟨_,rfl,s2,e2⟩ ⟨rfl,hx⟩ pre hpre;obtain ⟨p0,rfl⟩:=zAt hpre;have hx':=hx _ (SqT.of (s2 _ _ e));rw [zTy hi] at hx';cases hx';obtain ⟨b1,eb,hb⟩:=Paired.get' kb (zTy hi);refine ⟨⟨[some xs[i]],rfl,rfl⟩,zI ?_⟩;refine ⟨_,rfl,xs[i],b1,rfl,hb.same s2,fun H4 s4=>⟨s4 _ _ e2,hi,?_,zA.store (s2.trans s4) hD,zE⟩⟩;rw [zUU,eb,zUT];rfl
  rintro ys H2 ⟨_,rfl,s2,e2⟩;rw [List.take_of_length_le (by omega)] at e2;refine ⟨D,bs,rfl,SqL.of e2,_,rfl,?_⟩;rcases h with ⟨hb,rfl⟩|⟨hb,rs,hrs,rfl⟩
  ·rw [hb];exact zI (q H2 s2)
  ·rw [hb];refine zD ?_;have hrs2:=hrs.same s2;have lr:=Paired.len hrs;refine ⟨_,rfl,t,rfl,⟨_,SqT.of (s2 _ _ e)⟩,fun D3 hD3=>?_⟩;refine zx xs.length (fun i ys H'=>i<=xs.length/\ys.length=yb (rs.take i)/\zA H2 H'/\H' D3=some (.lst ys)) ⟨zUN _,by simp [yb],zA.upd hD3,zE⟩ (by rw [zUJ];omega) ?_ ?_ ?_
   ·rintro i ys H3 hi ⟨_,ly,s3,e3⟩;have:yb (rs.take i)<=i:=zUM (zVC _ _) (by rw [List.length_take];omega);exact ⟨by omega,e3,fun h=>⟨_,_,SqT.of (s3 _ _ (s2 _ _ e)),zTy h⟩,fun h=>⟨_,SqT.of (s3 _ _ (s2 _ _ e)),by omega⟩⟩
   ·rintro i ys H3 x H4 hi ⟨_,ly,s3,e3⟩ ⟨rfl,hx⟩ pre hpre;obtain ⟨p0,rfl⟩:=zAt hpre;have hx':=hx _ (SqT.of (s3 _ _ (s2 _ _ e)));rw [zTy hi] at hx';cases hx';obtain ⟨r,er,hr,_⟩:=Paired.get' hrs2 (zTy hi);obtain ⟨t2,w2,ys2,ev,ht2,hu⟩:=hr.head;have et:rs.take (i+1)=rs.take i++ [r] :=by rw [zUU,er];rfl
    refine ⟨⟨[some xs[i]],rfl,rfl⟩,?_⟩;refine ⟨_,rfl,t2,_,_,_,ev,rfl,SqT.of (s3 _ _ ht2),zg (j:=0) rfl,rfl,zAf r,congrArg V.bl hu,?_⟩;cases hir:zAf r with
    | true=>
     refine zI ⟨_,rfl,e3,hi,?_,zA.store s3 hD3,zE⟩;rw [et,yb,zUx,zUY,List.filter_cons,hir];simp [ly,yb]
    | false=>
     refine zD ⟨hi,?_,s3,e3⟩;rw [et,yb,zUx,zUY,List.filter_cons,hir];simp [ly,yb]
   rintro ys H3 ⟨_,ly,s3,e3⟩;rw [List.take_of_length_le (by omega)] at ly;refine ⟨D3,_,rfl,.inl (SqL.of e3),_,_,rfl,rfl,?_⟩;have:=q H3 (s2.trans s3)
   rwa [show decide ((ys.length:Int)<=6)=decide (yb rs<=6) by rw [ly];exact decide_eq_decide.mpr (by omega)]
def XAt(H:Hp)(e C:Addr)(fs:List (Str×V)):Prop:= ∃dx,dx≠e/\H e=some (XO e C (some dx))/\H dx=some (XD dx fs)
def zCs(C:Addr)(n1 n2:Str):Sp:=fun vs H Q _=> ∃p x y,vs= [.ref p,x,y] /\H p=some (XO p C none)/\ ∀H',XAt H' p C (yr n2 y [(n1,x)])->(∀b o,H b=some o->b≠p->H' b=some o)->Q .non H'
theorem zGE(n:Str)(x:V)(fs:List (Str×V)):(yr n x fs).lookup n=some x:=by rw [zBE,if_pos rfl]
theorem lk1(n:Str)(x:V):([(n,x)] :List (Str×V)).lookup n=some x:=by simp [List.lookup]
theorem zGJ{fs:List (Str×V)}(h: ¬n=m)(e:fs.lookup n=some y):(yr m x fs).lookup n=some y:=by rw [zBE,if_neg h];exact e
structure RX(K:zUn)(mg:Str->Option Value)(nm:Str)(C f:Addr)(n1 n2:Str):Prop where
 mx:MkX K C f
 xc:XCls K C
 a1:yO K C n1
 a2:yO K C n2
 mg:mg nm=some (.ref C)
def Rf2(H:Hp)(E:XK)(C:Addr)(n1 n2:Str)(x y:V):Prop:= ∀H' dx,zA H H'->H' dx=some (XD dx (yr n2 y [(n1,x)]))->E (.ref C) (some dx) H'
theorem Rf2.same(h:Rf2 H E C n1 n2 x y)(s:zA H H1):Rf2 H1 E C n1 n2 x y:=fun H' dx s' e=>h H' dx (s.trans s') e
theorem zAy(hE:Rf2 H E C n1 n2 x y)(ea:Addr)(he:H ea=none):
  zCs C n1 n2 [.ref ea,x,y] (L2.upd H ea (XO ea C none)) (fun r H2=>r= .non/\ ∃a dx,V.ref ea= .ref a/\H2 a=some (XO a C (some dx))/\E (.ref C) (some dx) (off H2 a)) E1:=by
 refine ⟨ea,x,y,rfl,zE,fun H' ⟨dx,ne,h1,h2⟩ kp=>⟨rfl,ea,dx,rfl,h1,hE _ _ (fun b o h=>?_) ?_⟩⟩
 ·have hb:=zh h he;rw [zAw hb];exact kp b o (by rw [zN hb];exact h) hb
 ·rw [zAw ne];exact h2
structure FunD(K:zUn)(x qual:Str)(st:Stmt)(dV:Value)(f:Addr)(fd:FuncData):Prop where
 ex: ∃(oc:Value) (od:Option Addr) (kV doc pm:Value) (an:Option Addr) (cdv ct:Value) (osl:Array (Option Value)),
  fd=PySem.W.fnOf x qual (zAG st) (yT st) (zK st) dV kV doc pm an cdv ct/\K.lookup f=some ⟨oc,od,.func fd,osl⟩/\PySem.W.codeIn K cdv qual=true
 kp:PySem.W.keepIn K (.ref f)=true
theorem Fun.toD{x qual:Str}{st:Stmt}{f:Addr}{fd:FuncData}(F:Fun K x qual st f fd):FunD K x qual st .none f fd:=⟨F.ex,F.kp⟩
theorem FunD.okXD{x qual:Str}{st:Stmt}{dV:Value}{f:Addr}{fd:FuncData}{N ps:List Str}{k:Nat}{sp:Sp}(F:FunD K x qual st dV f fd)(S:FnScope N ps (zK st))(len: ∀vs H Q E,sp vs H Q E->vs.length=ps.length)
  (hbody: ∀(cdv:Value) (A:Around) (outer:List Env) (s:Shared) (H:Hp) (vs:List V) (Q:VK) (E:XK),Room k (A.deeper (envOfC qual (zK st) s.heap.objs.size f cdv))->sp vs H Q E->
   ∃t,PSs (zBk (yo P w) P w K mg base N qual (zK st) f cdv A outer s H E) (yT st) t/\t {nx:=fun _ H'=>Q .non H',rt:=Q} (zBB N vs) H):FnOk P w K mg base (yo P w) (k+1) f fd ps sp:=by
 obtain ⟨oc,od,kV,doc,pm,an,cdv,ct,osl,rfl,lk,hcd⟩:=F.ex;refine zNU lk hcd S len fun A outer s H vs Q E hr hsp=>?_;exact hbody cdv A outer s H vs Q E hr hsp
theorem zTl:FnScope ["self","row","name"] ["self","row","name"] (zK (zv (top 9) 0)):=fs
theorem zRo(F:Fun K "__init__" "NoName.__init__" (zv (top 9) 0) f fd)(R:RX K mg "NoName" C f "row" "name"):FnOk P w K mg base CX0 1 f fd ["self","row","name"] (zCs C "row" "name"):=by
 refine F.ok zTl (fun vs H Q E h=>?_) (fun _ A _ s H vs Q E hr h=>?_)
 ·obtain ⟨p,x,y,rfl,_⟩:=h;rfl
 ·obtain ⟨p,x,y,rfl,hp,k⟩:=h;refine ⟨_,yp (zDS (pv 0) (pv 1) rfl) (yz (zEm (pv 0) (pv 2) rfl)),?_⟩;refine ⟨_,rfl,_,rfl,p,C,rfl,hp,R.xc,R.a1,fun dx hdx hne=>?_⟩;refine ⟨_,rfl,_,rfl,p,C,dx,_,rfl,zE,by rw [zN hne,zE],R.xc,R.a2,(by show 1<1000;decide),?_⟩;refine k _ ⟨dx,hne,by rw [zN hne.symm,zE],zE⟩ fun b o e hb=>?_;have h1:b≠dx:=zh e hdx;rw [zN h1,zN hb,zN h1];exact e
theorem zTk:FnScope ["self","row","name"] ["self","row","name"] (zK (zv (top 10) 0)):=fs
theorem zSb(F:Fun K "__init__" "Twice.__init__" (zv (top 10) 0) f fd)(R:RX K mg "Twice" C f "row" "name"):FnOk P w K mg base CX0 1 f fd ["self","row","name"] (zCs C "row" "name"):=by
 refine F.ok zTk (fun vs H Q E h=>?_) (fun _ A _ s H vs Q E hr h=>?_)
 ·obtain ⟨p,x,y,rfl,_⟩:=h;rfl
 ·obtain ⟨p,x,y,rfl,hp,k⟩:=h;refine ⟨_,yp (zDS (pv 0) (pv 1) rfl) (yz (zEm (pv 0) (pv 2) rfl)),?_⟩;refine ⟨_,rfl,_,rfl,p,C,rfl,hp,R.xc,R.a1,fun dx hdx hne=>?_⟩;refine ⟨_,rfl,_,rfl,p,C,dx,_,rfl,zE,by rw [zN hne,zE],R.xc,R.a2,(by show 1<1000;decide),?_⟩;refine k _ ⟨dx,hne,by rw [zN hne.symm,zE],zE⟩ fun b o e hb=>?_;have h1:b≠dx:=zh e hdx;rw [zN h1,zN hb,zN h1];exact e
theorem zTX:FnScope ["self","row","name"] ["self","row","name"] (zK (zv (top 11) 0)):=fs
theorem zSh(F:Fun K "__init__" "BadCount.__init__" (zv (top 11) 0) f fd)(R:RX K mg "BadCount" C f "row" "name"):FnOk P w K mg base CX0 1 f fd ["self","row","name"] (zCs C "row" "name"):=by
 refine F.ok zTX (fun vs H Q E h=>?_) (fun _ A _ s H vs Q E hr h=>?_)
 ·obtain ⟨p,x,y,rfl,_⟩:=h;rfl
 ·obtain ⟨p,x,y,rfl,hp,k⟩:=h;refine ⟨_,yp (zDS (pv 0) (pv 1) rfl) (yz (zEm (pv 0) (pv 2) rfl)),?_⟩;refine ⟨_,rfl,_,rfl,p,C,rfl,hp,R.xc,R.a1,fun dx hdx hne=>?_⟩;refine ⟨_,rfl,_,rfl,p,C,dx,_,rfl,zE,by rw [zN hne,zE],R.xc,R.a2,(by show 1<1000;decide),?_⟩;refine k _ ⟨dx,hne,by rw [zN hne.symm,zE],zE⟩ fun b o e hb=>?_;have h1:b≠dx:=zh e hdx;rw [zN h1,zN hb,zN h1];exact e
def zMd(C:Addr)(n1:Str):Sp:=fun vs H Q _=> ∃p x,vs= [.ref p,x] /\H p=some (XO p C none)/\ ∀H',XAt H' p C [(n1,x)] ->(∀b o,H b=some o->b≠p->H' b=some o)->Q .non H'
structure RX1(K:zUn)(mg:Str->Option Value)(nm:Str)(C f:Addr)(n1:Str):Prop where
 mx:MkX K C f
 xc:XCls K C
 a1:yO K C n1
 mg:mg nm=some (.ref C)
def Rf1(H:Hp)(E:XK)(C:Addr)(n1:Str)(x:V):Prop:= ∀H' dx,zA H H'->H' dx=some (XD dx [(n1,x)])->E (.ref C) (some dx) H'
theorem Rf1.same(h:Rf1 H E C n1 x)(s:zA H H1):Rf1 H1 E C n1 x:=fun H' dx s' e=>h H' dx (s.trans s') e
theorem zPZ(hE:Rf1 H E C n1 x)(ea:Addr)(he:H ea=none):
  zMd C n1 [.ref ea,x] (L2.upd H ea (XO ea C none)) (fun r H2=>r= .non/\ ∃a dx,V.ref ea= .ref a/\H2 a=some (XO a C (some dx))/\E (.ref C) (some dx) (off H2 a)) E1:=by
 refine ⟨ea,x,rfl,zE,fun H' ⟨dx,ne,h1,h2⟩ kp=>⟨rfl,ea,dx,rfl,h1,hE _ _ (fun b o h=>?_) ?_⟩⟩
 ·have hb:=zh h he;rw [zAw hb];exact kp b o (by rw [zN hb];exact h) hb
 ·rw [zAw ne];exact h2
theorem zTU:FnScope ["self","at"] ["self","at"] (zK (zv (top 8) 0)):=fs
theorem zSH(F:Fun K "__init__" "BadText.__init__" (zv (top 8) 0) f fd)(R:RX1 K mg "BadText" C f "at"):FnOk P w K mg base CX0 1 f fd ["self","at"] (zMd C "at"):=by
 refine F.ok zTU (fun vs H Q E h=>?_) (fun _ A _ s H vs Q E hr h=>?_)
 ·obtain ⟨p,x,rfl,_⟩:=h;rfl
 ·obtain ⟨p,x,rfl,hp,k⟩:=h;refine ⟨_,yz (zDS (pv 0) (pv 1) rfl),?_⟩;refine ⟨_,rfl,_,rfl,p,C,rfl,hp,R.xc,R.a1,fun dx hdx hne=>?_⟩;refine k _ ⟨dx,hne,by rw [zE],by rw [zN hne,zE]⟩ fun b o e hb=>?_;rw [zN hb,zN (zh e hdx)];exact e
abbrev Kn:=List (Str×Rw)
def zAC:Rw->Str
 | .unit _=> "unit"
 | .take ..=> "take"
 | .let' ..=> "let"
 | .fun' ..=> "fun"
 | .show' _=> "show"
def srt(ks:Kn)(n:Str):Option Str:=(ks.lookup n).map zAC
def zBM(ks:Kn)(us:Us):Option (Bool×Str):=us.findSome? fun p=>if srt ks p.1=some ("unit" :Str) then none else some (false,p.1)
def zDG(ks:Kn)(inn:List Str)(n:Str):Option (Bool×Str):=if n∈inn then none else if srt ks n=some ("take" :Str)\/srt ks n=some ("let" :Str) then none else some (false,n)
def zBN(ks:Kn)(inn:List Str)(n:Str)(k:Nat):Option (Bool×Str):=if n∈inn then some (false,n) else match ks.lookup n with
 | some (.fun' _ ps _)=>if ps.length=k then none else some (true,n)
 | _=>some (false,n)
theorem Rt.hd(h:Rt H r v): ∃t ys,v= .ref t/\H t=some (.tup (.str (zAC r)::ys)):=by
 cases r with
 | unit n=>obtain ⟨t,e,h⟩:=h;exact ⟨t,_,e,h⟩
 | take n us=>obtain ⟨t,y,e,h,_⟩:=h;exact ⟨t,_,e,h⟩
 | let' n e=>obtain ⟨t,y,e,h,_⟩:=h;exact ⟨t,_,e,h⟩
 | fun' n ps e=>obtain ⟨t,q,y,e,h,_⟩:=h;exact ⟨t,_,e,h⟩
 | show' e=>obtain ⟨t,y,e,h,_⟩:=h;exact ⟨t,_,e,h⟩
def zEf(H:Hp)(ka:Addr)(ks:Kn):Prop:= ∃kvs,H ka=some (.dK kvs)/\Paired (fun (p:Key×V) (k:Str×Rw)=>p.1= .inr k.1/\Rt H k.2 p.2) kvs ks
def zGC(H:Hp)(ia:Addr)(inn:List Str):Prop:= ∃jvs,H ia=some (.dK jvs)/\jvs.length<=inn.length/\ ∀n,(yZ jvs (.inr n)).isSome=decide (n∈inn)
def Sc(C:Addr)(H:Hp)(t:Addr)(num:Int)(ks:Kn)(inn:List Str):Prop:= ∃dx ka ia,H t=some (.ins C dx [("number",.int num),("known",.ref ka),("inner",.ref ia)])/\zEf H ka ks/\zGC H ia inn
theorem zEf.same(h:zEf H ka ks)(s:zA H H'):zEf H' ka ks:=let ⟨kvs,e,p⟩:=h;⟨kvs,s _ _ e,Paired.mapM p fun _ _ _ ⟨a,b⟩=>⟨a,b.same s⟩⟩
theorem zGC.same(h:zGC H ia inn)(s:zA H H'):zGC H' ia inn:=let ⟨kvs,e,p⟩:=h;⟨kvs,s _ _ e,p⟩
theorem Sc.same(h:Sc C H t num ks inn)(s:zA H H'):Sc C H' t num ks inn:=let ⟨dx,ka,ia,e,k,i⟩:=h;⟨dx,ka,ia,s _ _ e,k.same s,i.same s⟩
theorem zDh(n:Str): ∀{kvs:List (Key×V)} {ks:Kn},Paired (fun (p:Key×V) (k:Str×Rw)=>p.1= .inr k.1/\Rt H k.2 p.2) kvs ks->
  (yZ kvs (.inr n)=none/\ks.lookup n=none)\/ ∃v r,yZ kvs (.inr n)=some v/\ks.lookup n=some r/\Rt H r v
 | _,_,.nil=> .inl ⟨rfl,rfl⟩
 | p::kvs,k::ks,.cons h t=>by
  obtain ⟨h1,h2⟩:=h;obtain ⟨k1,k2⟩:=k;by_cases z:k1=n
  ·subst z;exact .inr ⟨p.2,k2,ym h1,by rw [List.lookup_cons];simp,h2⟩
  ·have zk: ¬p.1= .inr n:=by
    rw [h1];intro y;exact z (Sum.inr.inj y)
   rw [yq zk,List.lookup_cons,show (n==k1)=false from beq_eq_false_iff_ne.mpr (Ne.symm z)];exact zDh n t
theorem zEf.get(h:zEf H ka ks)(n:Str): ∃o,zBt H ka (.str n) o/\((o=none/\ks.lookup n=none)\/ ∃v r,o=some v/\ks.lookup n=some r/\Rt H r v):=by
 obtain ⟨kvs,e,p⟩:=h;refine ⟨yZ kvs (.inr n),.inl ⟨kvs,.inr n,.inl e,rfl,rfl⟩,?_⟩;exact zDh n p
theorem zGC.get(h:zGC H ia inn)(n:Str): ∃o,zBt H ia (.str n) o/\o.isSome=decide (n∈inn):=by
 obtain ⟨kvs,e,_,p⟩:=h;exact ⟨yZ kvs (.inr n),.inl ⟨kvs,.inr n,.inl e,rfl,rfl⟩,p n⟩
theorem lkN(x y z:V):([("number",x),("known",y),("inner",z)] :List (Str×V)).lookup ("number" :Str)=some x:=by simp [List.lookup]
theorem lkK(x y z:V):([("number",x),("known",y),("inner",z)] :List (Str×V)).lookup ("known" :Str)=some y:=by
 rw [List.lookup_cons,show (("known" :Str)== "number")=false from by decide];simp [List.lookup]
theorem lkI(x y z:V):([("number",x),("known",y),("inner",z)] :List (Str×V)).lookup ("inner" :Str)=some z:=by
 rw [List.lookup_cons,show (("inner" :Str)== "number")=false from by decide];show List.lookup _ _=_;rw [List.lookup_cons,show (("inner" :Str)== "known")=false from by decide];simp [List.lookup]
theorem lkM(m:Str)(h1:(m==("number" :Str))=false)(h2:(m==("known" :Str))=false)(h3:(m==("inner" :Str))=false)(x y z:V):([("number",x),("known",y),("inner",z)] :List (Str×V)).lookup m=none:=by
 rw [List.lookup_cons,h1];show List.lookup _ _=_;rw [List.lookup_cons,h2];show List.lookup _ _=_;rw [List.lookup_cons,h3];rfl
structure SC(K:zUn)(C:Addr):Prop where
 cl:Cls K C
 n1:yO K C "number"
 n2:yO K C "known"
 n3:yO K C "inner"
abbrev mSi:Stmt:=zv (top 50) 0
abbrev mSw:Stmt:=zv (top 50) 1
abbrev mSo:Stmt:=zv (top 50) 2
abbrev mLu:Stmt:=zv (top 50) 3
abbrev mLv:Stmt:=zv (top 50) 4
abbrev mLc:Stmt:=zv (top 50) 5
abbrev mLa:Stmt:=zv (top 50) 6
def zMZ(C:Addr):Sp:=fun vs H Q _=> ∃t dx x y z,vs= [.ref t,x,y,z] /\H t=some (.ins C dx [])/\Q .non (L2.upd H t (.ins C dx [("number",x),("known",y),("inner",z)]))
theorem zTZ:FnScope ["self","number","known","inner"] ["self","number","known","inner"] (zK mSi):=fs
theorem zRw(F:Fun K "__init__" "Scope.__init__" mSi f fd)(T:SC K C):FnOk P w K mg base CX0 1 f fd ["self","number","known","inner"] (zMZ C):=by
 refine F.ok zTZ (fun vs H Q E h=>?_) (fun _ A _ s H vs Q E hr h=>?_)
 ·obtain ⟨t,dx,x,y,z,rfl,_⟩:=h;rfl
 ·obtain ⟨t,dx,x,y,z,rfl,ht,q⟩:=h;refine ⟨_,QB.out (zF
   (zJf (K:=K) rfl (qw 0 rfl) (qw 1 rfl) rfl) (zF
   (zJf (K:=K) rfl (qw 0 rfl) (qw 2 rfl) rfl) (zH
   (zJf (K:=K) rfl (qw 0 rfl) (qw 3 rfl) rfl)))),?_⟩
  refine ⟨_,rfl,_,rfl,t,C,dx,[],rfl,ht,T.cl,T.n1,by show 0<1000;decide,?_⟩;refine ⟨_,rfl,_,rfl,t,C,dx,[("number",x)],rfl,by rw [zE];rfl,T.cl,T.n2,by show 1<1000;decide,?_⟩;refine ⟨_,rfl,_,rfl,t,C,dx,[("number",x),("known",y)],rfl,by rw [zE];rfl,T.cl,T.n3,by show 2<1000;decide,?_⟩;have e:L2.upd (L2.upd (L2.upd H t (.ins C dx (yr "number" x []))) t (.ins C dx (yr "known" y [("number",x)]))) t (.ins C dx (yr "inner" z [("number",x),("known",y)]))=L2.upd H t (.ins C dx [("number",x),("known",y),("inner",z)]):=by
   funext b
   unfold L2.upd;by_cases k:b=t
   ·simp [k];rfl
   ·simp [k]
  rw [e];exact q
def zME(C:Addr):Sp:=fun vs H Q _=> ∃(t:Addr) (n:Str) (num:Int) (ks:Kn) (inn:List Str),vs= [.ref t,.str n] /\Sc C H t num ks inn/\inn.length<=1000/\ ∀H' t',zA H H'->Sc C H' t' num ks (n::inn)->Q (.ref t') H'
theorem zQk:FnScope ["self","name","inner"] ["self","name"] (zK mSw):=fs
theorem zSg(F:Fun K "within" "Scope.within" mSw f fd)(B:Bn mg)(T:SC K C)(MSc:Mk K C fSc)(mSc:mg "Scope" =some (.ref C))(bSc:zO K fdSc ["self","number","known","inner"] [])
  (GSc:FnOk P w K mg base CX0 1 fSc fdSc ["self","number","known","inner"] (zMZ C)):FnOk P w K mg base CX0 3 f fd ["self","name"] (zME C):=by
 refine F.ok zQk (fun vs H Q E h=>?_) (fun _ A _ s H vs Q E hr2 h=>?_)
 ·obtain ⟨t,n,num,ks,inn,rfl,_⟩:=h;rfl
 ·obtain ⟨t,n,num,ks,inn,rfl,sc,le,q⟩:=h;obtain ⟨dx,ka,ia,et,hk,jvs,ei,jl,jm⟩:=sc;have hu:=zAb hr2;refine ⟨_,QB.out (zF
   (zY 2 zQk.nd rfl (zBZ zDV rfl B.dict zFv (qc (zAu (K:=K) rfl (qw 0 rfl) rfl) zB rfl) rfl) rfl) (zF
   (zDn hu (qw 2 rfl) (qw 1 rfl) zAP rfl) (zH
   (zS (zKT MSc GSc hr2 rfl mSc bSc .nil zP (qc (zAu (K:=K) rfl (qw 0 rfl) rfl) (qc (zAu (K:=K) rfl (qw 0 rfl) rfl) (qc (qw 2 rfl) zB rfl) rfl) rfl) rfl rfl rfl))))),?_⟩
  refine ⟨_,rfl,t,C,dx,_,_,rfl,et,T.cl,T.n3,lkI _ _ _,ia,jvs,rfl,.inl ei,fun d hd=>?_⟩;obtain ⟨H1,g1,s1,e1⟩:=yH hd (.dK jvs);rw [g1];refine ⟨_,rfl,_,rfl,d,_,rfl,.inl ⟨jvs,.inr n,e1,rfl,by rw [zUJ];omega,rfl⟩,?_⟩;have s2:zA H (L2.upd H1 d (.dK (zAs jvs (.inr n) (.bl true)))):=zA.store s1 hd;have e2:(L2.upd H1 d (.dK (zAs jvs (.inr n) (.bl true)))) d=some (.dK (zAs jvs (.inr n) (.bl true))):=zE;generalize L2.upd H1 d (.dK (zAs jvs (.inr n) (.bl true)))=H2 at s2 e2⊢;refine ⟨_,rfl,t,C,dx,_,_,rfl,s2 _ _ et,T.cl,T.n1,lkN _ _ _,_,rfl,t,C,dx,_,_,rfl,s2 _ _ et,T.cl,T.n2,lkK _ _ _,_,rfl,fun x dx2 hx hdx hne=>?_⟩;have s4:zA H2 (L2.upd (L2.upd (L2.upd H2 dx2 (.own x)) x (.ins C dx2 [])) x (.ins C dx2 [("number",.int num),("known",.ref ka),("inner",.ref d)])):=zA.store (zA.store (zA.upd hdx) hx) hx;refine ⟨x,dx2,_,_,_,rfl,zE,rfl,q _ x (s2.trans s4) ⟨dx2,ka,d,zE,hk.same (s2.trans s4),_,s4 _ _ e2,?_,fun m=>?_⟩⟩
  ·have:=zBG jvs (.inr n) (.bl true);simp only [zUu];omega
  ·rw [zEl];by_cases z:m=n
   ·subst z;simp
   ·rw [if_neg fun y=>z (Sum.inr.inj y),jm m];simp [z]
def zJd(C:Addr):Sp:=fun vs H Q _=> ∃(t:Addr) (n:Str) (num:Int) (ks:Kn) (inn:List Str),vs= [.ref t,.str n] /\Sc C H t num ks inn/\Q (wdV (srt ks n)) H
theorem zTT:FnScope ["self","name"] ["self","name"] (zK mSo):=fs
theorem zRz(F:Fun K "sort_of" "Scope.sort_of" mSo f fd)(T:SC K C):FnOk P w K mg base CX0 1 f fd ["self","name"] (zJd C):=by
 refine F.ok zTT (fun vs H Q E h=>?_) (fun _ A _ s H vs Q E hr h=>?_)
 ·obtain ⟨t,n,num,ks,inn,rfl,_⟩:=h;rfl
 ·obtain ⟨t,n,num,ks,inn,rfl,sc,q⟩:=h;obtain ⟨dx,ka,ia,et,hk,hi⟩:=sc;have hu:=zAb hr;refine ⟨_,QB.out (zF
   (zV (zHA hu (qw 1 rfl) (zAu (K:=K) rfl (qw 0 rfl) rfl) rfl) (zH
    (zS (zJ (K:=K) rfl (zLJ hu (zAu (K:=K) rfl (qw 0 rfl) rfl) (qw 1 rfl) (fun _ _=>rfl)) zC (fun _ _=>rfl)))) zU) (zH
   (zS zBX))),?_⟩
  obtain ⟨o,dg,h⟩:=hk.get n;refine ⟨_,rfl,_,rfl,t,C,dx,_,_,rfl,et,T.cl,T.n2,lkK _ _ _,ka,o,rfl,dg,_,rfl,?_⟩;rcases h with ⟨rfl,h⟩|⟨v,r,rfl,h,hr'⟩
  ·refine zD ?_;unfold srt at q;rw [h] at q;exact q
  ·obtain ⟨tr,ys,rfl,er⟩:=hr'.hd;unfold srt at q;rw [h] at q;exact zI ⟨_,rfl,t,C,dx,_,_,rfl,et,T.cl,T.n2,lkK _ _ _,_,rfl,ka,_,rfl,dg,tr,_,_,_,rfl,rfl,SqT.of er,zg (j:=0) rfl,q⟩
def Out(H:Hp)(Q:VK)(E:XK)(NN BC:Addr)(num:Int):Option (Bool×Str)->Prop
 | none=> ∀H',zA H H'->Q .non H'
 | some (false,n)=>Rf2 H E NN "row" "name" (.int num) (.str n)
 | some (true,n)=>Rf2 H E BC "row" "name" (.int num) (.str n)
theorem Out.same{o:Option (Bool×Str)}(h:Out H Q E NN BC num o)(s:zA H H1):Out H1 Q E NN BC num o:=by
 cases o with
 | none=>exact fun H' s'=>h H' (s.trans s')
 | some p=>
  obtain ⟨b,n⟩:=p;cases b
  ·exact Rf2.same h s
  ·exact Rf2.same h s
theorem Out.seq{o o2:Option (Bool×Str)}(h:Out H Q E NN BC num (o.or o2))(k:Out H Q E NN BC num o2-> ∀H',zA H H'->Q' .non H'):Out H Q' E NN BC num o:=by
 cases o with
 | none=>exact k h
 | some p=>
  obtain ⟨b,n⟩:=p;cases b
  ·exact h
  ·exact h
theorem zKf(ks:Kn)(p:Str×Int)(us:Us):zBM ks (p::us)=if srt ks p.1=some ("unit" :Str) then zBM ks us else some (false,p.1):=by
 unfold zBM;rw [List.findSome?_cons];by_cases h:srt ks p.1=some ("unit" :Str)
 ·rw [if_pos h,if_pos h]
 ·rw [if_neg h,if_neg h]
theorem zDI(o:Option Str)(z:Str):zMc (wdV o) (.str z)=true:=by cases o<;>rfl
def zMl(C NN BC:Addr):Sp:=fun vs H Q E=> ∃(t:Addr) (y:V) (us:Us) (num:Int) (ks:Kn) (inn:List Str),vs= [.ref t,y] /\Sc C H t num ks inn/\Un H y us/\us.length<=100/\Out H Q E NN BC num (zBM ks us)
theorem zQB:FnScope ["self","unit","pair"] ["self","unit"] (zK mLu):=fs
theorem zRi(F:Fun K "look_at_unit" "Scope.look_at_unit" mLu f fd)(T:SC K C)
  (mtSo:Meth K C "sort_of" fSo) (bSo:zO K fdSo ["self","name"] []) (GSo:FnOk P w K mg base CX0 1 fSo fdSo ["self","name"] (zJd C))
  (XNN:RX K mg "NoName" NN fNN "row" "name") (bNN:zO K fdNN ["self","row","name"] []) (GNN:FnOk P w K mg base CX0 1 fNN fdNN ["self","row","name"] (zCs NN "row" "name")):
  FnOk P w K mg base (yo P w) 4 f fd ["self","unit"] (zMl C NN BC):=by
 have cl:=T.cl;refine (Fr.Fun.toD F).okXD zQB (fun vs H Q E h=>?_) (fun _ A _ s H vs Q E hr h=>?_)
 ·obtain ⟨t,y,us,num,ks,inn,rfl,_⟩:=h;rfl
 ·obtain ⟨t,y,us,num,ks,inn,rfl,sc,un,ul,q⟩:=h;have hr2:Room 2 _:=hr.mono (by decide);have hr1:Room 1 _:=hr.mono (by decide);refine ⟨_,QB.out (zH
   (zAh PassesOwn.leaving rfl (zBT (K:=K) rfl (qw 1 rfl)) (zb 2 zQB.nd rfl (Or.inl rfl) (.inr rfl)) (zH
    (zV (zL yw (zDw (qw 0 rfl) cl mtSo GSo hr1 bSo .nil zP (qc (zJ (K:=K) rfl (qw 2 rfl) zC (fun _ _=>rfl)) zB rfl) rfl rfl rfl) zG rfl) (zH
     (zBO XNN.mx GNN hr2 rfl XNN.mg bNN zP zAK rfl (qc (zAu (K:=K) rfl (qw 0 rfl) rfl) (qc (zJ (K:=K) rfl (qw 2 rfl) zC (fun _ _=>rfl)) zB rfl) rfl) rfl rfl rfl)) zU)) (fun _=>rfl))),?_⟩
  obtain ⟨dx,ka,ia,et,hk,hin⟩:=id sc;obtain ⟨u,ts,rfl,eu,hp⟩:=un;have lx:=Paired.len hp;refine ⟨_,rfl,u,rfl,⟨_,SqT.of eu⟩,?_⟩;refine zAB ts.length (fun i σ H'=> ∃x,σ= [some (.ref t),some (.ref u),x] /\H'=H/\i<=ts.length/\Out H Q E NN BC num (zBM ks (us.drop i))) ⟨_,rfl,rfl,zUN _,q⟩ ?_ ?_ ?_ ?_
  ·rintro i σ H' hi ⟨x,rfl,rfl,_⟩;exact ⟨_,.ref ts[i],SqT.of eu,by simp [hi]⟩
  ·rintro σ H' ⟨x,rfl,rfl,_⟩;exact ⟨_,SqT.of eu,by simp⟩
  ·rintro i σ H' y H2 hi ⟨x,rfl,rfl,_,q⟩ ⟨rfl,hy⟩;have hy':=hy _ (SqT.of eu);rw [zUD,zTy hi] at hy';cases hy';obtain ⟨p,ep,ht⟩:=Paired.get' hp (zTy hi);have hus:us.drop i=p::us.drop (i+1):=by
    obtain ⟨hlt,e⟩:=zUy.mp ep;rw [<-e,List.drop_eq_getElem_cons hlt]
   rw [hus] at q;refine ⟨_,rfl,t,dx,_,rfl,et,lkM _ (by decide) (by decide) (by decide) _ _ _,_,rfl,ts[i],_,_,_,rfl,rfl,SqT.of ht,rfl,t,p.1,num,ks,inn,rfl,sc,?_⟩;rw [zKf] at q;by_cases hu:srt ks p.1=some ("unit" :Str)
   ·rw [if_pos hu] at q;rw [hu];exact ⟨rfl,_,rfl,zD ⟨_,rfl,rfl,hi,q⟩⟩
   ·rw [if_neg hu] at q;have hb:(!decide (wdV (srt ks p.1)=V.str "unit"))=true:=by
     rw [zUW]
     ·rfl
     ·intro z;apply hu;generalize srt ks p.1=o at z;cases o with
      | none=>cases z
      | some x=>injection z with z;rw [z]
    refine ⟨zDI _ _,true,congrArg V.bl hb,zI ?_⟩
    ·refine ⟨_,rfl,t,C,dx,_,_,rfl,et,T.cl,T.n1,lkN _ _ _,_,rfl,ts[i],_,_,_,rfl,rfl,SqT.of ht,rfl,bs 2,fun ea he=>zAy q ea he⟩
  ·rintro σ H' ⟨x,rfl,rfl,_,q⟩;rw [List.drop_eq_nil_of_le (by omega)] at q;exact q _ (zA.refl _)
theorem zOe(o:Option Str):zAa (wdV o)=true:=by cases o<;>rfl
theorem in2(o:Option Str)(a b:Str):inV (wdV o) [.str a,.str b] =decide (o=some a\/o=some b):=by
 rw [zUv,decide_eq_true_eq];cases o with
 | none=>simp [inV,wdV];exact ⟨rfl,rfl⟩
 | some x=>
  simp only [inV,wdV,List.any_cons,List.any_nil,Bool.or_false,Bool.or_eq_true,Option.some.injEq];have e (c:Str):eqV (V.str c) (V.str x)=true↔x=c:=by
   show (c==x)=true↔_;rw [beq_iff_eq];exact eq_comm
  rw [e,e]
def zQL(C NN BC:Addr):Sp:=fun vs H Q E=> ∃(t:Addr) (n:Str) (num:Int) (ks:Kn) (inn:List Str),vs= [.ref t,.str n] /\Sc C H t num ks inn/\Out H Q E NN BC num (zDG ks inn n)
theorem zTM:FnScope ["self","name"] ["self","name"] (zK mLv):=fs
theorem zSq(F:Fun K "look_at_value" "Scope.look_at_value" mLv f fd)(T:SC K C)
  (mtSo:Meth K C "sort_of" fSo) (bSo:zO K fdSo ["self","name"] []) (GSo:FnOk P w K mg base CX0 1 fSo fdSo ["self","name"] (zJd C))
  (XNN:RX K mg "NoName" NN fNN "row" "name") (bNN:zO K fdNN ["self","row","name"] []) (GNN:FnOk P w K mg base CX0 1 fNN fdNN ["self","row","name"] (zCs NN "row" "name")):
  FnOk P w K mg base (yo P w) 4 f fd ["self","name"] (zQL C NN BC):=by
 have cl:=T.cl;refine (Fr.Fun.toD F).okXD zTM (fun vs H Q E h=>?_) (fun _ A _ s H vs Q E hr h=>?_)
 ·obtain ⟨t,n,num,ks,inn,rfl,_⟩:=h;rfl
 ·obtain ⟨t,n,num,ks,inn,rfl,sc,q⟩:=h;have hr2:Room 2 _:=hr.mono (by decide);have hr1:Room 1 _:=hr.mono (by decide);have hu:=zAb hr;refine ⟨_,QB.out (zH
   (zV (t_w (zAi (zMr hu (qw 1 rfl) (zAu (K:=K) rfl (qw 0 rfl) rfl) rfl) (zAU (zL (zBR (K:=K) rfl) (zDw (qw 0 rfl) cl mtSo GSo hr1 bSo .nil zP (qc (qw 1 rfl) zB rfl) rfl rfl rfl) (zM (qc zG (qc zG zB rfl) rfl)) rfl)))) (zH
    (zBO XNN.mx GNN hr2 rfl XNN.mg bNN zP zAK rfl (qc (zAu (K:=K) rfl (qw 0 rfl) rfl) (qc (qw 1 rfl) zB rfl) rfl) rfl rfl rfl)) zU)),?_⟩
  obtain ⟨dx,ka,ia,et,hk,hin⟩:=id sc;obtain ⟨o,dg,os⟩:=hin.get n;refine ⟨_,rfl,_,rfl,t,C,dx,_,_,rfl,et,T.cl,T.n3,lkI _ _ _,ia,o,rfl,dg,_,rfl,?_⟩;rw [os];unfold zDG at q;by_cases hn:n∈inn
  ·rw [if_pos hn] at q;rw [zUV hn];exact zD (q _ (zA.refl _))
  ·rw [if_neg hn] at q;rw [zUW hn];refine zI ⟨_,rfl,t,dx,_,rfl,et,lkM _ (by decide) (by decide) (by decide) _ _ _,_,rfl,t,n,num,ks,inn,rfl,sc,nw fun p H1 s1 e1=>?_⟩;refine ⟨p,_,rfl,.inr (SqT.of e1),zOe _,rfl,_,rfl,?_⟩;show if (!inV (wdV (srt ks n)) [.str "take",.str "let"])=true then _ else _;rw [in2];by_cases ht:srt ks n=some ("take" :Str)\/srt ks n=some ("let" :Str)
   ·rw [if_pos ht] at q;rw [zUV ht];exact zD (q _ s1)
   ·rw [if_neg ht] at q;rw [zUW ht];exact zI ⟨_,rfl,t,C,dx,_,_,rfl,s1 _ _ et,T.cl,T.n1,lkN _ _ _,_,rfl,bs 2,fun ea he=>zAy (Rf2.same q s1) ea he⟩
def zPP(C NN BC:Addr):Sp:=fun vs H Q E=> ∃(t:Addr) (n:Str) (k:Nat) (num:Int) (ks:Kn) (inn:List Str),vs= [.ref t,.str n,.int (k:Int)] /\Sc C H t num ks inn/\Out H Q E NN BC num (zBN ks inn n k)
theorem zTR:FnScope ["self","name","count"] ["self","name","count"] (zK mLc):=fs
theorem zSs(F:Fun K "look_at_call" "Scope.look_at_call" mLc f fd)(B:Bn mg)(T:SC K C)
  (mtSo:Meth K C "sort_of" fSo) (bSo:zO K fdSo ["self","name"] []) (GSo:FnOk P w K mg base CX0 1 fSo fdSo ["self","name"] (zJd C))
  (XNN:RX K mg "NoName" NN fNN "row" "name") (bNN:zO K fdNN ["self","row","name"] []) (GNN:FnOk P w K mg base CX0 1 fNN fdNN ["self","row","name"] (zCs NN "row" "name"))
  (XBC:RX K mg "BadCount" BC fBC "row" "name") (bBC:zO K fdBC ["self","row","name"] []) (GBC:FnOk P w K mg base CX0 1 fBC fdBC ["self","row","name"] (zCs BC "row" "name")):
  FnOk P w K mg base (yo P w) 4 f fd ["self","name","count"] (zPP C NN BC):=by
 have cl:=T.cl;refine (Fr.Fun.toD F).okXD zTR (fun vs H Q E h=>?_) (fun _ A _ s H vs Q E hr h=>?_)
 ·obtain ⟨t,n,k,num,ks,inn,rfl,_⟩:=h;rfl
 ·obtain ⟨t,n,k,num,ks,inn,rfl,sc,q⟩:=h;have hr2:Room 2 _:=hr.mono (by decide);have hr1:Room 1 _:=hr.mono (by decide);have hu:=zAb hr;refine ⟨_,QB.out (zF
   (zV (t_w (zAI (zHA hu (qw 1 rfl) (zAu (K:=K) rfl (qw 0 rfl) rfl) rfl) (zAN (zL yw (zDw (qw 0 rfl) cl mtSo GSo hr1 bSo .nil zP (qc (qw 1 rfl) zB rfl) rfl rfl rfl) zG rfl)))) (zH
    (zBO XNN.mx GNN hr2 rfl XNN.mg bNN zP zAK rfl (qc (zAu (K:=K) rfl (qw 0 rfl) rfl) (qc (qw 1 rfl) zB rfl) rfl) rfl rfl rfl)) zU) (zH
   (zV (zL yw (zq (zm (K:=K) rfl) rfl B.len yB (qc (zJ (K:=K) rfl (zLJ hu (zAu (K:=K) rfl (qw 0 rfl) rfl) (qw 1 rfl) (fun _ _=>rfl)) zC (fun _ _=>rfl)) zB rfl) rfl) (qw 2 rfl) rfl) (zH
    (zBO XBC.mx GBC hr2 rfl XBC.mg bBC zP zAK rfl (qc (zAu (K:=K) rfl (qw 0 rfl) rfl) (qc (qw 1 rfl) zB rfl) rfl) rfl rfl rfl)) zU))),?_⟩
  obtain ⟨dx,ka,ia,et,hk,hin⟩:=id sc;obtain ⟨o,dg,os⟩:=hin.get n;refine ⟨_,rfl,_,rfl,t,C,dx,_,_,rfl,et,T.cl,T.n3,lkI _ _ _,ia,o,rfl,dg,_,rfl,?_⟩;rw [os];unfold zBN at q;by_cases hn:n∈inn
  ·rw [if_pos hn] at q;rw [zUV hn];exact zI (zI ⟨_,rfl,t,C,dx,_,_,rfl,et,T.cl,T.n1,lkN _ _ _,_,rfl,bs 2,fun ea he=>zAy q ea he⟩)
  ·rw [if_neg hn] at q;rw [zUW hn];refine zD ⟨_,rfl,t,dx,_,rfl,et,lkM _ (by decide) (by decide) (by decide) _ _ _,_,rfl,t,n,num,ks,inn,rfl,sc,?_⟩;obtain ⟨o2,dg2,h2⟩:=hk.get n;rcases h2 with ⟨rfl,h⟩|⟨v,r,rfl,h,hr'⟩
   ·rw [h] at q;have e:srt ks n=none:=by unfold srt;rw [h];rfl
    rw [e];exact ⟨zDI _ _,true,rfl,zI ⟨_,rfl,t,C,dx,_,_,rfl,et,T.cl,T.n1,lkN _ _ _,_,rfl,bs 2,fun ea he=>zAy q ea he⟩⟩
   ·rw [h] at q;have e:srt ks n=some (zAC r):=by unfold srt;rw [h];rfl
    rw [e];cases r with
    | fun' m ps ex=>
     obtain ⟨tr,qa,x,rfl,h1,h0,_⟩:=hr';refine ⟨zDI _ _,_,rfl,zD ⟨_,rfl,t,C,dx,_,_,rfl,et,T.cl,T.n2,lkK _ _ _,_,rfl,ka,_,rfl,dg2,tr,_,_,_,rfl,rfl,SqT.of h1,rfl,qa,_,rfl,.inr (SqT.of h0),_,rfl,rfl,?_⟩⟩;have hl:(ps.map V.str).length=ps.length:=zUF ..;by_cases hk':ps.length=k
     ·have q:Out H Q E NN BC num (if ps.length=k then none else some (true,n)):=q;rw [if_pos hk'] at q;refine ⟨false,?_,zD (q _ (zA.refl _))⟩;rw [hl,hk'];exact congrArg V.bl (by rw [zUV rfl];rfl)
     ·have q:Out H Q E NN BC num (if ps.length=k then none else some (true,n)):=q;rw [if_neg hk'] at q;refine ⟨true,?_,zI ⟨_,rfl,t,C,dx,_,_,rfl,et,T.cl,T.n1,lkN _ _ _,_,rfl,bs 2,fun ea he=>zAy q ea he⟩⟩;rw [hl];exact congrArg V.bl (by rw [zUW (fun z=>hk' (by injection z with z;omega))];rfl)
    | _=>exact ⟨zDI _ _,_,rfl,zI ⟨_,rfl,t,C,dx,_,_,rfl,et,T.cl,T.n1,lkN _ _ _,_,rfl,bs 2,fun ea he=>zAy q ea he⟩⟩
def bad(ks:Kn):Ex->List Str->Option (Bool×Str)
 | .num _ _ none,_=>none
 | .num _ _ (some us),_=>zBM ks us
 | .nam s,i=>zDG ks i s
 | .neg e,i=>bad ks e i
 | .bin _ e f,i=>(bad ks e i).or (bad ks f i)
 | .pow e _,i=>bad ks e i
 | .ite a b c d,i=>(bad ks a i).or ((bad ks b i).or ((bad ks c i).or (bad ks d i)))
 | .loop s e _ f,i=>(bad ks e i).or (bad ks f (s::i))
 | .call1 s e,i=>(zBN ks i s 1).or (bad ks e i)
 | .call2 s e f,i=>(zBN ks i s 2).or ((bad ks e i).or (bad ks f i))
 | .call3 s e f g,i=>(zBN ks i s 3).or ((bad ks e i).or ((bad ks f i).or (bad ks g i)))
def zCt(ks:Kn)(i:List Str):List Ex->Option (Bool×Str)
 | [] =>none
 | e::es=>(bad ks e i).or (zCt ks i es)
theorem zAX(o:Option (Bool×Str)):o.or none=o:=by cases o<;>rfl
def zPz(C NN BC:Addr)(d:Nat):Sp:=fun vs H Q E=> ∃(t:Addr) (v:V) (e:Ex) (num:Int) (ks:Kn) (inn:List Str),vs= [.ref t,v] /\Sc C H t num ks inn/\Xt H e v/\Ok e/\ze e<=d/\inn.length+d<=1000/\Out H Q E NN BC num (bad ks e inn)
theorem zHQ:FnScope ["self","told","word","inner","kid"] ["self","told"] (zK mLa):=fs
theorem zRk(F:Fun K "look_at" "Scope.look_at" mLa f fd)(B:Bn mg)(T:SC K C)
  (mtU:Meth K C "look_at_unit" fU) (bU:zO K fdU ["self","unit"] []) (GU:FnOk P w K mg base (yo P w) 4 fU fdU ["self","unit"] (zMl C NN BC))
  (mtV:Meth K C "look_at_value" fV) (bV:zO K fdV ["self","name"] []) (GV:FnOk P w K mg base (yo P w) 4 fV fdV ["self","name"] (zQL C NN BC))
  (mtC:Meth K C "look_at_call" fC) (bC:zO K fdC ["self","name","count"] []) (GC:FnOk P w K mg base (yo P w) 4 fC fdC ["self","name","count"] (zPP C NN BC))
  (mtW:Meth K C "within" fW) (bW:zO K fdW ["self","name"] []) (GW:FnOk P w K mg base CX0 3 fW fdW ["self","name"] (zME C))
  (mtL:Meth K C "look_at" f) (bL:zO K fd ["self","told"] [])
  (FK:Fun K "kids_of" "kids_of" zFI fK fdK) (bK:zO K fdK ["told"] []) (mK:mg "kids_of" =some (.ref fK)) (GK:FnOk P w K mg base CX0 1 fK fdK ["told"] zFx):
  ∀d,FnOk P w K mg base (yo P w) (5+d) f fd ["self","told"] (zPz C NN BC d):=by
 have cl:=T.cl;intro d
 induction d with
 | zero=>
  refine (Fr.Fun.toD F).okXD zHQ (fun vs H Q E h=>?_) (fun cdv A outer s H vs Q E hr h=>?_)
  ·obtain ⟨t,v,e,num,ks,inn,rfl,_⟩:=h;rfl
  ·obtain ⟨t,v,e,num,ks,inn,rfl,_,_,_,h,_⟩:=h;have:=zCM e;omega
 | succ d GL=>
  refine (Fr.Fun.toD F).okXD zHQ (fun vs H Q E h=>?_) (fun cdv A outer s H vs Q E hrL h=>?_)
  ·obtain ⟨t,v,e,num,ks,inn,rfl,_⟩:=h;rfl
  ·obtain ⟨t,v,e,num,ks,inn,rfl,sc,hx,ok,dp,il,q⟩:=h;have hrL:Room (5+d) _:=hrL;have hr4:Room 4 _:=hrL.mono (by omega);have hr3:Room 3 _:=hrL.mono (by omega);have hr1:Room 1 _:=hrL.mono (by omega);obtain ⟨t2,hq2,ht2⟩: ∃t2:TS,QB (zBk (yo P w) P w K mg base ["self","told","word","inner","kid"] "Scope.look_at" (zK mLa) f cdv A outer s H E) ((yT mLa).drop 5) t2/\
     ∀(wd:V) (H1:Hp),zA H H1->Out H Q E NN BC num (zCt ks inn (zi e))->t2 {nx:=fun _ H'=>Q .non H',rt:=Q} [some (.ref t),some v,some wd,none,none] H1:=by
    refine ⟨_,(zH
   (zAh PassesOwn.leaving rfl (zCR (K:=K) rfl (zR GK hr1 rfl mK FK.kp bK .nil zP (qc (qw 1 rfl) zB rfl) rfl rfl rfl)) (zb 4 zHQ.nd rfl (Or.inl rfl) (.inr rfl)) (zH
    (yP (zAp (qw 0 rfl) cl mtL GL hrL bL .nil yj (qc (qw 4 rfl) zB rfl) rfl rfl rfl) rfl)) (fun _=>rfl))),?_⟩
    intro wd H1 s1 q1;refine ⟨_,rfl,v,e,rfl,hx.same s1,ok,fun l xs H2 s2 nl el hxs=>⟨l,rfl,⟨_,SqL.of el⟩,?_⟩⟩;have s02:=s1.trans s2;have lx:=Paired.len hxs;refine zAB xs.length (fun i σ H'=> ∃x,σ= [some (.ref t),some v,some wd,none,x] /\i<=xs.length/\zA H2 H'/\Out H' Q E NN BC num (zCt ks inn ((zi e).drop i))) ⟨_,rfl,zUN _,zA.refl _,Out.same q1 s02⟩ ?_ ?_ ?_ ?_
    ·rintro i σ H' hi ⟨x,rfl,_,s3,_⟩;exact ⟨_,_,SqL.of (s3 _ _ el),zTy hi⟩
    ·rintro σ H' ⟨x,rfl,_,s3,_⟩;exact ⟨_,SqL.of (s3 _ _ el),zUC _⟩
    ·rintro i σ H' y H4 hi ⟨x,rfl,_,s3,q⟩ ⟨rfl,hy⟩;have hy':=hy _ (SqL.of (s3 _ _ el));rw [zTy hi] at hy';cases hy';obtain ⟨k,ek,hk⟩:=Paired.get' hxs (zTy hi);have hkm:=zUa ek;have dk:=zBj hkm;have hd:(zi e).drop i=k::(zi e).drop (i+1):=by
      obtain ⟨hlt,e'⟩:=zUy.mp ek;rw [<-e',List.drop_eq_getElem_cons hlt]
     rw [hd] at q;have s03:=s02.trans s3;obtain ⟨dx,ka,ia,et,_⟩:=id sc;exact ⟨_,rfl,t,dx,_,rfl,s03 _ _ et,lkM _ (by decide) (by decide) (by decide) _ _ _,_,rfl,t,xs[i],k,num,ks,inn,rfl,sc.same s03,hk.same s3,zDk ok hkm,by omega,by omega,Out.seq q fun q2 H5 s5=>⟨_,rfl,hi,s3.trans s5,q2.same s5⟩⟩
    ·rintro σ H' ⟨x,rfl,_,s3,q⟩;rw [List.drop_eq_nil_of_le (by omega)] at q;exact q _ (zA.refl _)
   refine ⟨_,QB.out (zF
   (zY 2 zHQ.nd rfl (zJ (K:=K) rfl (qw 1 rfl) zC (fun _ _=>rfl)) rfl) (zF
   (zV (t_w (zAi (zL zZ (qw 2 rfl) zG rfl) (zAU (zFL (zJ (K:=K) rfl (qw 1 rfl) zC (fun _ _=>rfl)) rfl)))) (zH
    (yP (zAp (qw 0 rfl) cl mtU GU hr4 bU .nil yj (qc (zJ (K:=K) rfl (qw 1 rfl) zC (fun _ _=>rfl)) zB rfl) rfl rfl rfl) rfl)) zU) (zF
   (zV (zL zZ (qw 2 rfl) zG rfl) (zH
    (yP (zAp (qw 0 rfl) cl mtV GV hr4 bV .nil yj (qc (zJ (K:=K) rfl (qw 1 rfl) zC (fun _ _=>rfl)) zB rfl) rfl rfl rfl) rfl)) zU) (zF
   (zV (zL zZ (qw 2 rfl) zG rfl) (zH
    (yP (zAp (qw 0 rfl) cl mtC GC hr4 bC .nil yj (qc (zJ (K:=K) rfl (qw 1 rfl) zC (fun _ _=>rfl)) (qc (zq (zm (K:=K) rfl) rfl B.len yB (qc (zJ (K:=K) rfl (qw 1 rfl) zC (fun _ _=>rfl)) zB rfl) rfl) zB rfl) rfl) rfl rfl rfl) rfl)) zU) (zF
   (zV (zL zZ (qw 2 rfl) zG rfl) (zF
    (yP (zAp (qw 0 rfl) cl mtL GL hrL bL .nil yj (qc (zJ (K:=K) rfl (qw 1 rfl) zC (fun _ _=>rfl)) zB rfl) rfl rfl rfl) rfl) (zF
    (zY 3 zHQ.nd rfl (zDw (qw 0 rfl) cl mtW GW hr3 bW .nil zP (qc (zJ (K:=K) rfl (qw 1 rfl) zC (fun _ _=>rfl)) zB rfl) rfl rfl rfl) rfl) (zF
    (yP (zAp (qw 3 rfl) cl mtL GL hrL bL .nil yj (qc (zJ (K:=K) rfl (qw 1 rfl) zC (fun _ _=>rfl)) zB rfl) rfl rfl rfl) rfl) (zH
    zKv)))) zU) hq2))))),?_⟩
   obtain ⟨dx,ka,ia,et,_⟩:=id sc;cases e with
   | num a b u=>
    obtain ⟨ta,pa,y,rfl,h1,h2,h3⟩:=hx;cases u with
    | none=>
     cases h3;exact ⟨_,rfl,ta,_,_,_,rfl,rfl,SqT.of h1,rfl,_,rfl,rfl,_,rfl,zI ⟨_,rfl,ta,_,_,_,rfl,rfl,SqT.of h1,rfl,_,rfl,zD ⟨_,rfl,rfl,_,rfl,zD ⟨_,rfl,rfl,_,rfl,zD ⟨_,rfl,rfl,_,rfl,zD (ht2 _ _ (zA.refl _) q)⟩⟩⟩⟩⟩
    | some us=>
     obtain ⟨u,ts,rfl,hu⟩:=id h3;refine ⟨_,rfl,ta,_,_,_,rfl,rfl,SqT.of h1,rfl,_,rfl,rfl,_,rfl,zI ⟨_,rfl,ta,_,_,_,rfl,rfl,SqT.of h1,rfl,_,rfl,zI ⟨_,rfl,t,dx,_,rfl,et,lkM _ (by decide) (by decide) (by decide) _ _ _,_,rfl,ta,_,_,_,rfl,rfl,SqT.of h1,rfl,t,.ref u,us,num,ks,inn,rfl,sc,h3,ok.2.2.2.le,Out.seq (o2:=none) (by rw [zAX];exact q) fun q2 H1 s1=>⟨_,rfl,rfl,_,rfl,zD ⟨_,rfl,rfl,_,rfl,zD ⟨_,rfl,rfl,_,rfl,zD (ht2 _ _ s1 q2)⟩⟩⟩⟩⟩⟩
   | nam n=>
    obtain ⟨ta,rfl,h1⟩:=hx;exact ⟨_,rfl,ta,_,_,_,rfl,rfl,SqT.of h1,rfl,_,rfl,rfl,_,rfl,zD (zD ⟨_,rfl,rfl,_,rfl,zI ⟨_,rfl,t,dx,_,rfl,et,lkM _ (by decide) (by decide) (by decide) _ _ _,_,rfl,ta,_,_,_,rfl,rfl,SqT.of h1,rfl,t,n,num,ks,inn,rfl,sc,Out.seq (o2:=none) (by rw [zAX];exact q) fun q2 H1 s1=>⟨_,rfl,rfl,_,rfl,zD ⟨_,rfl,rfl,_,rfl,zD (ht2 _ _ s1 q2)⟩⟩⟩⟩)⟩
   | neg e=>
    obtain ⟨ta,x,rfl,h1,h2⟩:=hx;exact ⟨_,rfl,ta,_,_,_,rfl,rfl,SqT.of h1,rfl,_,rfl,rfl,_,rfl,zD (zD ⟨_,rfl,rfl,_,rfl,zD ⟨_,rfl,rfl,_,rfl,zD ⟨_,rfl,rfl,_,rfl,zD (ht2 _ _ (zA.refl _) (by simpa only [zCt,zi,bad,zAX] using q))⟩⟩⟩)⟩
   | pow e n=>
    obtain ⟨ta,x,rfl,h1,h2⟩:=hx;exact ⟨_,rfl,ta,_,_,_,rfl,rfl,SqT.of h1,rfl,_,rfl,rfl,_,rfl,zD (zD ⟨_,rfl,rfl,_,rfl,zD ⟨_,rfl,rfl,_,rfl,zD ⟨_,rfl,rfl,_,rfl,zD (ht2 _ _ (zA.refl _) (by simpa only [zCt,zi,bad,zAX] using q))⟩⟩⟩)⟩
   | bin wd e f=>
    obtain ⟨ta,x,y,rfl,h1,h2⟩:=hx;obtain ⟨hw,_⟩:=ok;rcases hw with rfl | rfl | rfl | rfl
    all_goals exact ⟨_,rfl,ta,_,_,_,rfl,rfl,SqT.of h1,rfl,_,rfl,rfl,_,rfl,zD (zD ⟨_,rfl,rfl,_,rfl,zD ⟨_,rfl,rfl,_,rfl,zD ⟨_,rfl,rfl,_,rfl,zD (ht2 _ _ (zA.refl _) (by simpa only [zCt,zi,bad,zAX] using q))⟩⟩⟩)⟩
   | ite a b c e=>
    obtain ⟨ta,x,y,z,u,rfl,h1,h2⟩:=hx;exact ⟨_,rfl,ta,_,_,_,rfl,rfl,SqT.of h1,rfl,_,rfl,rfl,_,rfl,zD (zD ⟨_,rfl,rfl,_,rfl,zD ⟨_,rfl,rfl,_,rfl,zD ⟨_,rfl,rfl,_,rfl,zD (ht2 _ _ (zA.refl _) (by simpa only [zCt,zi,bad,zAX] using q))⟩⟩⟩)⟩
   | call1 n e=>
    obtain ⟨ta,qa,x,rfl,h1,h0,h2⟩:=hx;exact ⟨_,rfl,ta,_,_,_,rfl,rfl,SqT.of h1,rfl,_,rfl,rfl,_,rfl,zD (zD ⟨_,rfl,rfl,_,rfl,zD ⟨_,rfl,rfl,_,rfl,zI ⟨_,rfl,t,dx,_,rfl,et,lkM _ (by decide) (by decide) (by decide) _ _ _,_,rfl,ta,_,_,_,rfl,rfl,SqT.of h1,rfl,_,rfl,ta,_,_,_,rfl,rfl,SqT.of h1,rfl,qa,_,rfl,.inr (SqT.of h0),t,n,1,num,ks,inn,rfl,sc,Out.seq q fun q2 H1 s1=>⟨_,rfl,rfl,_,rfl,zD (ht2 _ _ s1 (by simpa only [zCt,zi,bad,zAX] using q2))⟩⟩⟩⟩)⟩
   | call2 n e f=>
    obtain ⟨ta,qa,x,y,rfl,h1,h0,h2⟩:=hx;exact ⟨_,rfl,ta,_,_,_,rfl,rfl,SqT.of h1,rfl,_,rfl,rfl,_,rfl,zD (zD ⟨_,rfl,rfl,_,rfl,zD ⟨_,rfl,rfl,_,rfl,zI ⟨_,rfl,t,dx,_,rfl,et,lkM _ (by decide) (by decide) (by decide) _ _ _,_,rfl,ta,_,_,_,rfl,rfl,SqT.of h1,rfl,_,rfl,ta,_,_,_,rfl,rfl,SqT.of h1,rfl,qa,_,rfl,.inr (SqT.of h0),t,n,2,num,ks,inn,rfl,sc,Out.seq q fun q2 H1 s1=>⟨_,rfl,rfl,_,rfl,zD (ht2 _ _ s1 (by simpa only [zCt,zi,bad,zAX] using q2))⟩⟩⟩⟩)⟩
   | call3 n e f g=>
    obtain ⟨ta,qa,x,y,z,rfl,h1,h0,h2⟩:=hx;exact ⟨_,rfl,ta,_,_,_,rfl,rfl,SqT.of h1,rfl,_,rfl,rfl,_,rfl,zD (zD ⟨_,rfl,rfl,_,rfl,zD ⟨_,rfl,rfl,_,rfl,zI ⟨_,rfl,t,dx,_,rfl,et,lkM _ (by decide) (by decide) (by decide) _ _ _,_,rfl,ta,_,_,_,rfl,rfl,SqT.of h1,rfl,_,rfl,ta,_,_,_,rfl,rfl,SqT.of h1,rfl,qa,_,rfl,.inr (SqT.of h0),t,n,3,num,ks,inn,rfl,sc,Out.seq q fun q2 H1 s1=>⟨_,rfl,rfl,_,rfl,zD (ht2 _ _ s1 (by simpa only [zCt,zi,bad,zAX] using q2))⟩⟩⟩⟩)⟩
   | loop n e k f=>
    obtain ⟨ta,x,y,rfl,h1,h2,h3⟩:=hx;have dp:1+max (ze e) (ze f)<=d+1:=dp;refine ⟨_,rfl,ta,_,_,_,rfl,rfl,SqT.of h1,rfl,_,rfl,rfl,_,rfl,zD (zD ⟨_,rfl,rfl,_,rfl,zD ⟨_,rfl,rfl,_,rfl,zD ⟨_,rfl,rfl,_,rfl,zI ⟨_,rfl,t,dx,_,rfl,et,lkM _ (by decide) (by decide) (by decide) _ _ _,_,rfl,ta,_,_,_,rfl,rfl,SqT.of h1,rfl,t,x,e,num,ks,inn,rfl,sc,h2,ok.2.1,by omega,by omega,Out.seq q fun q2 H1 s1=>?_⟩⟩⟩⟩)⟩;refine ⟨_,rfl,t,dx,_,rfl,s1 _ _ et,lkM _ (by decide) (by decide) (by decide) _ _ _,_,rfl,ta,_,_,_,rfl,rfl,SqT.of (s1 _ _ h1),rfl,t,n,num,ks,inn,rfl,sc.same s1,by omega,fun H2 t' s2 sc2=>?_⟩;have s12:=s1.trans s2;obtain ⟨dx2,ka2,ia2,et2,_⟩:=id sc2;exact ⟨_,rfl,t',dx2,_,rfl,et2,lkM _ (by decide) (by decide) (by decide) _ _ _,_,rfl,ta,_,_,_,rfl,rfl,SqT.of (s12 _ _ h1),rfl,t',y,f,num,ks,n::inn,rfl,sc2,h3.same s12,ok.2.2.2.2,by omega,by simp only [zUu];omega,Out.same (Out.seq (o2:=none) (by rw [zAX];exact q2) fun q3 H3 s3=>q3 H3 s3) s12⟩
inductive Tl
 | tw
 | no
 | ct
deriving DecidableEq
def cK(TW NN BC:Addr):Tl->Addr
 | .tw=>TW
 | .no=>NN
 | .ct=>BC
def twP:List Str->List Str->Option Str
 | _,[] =>none
 | i,p::ps=>if p∈i then some p else twP (p::i) ps
def zPS(C TW:Addr):Sp:=fun vs H Q E=> ∃(t qa:Addr) (ps:List Str) (num:Int) (ks:Kn),vs= [.ref t,.ref qa] /\Sc C H t num ks [] /\H qa=some (.tup (ps.map V.str))/\ps.length<=3/\
 match twP [] ps with
 | some p=>Rf2 H E TW "row" "name" (.int num) (.str p)
 | none=> ∀H' t',zA H H'->Sc C H' t' num ks ps.reverse->Q (.ref t') H'
theorem zJU:FnScope ["scope","params","inner","param"] ["scope","params"] (zK zJc):=fs
theorem zRf(F:Fun K "scope_of_params" "scope_of_params" zJc f fd)(T:SC K C)
  (mtW:Meth K C "within" fW) (bW:zO K fdW ["self","name"] []) (GW:FnOk P w K mg base CX0 3 fW fdW ["self","name"] (zME C))
  (XTW:RX K mg "Twice" TW fTW "row" "name") (bTW:zO K fdTW ["self","row","name"] []) (GTW:FnOk P w K mg base CX0 1 fTW fdTW ["self","row","name"] (zCs TW "row" "name")):
  FnOk P w K mg base (yo P w) 4 f fd ["scope","params"] (zPS C TW):=by
 have cl:=T.cl;refine (Fr.Fun.toD F).okXD zJU (fun vs H Q E h=>?_) (fun _ A _ s H vs Q E hr3 h=>?_)
 ·obtain ⟨t,qa,ps,num,ks,rfl,_⟩:=h;rfl
 ·obtain ⟨t,qa,ps,num,ks,rfl,sc,eq,pl,q⟩:=h;have hr3:Room 3 _:=hr3;have hr2:Room 2 _:=hr3.mono (by decide);have hu:=zAb hr3;refine ⟨_,QB.out (zF
   (zY 2 zJU.nd rfl (qw 0 rfl) rfl) (zF
   (zAh PassesOwn.leaving rfl (zBT (K:=K) rfl (qw 1 rfl)) (zb 3 zJU.nd rfl (Or.inl rfl) (.inr rfl)) (zF
    (zV (zHA hu (qw 3 rfl) (zAu (K:=K) rfl (qw 2 rfl) rfl) rfl) (zH
     (zBO XTW.mx GTW hr2 rfl XTW.mg bTW zP zAK rfl (qc (zAu (K:=K) rfl (qw 0 rfl) rfl) (qc (qw 3 rfl) zB rfl) rfl) rfl rfl rfl)) zU) (zH
    (zY 2 zJU.nd rfl (zDw (qw 2 rfl) cl mtW GW hr3 bW .nil zP (qc (qw 3 rfl) zB rfl) rfl rfl rfl) rfl))) (fun _=>rfl)) (zH
   (zS (qw 2 rfl))))),?_⟩
  refine ⟨_,rfl,_,rfl,qa,rfl,⟨_,SqT.of eq⟩,?_⟩;refine zAB ps.length (fun i σ H'=> ∃(t':Addr) (x:Option V) (inn:List Str),σ= [some (.ref t),some (.ref qa),some (.ref t'),x] /\zA H H'/\Sc C H' t' num ks inn/\inn.length<=i/\
   match twP inn (ps.drop i) with
   | some p=>Rf2 H E TW "row" "name" (.int num) (.str p)
   | none=> ∀H' t',zA H H'->Sc C H' t' num ks ((ps.drop i).reverse++inn)->Q (.ref t') H') ⟨t,_,[],rfl,zA.refl _,sc,zUC _,by simpa using q⟩ ?_ ?_ ?_ ?_
  ·rintro i σ H' hi ⟨t',x,inn,rfl,s1,_⟩;exact ⟨_,.str ps[i],SqT.of (s1 _ _ eq),by simp [hi]⟩
  ·rintro σ H' ⟨t',x,inn,rfl,s1,_⟩;exact ⟨_,SqT.of (s1 _ _ eq),by simp⟩
  ·rintro i σ H' y H2 hi ⟨t',x,inn,rfl,s1,sc1,il,q⟩ ⟨rfl,hy⟩;have hy':=hy _ (SqT.of (s1 _ _ eq));rw [zUD,zTy hi] at hy';cases hy';rw [List.drop_eq_getElem_cons hi] at q;obtain ⟨dx,ka,ia,et,hk,hin⟩:=id sc1;obtain ⟨o,dg,os⟩:=hin.get ps[i];obtain ⟨dx0,ka0,ia0,et0,_⟩:=sc.same s1;refine ⟨_,rfl,_,rfl,t',C,dx,_,_,rfl,et,T.cl,T.n3,lkI _ _ _,ia,o,rfl,dg,_,rfl,?_⟩;rw [os];unfold twP at q;by_cases hn:ps[i] ∈inn
   ·rw [if_pos hn] at q;rw [zUV hn];exact zI ⟨_,rfl,t,C,dx0,_,_,rfl,et0,T.cl,T.n1,lkN _ _ _,_,rfl,bs 2,fun ea he=>zAy (Rf2.same q s1) ea he⟩
   ·rw [if_neg hn] at q;rw [zUW hn];refine zD ⟨_,rfl,t',dx,_,rfl,et,lkM _ (by decide) (by decide) (by decide) _ _ _,_,rfl,t',ps[i],num,ks,inn,rfl,sc1,by omega,fun H3 t3 s3 sc3=>⟨t3,_,ps[i] ::inn,rfl,s1.trans s3,sc3,by simp only [zUu];omega,?_⟩⟩;cases hz:twP (ps[i] ::inn) (ps.drop (i+1)) with
    | some p=>rw [hz] at q;exact q
    | none=>
     rw [hz] at q;intro H4 t4 s4 sc4;exact q H4 t4 s4 (by rw [List.reverse_cons,List.append_assoc];exact sc4)
  ·rintro σ H' ⟨t',x,inn,rfl,s1,sc1,il,q⟩;rw [List.drop_eq_nil_of_le (zUC _)] at q;exact ⟨_,rfl,q _ _ s1 (by simpa using sc1)⟩
def up(o:Option (Bool×Str)):Option (Tl×Str):=o.map fun p=>(if p.1 then .ct else .no,p.2)
def yV(ks:Kn):Rw->Option (Tl×Str)
 | .show' e=>up (bad ks e [])
 | .unit n=>if (ks.lookup n).isSome then some (.tw,n) else none
 | .take n us=>if (ks.lookup n).isSome then some (.tw,n) else up (zBM ks us)
 | .let' n e=>if (ks.lookup n).isSome then some (.tw,n) else up (bad ks e [])
 | .fun' n ps e=>if (ks.lookup n).isSome then some (.tw,n) else match twP [] ps with
  | some p=>some (.tw,p)
  | none=>up (bad ks e ps.reverse)
def zCU(H:Hp)(Q:VK)(E:XK)(TW NN BC:Addr)(num:Int):Option (Tl×Str)->Prop
 | none=> ∀H',zA H H'->Q .non H'
 | some (k,n)=>Rf2 H E (cK TW NN BC k) "row" "name" (.int num) (.str n)
theorem zCU.same{o:Option (Tl×Str)}(h:zCU H Q E TW NN BC num o)(s:zA H H1):zCU H1 Q E TW NN BC num o:=by
 cases o with
 | none=>exact fun H' s'=>h H' (s.trans s')
 | some p=>exact Rf2.same h s
theorem zCU.up{o:Option (Bool×Str)}(h:zCU H Q E TW NN BC num (up o))(k: ∀H',zA H H'->Q .non H'->Q' .non H'):Out H Q' E NN BC num o:=by
 cases o with
 | none=>exact fun H' s'=>k H' s' (h H' s')
 | some p=>
  obtain ⟨b,n⟩:=p;cases b
  ·exact h
  ·exact h
def zQj(C TW NN BC:Addr):Sp:=fun vs H Q E=> ∃(v:V) (r:Rw) (num:Int) (ka:Addr) (ks:Kn),vs= [.int num,v,.ref ka] /\Rt H r v/\OkR r/\zEf H ka ks/\zCU H Q E TW NN BC num (yV ks r)
theorem zMu:FnScope ["number","row","known","scope","inner"] ["number","row","known"] (zK zFf):=fs
theorem zSL(F:Fun K "look_at_row" "look_at_row" zFf f fd)(T:SC K C)(MSc:Mk K C fSc)(mSc:mg "Scope" =some (.ref C))(bSc:zO K fdSc ["self","number","known","inner"] [])
  (GSc:FnOk P w K mg base CX0 1 fSc fdSc ["self","number","known","inner"] (zMZ C))
  (mtU:Meth K C "look_at_unit" fU) (bU:zO K fdU ["self","unit"] []) (GU:FnOk P w K mg base (yo P w) 4 fU fdU ["self","unit"] (zMl C NN BC))
  (mtL:Meth K C "look_at" fL) (bL:zO K fdL ["self","told"] []) (GL:FnOk P w K mg base (yo P w) 15 fL fdL ["self","told"] (zPz C NN BC 10))
  (FP:Fun K "scope_of_params" "scope_of_params" zJc fP fdP) (bP:zO K fdP ["scope","params"] []) (mP:mg "scope_of_params" =some (.ref fP)) (GP:FnOk P w K mg base (yo P w) 4 fP fdP ["scope","params"] (zPS C TW))
  (XTW:RX K mg "Twice" TW fTW "row" "name") (bTW:zO K fdTW ["self","row","name"] []) (GTW:FnOk P w K mg base CX0 1 fTW fdTW ["self","row","name"] (zCs TW "row" "name")):
  FnOk P w K mg base (yo P w) 20 f fd ["number","row","known"] (zQj C TW NN BC):=by
 have cl:=T.cl;refine (Fr.Fun.toD F).okXD zMu (fun vs H Q E h=>?_) (fun _ A _ s H vs Q E hr h=>?_)
 ·obtain ⟨v,r,num,ka,ks,rfl,_⟩:=h;rfl
 ·obtain ⟨v,r,num,ka,ks,rfl,hv,ok,hk,q⟩:=h;have hr30:Room 15 _:=hr.mono (by decide);have hr4:Room 4 _:=hr.mono (by decide);have hr2:Room 2 _:=hr.mono (by decide);have hu:=zAb hr;refine ⟨_,QB.out (zF
   (zY 3 zMu.nd rfl (zKT MSc GSc hr2 rfl mSc bSc .nil zP (qc (qw 0 rfl) (qc (qw 2 rfl) (qc zDz zB rfl) rfl) rfl) rfl rfl rfl) rfl) (zF
   (zV (zL zZ (zJ (K:=K) rfl (qw 1 rfl) zC (fun _ _=>rfl)) zG rfl) (zF
    (yP (zAp (qw 3 rfl) cl mtL GL hr30 bL .nil yj (qc (zJ (K:=K) rfl (qw 1 rfl) zC (fun _ _=>rfl)) zB rfl) rfl rfl rfl) rfl) (zH
    zKv)) zU) (zF
   (zV (zHA hu (zJ (K:=K) rfl (qw 1 rfl) zC (fun _ _=>rfl)) (qw 2 rfl) rfl) (zH
    (zBO XTW.mx GTW hr2 rfl XTW.mg bTW zP zAK rfl (qc (qw 0 rfl) (qc (zJ (K:=K) rfl (qw 1 rfl) zC (fun _ _=>rfl)) zB rfl) rfl) rfl rfl rfl)) zU) (zF
   (zV (zL zZ (zJ (K:=K) rfl (qw 1 rfl) zC (fun _ _=>rfl)) zG rfl) (zH
    (yP (zAp (qw 3 rfl) cl mtU GU hr4 bU .nil yj (qc (zJ (K:=K) rfl (qw 1 rfl) zC (fun _ _=>rfl)) zB rfl) rfl rfl rfl) rfl)) zU) (zF
   (zV (zL zZ (zJ (K:=K) rfl (qw 1 rfl) zC (fun _ _=>rfl)) zG rfl) (zH
    (yP (zAp (qw 3 rfl) cl mtL GL hr30 bL .nil yj (qc (zJ (K:=K) rfl (qw 1 rfl) zC (fun _ _=>rfl)) zB rfl) rfl rfl rfl) rfl)) zU) (zH
   (zV (zL zZ (zJ (K:=K) rfl (qw 1 rfl) zC (fun _ _=>rfl)) zG rfl) (zF
    (zY 4 zMu.nd rfl (zFq GP hr4 rfl mP FP.kp bP .nil yj (qc (qw 3 rfl) (qc (zJ (K:=K) rfl (qw 1 rfl) zC (fun _ _=>rfl)) zB rfl) rfl) rfl rfl rfl) rfl) (zH
    (yP (zAp (qw 4 rfl) cl mtL GL hr30 bL .nil yj (qc (zJ (K:=K) rfl (qw 1 rfl) zC (fun _ _=>rfl)) zB rfl) rfl rfl rfl) rfl))) zU))))))),?_⟩
  refine ⟨_,rfl,_,rfl,fun d hd=>?_⟩;obtain ⟨H1,g1,s1,e1⟩:=yH hd (.dK []);rw [g1];refine fun t dx ht hdx hne=>?_;have s2:zA H1 (L2.upd (L2.upd (L2.upd H1 dx (.own t)) t (.ins C dx [])) t (.ins C dx [("number",.int num),("known",.ref ka),("inner",.ref d)])):=zA.store (zA.store (zA.upd hdx) ht) ht;refine ⟨t,dx,_,_,_,rfl,zE,rfl,?_⟩;have et:(L2.upd (L2.upd (L2.upd H1 dx (.own t)) t (.ins C dx [])) t (.ins C dx [("number",.int num),("known",.ref ka),("inner",.ref d)])) t=_:=zE;generalize L2.upd (L2.upd (L2.upd H1 dx (.own t)) t (.ins C dx [])) t (.ins C dx [("number",.int num),("known",.ref ka),("inner",.ref d)])=H2 at s2 et⊢;have s02:=s1.trans s2;have sc:Sc C H2 t num ks [] :=⟨dx,ka,d,et,hk.same s02,[],s2 _ _ e1,zUC _,fun n=>by simp;rfl⟩;have hv:=hv.same s02;have q:=q.same s02;have hk:=hk.same s02;clear e1 hd g1 ht hdx;cases r with
  | show' e=>
   obtain ⟨ta,x,rfl,h1,hx⟩:=hv;exact ⟨_,rfl,ta,_,_,_,rfl,rfl,SqT.of h1,rfl,rfl,_,rfl,zI ⟨_,rfl,t,dx,_,rfl,et,lkM _ (by decide) (by decide) (by decide) _ _ _,_,rfl,ta,_,_,_,rfl,rfl,SqT.of h1,rfl,t,x,e,num,ks,[],rfl,sc,hx,ok.ok,ok.d,by decide,zCU.up q fun H' s' z=>z⟩⟩
  | unit n=>
   obtain ⟨ta,rfl,h1⟩:=hv;simp only [yV] at q;obtain ⟨o,dg,h⟩:=hk.get n;refine ⟨_,rfl,ta,_,_,_,rfl,rfl,SqT.of h1,rfl,rfl,_,rfl,zD ⟨_,rfl,ta,_,_,_,rfl,rfl,SqT.of h1,rfl,_,rfl,ka,o,rfl,dg,_,rfl,?_⟩⟩;rcases h with ⟨rfl,h⟩|⟨_,_,rfl,h,_⟩
   all_goals rw [h] at q
   rotate_left
   ·exact zI ⟨_,rfl,_,rfl,ta,_,_,_,rfl,rfl,SqT.of h1,rfl,bs 2,fun ea he=>zAy q ea he⟩
   ·exact zD ⟨_,rfl,ta,_,_,_,rfl,rfl,SqT.of h1,rfl,rfl,_,rfl,zD ⟨_,rfl,ta,_,_,_,rfl,rfl,SqT.of h1,rfl,rfl,_,rfl,zD ⟨_,rfl,ta,_,_,_,rfl,rfl,SqT.of h1,rfl,rfl,_,rfl,zD (q _ (zA.refl _))⟩⟩⟩
  | take n us=>
   obtain ⟨ta,y,rfl,h1,hy⟩:=hv;simp only [yV] at q;obtain ⟨o,dg,h⟩:=hk.get n;refine ⟨_,rfl,ta,_,_,_,rfl,rfl,SqT.of h1,rfl,rfl,_,rfl,zD ⟨_,rfl,ta,_,_,_,rfl,rfl,SqT.of h1,rfl,_,rfl,ka,o,rfl,dg,_,rfl,?_⟩⟩;rcases h with ⟨rfl,h⟩|⟨_,_,rfl,h,_⟩
   all_goals rw [h] at q
   rotate_left
   ·exact zI ⟨_,rfl,_,rfl,ta,_,_,_,rfl,rfl,SqT.of h1,rfl,bs 2,fun ea he=>zAy q ea he⟩
   ·exact zD ⟨_,rfl,ta,_,_,_,rfl,rfl,SqT.of h1,rfl,rfl,_,rfl,zI ⟨_,rfl,t,dx,_,rfl,et,lkM _ (by decide) (by decide) (by decide) _ _ _,_,rfl,ta,_,_,_,rfl,rfl,SqT.of h1,rfl,t,y,us,num,ks,[],rfl,sc,hy,ok.2.le,zCU.up q fun H' s' z=>⟨_,rfl,ta,_,_,_,rfl,rfl,SqT.of (s' _ _ h1),rfl,rfl,_,rfl,zD ⟨_,rfl,ta,_,_,_,rfl,rfl,SqT.of (s' _ _ h1),rfl,rfl,_,rfl,zD z⟩⟩⟩⟩
  | let' n e=>
   obtain ⟨ta,x,rfl,h1,hx⟩:=hv;simp only [yV] at q;obtain ⟨o,dg,h⟩:=hk.get n;refine ⟨_,rfl,ta,_,_,_,rfl,rfl,SqT.of h1,rfl,rfl,_,rfl,zD ⟨_,rfl,ta,_,_,_,rfl,rfl,SqT.of h1,rfl,_,rfl,ka,o,rfl,dg,_,rfl,?_⟩⟩;rcases h with ⟨rfl,h⟩|⟨_,_,rfl,h,_⟩
   all_goals rw [h] at q
   rotate_left
   ·exact zI ⟨_,rfl,_,rfl,ta,_,_,_,rfl,rfl,SqT.of h1,rfl,bs 2,fun ea he=>zAy q ea he⟩
   ·exact zD ⟨_,rfl,ta,_,_,_,rfl,rfl,SqT.of h1,rfl,rfl,_,rfl,zD ⟨_,rfl,ta,_,_,_,rfl,rfl,SqT.of h1,rfl,rfl,_,rfl,zI ⟨_,rfl,t,dx,_,rfl,et,lkM _ (by decide) (by decide) (by decide) _ _ _,_,rfl,ta,_,_,_,rfl,rfl,SqT.of h1,rfl,t,x,e,num,ks,[],rfl,sc,hx,ok.2.ok,ok.2.d,by decide,zCU.up q fun H' s' z=>⟨_,rfl,ta,_,_,_,rfl,rfl,SqT.of (s' _ _ h1),rfl,rfl,_,rfl,zD z⟩⟩⟩⟩
  | fun' n ps e=>
   obtain ⟨ta,qa,x,rfl,h1,h0,hx⟩:=hv;simp only [yV] at q;obtain ⟨o,dg,h⟩:=hk.get n;refine ⟨_,rfl,ta,_,_,_,rfl,rfl,SqT.of h1,rfl,rfl,_,rfl,zD ⟨_,rfl,ta,_,_,_,rfl,rfl,SqT.of h1,rfl,_,rfl,ka,o,rfl,dg,_,rfl,?_⟩⟩;rcases h with ⟨rfl,h⟩|⟨_,_,rfl,h,_⟩
   all_goals rw [h] at q
   rotate_left
   ·exact zI ⟨_,rfl,_,rfl,ta,_,_,_,rfl,rfl,SqT.of h1,rfl,bs 2,fun ea he=>zAy q ea he⟩
   ·refine zD ⟨_,rfl,ta,_,_,_,rfl,rfl,SqT.of h1,rfl,rfl,_,rfl,zD ⟨_,rfl,ta,_,_,_,rfl,rfl,SqT.of h1,rfl,rfl,_,rfl,zD ⟨_,rfl,ta,_,_,_,rfl,rfl,SqT.of h1,rfl,rfl,_,rfl,zI ⟨_,rfl,_,rfl,ta,_,_,_,rfl,rfl,SqT.of h1,rfl,t,qa,ps,num,ks,rfl,sc,h0,ok.2.2.1,?_⟩⟩⟩⟩;replace q:zCU H2 Q E TW NN BC num (match twP [] ps with
     | some p=>some (.tw,p)
     | none=>up (bad ks e ps.reverse)):=q
    cases hz:twP [] ps with
    | some p=>rw [hz] at q;exact q
    | none=>
     rw [hz] at q;intro H3 t3 s3 sc3;obtain ⟨dx3,ka3,ia3,et3,_⟩:=id sc3;have p3:=ok.2.2.1;exact ⟨_,rfl,t3,dx3,_,rfl,et3,lkM _ (by decide) (by decide) (by decide) _ _ _,_,rfl,ta,_,_,_,rfl,rfl,SqT.of (s3 _ _ h1),rfl,t3,x,e,num,ks,ps.reverse,rfl,sc3,hx.same s3,ok.2.2.2.2.ok,ok.2.2.2.2.d,by simp only [List.length_reverse];omega,zCU.up (q.same s3) fun H' s' z=>z⟩
def nmR:Rw->Option Str
 | .unit n=>some n
 | .take n _=>some n
 | .let' n _=>some n
 | .fun' n _ _=>some n
 | .show' _=>none
def zCp(ks:Kn)(r:Rw):Kn:=match nmR r with
 | none=>ks
 | some n=>ks++ [(n,r)]
def zAR:Kn->Nat->List Rw->Option (Tl×Nat×Str)
 | _,_,[] =>none
 | ks,i,r::rs=>match yV ks r with
  | some (k,n)=>some (k,i,n)
  | none=>zAR (zCp ks r) (i+1) rs
def zKG(H:Hp)(Q:VK)(E:XK)(TW NN BC:Addr):Option (Tl×Nat×Str)->Prop
 | none=> ∀H',zA H H'->Q .non H'
 | some (k,i,n)=>Rf2 H E (cK TW NN BC k) "row" "name" (.int (i:Int)) (.str n)
theorem zMD(h:yV ks r=none)(e:nmR r=some n):ks.lookup n=none:=by
 cases hl:ks.lookup n with
 | none=>rfl
 | some x=>
  cases r with
  | show' e=>cases e
  | _=>
   simp only [nmR,Option.some.injEq] at e;subst e;simp [yV,hl] at h
theorem Rt.row(h:Rt H r v):(r=r/\nmR r=none/\ ∃t ys,v= .ref t/\H t=some (.tup (.str "show" ::ys)))\/ ∃t n ys,nmR r=some n/\zAC r≠ "show" /\v= .ref t/\H t=some (.tup (.str (zAC r):: .str n::ys)):=by
 cases r with
 | unit n=>obtain ⟨t,e,h⟩:=h;exact .inr ⟨t,n,_,rfl,by simp [zAC];decide,e,h⟩
 | take n us=>obtain ⟨t,y,e,h,_⟩:=h;exact .inr ⟨t,n,_,rfl,by simp [zAC];decide,e,h⟩
 | let' n e=>obtain ⟨t,y,e,h,_⟩:=h;exact .inr ⟨t,n,_,rfl,by simp [zAC];decide,e,h⟩
 | fun' n ps e=>obtain ⟨t,q,y,e,h,_⟩:=h;exact .inr ⟨t,n,_,rfl,by simp [zAC];decide,e,h⟩
 | show' e=>obtain ⟨t,y,e,h,_⟩:=h;exact .inl ⟨rfl,rfl,t,_,e,h⟩
def zEo(TW NN BC BT:Addr):Sp:=fun vs H Q E=> ∃x:V,vs= [x] /\((PrB H x false/\Rf1 H E BT "at" .non)\/ ∃t xs rs,x= .ref t/\H t=some (.tup xs)/\1<=xs.length/\xs.length<=16/\RtL H xs rs/\yb rs<=6/\zKG H Q E TW NN BC (zAR [] 0 rs))
theorem zKK:FnScope ["program","known","number","row"] ["program"] (zK zFc):=fs
theorem zSI(F:Fun K "need_program" "need_program" zFc f fd)(B:Bn mg)
  (FI:Fun K "is_program" "is_program" zGw fI fdI) (bI:zO K fdI ["thing"] []) (mI:mg "is_program" =some (.ref fI)) (GI:FnOk P w K mg base CX0 10 fI fdI ["thing"] zQM)
  (FR:Fun K "look_at_row" "look_at_row" zFf fR fdR) (bR:zO K fdR ["number","row","known"] []) (mR:mg "look_at_row" =some (.ref fR)) (GR:FnOk P w K mg base (yo P w) 20 fR fdR ["number","row","known"] (zQj C TW NN BC))
  (XBT:RX1 K mg "BadText" BT fBT "at") (bBT:zO K fdBT ["self","at"] []) (GBT:FnOk P w K mg base CX0 1 fBT fdBT ["self","at"] (zMd BT "at")):
  FnOk P w K mg base (yo P w) 21 f fd ["program"] (zEo TW NN BC BT):=by
 refine (Fr.Fun.toD F).okXD zKK (fun vs H Q E h=>?_) (fun _ A _ s H vs Q E hr31 h=>?_)
 ·obtain ⟨x,rfl,_⟩:=h;rfl
 ·obtain ⟨x,rfl,h⟩:=h;have hr31:Room 20 _:=hr31;have hr10:Room 10 _:=hr31.mono (by decide);have hr2:Room 2 _:=hr31.mono (by decide);have hu:=zAb hr31;refine ⟨_,QB.out (zF
   (zV (zAl (zAM (zR GI hr10 rfl mI FI.kp bI .nil zP (qc (qw 0 rfl) zB rfl) rfl rfl rfl) (fun _=>rfl))) (zH
    (zBO XBT.mx GBT hr2 rfl XBT.mg bBT zP zAK rfl (qc zBX zB rfl) rfl rfl rfl)) zU) (zF
   (zY 1 zKK.nd rfl zDz rfl) (zH
   (zAh PassesOwn.leaving rfl (zFn rfl B.enumerate (qc (qw 0 rfl) zB rfl) rfl) (zCj (K:=K) (n:=2) rfl rfl (ya (zb 2 zKK.nd rfl (Or.inl rfl) (.inr rfl)) (ya (zb 3 zKK.nd rfl (Or.inl rfl) (.inr rfl)) zCc rfl) rfl) rfl rfl) (zF
    (yP (zFq GR hr31 rfl mR FR.kp bR .nil yj (qc (qw 2 rfl) (qc (qw 3 rfl) (qc (qw 1 rfl) zB rfl) rfl) rfl) rfl rfl rfl) rfl) (zH
    (zV (zL yw (zJ (K:=K) rfl (qw 3 rfl) zC (fun _ _=>rfl)) zG rfl) (zH
     (zDn hu (qw 1 rfl) (zJ (K:=K) rfl (qw 3 rfl) zC (fun _ _=>rfl)) (qw 3 rfl) rfl)) zU))) (fun _=>rfl))))),?_⟩
  rcases h with ⟨hb,q⟩|⟨t,xs,rs,rfl,ex,l1,l16,hx,u6,q⟩
  ·exact ⟨_,rfl,x,false,rfl,hb,fun H1 s1=>⟨_,rfl,zI ⟨bs 1,fun ea he=>zPZ (Rf1.same q s1) ea he⟩⟩⟩
  ·refine ⟨_,rfl,.ref t,_,rfl,.good ex l1 l16 hx,fun H1 s1=>?_⟩;rw [zUV u6];refine ⟨_,rfl,zD fun ka hka=>?_⟩;have nka:H ka=none:=zA.none s1 hka;obtain ⟨H2,g2,s2,e2⟩:=yH hka (.dK []);rw [g2];have s02:=s1.trans s2;have lx:=Paired.len hx;refine ⟨_,rfl,t,rfl,⟨_,s02 _ _ ex⟩,?_⟩;refine zAB xs.length (fun i σ H'=> ∃(a b:Option V) (kvs:List (Key×V)) (ks:Kn),σ= [some (.ref t),some (.ref ka),a,b] /\i<=xs.length/\zA H H'/\H' ka=some (.dK kvs)/\kvs.length<=i/\Paired (fun (p:Key×V) (k:Str×Rw)=>p.1= .inr k.1/\Rt H k.2 p.2) kvs ks/\zKG H Q E TW NN BC (zAR ks i (rs.drop i))) ⟨_,_,[],[],rfl,zUN _,s02,e2,zUC _,.nil,q⟩ ?_ ?_ ?_ ?_
   ·rintro i σ H' hi ⟨a,b,kvs,ks,rfl,_,s3,_⟩;exact ⟨_,_,s3 _ _ ex,zTy hi⟩
   ·rintro σ H' ⟨a,b,kvs,ks,rfl,_,s3,_⟩;exact ⟨_,s3 _ _ ex,rfl⟩
   ·rintro i σ H' y H4 hi ⟨a,b,kvs,ks,rfl,_,s3,e3,kl,pk,q⟩ ⟨pt,z,hz,npt,rfl,rfl⟩;have hz':=hz _ (s3 _ _ ex);rw [zTy hi] at hz';cases hz';obtain ⟨H5,g5,s5,e5⟩:=yH npt (.tup [.int (i:Int),xs[i]]);rw [g5];refine ⟨pt,_,rfl,SqT.of e5,rfl,_,_,rfl,_,_,rfl,rfl,?_⟩;obtain ⟨r,er,hr,okr⟩:=Paired.get' hx (zTy hi);have hd:rs.drop i=r::rs.drop (i+1):=by
     obtain ⟨hlt,e'⟩:=zUy.mp er;rw [<-e',List.drop_eq_getElem_cons hlt]
    rw [hd] at q;have s05:=s3.trans s5;unfold zAR at q;refine ⟨_,rfl,_,rfl,_,rfl,xs[i],r,(i:Int),ka,ks,rfl,hr.same s05,okr,⟨kvs,s5 _ _ e3,Paired.mapM pk fun _ _ _ ⟨c,d⟩=>⟨c,d.same s05⟩⟩,?_⟩;cases hb:yV ks r with
    | some p=>
     obtain ⟨k,n⟩:=p;rw [hb] at q;exact Rf2.same q s05
    | none=>
     rw [hb] at q;replace q:zKG H Q E TW NN BC (zAR (zCp ks r) (i+1) (rs.drop (i+1))):=q;intro H6 s6;have s06:=s05.trans s6;have e6:=s6 _ _ (s5 _ _ e3);rcases (hr.same s06).row with ⟨_,hn,tr,ys,ev,et⟩|⟨tr,n,ys,hn,hs,ev,et⟩
     ·unfold zCp at q;rw [hn] at q;exact ⟨_,rfl,tr,_,_,_,ev,rfl,SqT.of et,zg (j:=0) rfl,rfl,_,rfl,zD ⟨_,_,kvs,ks,rfl,hi,s06,e6,by omega,pk,q⟩⟩
     ·unfold zCp at q;rw [hn] at q;have hl:=zMD hb hn;have hv:yZ kvs (.inr n)=none:=by
       rcases zDh n pk with ⟨a,_⟩|⟨_,_,_,b,_⟩
       ·exact a
       ·rw [hl] at b;cases b
      have hw:(!decide (V.str (zAC r)=V.str "show"))=true:=by
       rw [zUW (fun z=>hs (by injection z))];rfl
      refine ⟨_,rfl,tr,_,_,_,ev,rfl,SqT.of et,zg (j:=0) rfl,rfl,true,congrArg V.bl hw,zI ⟨_,rfl,_,rfl,_,rfl,tr,_,_,_,ev,rfl,SqT.of et,zg (j:=1) rfl,ka,_,rfl,.inl ⟨kvs,.inr n,e6,rfl,by rw [zUJ];omega,rfl⟩,?_⟩⟩;rw [zDT _ hv];exact ⟨_,_,_,_,rfl,hi,zA.store s06 nka,zE,by simp;omega,Paired.snoc' pk ⟨rfl,hr⟩,q⟩
   ·rintro σ H' ⟨a,b,kvs,ks,rfl,_,s3,e3,kl,pk,q⟩;rw [List.drop_eq_nil_of_le (by omega)] at q;exact q _ s3
theorem zHr(h:Nm n):ltS "" n:=by
 unfold Nm yJ at h;simp only [zUp,decide_eq_true_eq] at h;have h1:=h.1.1.1;unfold ltS;have hl:n.length=n.cps.toList.length:=by simp [Str.length]
 cases e:n.cps.toList with
 | nil=>rw [hl,e] at h1;simp at h1
 | cons a l=>exact List.nil_lt_cons a l
theorem zLa: ∀{us:Us} {a:Str},(us.map (·.1)).Pairwise ltS->(∀p∈us,Nm p.1/\p.2≠0/\ltS a p.1)->UpU a us
 | [],_,_,_=>trivial
 | p::us,a,h,k=>by
  obtain ⟨h1,h2,h3⟩:=k p (List.mem_cons_self ..);rw [zUr,List.pairwise_cons] at h;exact ⟨h1,h2,h3,zLa h.2 fun q hq=>⟨(k q (zUd _ hq)).1,(k q (zUd _ hq)).2.1,h.1 _ (List.mem_map_of_mem hq)⟩⟩
theorem zAJ{p:V->Prop}(hx: ∀v∈xs,p v)(hl:(xs.length:Int)=m)(hm:0<m): ∃v,atI xs (n % m)=some v/\p v:=by
 have h0:=zUP n (by omega:m≠0);have h1:=zUK n hm;obtain ⟨j,hj⟩: ∃j:Nat,n % m=j:=⟨(n % m).toNat,by omega⟩;have hj2:j<xs.length:=by omega
 exact ⟨xs[j],by rw [hj];exact zg (zTy hj2),hx _ (zUb hj2)⟩
theorem hd(h: ∀U:L2.St->Hp->Prop,(∀σ' H',u D σ' H'->U σ' H')->t {D with nx:=U} σ H):zKC t u D σ H:=h (u D) fun _ _ z=>z
structure UtOk(H:Hp)(p:Addr)(ks:List Str)(us:Us):Prop where
 un:Un H (.ref p) us
 gd:GoodU us
 sub: ∀q∈us,q.1∈ks
def zMS:Sp:=fun vs H Q _=> ∃(n:Int) (a:Addr) (ks:List Str),vs= [.int n,.ref a] /\H a=some (.lst (ks.map V.str))/\ks.length<=40/\ks.Nodup/\(∀k∈ks,Nm k)/\ ∀H' p us,zA H H'->UtOk H' p ks us->Q (.ref p) H'
theorem zFt:FnScope ["_law_number_here","_law_names_here","_law_pairs","_law_k","_law_name","_law_own"] ["_law_number_here","_law_names_here"] (zK zEz):=fs
theorem zSE(F:Fun K "_law_unit" "_law_unit" zEz f fd)(B:Bn mg)
  (FM:Fun K "_law_mixed" "_law_mixed" zFs fM fdM) (bM:zO K fdM ["_law_number_here","_law_k"] []) (mM:mg "_law_mixed" =some (.ref fM)) (GM:FnOk P w K mg base CX0 1 fM fdM ["_law_number_here","_law_k"] zHC):
  FnOk P w K mg base CX0 2 f fd ["_law_number_here","_law_names_here"] zMS:=by
 refine F.ok zFt (fun vs H Q E h=>?_) (fun _ A _ s H vs Q E hr1 h=>?_)
 ·obtain ⟨n,a,ks,rfl,_⟩:=h;rfl
 ·obtain ⟨n,a,ks,rfl,ea,kl,nd,nm,q⟩:=h;refine ⟨_,QB.out (zF
   (zY 2 zFt.nd rfl (zd zB) rfl) (zF
   (zAh PassesOwn.never rfl (zLL (K:=K) rfl rfl B.enumerate (qc (zq (zID (K:=K) rfl) rfl B.sorted zKr (qc (qw 1 rfl) zB rfl) rfl) zB rfl) rfl) (zCj (K:=K) (n:=2) rfl rfl (ya (zb 3 zFt.nd rfl (Or.inl rfl) (.inr rfl)) (ya (zb 4 zFt.nd rfl (Or.inl rfl) (.inr rfl)) zCc rfl) rfl) rfl rfl) (zF
    (zY 5 zFt.nd rfl (zCh (zl (zj (zR GM hr1 rfl mM FM.kp bM .nil zP (qc (qw 0 rfl) (qc (qw 3 rfl) zB rfl) rfl) rfl rfl rfl) zC) zC) zC) rfl) (zF
    (zV (zL zZ (qw 5 rfl) zC rfl) (zH
     (zY 5 zFt.nd rfl (yN (K:=K) rfl (zd (qc zC (qc (zER zC) (qc zC zB rfl) rfl) rfl)) (zl (zj (zR GM hr1 rfl mM FM.kp bM .nil zP (qc (qw 0 rfl) (qc (qw 3 rfl) zB rfl) rfl) rfl rfl rfl) zC) zC) (fun _ _=>rfl)) rfl)) zU) (zH
    (zV (t_w (zAi (zL yw (qw 5 rfl) zC rfl) (zAU (zL zDd (zl (zR GM hr1 rfl mM FM.kp bM .nil zP (qc (qw 0 rfl) (qc (qw 3 rfl) zB rfl) rfl) rfl rfl rfl) zC) zC rfl)))) (zH
     (yP (zAk (K:=K) rfl (qw 2 rfl) (zM (qc (qw 4 rfl) (qc (qw 5 rfl) zB rfl) rfl)) rfl rfl rfl) rfl)) zU)))) (fun _=>rfl)) (zH
   (zS (zBZ (zBD (K:=K) rfl) rfl B.tuple yn (qc (qw 2 rfl) zB rfl) rfl))))),?_⟩
  refine yc fun l H1 hl s1 e1=>?_;refine ⟨_,rfl,a,ks,rfl,SqL.of (s1 _ _ ea),by omega,fun l2 ks' hl2 pm so=>?_⟩;obtain ⟨H2,g2,s2,e2⟩:=yH hl2 (.lst (ks'.map V.str));rw [g2];have s02:=s1.trans s2;have nd':ks'.Nodup:=pm.nodup_iff.mpr nd;have pw:=zKU so nd';have ll:ks'.length=ks.length:=pm.length_eq;refine ⟨l2,rfl,⟨_,SqL.of e2⟩,?_⟩;refine zAB ks'.length (fun i σ H'=> ∃(x y z:Option V) (ts:List Addr) (us:Us),σ= [some (.int n),some (.ref a),some (.ref l),x,y,z] /\i<=ks'.length/\zA H H'/\H' l2=some (.lst (ks'.map V.str))/\H' l=some (.lst (ts.map V.ref))/\ts.length<=i/\
   Paired (fun t (p:Str×Int)=>H' t=some (.tup [.str p.1,.int p.2])) ts us/\(us.map (·.1)).Sublist (ks'.take i)/\ ∀p∈us,p.2≠0/\ -9<=p.2/\p.2<=9)
   ⟨_,_,_,[],[],rfl,zUN _,s02,e2,s2 _ _ e1,zUC _,.nil,List.nil_sublist _,fun p hp=>by simp at hp⟩ ?_ ?_ ?_ ?_
  ·rintro i σ H' hi ⟨x,y,z,ts,us,rfl,_,s3,e3,_⟩;exact ⟨_,.str ks'[i],SqL.of e3,by simp [hi]⟩
  ·rintro σ H' ⟨x,y,z,ts,us,rfl,_,s3,e3,_⟩;exact ⟨_,SqL.of e3,by simp⟩
  ·rintro i σ H' v H4 hi ⟨x,y,z,ts,us,rfl,_,s3,e3,e4,tl,pu,su,ex⟩ ⟨pt,u,hu,npt,rfl,rfl⟩;have hu':=hu _ (SqL.of e3);rw [zUD,zTy hi] at hu';cases hu';obtain ⟨H5,g5,s5,e5⟩:=yH npt (.tup [.int (i:Int),.str ks'[i]]);rw [g5];refine ⟨pt,_,rfl,SqT.of e5,rfl,_,_,rfl,_,_,rfl,rfl,hd fun Z hz=>?_⟩;have hi0:(0:Int)<=(i:Int)/\(i:Int)<=1000:=⟨by omega,by omega⟩;refine ⟨_,rfl,_,rfl,n,i,rfl,hi0.1,hi0.2,fun r r0 r1=>⟨_,_,rfl,rfl,⟨by decide,by decide⟩,_,_,rfl,rfl,by decide,_,_,rfl,rfl,hz _ _ ?_⟩⟩;refine hd fun Z hz=>?_;have nl:l2≠l:=fun z=>by rw [z,e1] at hl2;cases hl2
   have nxt: ∀(own:Int) (H6:Hp),zA H' H6-> ∃(x y z:Option V) (ts:List Addr) (us:Us),[some (.int n),some (.ref a),some (.ref l),some (.int (i:Int)),some (.str ks'[i]),some (.int own)] = [some (.int n),some (.ref a),some (.ref l),x,y,z] /\i+1<=ks'.length/\zA H H6/\H6 l2=some (.lst (ks'.map V.str))/\H6 l=some (.lst (ts.map V.ref))/\ts.length<=i+1/\
     Paired (fun t (p:Str×Int)=>H6 t=some (.tup [.str p.1,.int p.2])) ts us/\(us.map (·.1)).Sublist (ks'.take (i+1))/\ ∀p∈us,p.2≠0/\ -9<=p.2/\p.2<=9:=fun own H6 sk=>
    ⟨_,_,_,ts,us,rfl,hi,s3.trans sk,sk _ _ e3,sk _ _ e4,by omega,Paired.mapM pu fun _ _ _ e=>sk _ _ e,su.trans (List.take_sublist_take_left (by omega)),ex⟩
   have fin: ∀(own:Int) (H6:Hp),zA H5 H6-> -9<=own->own<=9->Z [some (.int n),some (.ref a),some (.ref l),some (.int (i:Int)),some (.str ks'[i]),some (.int own)] H6:=fun own H6 s6 o1 o2=>hz _ _ (by
    have sk:zA H' H6:=s5.trans s6;refine ⟨_,rfl,rfl,_,rfl,zp (fun c=>?_) (fun c=>?_)⟩
    ·refine ⟨_,rfl,_,rfl,n,i,rfl,hi0.1,hi0.2,fun r r0 r1=>⟨_,_,rfl,rfl,by decide,_,_,rfl,rfl,_,rfl,zp (fun c2=>?_) (fun c2=>?_)⟩⟩
     ·refine ⟨_,rfl,.inl ⟨rfl,_,SqL.of (sk _ _ e4)⟩,_,rfl,_,rfl,nw fun pn H7 s7 e7=>?_⟩;have s37:=sk.trans s7;have el:=s37 _ _ e4;refine ⟨l,_,_,rfl,rfl,el,by rw [zUJ];simp;omega,?_⟩;have T8:zc H7 (L2.upd H7 l (.lst (ts.map V.ref++ [.ref pn]))):=zc.lst el;have own0:own≠0:=fun z=>by rw [z] at c;simp at c
      refine ⟨_,_,_,ts++ [pn],us++ [(ks'[i],own)],rfl,hi,zA.store (s3.trans s37) hl,by rw [zN nl];exact s37 _ _ e3,by rw [zE,zUT];rfl,by simp;omega,Paired.snoc' (Paired.mapM pu fun _ _ _ e=>T8 _ _ (s37 _ _ e)) (T8 _ _ e7),?_,fun p hp=>?_⟩
      ·rw [zUT,zUU,zTy hi];exact su.append (List.Sublist.refl _)
      ·rcases zUq.mp hp with hp | hp
       ·exact ex p hp
       ·rw [zUs] at hp;subst hp;exact ⟨own0,o1,o2⟩
     ·exact nxt own H6 sk
    ·exact nxt own H6 sk)
   refine ⟨_,rfl,rfl,_,rfl,zp (fun c=>?_) (fun c=>fin _ _ (zA.refl _) (by omega) (by omega))⟩;refine ⟨_,rfl,bs 3,fun d hd'=>?_⟩;obtain ⟨H6,g6,s6,e6⟩:=yH hd' (.lst [.int 9,.int (-9),.int 1]);rw [g6];refine ⟨_,rfl,_,rfl,n,i,rfl,hi0.1,hi0.2,fun r2 r20 r21=>⟨_,_,rfl,rfl,⟨by decide,by decide⟩,_,_,rfl,rfl,by decide,?_⟩⟩;obtain ⟨v,ev,o,rfl,o1,o2⟩:=zAJ (n:=r2/45) (p:=fun v=> ∃o:Int,v= .int o/\ -9<=o/\o<=9) (xs:= [.int 9,.int (-9),.int 1]) (m:=3) (fun v hv=>by
    simp at hv;rcases hv with rfl | rfl | rfl
    ·exact ⟨9,rfl,by decide,by decide⟩
    ·exact ⟨-9,rfl,by decide,by decide⟩
    ·exact ⟨1,rfl,by decide,by decide⟩) rfl (by decide)
   exact ⟨d,_,_,_,rfl,rfl,SqL.of e6,ev,fin _ _ s6 o1 o2⟩
  ·rintro σ H' ⟨x,y,z,ts,us,rfl,_,s3,e3,e4,tl,pu,su,ex⟩;rw [List.take_of_length_le (zUC _)] at su;refine ⟨_,rfl,l,_,rfl,.inl ⟨SqL.of e4,fun p hp=>?_⟩⟩;obtain ⟨H6,g6,s6,e6⟩:=yH hp (.tup (ts.map V.ref));rw [g6];have mem: ∀p∈us,p.1∈ks':=fun p hp=>su.subset (List.mem_map_of_mem hp);have mem': ∀p∈us,p.1∈ks:=fun p hp=>pm.mem_iff.mp (mem p hp);refine q H6 p us (s3.trans s6) ⟨⟨p,ts,rfl,e6,Paired.mapM pu fun _ _ _ e=>s6 _ _ e⟩,⟨zLa (pw.sublist su) fun p hp=>⟨nm _ (mem' p hp),(ex p hp).1,zHr (nm _ (mem' p hp))⟩,fun p hp=>(ex p hp).2,?_⟩,mem'⟩;have:=su.length_le;simp at this;omega
def zPv:Sp:=fun vs H Q _=> ∃n:Int,vs= [.int n] /\0<=n/\ ∀p H' (a b:Int),zA H H'->H' p=some (.tup [.int a,.int b])->0<=a->0<b->Int.gcd a b=1->Q (.ref p) H'
theorem zHO:FnScope ["_law_number_here","_law_above","_law_below","_law_one","_law_other"] ["_law_number_here"] (zK zJR):=fs
theorem zSf(F:Fun K "_law_amount" "_law_amount" zJR f fd)(B:Bn mg):FnOk P w K mg base CX0 1 f fd ["_law_number_here"] zPv:=by
 refine F.ok zHO (fun vs H Q E h=>?_) (fun _ A _ s H vs Q E hr1 h=>?_)
 ·obtain ⟨n,rfl,_⟩:=h;rfl
 ·obtain ⟨n,rfl,n0,q⟩:=h;refine ⟨_,QB.out (zF
   (zY 1 zHO.nd rfl (yN (K:=K) rfl (zd (qc (zl (zj (qw 0 rfl) zC) zC) (qc (zl (zj (qw 0 rfl) zC) zC) (qc zC (qc (zl (zj (qw 0 rfl) zC) (zJV zC zC)) (qc zC (qc zC zB rfl) rfl) rfl) rfl) rfl) rfl)) (zl (qw 0 rfl) zC) (fun _ _=>rfl)) rfl) (zF
   (zY 2 zHO.nd rfl (yN (K:=K) rfl (zd (qc zC (qc zC (qc (yg zC (zl (zj (qw 0 rfl) zC) zC)) (qc (yg zC (zl (zl (zj (qw 0 rfl) zC) (zJV zC zC)) (zCh (zJV zC zC) zC))) zB rfl) rfl) rfl) rfl)) (zl (zj (qw 0 rfl) zC) zC) (fun _ _=>rfl)) rfl) (zF
   (zJT (i:=3) (j:=4) rfl zHO.nd rfl rfl (by decide) rfl rfl (qc (qw 1 rfl) (qc (qw 2 rfl) zB rfl) rfl) rfl rfl) (zF
   (zJB PassesOwn.never (zL zBx (qw 4 rfl) zC rfl) (zH
    (zJT (i:=3) (j:=4) rfl zHO.nd rfl rfl (by decide) rfl rfl (qc (qw 4 rfl) (qc (zCh (qw 3 rfl) (zHK (zj (qw 3 rfl) (qw 4 rfl)) (qw 4 rfl))) zB rfl) rfl) rfl rfl))) (zH
   (zS (zM (qc (zj (qw 1 rfl) (zq (zGf rfl) rfl B.max zLC (qc zC (qc (qw 3 rfl) zB rfl) rfl) rfl)) (qc (zj (qw 2 rfl) (zq (zGf rfl) rfl B.max zLC (qc zC (qc (qw 3 rfl) zB rfl) rfl) rfl)) zB rfl) rfl)))))))),?_⟩
  refine hd fun Z hz=>?_;refine ⟨_,rfl,_,_,rfl,rfl,⟨by decide,by decide⟩,_,_,rfl,rfl,by decide,_,rfl,_,_,rfl,rfl,⟨by decide,by decide⟩,_,_,rfl,rfl,by decide,_,rfl,_,_,rfl,rfl,⟨by decide,by decide⟩,_,_,rfl,rfl,⟨by decide,by decide,by decide⟩,_,_,rfl,rfl,by decide,nw fun l H1 s1 e1=>?_⟩;have h9:(10:Int)^(9:Int).toNat=1000000000:=by decide
  obtain ⟨v,ev,A,rfl,A1⟩:=zAJ (n:=n) (p:=fun v=> ∃o:Nat,v= .int (o:Int)/\o<1000000000) (xs:= [.int (n/6 % 4),.int (n/6 % 100),.int 0,.int (n/6 % 10^(9:Int).toNat),.int 1,.int 12]) (m:=6) (fun v hv=>by
   have z: ∀(o:Int),v= .int o->0<=o->o<1000000000-> ∃o:Nat,v= .int (o:Int)/\o<1000000000:=fun o e h1 h2=>⟨o.toNat,by rw [e,Int.toNat_of_nonneg h1],by omega⟩;simp only [zUo,zUw,or_false] at hv;rw [h9] at hv;rcases hv with h | h | h | h | h | h<;>exact z _ h (by omega) (by omega)) rfl (by decide)
  refine ⟨_,rfl,_,_,rfl,rfl,by decide,l,_,_,_,rfl,rfl,SqL.of e1,ev,hz _ _ (hd fun Z hz=>?_)⟩;refine ⟨_,rfl,_,_,rfl,rfl,⟨by decide,by decide⟩,_,_,rfl,rfl,by decide,_,_,rfl,rfl,?_⟩;refine ⟨_,rfl,_,_,rfl,rfl,⟨by decide,by decide⟩,_,_,rfl,rfl,⟨by decide,by decide,by decide⟩,_,_,rfl,rfl,by decide,_,_,rfl,rfl,⟨by decide,by decide,by decide⟩,_,_,rfl,rfl,_,_,rfl,rfl,by decide,_,_,rfl,rfl,nw fun l2 H2 s2 e2=>?_⟩;obtain ⟨v,ev2,Bl,rfl,B0,B1⟩:=zAJ (n:=n/7) (p:=fun v=> ∃o:Nat,v= .int (o:Int)/\0<o/\o<1000000000) (xs:= [.int 1,.int 1,.int (1+n/600 % 9),.int (1+n/24 % 10^(9:Int).toNat %(10^(9:Int).toNat - 1))]) (m:=4) (fun v hv=>by
   have z: ∀(o:Int),v= .int o->1<=o->o<1000000000-> ∃o:Nat,v= .int (o:Int)/\0<o/\o<1000000000:=fun o e h1 h2=>⟨o.toNat,by rw [e,Int.toNat_of_nonneg (by omega)],by omega,by omega⟩;simp only [zUo,zUw,or_false] at hv;rw [h9] at hv;rcases hv with h | h | h | h<;>exact z _ h (by omega) (by omega)) rfl (by decide)
  refine ⟨_,rfl,_,_,rfl,rfl,⟨by decide,by decide⟩,_,_,rfl,rfl,by decide,l2,_,_,_,rfl,rfl,SqL.of e2,ev2,hz _ _ (hd fun Z hz=>?_)⟩;have s02:=s1.trans s2;refine ⟨_,rfl,_,rfl,_,_,rfl,hz _ _ (hd fun Z hz=>?_)⟩;refine ⟨fun m σ H'=> ∃x y:Nat,σ= [some (.int n),some (.int (A:Int)),some (.int (Bl:Int)),some (.int (x:Int)),some (.int (y:Int))] /\H'=H2/\x<1000000000/\y<1000000000/\Nat.gcd x y=Nat.gcd A Bl/\y=m,⟨_,A,Bl,rfl,rfl,A1,B1,rfl,rfl⟩,?_⟩;rintro m σ H' ⟨x,y,rfl,rfl,hx,hy,hg,rfl⟩;refine ⟨_,rfl,_,_,rfl,rfl,_,rfl,zp (fun cc=>?_) (fun cc=>?_)⟩
  ·have y0:0<y:=by simpa using cc
   refine ⟨fun σ' H''=> ∃m',m'<y/\ ∃x y:Nat,σ'= [some (.int n),some (.int (A:Int)),some (.int (Bl:Int)),some (.int (x:Int)),some (.int (y:Int))] /\H''=H'/\x<1000000000/\y<1000000000/\Nat.gcd x y=Nat.gcd A Bl/\y=m',fun _ _ z=>z,?_⟩;refine ⟨_,rfl,_,rfl,_,rfl,_,rfl,_,_,rfl,rfl,⟨by omega,by omega⟩,_,rfl,_,_,rfl,rfl,?_,_,_,rfl,rfl,_,_,rfl,?_⟩
   ·exact .inr ⟨by omega,by omega⟩
   ·have hm:=Nat.mod_lt x y0;refine ⟨x % y,hm,y,x % y,?_,rfl,hy,by omega,?_,rfl⟩
    ·have e:(x:Int) -(x:Int)/(y:Int)*(y:Int)=((x % y:Nat):Int):=by
      have:=Int.emod_def (x:Int) (y:Int);rw [Int.mul_comm] at this;rw [Int.natCast_emod];omega
     rw [e];rfl
    ·rw [<-hg,Nat.gcd_comm x y,Nat.gcd_rec y x,Nat.gcd_comm]
  ·have y0:y=0:=by
    have: ¬(0<(y:Int)):=by simpa using cc
    omega
   subst y0;rw [Nat.gcd_zero_right] at hg;refine hz _ _ ?_;have g0:0<x:=by rw [hg];exact Nat.gcd_pos_of_pos_right _ B0
   have e:(if (x:Int)>1 then (x:Int) else 1)=(x:Int):=by
    by_cases h:(x:Int)>1
    ·rw [if_pos h]
    ·rw [if_neg h];omega
   refine ⟨_,rfl,_,rfl,1,x,rfl,?_⟩;rw [e];refine ⟨_,_,rfl,rfl,⟨by omega,by omega⟩,_,rfl,_,rfl,1,x,rfl,?_⟩;rw [e];refine ⟨_,_,rfl,rfl,⟨by omega,by omega⟩,nw fun p H3 s3 e3=>?_⟩;have c1:(A:Int)/(x:Int)=((A/x:Nat):Int):=by rw [Int.natCast_ediv]
   have c2:(Bl:Int)/(x:Int)=((Bl/x:Nat):Int):=by rw [Int.natCast_ediv]
   rw [c1,c2] at e3;refine q p H3 _ _ (s02.trans s3) e3 (Int.natCast_nonneg _) ?_ ?_
   ·have:=Nat.div_pos (a:=Bl) (b:=x) (by rw [hg];exact Nat.gcd_le_right _ B0) g0;exact Int.natCast_pos.mpr this
   ·rw [Int.gcd_natCast_natCast];have:=Nat.coprime_div_gcd_div_gcd (m:=A) (n:=Bl) (by rw [<-hg];exact g0);rw [<-hg] at this;exact this
inductive Lf (U N:List Str):Ex->Prop
 | nam {s:Str} (h:s∈N):Lf U N (.nam s)
 | num {a b:Int} {u:Option Us} (ok:OkN a b u) (hs: ∀us,u=some us-> ∀p∈us,p.1∈U):Lf U N (.num a b u)
structure Nms(H:Hp)(a:Addr)(N:List Str):Prop where
 at_:H a=some (.lst (N.map V.str))
 le:N.length<=40
 nm: ∀n∈N,Nm n
theorem Nms.same(h:Nms H a N)(s:zA H H'):Nms H' a N:=⟨s _ _ h.at_,h.le,h.nm⟩
def zQJ:Sp:=fun vs H Q _=> ∃(n:Int) (u a:Addr) (U N:List Str),vs= [.int n,.ref u,.ref a] /\0<=n/\Nms H u U/\U.Nodup/\Nms H a N/\ ∀H' v e,zA H H'->Xt H' e v->Lf U N e->Q v H'
theorem zQH:FnScope ["_law_number_here","_law_units","_law_names_here","_law_unit_here"] ["_law_number_here","_law_units","_law_names_here"] (zK zGs):=fs
theorem zDi:GoodU [] :=⟨trivial,fun p hp=>by simp at hp,by simp⟩
theorem zSV(F:Fun K "_law_leaf" "_law_leaf" zGs f fd)(B:Bn mg)
  (FU:Fun K "_law_unit" "_law_unit" zEz fU fdU) (bU:zO K fdU ["_law_number_here","_law_names_here"] []) (mU:mg "_law_unit" =some (.ref fU)) (GU:FnOk P w K mg base CX0 2 fU fdU ["_law_number_here","_law_names_here"] zMS)
  (FA:Fun K "_law_amount" "_law_amount" zJR fA fdA) (bA:zO K fdA ["_law_number_here"] []) (mA:mg "_law_amount" =some (.ref fA)) (GA:FnOk P w K mg base CX0 1 fA fdA ["_law_number_here"] zPv):
  FnOk P w K mg base CX0 3 f fd ["_law_number_here","_law_units","_law_names_here"] zQJ:=by
 refine F.ok zQH (fun vs H Q E h=>?_) (fun _ A _ s H vs Q E hr2 h=>?_)
 ·obtain ⟨n,u,a,U,N,rfl,_⟩:=h;rfl
 ·obtain ⟨n,u,a,U,N,rfl,n0,hU,ndU,hN,q⟩:=h;have hr2:Room 2 _:=hr2;have hr1:Room 1 _:=hr2.mono (by decide);have huN:=Nat.lt_of_succ_lt (zAb hr2);refine ⟨_,QB.out (zF
   (zV (t_w (zAi (zL zZ (zl (qw 0 rfl) zC) zC rfl) (zAU (zL (zIE huN) (qw 2 rfl) (zd zB) rfl)))) (zH
    (zS (zM (qc zG (qc (yN (K:=K) rfl (qw 2 rfl) (zl (zj (qw 0 rfl) zC) (zq (zm (K:=K) rfl) rfl B.len yB (qc (qw 2 rfl) zB rfl) rfl)) (fun _ _=>rfl)) zB rfl) rfl)))) zU) (zF
   (zV (zL zZ (zl (zj (qw 0 rfl) zC) zC) zC rfl) (zH
    (zS (zM (qc zG (qc (zM (qc zC (qc zC zB rfl) rfl)) (qc (yN (K:=K) rfl (zd (qc zBX (qc (zM zB) zB rfl) rfl)) (zl (zj (qw 0 rfl) zC) zC) (fun _ _=>rfl)) zB rfl) rfl) rfl)))) zU) (zF
   (zY 3 zQH.nd rfl (yN (K:=K) rfl (zd (qc (zM zB) (qc (zR GU hr2 rfl mU FU.kp bU .nil zP (qc (zj (qw 0 rfl) zC) (qc (qw 1 rfl) zB rfl) rfl) rfl rfl rfl) zB rfl) rfl)) (zl (zj (qw 0 rfl) zC) zC) (fun _ _=>rfl)) rfl) (zH
   (zS (zM (qc zG (qc (zR GA hr1 rfl mA FA.kp bA .nil zP (qc (zj (qw 0 rfl) zC) zB rfl) rfl rfl rfl) (qc (qw 3 rfl) zB rfl) rfl) rfl))))))),?_⟩
  refine hd fun Z hz=>?_;have fin: ∀H1,zA H H1->Z [some (.int n),some (.ref u),some (.ref a),none] H1:=fun H1 s1=>hz _ _ (by
   have hU1:=hU.same s1;refine hd fun Z hz=>?_;refine ⟨_,rfl,_,_,rfl,rfl,⟨by decide,by decide⟩,_,_,rfl,rfl,by decide,rfl,_,rfl,zp (fun c=>?_) (fun c=>hz _ _ (hd fun Z hz=>?_))⟩
   ·refine nw fun p0 H2 s2 e2=>?_;refine yc fun em H3 hem s3 e3=>?_;refine yc fun l H4 hl s4 e4=>?_;obtain ⟨v,ev,hv⟩:=zAJ (n:=n/12) (p:=fun v=>v= .non\/v= .ref em) (xs:= [.non,.ref em]) (m:=2) (fun v hv=>by simpa using hv) rfl (by decide);refine ⟨_,rfl,_,_,rfl,rfl,⟨by decide,by decide⟩,_,_,rfl,rfl,by decide,l,_,_,_,rfl,rfl,SqL.of e4,ev,yc fun t H5 ht s5 e5=>?_⟩;have s15:=s1.trans (s2.trans (s3.trans (s4.trans s5)));rcases hv with rfl | rfl
    ·exact q H5 _ (.num 0 1 none) s15 ⟨t,p0,_,rfl,e5,(s3.trans (s4.trans s5)) _ _ e2,rfl⟩ (.num ⟨by decide,by decide,by decide,rfl,rfl⟩ fun us h=>by cases h)
    ·exact q H5 _ (.num 0 1 (some [])) s15 ⟨t,p0,_,rfl,e5,(s3.trans (s4.trans s5)) _ _ e2,em,[],rfl,(s4.trans s5) _ _ e3,.nil⟩ (.num ⟨by decide,by decide,by decide,zDi⟩ fun us h=>by cases h;exact fun p hp=>by simp at hp)
   ·refine nw fun em H2 s2 e2=>?_;refine ⟨_,rfl,_,_,rfl,rfl,⟨by decide,by decide⟩,_,rfl,_,u,U,rfl,s2 _ _ hU1.at_,hU.le,ndU,hU.nm,fun H3 p us s3 hp=>nw fun l H4 s4 e4=>?_⟩;obtain ⟨v,ev,hv⟩:=zAJ (n:=n/12) (p:=fun v=> ∃us,Un H4 v us/\GoodU us/\ ∀q∈us,q.1∈U) (xs:= [.ref em,.ref p]) (m:=2) (fun v hv=>by
     simp only [zUo,zUw,or_false] at hv;rcases hv with rfl | rfl
     ·exact ⟨[],⟨em,[],rfl,(s3.trans s4) _ _ e2,.nil⟩,zDi,fun q hq=>by simp at hq⟩
     ·exact ⟨us,hp.un.same s4,hp.gd,hp.sub⟩) rfl (by decide)
    obtain ⟨us,hu,gu,su⟩:=hv;refine ⟨_,rfl,_,_,rfl,rfl,⟨by decide,by decide⟩,_,_,rfl,rfl,by decide,l,_,_,_,rfl,rfl,SqL.of e4,ev,hz _ _ ?_⟩;refine ⟨_,rfl,_,_,rfl,rfl,⟨by decide,by decide⟩,_,rfl,by omega,fun p1 H5 a b s5 e5 a0 b0 gc=>⟨_,rfl,nw fun t H6 s6 e6=>?_⟩⟩;exact q H6 _ (.num a b (some us)) (s1.trans (s2.trans (s3.trans (s4.trans (s5.trans s6))))) ⟨t,p1,_,rfl,e6,s6 _ _ e5,hu.same (s5.trans s6)⟩ (.num ⟨a0,b0,gc,gu⟩ fun us' h=>by cases h;exact su))
  refine ⟨_,rfl,_,_,rfl,rfl,by decide,rfl,_,rfl,zp (fun c=>?_) (fun c=>zD (fin _ (zA.refl _)))⟩;refine ⟨_,rfl,nw fun l H1 s1 e1=>?_⟩;refine ⟨a,l,_,rfl,rfl,SqL.of (s1 _ _ hN.at_),SqL.of e1,_,rfl,zp (fun c2=>?_) (fun c2=>fin _ s1)⟩;have hne:N≠ [] :=fun z=>by rw [z] at c2;simp at c2
  have hlen:0<N.length:=List.length_pos_iff.mpr hne;refine ⟨_,rfl,_,rfl,_,_,rfl,rfl,⟨by decide,by decide⟩,_,rfl,a,_,rfl,.inl (SqL.of (s1 _ _ hN.at_)),_,_,rfl,rfl,by simp;omega,?_⟩;obtain ⟨v,ev,x,rfl,hx⟩:=zAJ (n:=n/2) (p:=fun v=> ∃x,v= .str x/\x∈N) (xs:=N.map V.str) (m:=((N.map V.str).length:Int)) (fun v hv=>by
   obtain ⟨x,hx,rfl⟩:=zUt.mp hv;exact ⟨x,rfl,hx⟩) rfl (by simp;omega)
  refine ⟨a,_,_,_,rfl,rfl,SqL.of (s1 _ _ hN.at_),ev,nw fun t H2 s2 e2=>?_⟩;exact q H2 _ (.nam x) (s1.trans s2) ⟨t,rfl,e2⟩ (.nam hx)
def But(ex:List Addr)(H H':Hp):Prop:= ∀b u,H b=some u->b∉ex->H' b=some u
theorem zA.but(s:zA H H')(ex:List Addr):But ex H H':=fun b u e _=>s b u e
theorem But.trans(a:But ex H H1)(b:But ex H1 H2):But ex H H2:=fun c u e z=>b c u (a c u e z) z
theorem SqL.but(h:SqL K H a xs)(b:But [p] H H')(hn:a≠p):SqL K H' a xs:=by
 rcases h with (h |⟨o,h⟩)| h
 ·exact .inl (.inl (b _ _ h (by simpa using hn)))
 ·exact .inl (.inr ⟨o,b _ _ h (by simpa using hn)⟩)
 ·exact .inr h
theorem But.upd:But [p] H (L2.upd H p o):=fun b u e z=>by rw [zN (by simpa using z)];exact e
def Scr(K:zUn)(H:Hp)(a p:Addr)(ns:List Int):Prop:=(SqL K H a (ns.map V.int)/\a≠p)\/ ∀H',SqL K H' a (ns.map V.int)
theorem Scr.sq(h:Scr K H a p ns):SqL K H a (ns.map V.int):=h.elim (fun h=>h.1) fun h=>h H
theorem Scr.but(h:Scr K H a p ns)(b:But [p] H H'):Scr K H' a p ns:=h.elim (fun h=> .inl ⟨SqL.but h.1 b h.2,h.2⟩) .inr
theorem Scr.of(h:SqL K H a (ns.map V.int))(hp:H p=none):Scr K H a p ns:=by
 rcases id h with (e |⟨o,e⟩)| e
 ·exact .inl ⟨h,fun z=>by rw [z,hp] at e;cases e⟩
 ·exact .inl ⟨h,fun z=>by rw [z,hp] at e;cases e⟩
 ·exact .inr fun _=> .inr e
theorem fr6{Pp:Str->Nat->Prop}(h0:Pp y0 n0)(h1:Pp y1 n1)(h2:Pp y2 n2)(h3:Pp y3 n3)(h4:Pp y4 n4)(h5:Pp y5 n5): ∀(j:Nat) (y':Str) (i':Nat),[y0,y1,y2,y3,y4,y5][j]?=some y'-> [n0,n1,n2,n3,n4,n5][j]?=some i'->Pp y' i':=by
 intro j y' i' a b
 match j,a,b with
 | 0,a,b=>simp at a b;subst a b;exact h0
 | 1,a,b=>simp at a b;subst a b;exact h1
 | 2,a,b=>simp at a b;subst a b;exact h2
 | 3,a,b=>simp at a b;subst a b;exact h3
 | 4,a,b=>simp at a b;subst a b;exact h4
 | 5,a,b=>simp at a b;subst a b;exact h5
 | j+6,a,b=>simp at a
inductive Gen (U:List Str) (Cs:List (Str×Nat)):List Str->Ex->Prop
 | leaf {N:List Str} {e:Ex} (h:Lf U N e):Gen U Cs N e
 | neg {N:List Str} {e:Ex} (h:Gen U Cs N e):Gen U Cs N (.neg e)
 | bin {N:List Str} {w:Str} {e f:Ex} (hw:zHT w) (h:Gen U Cs N e) (g:Gen U Cs N f):Gen U Cs N (.bin w e f)
 | pow {N:List Str} {e:Ex} {k:Int} (h:Gen U Cs N e) (k0: -5<=k) (k1:k<=5):Gen U Cs N (.pow e k)
 | ite {N:List Str} {a b c d:Ex} (h1:Gen U Cs N a) (h2:Gen U Cs N b) (h3:Gen U Cs N c) (h4:Gen U Cs N d):Gen U Cs N (.ite a b c d)
 | loop {N:List Str} {s:Str} {e f:Ex} {k:Int} (hs:s∈N\/s= "last") (h:Gen U Cs N e) (k0:0<=k) (k1:k<=12) (g:Gen U Cs (N++ [s]) f):Gen U Cs N (.loop s e k f)
 | call1 {N:List Str} {s:Str} {e:Ex} (hc:(s,1)∈Cs) (h:Gen U Cs N e):Gen U Cs N (.call1 s e)
 | call2 {N:List Str} {s:Str} {e f:Ex} (hc:(s,2)∈Cs) (h:Gen U Cs N e) (g:Gen U Cs N f):Gen U Cs N (.call2 s e f)
 | call3 {N:List Str} {s:Str} {e f g:Ex} (hc:(s,3)∈Cs) (h1:Gen U Cs N e) (h2:Gen U Cs N f) (h3:Gen U Cs N g):Gen U Cs N (.call3 s e f g)
def yA:Ex->Nat
 | .num ..=>0
 | .nam _=>0
 | .neg e=>1+yA e
 | .bin _ e f=>1+(yA e+yA f)
 | .pow e _=>1+yA e
 | .ite a b c d=>1+(yA a+(yA b+(yA c+yA d)))
 | .loop _ e _ f=>1+(yA e+yA f)
 | .call1 _ e=>1+yA e
 | .call2 _ e f=>1+(yA e+yA f)
 | .call3 _ e f g=>1+(yA e+(yA f+yA g))
theorem zEd(e:Ex):yA e<=zQ e:=by induction e<;>simp only [yA,zQ] <;>omega
theorem zAq(e:Ex):zQ e<=1+4*yA e:=by induction e<;>simp only [yA,zQ] <;>omega
structure EnvAt(H:Hp)(u a c:Addr)(U N:List Str)(Cs:List (Str×Nat)):Prop where
 u:Nms H u U
 nd:U.Nodup
 n:Nms H a N
 c: ∃ts:List Addr,H c=some (.lst (ts.map V.ref))/\Paired (fun t (p:Str×Nat)=>H t=some (.tup [.str p.1,.int (p.2:Int)])) ts Cs
 cl:Cs.length<=40
 c3: ∀p∈Cs,1<=p.2/\p.2<=3
theorem Nms.but(h:Nms H a N)(b:But [l] H H')(hl:H l=some (.lst [.int x,.int y])):Nms H' a N:=by
 refine ⟨b _ _ h.at_ fun z=>?_,h.le,h.nm⟩;have z:a=l:=by simpa using z
 have e:=h.at_;rw [z,hl] at e;cases N with
 | nil=>cases e
 | cons n N=>cases e
theorem zc.of_but(b:But [l] H H')(hl:H l=some (.lst xs)):zc H H':=fun c ys e=>b c _ e fun z=>by
 have z:c=l:=by simpa using z
 rw [z,hl] at e;cases e
theorem EnvAt.but{H H':Hp}{u a c l:Addr}{U N:List Str}{Cs:List (Str×Nat)}{x y:Int}(h:EnvAt H u a c U N Cs)(b:But [l] H H')(hl:H l=some (.lst [.int x,.int y])):EnvAt H' u a c U N Cs:=by
 refine ⟨h.u.but b hl,h.nd,h.n.but b hl,?_,h.cl,h.c3⟩;obtain ⟨ts,e,p⟩:=h.c;refine ⟨ts,b _ _ e fun z=>?_,Paired.mapM p fun _ _ _ e=>zc.of_but b hl _ _ e⟩;have z:c=l:=by simpa using z
 rw [z,hl] at e;cases ts with
 | nil=>cases e
 | cons n ts=>cases e
theorem EnvAt.same{H H':Hp}{u a c:Addr}{U N:List Str}{Cs:List (Str×Nat)}(h:EnvAt H u a c U N Cs)(s:zA H H'):EnvAt H' u a c U N Cs:=
 ⟨h.u.same s,h.nd,h.n.same s,let ⟨ts,e,p⟩:=h.c;⟨ts,s _ _ e,Paired.mapM p fun _ _ _ e=>s _ _ e⟩,h.cl,h.c3⟩
structure Pre(K:zUn)(H:Hp)(sA l u a c:Addr)(ns:List Int)(a0 a1 dp:Int)(U N:List Str)(Cs:List (Str×Nat))(d:Nat):Prop where
 sc:Scr K H sA l ns
 nl:ns.length<=63
 at_:H l=some (.lst [.int a0,.int a1])
 p1:0<=a1
 le:a1<=a0
 r1:a0+1<=1000
 r2:a0+1+4*(8 -(a0 - a1))<=1000
 d1:1<=dp
 dd:dp<=d
 ev:EnvAt H u a c U N Cs
 ln:(N.length:Int)+dp<=40
structure Post(H H':Hp)(l:Addr)(v:V)(e:Ex)(a0 a1 dp:Int)(U N:List Str)(Cs:List (Str×Nat)):Prop where
 but:But [l] H H'
 at_: ∃x:Int,H' l=some (.lst [.int x,.int a1])/\x=a0+zQ e
 xt:Xt H' e v
 gen:Gen U Cs N e
 dp:(ze e:Int)<=dp
 inn:yA e=0\/(yA e:Int)+(a0 - a1)<=8
structure Kids(H H':Hp)(l:Addr)(ys:List V)(es:List Ex)(x a0 a1 dp:Int)(U N:List Str)(Cs:List (Str×Nat)):Prop where
 xt:XtL H' ys es
 but:But [l] H H'
 at_:H' l=some (.lst [.int x,.int a1])
 sum:x=a0+1+((es.map zQ).sum:Nat)
 inn:(es.map yA).sum=0\/((es.map yA).sum:Nat)+(a0+1 - a1)<=8
 nsum:(es.map zQ).sum<=es.length+4*(es.map yA).sum
 isum:(es.map yA).sum<=(es.map zQ).sum
 all: ∀e∈es,Gen U Cs N e/\(ze e:Int)<=dp - 1
theorem Kids.snoc(h:Kids H H' l ys es x a0 a1 dp U N Cs)(p:Post H' H'' l v e x a1 (dp - 1) U N Cs)
  (hD:H D=none) (hDl:l≠D) (eD:H'' D=some (.lst ys)): ∃y,Kids H (L2.upd H'' D (.lst (ys++ [v]))) l (ys++ [v]) (es++ [e]) y a0 a1 dp U N Cs:=by
 obtain ⟨y,ey,hy⟩:=p.at_;have T:zc H'' (L2.upd H'' D (.lst (ys++ [v]))):=zc.lst eD;have T1:=zc.of_but p.but h.at_;have i1:=h.inn;have i2:=p.inn;have n1:=h.nsum;have n2:=zAq e;have n3:=zEd e;have n4:=h.isum;have n5:=h.sum;refine ⟨y,Paired.snoc' (Paired.mapM h.xt fun _ _ _ k=>(Xt.sameT T1 k).sameT T) (p.xt.sameT T),fun b o hb z=>?_,by rw [zN hDl];exact ey,?_,?_,?_,?_,?_⟩
 ·rw [zN (zh hb hD)];exact (h.but.trans p.but) b o hb z
 ·rw [zUT,List.sum_append];simp only [zUr,List.map_nil,List.sum_cons,List.sum_nil];omega
 ·rw [zUT,List.sum_append];simp only [zUr,List.map_nil,List.sum_cons,List.sum_nil];omega
 ·rw [zUT,List.sum_append,zUT,List.sum_append];simp only [zUr,List.map_nil,List.sum_cons,List.sum_nil,zUY,zUu,List.length_nil];omega
 ·rw [zUT,List.sum_append,zUT,List.sum_append];simp only [zUr,List.map_nil,List.sum_cons,List.sum_nil];omega
 ·intro k hk;rcases zUq.mp hk with hk | hk
  ·exact h.all k hk
  ·rw [zUs] at hk;subst hk;exact ⟨p.gen,p.dp⟩
def zQi(K:zUn)(d:Nat):Sp:=fun vs H Q _=> ∃(sA l u a c:Addr) (ns:List Int) (a0 a1 dp:Int) (U N:List Str) (Cs:List (Str×Nat)),vs= [.ref sA,.ref l,.int dp,.ref u,.ref a,.ref c] /\Pre K H sA l u a c ns a0 a1 dp U N Cs d/\
 ∀v H' e,Post H H' l v e a0 a1 dp U N Cs->Q v H'
theorem zBW:FnScope ["_law_script","_law_at","_law_deep","_law_units","_law_names_here","_law_calls","_law_number_here","_law_way","_law_more","_law_less","_law_one","_law_word","_law_start","_law_name","_law_body","_law_count","_law_nodes"] ["_law_script","_law_at","_law_deep","_law_units","_law_names_here","_law_calls"] (zK zJx):=fs
theorem zHF(p:XtL H ys es)(h:es.length=n+1): ∃x y es' ys',es=x::es'/\ys=y::ys'/\Xt H x y/\XtL H ys' es'/\es'.length=n:=by
 cases p with
 | nil=>cases h
 | cons a b=>exact ⟨_,_,_,_,rfl,rfl,a,b,Nat.succ.inj h⟩
theorem xl1(p:XtL H ys es)(h:es.length=1): ∃x1 y1,es= [x1] /\ys= [y1] /\Xt H x1 y1:=by
 obtain ⟨x,y,es',ys',rfl,rfl,a,b,c⟩:=zHF p h;cases b with
 | nil=>exact ⟨x,y,rfl,rfl,a⟩
 | cons _ _=>cases c
theorem xl2(p:XtL H ys es)(h:es.length=2): ∃x1 x2 y1 y2,es= [x1,x2] /\ys= [y1,y2] /\Xt H x1 y1/\Xt H x2 y2:=by
 obtain ⟨x,y,es',ys',rfl,rfl,a,b,c⟩:=zHF p h;obtain ⟨x1,y1,rfl,rfl,t1⟩:=xl1 b c;exact ⟨_,_,_,_,rfl,rfl,a,t1⟩
theorem xl3(p:XtL H ys es)(h:es.length=3): ∃x1 x2 x3 y1 y2 y3,es= [x1,x2,x3] /\ys= [y1,y2,y3] /\Xt H x1 y1/\Xt H x2 y2/\Xt H x3 y3:=by
 obtain ⟨x,y,es',ys',rfl,rfl,a,b,c⟩:=zHF p h;obtain ⟨x1,x2,y1,y2,rfl,rfl,t1⟩:=xl2 b c;exact ⟨_,_,_,_,_,_,rfl,rfl,a,t1⟩
theorem xl4(p:XtL H ys es)(h:es.length=4): ∃x1 x2 x3 x4 y1 y2 y3 y4,es= [x1,x2,x3,x4] /\ys= [y1,y2,y3,y4] /\Xt H x1 y1/\Xt H x2 y2/\Xt H x3 y3/\Xt H x4 y4:=by
 obtain ⟨x,y,es',ys',rfl,rfl,a,b,c⟩:=zHF p h;obtain ⟨x1,x2,x3,y1,y2,y3,rfl,rfl,t1⟩:=xl3 b c;exact ⟨_,_,_,_,_,_,_,_,rfl,rfl,a,t1⟩
theorem zSB(FX:Fun K "_law_expression" "_law_expression" zJx f fd)(B:Bn mg)
  (FNu:Fun K "_law_number" "_law_number" zFl fNu fdNu) (bNu:zO K fdNu ["_law_script","_law_k"] []) (mNu:mg "_law_number" =some (.ref fNu)) (GNu:FnOk P w K mg base CX0 2 fNu fdNu ["_law_script","_law_k"] (zHM K))
  (FL:Fun K "_law_leaf" "_law_leaf" zGs fL fdL) (bL:zO K fdL ["_law_number_here","_law_units","_law_names_here"] []) (mL:mg "_law_leaf" =some (.ref fL)) (GL:FnOk P w K mg base CX0 3 fL fdL ["_law_number_here","_law_units","_law_names_here"] zQJ)
  (bX:zO K fd ["_law_script","_law_at","_law_deep","_law_units","_law_names_here","_law_calls"] []) (mX:mg "_law_expression" =some (.ref f)):
  ∀d,FnOk P w K mg base CX0 (4+d) f fd ["_law_script","_law_at","_law_deep","_law_units","_law_names_here","_law_calls"] (zQi K d):=by
 intro d
 induction d with
 | zero=>
  refine FX.ok zBW (fun vs H Q E h=>?_) (fun cdv A outer s H vs Q E hr h=>?_)
  ·obtain ⟨sA,l,u,a,c,ns,a0,a1,dp,U,N,Cs,rfl,_⟩:=h;rfl
  ·obtain ⟨sA,l,u,a,c,ns,a0,a1,dp,U,N,Cs,rfl,pr,_⟩:=h;have:=pr.d1;have:=pr.dd;omega
 | succ d GX=>
  refine FX.ok zBW (fun vs H Q E h=>?_) (fun cdv A outer s H vs Q E hrX h=>?_)
  ·obtain ⟨sA,l,u,a,c,ns,a0,a1,dp,U,N,Cs,rfl,_⟩:=h;rfl
  ·obtain ⟨sA,l,u,a,c,ns,a0,a1,dp,U,N,Cs,rfl,pr,q⟩:=h;have hrX:Room (4+d) _:=hrX;have hr3:Room 3 _:=hrX.mono (by omega);have hr2:Room 2 _:=hrX.mono (by omega);have huN:=Nat.lt_of_succ_lt (zAb hrX);refine ⟨_,QB.out (zF
   (zLF (qx 1 rfl) zC (yg (yN (K:=K) rfl (qx 1 rfl) zC (fun _ _=>rfl)) zC) rfl) (zF
   (zY 6 zBW.nd rfl (zR GNu hr2 rfl mNu FNu.kp bNu .nil zP (qc (qx 0 rfl) (qc (yN (K:=K) rfl (qx 1 rfl) zC (fun _ _=>rfl)) zB rfl) rfl) rfl rfl rfl) rfl) (zF
   (zY 7 zBW.nd rfl (zl (qw 6 rfl) zC) rfl) (zF
   (zY 8 zBW.nd rfl (zj (qw 6 rfl) zC) rfl) (zF
   (zV (t_w (zAI (zL zDd (qw 2 rfl) zC rfl) (zAI (zL zBx (zCh (yN (K:=K) rfl (qx 1 rfl) zC (fun _ _=>rfl)) (yN (K:=K) rfl (qx 1 rfl) zC (fun _ _=>rfl))) zC rfl) (zAN (zL zDd (qw 7 rfl) zC rfl))))) (zH
    (zS (zR GL hr3 rfl mL FL.kp bL .nil zP (qc (qw 8 rfl) (qc (qx 3 rfl) (qc (qx 4 rfl) zB rfl) rfl) rfl) rfl rfl rfl))) zU) (zF
   (zBS 9 zBW.nd rfl (Or.inr rfl) (zCh (qw 2 rfl) zC) rfl (.inl rfl)) (zF
   (zV (zL zZ (qw 7 rfl) zC rfl) (zH
    (zS (zM (qc zG (qc (zR GX hrX rfl mX FX.kp bX .nil zP (qc (qx 0 rfl) (qc (qx 1 rfl) (qc (qx 9 rfl) (qc (qx 3 rfl) (qc (qx 4 rfl) (qc (qx 5 rfl) zB rfl) rfl) rfl) rfl) rfl) rfl) rfl rfl rfl) zB rfl) rfl)))) zU) (zF
   (zV (zL zDd (qw 7 rfl) zC rfl) (zF
    (zY 10 zBW.nd rfl (zR GX hrX rfl mX FX.kp bX .nil zP (qc (qx 0 rfl) (qc (qx 1 rfl) (qc (qx 9 rfl) (qc (qx 3 rfl) (qc (qx 4 rfl) (qc (qx 5 rfl) zB rfl) rfl) rfl) rfl) rfl) rfl) rfl rfl rfl) rfl) (zF
    (zY 11 zBW.nd rfl (yN (K:=K) rfl (zd (qc zG (qc zG (qc zG (qc zG zB rfl) rfl) rfl) rfl)) (zl (qw 8 rfl) zC) (fun _ _=>rfl)) rfl) (zH
    (zS (zM (qc (qw 11 rfl) (qc (qw 10 rfl) (qc (zR GX hrX rfl mX FX.kp bX .nil zP (qc (qx 0 rfl) (qc (qx 1 rfl) (qc (qx 9 rfl) (qc (qx 3 rfl) (qc (qx 4 rfl) (qc (qx 5 rfl) zB rfl) rfl) rfl) rfl) rfl) rfl) rfl rfl rfl) zB rfl) rfl) rfl)))))) zU) (zF
   (zV (zL zZ (qw 7 rfl) zC rfl) (zH
    (zS (zM (qc zG (qc (zR GX hrX rfl mX FX.kp bX .nil zP (qc (qx 0 rfl) (qc (qx 1 rfl) (qc (qx 9 rfl) (qc (qx 3 rfl) (qc (qx 4 rfl) (qc (qx 5 rfl) zB rfl) rfl) rfl) rfl) rfl) rfl) rfl rfl rfl) (qc (zCh (zl (qw 8 rfl) zC) zC) zB rfl) rfl) rfl)))) zU) (zF
   (zV (zL zZ (qw 7 rfl) zC rfl) (zH
    (zS (yt (yi (K:=K) rfl) (zM (qc zG zB rfl)) (zBZ (zBD (K:=K) rfl) rfl B.tuple yn (qc (yx ["_law_k"] ["_law_script","_law_at","_law_units","_law_names_here","_law_calls","_law_less"] [0,1,3,4,5,9] rfl (zBo rfl B.range (qc zC zB rfl) rfl) rfl (by decide+kernel) rfl (by decide+kernel) (zw rfl (zw rfl (zw rfl (zw rfl (zw rfl (zw rfl lk0)))))) rfl (fr6 ⟨rfl,rfl,rfl,_,rfl,rfl⟩ ⟨rfl,rfl,rfl,_,rfl,rfl⟩ ⟨rfl,rfl,rfl,_,rfl,rfl⟩ ⟨rfl,rfl,rfl,_,rfl,rfl⟩ ⟨rfl,rfl,rfl,_,rfl,rfl⟩ ⟨rfl,rfl,rfl,_,rfl,rfl⟩) (yF rfl) (fun _ _ _ _=>(zb 0 (show (["_law_k","_law_script","_law_at","_law_units","_law_names_here","_law_calls","_law_less"] :List Str).Nodup by decide+kernel) rfl (.inl rfl) (.inr rfl))) (fun _ _ _ _=>zAn) (fun _ _ _ _=>(zR GX hrX rfl mX FX.kp bX .nil zP (qc (qx 1 rfl) (qc (qx 2 rfl) (qc (qx 6 rfl) (qc (qx 3 rfl) (qc (qx 4 rfl) (qc (qx 5 rfl) zB rfl) rfl) rfl) rfl) rfl) rfl) rfl rfl rfl)) (fun _=>rfl)) zB rfl) rfl)))) zU) (zF
   (zV (zL zZ (qw 7 rfl) zC rfl) (zF
    (zY 12 zBW.nd rfl (zR GX hrX rfl mX FX.kp bX .nil zP (qc (qx 0 rfl) (qc (qx 1 rfl) (qc (qx 9 rfl) (qc (qx 3 rfl) (qc (qx 4 rfl) (qc (qx 5 rfl) zB rfl) rfl) rfl) rfl) rfl) rfl) rfl rfl rfl) rfl) (zF
    (zY 13 zBW.nd rfl (yN (K:=K) rfl (zAd (qx 4 rfl) (zd (qc zG zB rfl))) (zl (qw 8 rfl) (yg (zq (zm (K:=K) rfl) rfl B.len yB (qc (qx 4 rfl) zB rfl) rfl) zC)) (fun _ _=>rfl)) rfl) (zF
    (zY 14 zBW.nd rfl (zR GX hrX rfl mX FX.kp bX .nil zP (qc (qx 0 rfl) (qc (qx 1 rfl) (qc (qx 9 rfl) (qc (qx 3 rfl) (qc (zAd (qx 4 rfl) (zd (qc (qw 13 rfl) zB rfl))) (qc (qx 5 rfl) zB rfl) rfl) rfl) rfl) rfl) rfl) rfl rfl rfl) rfl) (zH
    (zS (zM (qc zG (qc (qw 13 rfl) (qc (qw 12 rfl) (qc (zl (zj (qw 8 rfl) zC) zC) (qc (qw 14 rfl) zB rfl) rfl) rfl) rfl) rfl))))))) zU) (zF
   (zV (zL (zEe huN) (qx 5 rfl) (zd zB) rfl) (zH
    (zS (zR GL hr3 rfl mL FL.kp bL .nil zP (qc (qw 8 rfl) (qc (qx 3 rfl) (qc (qx 4 rfl) zB rfl) rfl) rfl) rfl rfl rfl))) zU) (zF
   (zNO (yN (K:=K) rfl (qx 5 rfl) (zl (qw 8 rfl) (zq (zm (K:=K) rfl) rfl B.len yB (qc (qx 5 rfl) zB rfl) rfl)) (fun _ _=>rfl)) (zCj (K:=K) rfl rfl (ya (zb 13 zBW.nd rfl (Or.inl rfl) (.inr rfl)) (ya (zb 15 zBW.nd rfl (Or.inl rfl) (.inr rfl)) zCc rfl) rfl) rfl rfl) rfl rfl rfl) (zF
   (zCz zCK 16 (by exact zBW.nd) rfl (Or.inl rfl) (.inr rfl) ["_law_k"] ["_law_script","_law_at","_law_units","_law_names_here","_law_calls","_law_less"] [0,1,3,4,5,9] rfl (zBo rfl B.range (qc (qw 15 rfl) zB rfl) rfl) rfl (by decide+kernel) rfl (by decide+kernel) (zw rfl (zw rfl (zw rfl (zw rfl (zw rfl (zw rfl lk0)))))) rfl (fr6 ⟨rfl,rfl,rfl,_,rfl,rfl⟩ ⟨rfl,rfl,rfl,_,rfl,rfl⟩ ⟨rfl,rfl,rfl,_,rfl,rfl⟩ ⟨rfl,rfl,rfl,_,rfl,rfl⟩ ⟨rfl,rfl,rfl,_,rfl,rfl⟩ ⟨rfl,rfl,rfl,_,rfl,rfl⟩) (yF rfl) (fun _ _ _ _=>(zb 0 (show (["_law_k","_law_script","_law_at","_law_units","_law_names_here","_law_calls","_law_less"] :List Str).Nodup by decide+kernel) rfl (.inl rfl) (.inr rfl))) (fun _ _ _ _=>zAn) (fun C s₂ H₂ fp xe E hp=>(zR GX hrX rfl mX FX.kp bX .nil zP (qc (qx 1 rfl) (qc (qx 2 rfl) (qc (qx 6 rfl) (qc (qx 3 rfl) (qc (qx 4 rfl) (qc (qx 5 rfl) zB rfl) rfl) rfl) rfl) rfl) rfl) rfl rfl rfl)) (fun _=>rfl) rfl) (zH
   (zS (zM (qc zG (qc (qw 13 rfl) (qc (zBZ (zBD (K:=K) rfl) rfl B.tuple yn (qc (qw 16 rfl) zB rfl) rfl) zB rfl) rfl) rfl)))))))))))))))))),?_⟩
   refine hd fun Z hz=>?_;refine ⟨_,rfl,l,_,_,_,rfl,rfl,SqL.of pr.at_,rfl,_,_,rfl,rfl,_,rfl,l,_,0,0,rfl,rfl,pr.at_,rfl,hz _ _ (hd fun Z hz=>?_)⟩;obtain ⟨H1,g1,b1,e1⟩: ∃H1,L2.upd H l (.lst (List.set [V.int a0,.int a1] 0 (.int (a0+1))))=H1/\But [l] H H1/\H1 l=some (.lst [.int (a0+1),.int a1]):=⟨_,rfl,But.upd,zE⟩;rw [g1];have hp1:=pr.p1;have hle:=pr.le;have hr1':=pr.r1;have hr2':=pr.r2;have hd1:=pr.d1;have hdd:=pr.dd;have hln:=pr.ln;refine ⟨_,rfl,_,rfl,l,_,_,_,rfl,rfl,SqL.of e1,rfl,sA,ns,a0+1,rfl,(pr.sc.but b1).sq,pr.nl,by omega,by omega,fun r H2 s2 r0 r1=>hz _ _ (hd fun Z hz=>?_)⟩;refine ⟨_,rfl,_,_,rfl,rfl,by decide,hz _ _ (hd fun Z hz=>?_)⟩;refine ⟨_,rfl,_,_,rfl,rfl,⟨by decide,by decide⟩,hz _ _ (hd fun Z hz=>?_)⟩;have e2:=s2 _ _ e1;have b2:But [l] H H2:=b1.trans (zA.but s2 _);have ev2:=pr.ev.but b2 pr.at_;have sc2:=pr.sc.but b2;have m0:0<=r/13:=Int.ediv_nonneg r0 (by decide);have leafF: ∀H3 v e,zA H2 H3->Xt H3 e v->Lf U N e->Q v H3:=fun H3 v e s3 hx hl=>q v H3 e ⟨b2.trans (zA.but s3 _),⟨_,s3 _ _ e2,by cases hl<;>rfl⟩,hx,.leaf hl,by cases hl<;>(simp only [ze];omega),.inl (by cases hl<;>rfl)⟩;have w0:=zUP r (show (13:Int)≠0 by decide);have w1:=zUK r (show (0:Int)<13 by decide);refine ⟨_,rfl,_,_,rfl,rfl,_,rfl,zp (fun c1=>zI ⟨_,rfl,_,rfl,_,rfl,r/13,u,a,U,N,rfl,m0,ev2.u,ev2.nd,ev2.n,fun H3 v e s3 hx hl=>leafF H3 v e s3 hx hl⟩) (fun c1=>?_)⟩;refine ⟨_,rfl,l,_,_,_,rfl,rfl,SqL.of e2,rfl,_,rfl,l,_,_,_,rfl,rfl,SqL.of e2,rfl,_,_,rfl,rfl,_,_,rfl,rfl,_,rfl,zp (fun c2=>zI ⟨_,rfl,_,rfl,_,rfl,r/13,u,a,U,N,rfl,m0,ev2.u,ev2.nd,ev2.n,fun H3 v e s3 hx hl=>leafF H3 v e s3 hx hl⟩) (fun c2=>?_)⟩;refine ⟨_,rfl,_,_,rfl,rfl,_,rfl,zp (fun c3=>⟨_,rfl,_,rfl,_,rfl,r/13,u,a,U,N,rfl,m0,ev2.u,ev2.nd,ev2.n,fun H3 v e s3 hx hl=>leafF H3 v e s3 hx hl⟩) (fun c3=>hz _ _ (hd fun Z hz=>?_))⟩;have d2:2<=dp:=by
    have: ¬dp<2:=by simpa using c1
    omega
   have a8:a0+1 - a1<=8:=by
    have: ¬(a0+1 - a1>8):=by simpa using c2
    omega
   refine ⟨_,rfl,_,_,rfl,rfl,hz _ _ (hd fun Z hz=>?_)⟩;have kid: ∀(H3:Hp) (x:Int) (a':Addr) (N':List Str),But [l] H H3->H3 l=some (.lst [.int x,.int a1])->a0+1<=x->x+1<=1000->x+1+4*(8 -(x - a1))<=1000->EnvAt H3 u a' c U N' Cs->N'.length<=N.length+1->Pre K H3 sA l u a' c ns x a1 (dp - 1) U N' Cs d:=
    fun H3 x a' N' b3 e3 h1 h2 h3 ev ln=>⟨pr.sc.but b3,pr.nl,e3,hp1,by omega,h2,h3,by omega,by omega,ev,by omega⟩
   have evB: ∀H3,But [l] H H3->EnvAt H3 u a c U N Cs:=fun H3 b3=>pr.ev.but b3 pr.at_;refine ⟨_,rfl,rfl,_,rfl,zp (fun c4=>?_) (fun c4=>hz _ _ (hd fun Z hz=>?_))⟩
   ·refine ⟨_,rfl,_,rfl,_,rfl,_,rfl,_,rfl,_,rfl,sA,l,u,a,c,ns,a0+1,a1,dp - 1,U,N,Cs,rfl,kid H2 (a0+1) a N b2 e2 (by omega) (by omega) (by omega) ev2 (by omega),fun v H3 e po=>yc fun t H4 ht s4 e4=>?_⟩;obtain ⟨x,ex,hx⟩:=po.at_;refine q _ H4 (.neg e) ⟨(b2.trans po.but).trans (zA.but s4 _),⟨x,s4 _ _ ex,by simp only [zQ];omega⟩,⟨t,v,rfl,e4,po.xt.same s4⟩,.neg po.gen,?_,?_⟩
    ·have:=po.dp;simp only [ze];omega
    ·have:=po.inn;simp only [yA];omega
   refine ⟨_,rfl,_,_,rfl,rfl,_,rfl,zp (fun c5=>hd fun Z hz=>?_) (fun c5=>hz _ _ (hd fun Z hz=>?_))⟩
   ·refine ⟨_,rfl,_,rfl,_,rfl,_,rfl,_,rfl,_,rfl,sA,l,u,a,c,ns,a0+1,a1,dp - 1,U,N,Cs,rfl,kid H2 (a0+1) a N b2 e2 (by omega) (by omega) (by omega) ev2 (by omega),fun v H3 e po=>hz _ _ (hd fun Z hz=>?_)⟩;obtain ⟨x,ex,hx⟩:=po.at_;have b3:=b2.trans po.but;refine nw fun wl H4 s4 e4=>?_;obtain ⟨wv,ewv,wd,rfl,hw⟩:=zAJ (n:=r/13) (p:=fun v=> ∃wd,v= .str wd/\zHT wd) (xs:= [.str "plus",.str "minus",.str "times",.str "over"]) (m:=4) (fun v hv=>by
     simp only [zUo,zUw,or_false] at hv;rcases hv with rfl | rfl | rfl | rfl
     ·exact ⟨_,rfl,.inl rfl⟩
     ·exact ⟨_,rfl,.inr (.inl rfl)⟩
     ·exact ⟨_,rfl,.inr (.inr (.inl rfl))⟩
     ·exact ⟨_,rfl,.inr (.inr (.inr rfl))⟩) rfl (by decide)
    refine ⟨_,rfl,_,_,rfl,rfl,by decide,wl,_,_,_,rfl,rfl,SqL.of e4,ewv,hz _ _ ?_⟩;have b4:=b3.trans (zA.but s4 [l]);have in1:=po.inn;have il:=zEd e;have ni:=zAq e;have dp1:=po.dp;refine ⟨_,rfl,_,rfl,_,rfl,_,rfl,_,rfl,_,rfl,_,rfl,_,rfl,sA,l,u,a,c,ns,x,a1,dp - 1,U,N,Cs,rfl,kid H4 x a N b4 (s4 _ _ ex) (by omega) (by omega) (by omega) (evB H4 b4) (by omega),fun v2 H5 e2 po2=>yc fun t H6 ht s6 e6=>?_⟩;obtain ⟨x2,ex2,hx2⟩:=po2.at_;have xt4:Xt H6 e v:=((po.xt.same s4).sameT (zc.of_but po2.but (s4 _ _ ex))).same s6;have dp2:=po2.dp;have in2:=po2.inn;refine q _ H6 (.bin wd e e2) ⟨(b4.trans po2.but).trans (zA.but s6 _),⟨x2,s6 _ _ ex2,by simp only [zQ];omega⟩,⟨t,v,v2,rfl,e6,xt4,po2.xt.same s6⟩,.bin hw po.gen po2.gen,?_,?_⟩
    ·simp only [ze];omega
    ·simp only [yA];omega
   refine ⟨_,rfl,rfl,_,rfl,zp (fun c6=>?_) (fun c6=>hz _ _ (hd fun Z hz=>?_))⟩
   ·refine ⟨_,rfl,_,rfl,_,rfl,_,rfl,_,rfl,_,rfl,sA,l,u,a,c,ns,a0+1,a1,dp - 1,U,N,Cs,rfl,kid H2 (a0+1) a N b2 e2 (by omega) (by omega) (by omega) ev2 (by omega),fun v H3 e po=>⟨_,rfl,_,_,rfl,rfl,by decide,_,_,rfl,rfl,yc fun t H4 ht s4 e4=>?_⟩⟩;obtain ⟨x,ex,hx⟩:=po.at_;refine q _ H4 (.pow e (r/13 % 11 - 5)) ⟨(b2.trans po.but).trans (zA.but s4 _),⟨x,s4 _ _ ex,by simp only [zQ];omega⟩,⟨t,v,rfl,e4,po.xt.same s4⟩,.pow po.gen (by omega) (by omega),?_,?_⟩
    ·have:=po.dp;simp only [ze];omega
    ·have:=po.inn;simp only [yA];omega
   refine ⟨_,rfl,rfl,_,rfl,zp (fun c7=>?_) (fun c7=>hz _ _ (hd fun Z hz=>?_))⟩
   ·refine nw fun p1 H3 s3 e3=>?_;refine ⟨4,rfl,by decide,by decide,fun D hD=>?_⟩;have b3:=b2.trans (zA.but s3 [l]);have el3:=s3 _ _ e2;have hDl:l≠D:=fun z=>by rw [<-z,el3] at hD;cases hD
    refine zx 4 (fun i ys H'=> ∃es x,es.length=i/\i<=4/\Kids H3 H' l ys es x a0 a1 dp U N Cs/\H' D=some (.lst ys)) ⟨[],a0+1,rfl,zUN _,⟨.nil,zA.but (zA.upd hD) _,by rw [zN hDl];exact el3,by simp,.inl rfl,by simp,by simp,fun e he=>by simp at he⟩,zE⟩ (by rw [zUJ];omega) ?_ ?_ ?_
    ·rintro i ys H' hi ⟨es,x,hl,_,kd,eD⟩;have:=Paired.len kd.xt;exact ⟨by omega,eD,fun h=>h,fun h=>Nat.le_of_eq h.symm⟩
    ·rintro i ys H' y H'' hi ⟨es,x,hl,_,kd,eD⟩ ⟨rfl,rfl⟩ pre hpre;obtain ⟨p0,rfl⟩:=zAt hpre;refine ⟨⟨[some (.int (0+(i:Int)))],rfl,rfl⟩,zI ?_⟩;have k1:=kd.inn;have k2:=kd.nsum;have k3:=kd.isum;have k4:=kd.sum;refine ⟨_,rfl,_,rfl,_,rfl,_,rfl,_,rfl,_,rfl,sA,l,u,a,c,ns,x,a1,dp - 1,U,N,Cs,rfl,kid _ x a N (b3.trans kd.but) kd.at_ (by omega) (by omega) (by omega) (evB _ (b3.trans kd.but)) (by omega),fun v H5 e po=>?_⟩;have eD5:=po.but D _ eD (by simpa using Ne.symm hDl);obtain ⟨y,kd'⟩:=Kids.snoc kd po hD hDl eD5;exact ⟨eD5,es++ [e],y,by simp [hl],hi,kd',zE⟩
    ·rintro ys H' ⟨es,x,hl,_,kd,eD⟩;obtain ⟨x1,x2,x3,x4,y1,y2,y3,y4,rfl,rfl,t1,t2,t3,t4⟩:=xl4 kd.xt hl;refine ⟨D,_,rfl,.inl ⟨SqL.of eD,fun p2 hp2=>?_⟩⟩;obtain ⟨H5,g5,s5,e5⟩:=yH hp2 (.tup [y1,y2,y3,y4]);rw [g5];have e35:=s5 _ _ (kd.but _ _ e3 (by simpa using fun z:p1=l=>by rw [z,el3] at e3;cases e3));refine ⟨p1,p2,_,_,rfl,rfl,SqT.of e35,SqT.of e5,bs 5,fun z=>(by cases z),fun _ z=>(by cases z),fun _ _ t ht=>?_⟩;obtain ⟨H6,g6,s6,e6⟩:=yH ht (.tup ([.str "if"] ++ [y1,y2,y3,y4]));rw [g6];have s56:=s5.trans s6;have k1:=kd.inn;have k4:=kd.sum;simp only [zUr,List.map_nil,List.sum_cons,List.sum_nil] at k1 k4;have d1:=(kd.all x1 (by simp)).2;have d2:=(kd.all x2 (by simp)).2;have d3:=(kd.all x3 (by simp)).2;have d4:=(kd.all x4 (by simp)).2;refine q _ H6 (.ite x1 x2 x3 x4) ⟨(b3.trans kd.but).trans (zA.but s56 _),⟨x,s56 _ _ kd.at_,by simp only [zQ];omega⟩,⟨t,y1,y2,y3,y4,rfl,e6,t1.same s56,t2.same s56,t3.same s56,t4.same s56⟩,.ite (kd.all x1 (by simp)).1 (kd.all x2 (by simp)).1 (kd.all x3 (by simp)).1 (kd.all x4 (by simp)).1,?_,?_⟩
     ·simp only [ze];omega
     ·simp only [yA];omega
   refine ⟨_,rfl,rfl,_,rfl,zp (fun c8=>hd fun Z hz=>?_) (fun c8=>hz _ _ (hd fun Z hz=>?_))⟩
   ·refine ⟨_,rfl,_,rfl,_,rfl,_,rfl,_,rfl,_,rfl,sA,l,u,a,c,ns,a0+1,a1,dp - 1,U,N,Cs,rfl,kid H2 (a0+1) a N b2 e2 (by omega) (by omega) (by omega) ev2 (by omega),fun v H3 e po=>hz _ _ (hd fun Z hz=>?_)⟩;obtain ⟨x,ex,hx⟩:=po.at_;have b3:=b2.trans po.but;have in1:=po.inn;have il:=zEd e;have ni:=zAq e;have dp1:=po.dp;have ev3:=evB H3 b3;have nle:=ev3.n.le;refine ⟨_,rfl,nw fun ll H4 s4 e4=>?_⟩;refine cls (s4 _ _ ev3.n.at_) e4 (by rw [zUJ];simp;omega) fun cl H5 s5 e5=>?_;have s35:=s4.trans s5;obtain ⟨nv,env,nm,rfl,hnm⟩:=zAJ (n:=r/13) (p:=fun v=> ∃nm,v= .str nm/\(nm∈N\/nm= "last")) (xs:=N.map V.str++ [.str "last"]) (m:=((N.map V.str).length:Int)+1) (fun v hv=>by
     rcases zUq.mp hv with h | h
     ·obtain ⟨y,hy,rfl⟩:=zUt.mp h;exact ⟨y,rfl,.inl hy⟩
     ·simp at h;exact ⟨_,h,.inr rfl⟩) (by simp) (by omega)
    refine ⟨_,rfl,_,rfl,a,_,rfl,.inl (SqL.of (s35 _ _ ev3.n.at_)),_,_,rfl,rfl,_,_,rfl,rfl,by omega,cl,_,_,_,rfl,rfl,SqL.of e5,env,hz _ _ (hd fun Z hz=>?_)⟩;refine ⟨_,rfl,_,rfl,_,rfl,_,rfl,_,rfl,_,rfl,nw fun l2 H6 s6 e6=>?_⟩;have s36:=s35.trans s6;refine cls (s36 _ _ ev3.n.at_) e6 (by rw [zUJ];simp;omega) fun a2 H7 s7 e7=>?_;have s37:=s36.trans s7;have b7:=b3.trans (zA.but s37 [l]);have ev7:=ev3.same s37;have hnn:Nm nm:=by
     rcases hnm with h | h
     ·exact ev3.n.nm _ h
     ·rw [h];show yJ (.str "last")=true;decide+kernel
    have ev8:EnvAt H7 u a2 c U (N++ [nm]) Cs:=⟨ev7.u,ev7.nd,⟨by rw [zUT];exact e7,by simp;omega,fun n hn=>by
     rcases zUq.mp hn with h | h
     ·exact ev3.n.nm _ h
     ·rw [zUs] at h;rw [h];exact hnn⟩,ev7.c,ev7.cl,ev7.c3⟩
    refine ⟨_,rfl,sA,l,u,a2,c,ns,x,a1,dp - 1,U,N++ [nm],Cs,rfl,kid H7 x a2 (N++ [nm]) b7 (s37 _ _ ex) (by omega) (by omega) (by omega) ev8 (by simp),fun v2 H8 e2 po2=>hz _ _ ?_⟩;obtain ⟨x2,ex2,hx2⟩:=po2.at_;have dp2:=po2.dp;have in2:=po2.inn;refine ⟨_,rfl,_,rfl,_,rfl,_,_,rfl,rfl,⟨by decide,by decide⟩,_,_,rfl,rfl,by decide,_,rfl,yc fun t H9 ht s9 e9=>?_⟩;have xt4:Xt H9 e v:=((po.xt.same s37).sameT (zc.of_but po2.but (s37 _ _ ex))).same s9;refine q _ H9 (.loop nm e (r/13/9 % 13) e2) ⟨(b7.trans po2.but).trans (zA.but s9 _),⟨x2,s9 _ _ ex2,by simp only [zQ];omega⟩,⟨t,v,v2,rfl,e9,xt4,po2.xt.same s9⟩,.loop hnm po.gen (by omega) (by omega) po2.gen,?_,?_⟩
    ·simp only [ze];omega
    ·simp only [yA];omega
   refine ⟨_,rfl,nw fun nl H3 s3 e3=>?_⟩;have b3:=b2.trans (zA.but s3 [l]);have ev3:=evB H3 b3;obtain ⟨ts,ec,pc⟩:=ev3.c;have lc:=Paired.len pc;refine ⟨c,nl,_,rfl,rfl,SqL.of ec,SqL.of e3,_,rfl,zp (fun c9=>⟨_,rfl,_,rfl,_,rfl,r/13,u,a,U,N,rfl,m0,ev3.u,ev3.nd,ev3.n,fun H4 v e s4 hx hl=>leafF H4 v e (s3.trans s4) hx hl⟩) (fun c9=>hz _ _ (hd fun Z hz=>?_))⟩;have tne:ts≠ [] :=fun z=>by rw [z] at c9;simp at c9
   have tl:0<ts.length:=List.length_pos_iff.mpr tne;obtain ⟨tv,etv,ct,rfl,p,hp,ect⟩:=zAJ (n:=r/13) (p:=fun v=> ∃t:Addr,v= .ref t/\ ∃p∈Cs,H3 t=some (.tup [.str p.1,.int (p.2:Int)])) (xs:=ts.map V.ref) (m:=((ts.map V.ref).length:Int)) (fun v hv=>by
    obtain ⟨t,ht,rfl⟩:=zUt.mp hv;obtain ⟨i,hi,e⟩:=List.getElem_of_mem ht;obtain ⟨p,ep,h⟩:=Paired.get' pc (zUy.mpr ⟨hi,e⟩);exact ⟨t,rfl,p,zUa ep,h⟩) rfl (by simp;omega)
   obtain ⟨nm,kn⟩:=p;have ect:H3 ct=some (.tup [.str nm,.int (kn:Int)]):=ect;obtain ⟨kn1,kn3⟩:=ev3.c3 _ hp;have kn1:1<=kn:=kn1;have kn3:kn<=3:=kn3;refine ⟨_,rfl,_,rfl,_,rfl,c,_,rfl,.inl (SqL.of ec),_,_,rfl,rfl,by simp;omega,c,_,_,_,rfl,rfl,SqL.of ec,etv,ct,_,rfl,SqT.of ect,rfl,_,_,rfl,_,_,rfl,rfl,hz _ _ (hd fun Z hz=>?_)⟩;refine ⟨_,rfl,(kn:Int),rfl,by omega,by omega,fun D hD=>?_⟩;have el3:=s3 _ _ e2;have hDl:l≠D:=fun z=>by rw [<-z,el3] at hD;cases hD
   refine zx kn (fun i ys H'=> ∃es x,es.length=i/\i<=kn/\Kids H3 H' l ys es x a0 a1 dp U N Cs/\H' D=some (.lst ys)) ⟨[],a0+1,rfl,zUN _,⟨.nil,zA.but (zA.upd hD) _,by rw [zN hDl];exact el3,by simp,.inl rfl,by simp,by simp,fun e he=>by simp at he⟩,zE⟩ (by rw [zUJ];omega) ?_ ?_ ?_
   ·rintro i ys H' hi ⟨es,x,hl,_,kd,eD⟩;have:=Paired.len kd.xt;exact ⟨by omega,eD,fun h=>h,fun h=>Nat.le_of_eq h.symm⟩
   ·rintro i ys H' y H'' hi ⟨es,x,hl,_,kd,eD⟩ ⟨rfl,rfl⟩ pre hpre;obtain ⟨p0,rfl⟩:=zAt hpre;refine ⟨⟨[some (.int (0+(i:Int)))],rfl,rfl⟩,zI ?_⟩;have k1:=kd.inn;have k2:=kd.nsum;have k3:=kd.isum;have k4:=kd.sum;refine ⟨_,rfl,_,rfl,_,rfl,_,rfl,_,rfl,_,rfl,sA,l,u,a,c,ns,x,a1,dp - 1,U,N,Cs,rfl,kid _ x a N (b3.trans kd.but) kd.at_ (by omega) (by omega) (by omega) (evB _ (b3.trans kd.but)) (by omega),fun v H5 e po=>?_⟩;have eD5:=po.but D _ eD (by simpa using Ne.symm hDl);obtain ⟨y,kd'⟩:=Kids.snoc kd po hD hDl eD5;exact ⟨eD5,es++ [e],y,by simp [hl],hi,kd',zE⟩
   ·rintro ys H' ⟨es,x,hl,_,kd,eD⟩;refine hz _ _ ?_;refine ⟨_,rfl,_,rfl,D,_,rfl,.inl ⟨SqL.of eD,fun p2 hp2=>?_⟩⟩;obtain ⟨H5,g5,s5,e5⟩:=yH hp2 (.tup ys);rw [g5];refine nw fun t H6 s6 e6=>?_;have s56:=s5.trans s6;have e56:=s6 _ _ e5;have k1:=kd.inn;have k4:=kd.sum;have b6:=(b3.trans kd.but).trans (zA.but s56 [l]);have at6:=s56 _ _ kd.at_;have hk:kn=1\/kn=2\/kn=3:=by omega
    rcases hk with rfl | rfl | rfl
    ·obtain ⟨x1,y1,rfl,rfl,t1⟩:=xl1 kd.xt hl;simp only [zUr,List.map_nil,List.sum_cons,List.sum_nil] at k1 k4;have d1:=(kd.all x1 (by simp)).2;refine q _ H6 (.call1 nm x1) ⟨b6,⟨x,at6,by simp only [zQ];omega⟩,⟨t,p2,y1,rfl,e6,e56,t1.same s56⟩,.call1 hp (kd.all x1 (by simp)).1,?_,?_⟩
     ·simp only [ze];omega
     ·simp only [yA];omega
    ·obtain ⟨x1,x2,y1,y2,rfl,rfl,t1,t2⟩:=xl2 kd.xt hl;simp only [zUr,List.map_nil,List.sum_cons,List.sum_nil] at k1 k4;have d1:=(kd.all x1 (by simp)).2;have d2:=(kd.all x2 (by simp)).2;refine q _ H6 (.call2 nm x1 x2) ⟨b6,⟨x,at6,by simp only [zQ];omega⟩,⟨t,p2,y1,y2,rfl,e6,e56,t1.same s56,t2.same s56⟩,.call2 hp (kd.all x1 (by simp)).1 (kd.all x2 (by simp)).1,?_,?_⟩
     ·simp only [ze];omega
     ·simp only [yA];omega
    ·obtain ⟨x1,x2,x3,y1,y2,y3,rfl,rfl,t1,t2,t3⟩:=xl3 kd.xt hl;simp only [zUr,List.map_nil,List.sum_cons,List.sum_nil] at k1 k4;have d1:=(kd.all x1 (by simp)).2;have d2:=(kd.all x2 (by simp)).2;have d3:=(kd.all x3 (by simp)).2;refine q _ H6 (.call3 nm x1 x2 x3) ⟨b6,⟨x,at6,by simp only [zQ];omega⟩,⟨t,p2,y1,y2,y3,rfl,e6,e56,t1.same s56,t2.same s56,t3.same s56⟩,.call3 hp (kd.all x1 (by simp)).1 (kd.all x2 (by simp)).1 (kd.all x3 (by simp)).1,?_,?_⟩
     ·simp only [ze];omega
     ·simp only [yA];omega
theorem zTc:FnScope ["_law_told_here"] ["_law_told_here"] (zK zDb):=fs
theorem Xt.tup(h:Xt H e v): ∃t xs,v= .ref t/\H t=some (.tup xs):=by
 cases e with
 | num=>obtain ⟨t,p,y,e,h,_⟩:=h;exact ⟨t,_,e,h⟩
 | nam=>obtain ⟨t,e,h⟩:=h;exact ⟨t,_,e,h⟩
 | neg=>obtain ⟨t,x,e,h,_⟩:=h;exact ⟨t,_,e,h⟩
 | bin=>obtain ⟨t,x,y,e,h,_⟩:=h;exact ⟨t,_,e,h⟩
 | pow=>obtain ⟨t,x,e,h,_⟩:=h;exact ⟨t,_,e,h⟩
 | ite=>obtain ⟨t,x,y,z,u,e,h,_⟩:=h;exact ⟨t,_,e,h⟩
 | loop=>obtain ⟨t,x,y,e,h,_⟩:=h;exact ⟨t,_,e,h⟩
 | call1=>obtain ⟨t,q,x,e,h,_⟩:=h;exact ⟨t,_,e,h⟩
 | call2=>obtain ⟨t,q,x,y,e,h,_⟩:=h;exact ⟨t,_,e,h⟩
 | call3=>obtain ⟨t,q,x,y,z,e,h,_⟩:=h;exact ⟨t,_,e,h⟩
inductive Tups (H:Hp):List V->List V->Prop
 | nil:Tups H [] []
 | yes {t:Addr} {ys xs zs:List V} (h:H t=some (.tup ys)) (r:Tups H xs zs):Tups H (.ref t::xs) (.ref t::zs)
 | no {i:Int} {xs zs:List V} (r:Tups H xs zs):Tups H (.int i::xs) zs
theorem zSN(h:Xt H a x)(k:Xt H b y):Tups H [x,y] [x,y] :=by
 obtain ⟨ta,_,rfl,ea⟩:=Xt.tup h;obtain ⟨tb,_,rfl,eb⟩:=Xt.tup k;exact .yes ea (.yes eb .nil)
theorem Tups.det(h:Tups H xs zs)(k:Tups H xs us):zs=us:=by
 induction h generalizing us with
 | nil=>cases k;rfl
 | yes h r ih=>cases k with | yes _ k=>rw [ih k]
 | no r ih=>cases k with | no k=>exact ih k
theorem Tups.app(h:Tups H xs zs)(k:Tups H xs' zs'):Tups H (xs++xs') (zs++zs'):=by
 induction h with
 | nil=>exact k
 | yes h r ih=>exact .yes h ih
 | no r ih=>exact .no ih
theorem Tups.at_{H:Hp}{xs zs:List V}(h:Tups H xs zs){i:Nat}{x:V}(e:xs[i]?=some x):(∃t ys,x= .ref t/\H t=some (.tup ys))\/ ∃j,x= .int j:=by
 induction h generalizing i with
 | nil=>simp at e
 | yes h r ih=>
  cases i with
  | zero=>simp at e;subst e;exact .inl ⟨_,_,rfl,h⟩
  | succ i=>exact ih (by simpa using e)
 | no r ih=>
  cases i with
  | zero=>simp at e;subst e;exact .inr ⟨_,rfl⟩
  | succ i=>exact ih (by simpa using e)
theorem zRp{f:Addr}{fd:FuncData}(F:Fun K "_law_kids" "_law_kids" zDb f fd)(B:Bn mg):FnOk P w K mg base CX0 1 f fd ["_law_told_here"] zFx:=by
 refine F.ok zTc (fun vs H Q E h=>?_) (fun cdv A outer s H vs Q E hr h=>?_)
 ·obtain ⟨x,e,rfl,_⟩:=h;rfl
 ·obtain ⟨x,e,rfl,hx,ok,q⟩:=h;obtain ⟨t2,hq2,ht2⟩: ∃t2:TS,QB (zBk CX0 P w K mg base ["_law_told_here"] "_law_kids" (zK zDb) f cdv A outer s H E).nox ((yT zDb).drop 3) t2/\
    ∀(t:Addr) (wd:Str) (xs zs:List V) (H1:Hp),H1 t=some (.tup (.str wd::xs))->xs.length<=10->Tups H1 xs zs->(∀l H',zA H1 H'->H1 l=none->H' l=some (.lst zs)->Q (.ref l) H')->t2 {nx:=fun _ H'=>Q .non H',rt:=Q} [some (.ref t)] H1:=by
   refine ⟨_,(zH
   (zS (yx (cl:= []) ["_law_part"] [] [] rfl (zBT (K:=K) rfl (zAe (K:=K) rfl (qw 0 rfl) (yE zC) yR)) rfl (by decide+kernel) rfl (by decide+kernel) (fun _ _ h=>nomatch h) rfl (fun j y i h=>nomatch h) (yF rfl) (fun _ _ _ _=>(zb 0 (show (["_law_part"] :List Str).Nodup by decide+kernel) rfl (.inl rfl) (.inr rfl))) (fun _ _ _ _=>(zCH (zAM (zq (zAE (K:=K) rfl) rfl B.isi zf (qc (qw 0 rfl) (qc (zAv (v:= .ty "tuple") rfl B.tuple yn rfl (by decide) rfl) zB rfl) rfl) rfl) (fun _=>rfl)))) (fun _ _ _ _=>(qw 0 rfl)) (fun _=>rfl)))),?_⟩
   intro t wd xs zs H1 et xl tp q;refine ⟨_,rfl,_,rfl,t,_,rfl,SqT.of et,fun z=>?_,fun p hp=>?_⟩
   ·have z:=z.1;rw [show (1:Int)=((1:Nat):Int) from rfl,HT.sIx_nat] at z;simp at z
   obtain ⟨H2,g2,s2,e2⟩:=yH hp (.tup (yW (.str wd::xs) (some 1) none));rw [g2];have ec:yW (.str wd::xs) (some 1) none=xs:=by
    unfold yW;simp [HT.sIx]
   rw [ec] at e2;refine ⟨p,rfl,⟨_,SqT.of e2⟩,fun D hD=>?_⟩;have nD:H1 D=none:=zA.none s2 hD;refine zx xs.length (fun i ys H'=>i<=xs.length/\ys.length<=i/\Tups H1 (xs.take i) ys/\zA H2 H'/\H' D=some (.lst ys)) ⟨zUN _,zUC _,by simpa using .nil,zA.upd hD,zE⟩ (by rw [zUJ];omega) ?_ ?_ ?_
   ·rintro i ys H' hi ⟨_,yl,_,s3,eD⟩;exact ⟨yl,eD,fun h=>⟨_,_,SqT.of (s3 _ _ e2),zTy h⟩,fun h=>⟨_,SqT.of (s3 _ _ e2),by omega⟩⟩
   ·rintro i ys H' y H'' hi ⟨_,yl,tu,s3,eD⟩ ⟨rfl,hy⟩ pre hpre;obtain ⟨p0,rfl⟩:=zAt hpre;have hy':=hy _ (SqT.of (s3 _ _ e2));rw [zTy hi] at hy';cases hy';have tk:xs.take (i+1)=xs.take i++ [xs[i]] :=by rw [zUU,zTy hi];rfl
    rcases tp.at_ (zTy hi) with ⟨ta,zs',e,et'⟩|⟨j,e⟩
    ·refine ⟨⟨[some xs[i]],rfl,rfl⟩,_,rfl,_,.ty "tuple",_,.type "tuple",_,rfl,rfl,?_,zr K,_,rfl,zI ?_⟩
     ·rw [e];exact .tup (s3 _ _ (s2 _ _ et'))
     ·refine ⟨_,rfl,eD,hi,by simp;omega,?_,zA.store s3 hD,zE⟩;rw [tk];exact tu.app (by rw [e];exact .yes et' .nil)
    ·refine ⟨⟨[some xs[i]],rfl,rfl⟩,_,rfl,_,.ty "tuple",_,.type "tuple",_,rfl,rfl,?_,zBm K,_,rfl,zD ?_⟩
     ·rw [e];exact .int j
     ·refine ⟨hi,by omega,?_,s3,eD⟩;rw [tk];have:=tu.app (.no (i:=j) .nil);rw [zUX] at this;rw [e];exact this
   ·rintro ys H' ⟨_,yl,tu,s3,eD⟩;rw [List.take_of_length_le (zUC _)] at tu;rw [tu.det tp] at eD;exact q D H' (s2.trans s3) nD eD
  refine ⟨_,QB.out (zF
   (zV (zL (zCS (K:=K) rfl) (zJ (K:=K) rfl (qw 0 rfl) zC (fun _ _=>rfl)) (zM (qc zG (qc zG zB rfl) rfl)) rfl) (zH
    (zS (zd zB))) zU) (zF
   (zV (zL zZ (zJ (K:=K) rfl (qw 0 rfl) zC (fun _ _=>rfl)) zG rfl) (zH
    (zS (zBZ (zBz (K:=K) rfl) rfl B.list zCx (qc (zJ (K:=K) rfl (qw 0 rfl) zC (fun _ _=>rfl)) zB rfl) rfl))) zU) (zF
   (zV (zL zZ (zJ (K:=K) rfl (qw 0 rfl) zC (fun _ _=>rfl)) zG rfl) (zH
    (zS (zd (qc (zJ (K:=K) rfl (qw 0 rfl) zC (fun _ _=>rfl)) (qc (zJ (K:=K) rfl (qw 0 rfl) zC (fun _ _=>rfl)) zB rfl) rfl)))) zU) hq2))),?_⟩
  cases e with
  | num a b u=>
   obtain ⟨t,p1,y,rfl,h1,h2,h3⟩:=hx;exact ⟨_,rfl,t,_,_,_,rfl,rfl,SqT.of h1,rfl,bs 2,fun p hp=>⟨p,_,rfl,.inr (SqT.of zE),rfl,rfl,_,rfl,zI ⟨bs 0,fun l hl=>q l [] _ ((zA.upd hp).trans (zA.upd hl)) (zA.none (zA.upd hp) hl) zE .nil⟩⟩⟩
  | nam n=>
   obtain ⟨t,rfl,h1⟩:=hx;exact ⟨_,rfl,t,_,_,_,rfl,rfl,SqT.of h1,rfl,bs 2,fun p hp=>⟨p,_,rfl,.inr (SqT.of zE),rfl,rfl,_,rfl,zI ⟨bs 0,fun l hl=>q l [] _ ((zA.upd hp).trans (zA.upd hl)) (zA.none (zA.upd hp) hl) zE .nil⟩⟩⟩
  | call1 n e=>
   obtain ⟨t,q1,x,rfl,h1,h0,h2⟩:=hx;refine ⟨_,rfl,t,_,_,_,rfl,rfl,SqT.of h1,rfl,bs 2,fun p hp=>⟨p,_,rfl,.inr (SqT.of zE),rfl,rfl,_,rfl,zD ⟨_,rfl,t,_,_,_,rfl,rfl,SqT.of (zA.upd hp _ _ h1),rfl,rfl,_,rfl,zI ⟨_,rfl,t,_,_,_,rfl,rfl,SqT.of (zA.upd hp _ _ h1),rfl,q1,_,rfl,.inr (SqT.of (zA.upd hp _ _ h0)),fun l hl=>?_⟩⟩⟩⟩;have s2:=(zA.upd hp (o:= .tup [.str "number",.str "name"])).trans (zA.upd hl (o:= .lst [x]));exact q l [x] _ s2 (zA.none (zA.upd hp) hl) zE (.cons (h2.same s2) .nil)
  | call2 n e f=>
   obtain ⟨t,q1,x,y,rfl,h1,h0,h2,h3⟩:=hx;refine ⟨_,rfl,t,_,_,_,rfl,rfl,SqT.of h1,rfl,bs 2,fun p hp=>⟨p,_,rfl,.inr (SqT.of zE),rfl,rfl,_,rfl,zD ⟨_,rfl,t,_,_,_,rfl,rfl,SqT.of (zA.upd hp _ _ h1),rfl,rfl,_,rfl,zI ⟨_,rfl,t,_,_,_,rfl,rfl,SqT.of (zA.upd hp _ _ h1),rfl,q1,_,rfl,.inr (SqT.of (zA.upd hp _ _ h0)),fun l hl=>?_⟩⟩⟩⟩;have s2:=(zA.upd hp (o:= .tup [.str "number",.str "name"])).trans (zA.upd hl (o:= .lst [x,y]));exact q l [x,y] _ s2 (zA.none (zA.upd hp) hl) zE (.cons (h2.same s2) (.cons (h3.same s2) .nil))
  | call3 n e f g=>
   obtain ⟨t,q1,x,y,z,rfl,h1,h0,h2,h3,h4⟩:=hx;refine ⟨_,rfl,t,_,_,_,rfl,rfl,SqT.of h1,rfl,bs 2,fun p hp=>⟨p,_,rfl,.inr (SqT.of zE),rfl,rfl,_,rfl,zD ⟨_,rfl,t,_,_,_,rfl,rfl,SqT.of (zA.upd hp _ _ h1),rfl,rfl,_,rfl,zI ⟨_,rfl,t,_,_,_,rfl,rfl,SqT.of (zA.upd hp _ _ h1),rfl,q1,_,rfl,.inr (SqT.of (zA.upd hp _ _ h0)),fun l hl=>?_⟩⟩⟩⟩;have s2:=(zA.upd hp (o:= .tup [.str "number",.str "name"])).trans (zA.upd hl (o:= .lst [x,y,z]));exact q l [x,y,z] _ s2 (zA.none (zA.upd hp) hl) zE (.cons (h2.same s2) (.cons (h3.same s2) (.cons (h4.same s2) .nil)))
  | loop n e k f=>
   obtain ⟨t,x,y,rfl,h1,h2,h3⟩:=hx;refine ⟨_,rfl,t,_,_,_,rfl,rfl,SqT.of h1,rfl,bs 2,fun p hp=>⟨p,_,rfl,.inr (SqT.of zE),rfl,rfl,_,rfl,zD ⟨_,rfl,t,_,_,_,rfl,rfl,SqT.of (zA.upd hp _ _ h1),rfl,rfl,_,rfl,zD ⟨_,rfl,t,_,_,_,rfl,rfl,SqT.of (zA.upd hp _ _ h1),rfl,rfl,_,rfl,zI ⟨_,rfl,t,_,_,_,rfl,rfl,SqT.of (zA.upd hp _ _ h1),rfl,_,rfl,t,_,_,_,rfl,rfl,SqT.of (zA.upd hp _ _ h1),rfl,bs 2,fun l hl=>?_⟩⟩⟩⟩⟩;have s2:=(zA.upd hp (o:= .tup [.str "number",.str "name"])).trans (zA.upd hl (o:= .lst [x,y]));exact q l [x,y] _ s2 (zA.none (zA.upd hp) hl) zE (.cons (h2.same s2) (.cons (h3.same s2) .nil))
  | neg e=>
   obtain ⟨t,x,rfl,h1,h2⟩:=hx;refine ⟨_,rfl,t,_,_,_,rfl,rfl,SqT.of h1,rfl,bs 2,fun p hp=>⟨p,_,rfl,.inr (SqT.of zE),rfl,rfl,_,rfl,zD ⟨_,rfl,t,_,_,_,rfl,rfl,SqT.of (zA.upd hp _ _ h1),rfl,rfl,_,rfl,zD ⟨_,rfl,t,_,_,_,rfl,rfl,SqT.of (zA.upd hp _ _ h1),rfl,rfl,_,rfl,zD (ht2 t _ [x] [x] _ (zA.upd hp _ _ h1) (by simp) ?_ fun l H' s' nl el=>?_)⟩⟩⟩⟩
   ·obtain ⟨ta,ws,rfl,ea⟩:=Xt.tup h2;exact .yes (zA.upd hp _ _ ea) .nil
   ·have s2:=(zA.upd hp (o:= .tup [.str "number",.str "name"])).trans s';exact q l [x] H' s2 (zA.none (zA.upd hp) nl) el (.cons (h2.same s2) .nil)
  | pow e k=>
   obtain ⟨t,x,rfl,h1,h2⟩:=hx;refine ⟨_,rfl,t,_,_,_,rfl,rfl,SqT.of h1,rfl,bs 2,fun p hp=>⟨p,_,rfl,.inr (SqT.of zE),rfl,rfl,_,rfl,zD ⟨_,rfl,t,_,_,_,rfl,rfl,SqT.of (zA.upd hp _ _ h1),rfl,rfl,_,rfl,zD ⟨_,rfl,t,_,_,_,rfl,rfl,SqT.of (zA.upd hp _ _ h1),rfl,rfl,_,rfl,zD (ht2 t _ [x,.int k] [x] _ (zA.upd hp _ _ h1) (by simp) ?_ fun l H' s' nl el=>?_)⟩⟩⟩⟩
   ·obtain ⟨ta,ws,rfl,ea⟩:=Xt.tup h2;exact .yes (zA.upd hp _ _ ea) (.no .nil)
   ·have s2:=(zA.upd hp (o:= .tup [.str "number",.str "name"])).trans s';exact q l [x] H' s2 (zA.none (zA.upd hp) nl) el (.cons (h2.same s2) .nil)
  | bin wd e f=>
   obtain ⟨t,x,y,rfl,h1,h2,h3⟩:=hx;obtain ⟨hw,_⟩:=ok;rcases hw with rfl | rfl | rfl | rfl
   all_goals exact ⟨_,rfl,t,_,_,_,rfl,rfl,SqT.of h1,rfl,bs 2,fun p hp=>⟨p,_,rfl,.inr (SqT.of zE),rfl,rfl,_,rfl,zD ⟨_,rfl,t,_,_,_,rfl,rfl,SqT.of (zA.upd hp _ _ h1),rfl,rfl,_,rfl,zD ⟨_,rfl,t,_,_,_,rfl,rfl,SqT.of (zA.upd hp _ _ h1),rfl,rfl,_,rfl,zD (ht2 t _ [x,y] [x,y] _ (zA.upd hp _ _ h1) (by simp) (zSN (h2.same (zA.upd hp)) (h3.same (zA.upd hp))) fun l H' s' nl el=>q l [x,y] H' ((zA.upd hp).trans s') (zA.none (zA.upd hp) nl) el (.cons (h2.same ((zA.upd hp).trans s')) (.cons (h3.same ((zA.upd hp).trans s')) .nil)))⟩⟩⟩⟩
  | ite a b c d=>
   obtain ⟨t,x,y,z,u,rfl,h1,h2,h3,h4,h5⟩:=hx;refine ⟨_,rfl,t,_,_,_,rfl,rfl,SqT.of h1,rfl,bs 2,fun p hp=>⟨p,_,rfl,.inr (SqT.of zE),rfl,rfl,_,rfl,zD ⟨_,rfl,t,_,_,_,rfl,rfl,SqT.of (zA.upd hp _ _ h1),rfl,rfl,_,rfl,zD ⟨_,rfl,t,_,_,_,rfl,rfl,SqT.of (zA.upd hp _ _ h1),rfl,rfl,_,rfl,zD (ht2 t _ [x,y,z,u] [x,y,z,u] _ (zA.upd hp _ _ h1) (by simp) ?_ fun l H' s' nl el=>?_)⟩⟩⟩⟩
   ·obtain ⟨ta,ws,rfl,ea⟩:=Xt.tup h2;obtain ⟨tb,_,rfl,eb⟩:=Xt.tup h3;obtain ⟨tc,_,rfl,ec⟩:=Xt.tup h4;obtain ⟨td,_,rfl,ed⟩:=Xt.tup h5;exact .yes (zA.upd hp _ _ ea) (.yes (zA.upd hp _ _ eb) (.yes (zA.upd hp _ _ ec) (.yes (zA.upd hp _ _ ed) .nil)))
   ·have s2:=(zA.upd hp (o:= .tup [.str "number",.str "name"])).trans s';exact q l [x,y,z,u] H' s2 (zA.none (zA.upd hp) nl) el (.cons (h2.same s2) (.cons (h3.same s2) (.cons (h4.same s2) (.cons (h5.same s2) .nil))))
def Lt(c:Nat):Prop:=97<=c/\c<=122
theorem zKp(c:Nat):zBI ⟨#[c]⟩=true↔Lt c:=by
 unfold zBI Lt;have e1:("a" :Str).cps.toList= [97] :=by decide+kernel
 have e9:("z" :Str).cps.toList= [122] :=by decide+kernel
 rw [e1,e9];simp only [zUp,zVA,decide_eq_false_iff_not];constructor
 ·rintro ⟨h1,h2⟩;constructor
  ·rcases Nat.lt_or_ge c 97 with z | z
   ·exact absurd (List.Lex.rel z: [c] < [97]) h1
   ·exact z
  ·rcases Nat.lt_or_ge 122 c with z | z
   ·exact absurd (List.Lex.rel z: [122] < [c]) h2
   ·exact z
 ·rintro ⟨h1,h2⟩;constructor
  ·intro z;rcases List.cons_lt_cons_iff.mp z with y |⟨_,y⟩
   ·omega
   ·exact List.not_lt_nil _ y
  ·intro z;rcases List.cons_lt_cons_iff.mp z with y |⟨_,y⟩
   ·omega
   ·exact List.not_lt_nil _ y
theorem zEZ: ∀cs:List Nat,(Str.join Str.empty (cs.map fun c=>(⟨#[c]⟩:Str))).cps.toList=cs
 | [] =>rfl
 | [c] =>rfl
 | c::d::cs=>by
  have ih:=zEZ (d::cs);show ((⟨#[c]⟩:Str)++Str.empty++Str.join Str.empty ((d::cs).map fun c=>(⟨#[c]⟩:Str))).cps.toList=_;rw [Str.cps_append,Str.cps_append,Array.toList_append,Array.toList_append,ih];rfl
theorem zDZ(cs:List Nat):(Txt.join "" (cs.map fun c=>(⟨#[c]⟩:Str))).cps.toList=cs:=by
 have e0:("" :Str)=Str.empty:=by decide+kernel
 have e:Txt.join "" (cs.map fun c=>(⟨#[c]⟩:Str))=Str.join Str.empty (cs.map fun c=>(⟨#[c]⟩:Str)):=by rw [e0];exact StrLaws.glued_eq_join _ _
 rw [e];exact zEZ cs
theorem zEn: ∀i:Fin 26,("abcdefghijklmnopqrstuvwxyz" :Str).cps.toList[(i:Nat)]?=some (97+(i:Nat)):=by decide+kernel
theorem zCD(x:Str):x.length=x.cps.toList.length:=Array.length_toList.symm
theorem fr4{Pp:Str->Nat->Prop}(h0:Pp y0 n0)(h1:Pp y1 n1)(h2:Pp y2 n2)(h3:Pp y3 n3): ∀(j:Nat) (y':Str) (i':Nat),[y0,y1,y2,y3][j]?=some y'-> [n0,n1,n2,n3][j]?=some i'->Pp y' i':=by
 intro j y' i' a b
 match j,a,b with
 | 0,a,b=>simp at a b;subst a b;exact h0
 | 1,a,b=>simp at a b;subst a b;exact h1
 | 2,a,b=>simp at a b;subst a b;exact h2
 | 3,a,b=>simp at a b;subst a b;exact h3
 | j+4,a,b=>simp at a
def so(cs:List Nat):Str:=⟨cs.toArray⟩
theorem zFT(cs:List Nat):(so cs).cps.toList=cs:=by simp [so]
theorem zCZ(cs:List Nat):(so cs).length=cs.length:=by rw [zCD,zFT]
theorem zHp(h:so a=so b):a=b:=by rw [<-zFT a,h,zFT]
theorem zNK(h:x.cps.toList=cs):x=so cs:=by
 cases x with
 | mk a=>simp at h;subst h;simp [so]
theorem zBq(x:Str)(ws:List Str):inV (.str x) (ws.map V.str)=decide (x∈ws):=by
 unfold inV;rw [zUv,List.any_eq_true,decide_eq_true_eq];constructor
 ·rintro ⟨y,hy,h⟩;obtain ⟨z,hz,rfl⟩:=zUt.mp hy;have e:z=x:=by simpa [eqV] using h
  rw [<-e];exact hz
 ·intro h;exact ⟨.str x,List.mem_map_of_mem h,by simp [eqV]⟩
theorem zNF(h1:1<=cs.length)(h8:cs.length<=8)(hl: ∀c∈cs,Lt c)(hw:so cs∉zEJ):Nm (so cs):=by
 unfold Nm yJ;simp only [zUp,decide_eq_true_eq,List.all_eq_true,zVA];refine ⟨⟨⟨by rw [zCZ];exact h1,by rw [zCZ];exact h8⟩,fun c hc=>(zKp c).mpr (hl c (by rw [zFT] at hc;exact hc))⟩,?_⟩;rw [zBq,zUW hw]
theorem zEE{f:Nat->Str}(h: ∀i j,i<j->j<n->f i≠f j):((List.range n).map f).Nodup:=by
 rw [List.Nodup,List.pairwise_map];exact (List.pairwise_lt_range (n:=n)).imp_of_mem fun {a b} _ hb hab=>h a b hab (List.mem_range.mp hb)
def zAz:List Str:= ["unit","take","let","fun","show","if","then","else","loop","for","do","last","none","nonea","noneb","nothing","more"]
theorem zKN: ∀x∈zEJ,x∈zAz:=by decide+kernel
theorem zKW: ∀x∈zEJ,2<=x.length:=by decide+kernel
def zDr(xs:List Nat)(lo hi:Option Int):List Nat:=(xs.drop (HT.sIx xs.length 0 lo)).take (HT.sIx xs.length xs.length hi - HT.sIx xs.length 0 lo)
theorem zOv(a b:Str):(a++b).length=a.length+b.length:=by
 rw [zCD,zCD,zCD,Str.cps_append,Array.toList_append,zUY]
theorem zSt:("last" :Str).length=4:=by decide+kernel
structure Eight(N:List Str):Prop where
 len:N.length=8
 nd:N.Nodup
 nm: ∀x∈N,Nm x
 la: ∀x∈N,x≠ "last"
 two: ∀x∈N,∀y∈N,x.length=2->y.length=2->x=y
theorem zRX:Eight ["a","b","c","d","e","g","h","i"] :=
 ⟨rfl,by decide+kernel,(by decide+kernel: ∀x∈(["a","b","c","d","e","g","h","i"] :List Str),yJ (.str x)=true),by decide+kernel,by decide+kernel⟩
def zPn:Sp:=fun vs H Q _=> ∃n:Int,vs= [.int n] /\0<=n/\ ∀l N H',zA H H'->H l=none->H' l=some (.lst (N.map V.str))->Eight N->Q (.ref l) H'
theorem zCo:FnScope ["_law_number_here","_law_letters","_law_word","_law_found","_law_at","_law_ahead","_law_behind","_law_words"] ["_law_number_here"] (zK zFg):=fs
theorem zSO(F:Fun K "_law_names" "_law_names" zFg f fd)(B:Bn mg)
  (FM:Fun K "_law_mixed" "_law_mixed" zFs fM fdM) (bM:zO K fdM ["_law_number_here","_law_k"] []) (mM:mg "_law_mixed" =some (.ref fM)) (GM:FnOk P w K mg base CX0 1 fM fdM ["_law_number_here","_law_k"] zHC):
  FnOk P w K mg base CX0 2 f fd ["_law_number_here"] zPn:=by
 refine F.ok zCo (fun vs H Q E h=>?_) (fun _ A _ s H vs Q E hr1 h=>?_)
 ·obtain ⟨n,rfl,_⟩:=h;rfl
 ·obtain ⟨n,rfl,n0,q⟩:=h;have hr1:Room 1 _:=hr1;have huN:=Nat.lt_of_succ_lt (zAb hr1);refine ⟨_,QB.out (zF
   (zBS 1 zCo.nd rfl (Or.inr rfl) zG rfl (.inl rfl)) (zF
   (zV (zL zZ (zl (qx 0 rfl) zC) zC rfl) (zH
    (zS (yx ["_law_k"] ["_law_number_here","_law_letters"] [0,1] rfl (zBo rfl B.range (qc zC zB rfl) rfl) rfl (by decide+kernel) rfl (by decide+kernel) (zw rfl (zw rfl lk0)) rfl (fr2 ⟨rfl,rfl,rfl,_,rfl,rfl⟩ ⟨rfl,rfl,rfl,_,rfl,rfl⟩) (yF rfl) (fun _ _ _ _=>(zb 0 (show (["_law_k","_law_number_here","_law_letters"] :List Str).Nodup by decide+kernel) rfl (.inl rfl) (.inr rfl))) (fun _ _ _ _=>zAn) (fun _ _ _ _=>(zJn (qx 2 rfl) (zl (yg (zj (qx 1 rfl) zC) (zHK zC (qw 0 rfl))) zC) (fun _ _=>rfl))) (fun _=>rfl)))) zU) (zF
   (zBS 2 zCo.nd rfl (Or.inr rfl) (yx ["_law_j"] ["_law_number_here","_law_letters"] [0,1] rfl (zBo rfl B.range (qc zC zB rfl) rfl) rfl (by decide+kernel) rfl (by decide+kernel) (zw rfl (zw rfl lk0)) rfl (fr2 ⟨rfl,rfl,rfl,_,rfl,rfl⟩ ⟨rfl,rfl,rfl,_,rfl,rfl⟩) (yF rfl) (fun _ _ _ _=>(zb 0 (show (["_law_j","_law_number_here","_law_letters"] :List Str).Nodup by decide+kernel) rfl (.inl rfl) (.inr rfl))) (fun _ _ _ _=>zAn) (fun _ _ _ _=>(zJn (qx 2 rfl) (zl (zR GM hr1 rfl mM FM.kp bM .nil zP (qc (qx 1 rfl) (qc (qw 0 rfl) zB rfl) rfl) rfl rfl rfl) zC) (fun _ _=>rfl))) (fun _=>rfl)) rfl (.inl rfl)) (zF
   (zV (zL zZ (zl (qx 0 rfl) zC) zC rfl) (zH
    (zCz zCK 3 (by exact zCo.nd) rfl (Or.inl rfl) (.inr rfl) ["_law_k"] ["_law_word"] [2] rfl (zBo rfl B.range (qc zC zB rfl) rfl) rfl (by decide+kernel) rfl (by decide+kernel) (zw rfl lk0) rfl (fr1 ⟨rfl,rfl,rfl,_,rfl,rfl⟩) (yF rfl) (fun _ _ _ _=>(zb 0 (show (["_law_k","_law_word"] :List Str).Nodup by decide+kernel) rfl (.inl rfl) (.inr rfl))) (fun _ _ _ _=>zAn) (fun C s₂ H₂ fp xe E hp=>(zII (K:=K) rfl zG (zDO (K:=K) rfl (qx 1 rfl) yR (yE (yg (qw 0 rfl) zC))) rfl rfl rfl)) (fun _=>rfl) rfl)) (zF
    (zY 4 zCo.nd rfl (zl (zj (qx 0 rfl) zC) zC) rfl) (zF
    (zBS 5 zCo.nd rfl (Or.inr rfl) (zII (K:=K) rfl zG (zDO (K:=K) rfl (qx 2 rfl) yR (yE (qw 4 rfl))) rfl rfl rfl) rfl (.inl rfl)) (zF
    (zBS 6 zCo.nd rfl (Or.inr rfl) (zII (K:=K) rfl zG (zDO (K:=K) rfl (qx 2 rfl) (yE (yg (qw 4 rfl) zC)) yR) rfl rfl rfl) rfl (.inl rfl)) (zH
    (zCz zCK 3 (by exact zCo.nd) rfl (Or.inl rfl) (.inr rfl) ["_law_k"] ["_law_number_here","_law_letters","_law_ahead","_law_behind"] [0,1,5,6] rfl (zBo rfl B.range (qc zC zB rfl) rfl) rfl (by decide+kernel) rfl (by decide+kernel) (zw rfl (zw rfl (zw rfl (zw rfl lk0)))) rfl (fr4 ⟨rfl,rfl,rfl,_,rfl,rfl⟩ ⟨rfl,rfl,rfl,_,rfl,rfl⟩ ⟨rfl,rfl,rfl,_,rfl,rfl⟩ ⟨rfl,rfl,rfl,_,rfl,rfl⟩) (yF rfl) (fun _ _ _ _=>(zb 0 (show (["_law_k","_law_number_here","_law_letters","_law_ahead","_law_behind"] :List Str).Nodup by decide+kernel) rfl (.inl rfl) (.inr rfl))) (fun _ _ _ _=>zAn) (fun C s₂ H₂ fp xe E hp=>(yt zFY (yt zFY (qx 3 rfl) (zJn (qx 2 rfl) (zl (yg (zj (qx 1 rfl) zC) (zHK zC (qw 0 rfl))) zC) (fun _ _=>rfl))) (qx 4 rfl))) (fun _=>rfl) rfl)))))) (zF
   (zBS 7 zCo.nd rfl (Or.inr rfl) (zd (qc zG (qc zG (qc zG (qc zG (qc zG (qc zG (qc zG (qc zG (qc zG (qc zG (qc zG (qc zG zB rfl) rfl) rfl) rfl) rfl) rfl) rfl) rfl) rfl) rfl) rfl) rfl)) rfl (.inl rfl)) (zF
   (zBS 7 zCo.nd rfl (Or.inr rfl) (zAd (qx 7 rfl) (zd (qc zG (qc zG (qc zG (qc zG (qc zG zB rfl) rfl) rfl) rfl) rfl))) rfl (.inl rfl)) (zF
   (zV (zL (zIE huN) (yx ["_law_name"] ["_law_words"] [7] rfl (zCR (K:=K) rfl (qw 3 rfl)) rfl (by decide+kernel) rfl (by decide+kernel) (zw rfl lk0) rfl (fr1 ⟨rfl,rfl,rfl,_,rfl,rfl⟩) (yF rfl) (fun _ _ _ _=>(zb 0 (show (["_law_name","_law_words"] :List Str).Nodup by decide+kernel) rfl (.inl rfl) (.inr rfl))) (fun _ _ _ _=>(zCH (zL (zCS (K:=K) rfl) (qw 0 rfl) (qx 1 rfl) rfl))) (fun _ _ _ _=>(qw 0 rfl)) (fun _=>rfl)) (zd zB) rfl) (zH
    (zS (zd (qc zG (qc zG (qc zG (qc zG (qc zG (qc zG (qc zG (qc zG zB rfl) rfl) rfl) rfl) rfl) rfl) rfl) rfl)))) zU) (zH
   (zS (qw 3 rfl)))))))))),?_⟩
  refine hd fun Z hz=>hz _ _ (hd fun Z hz=>?_);refine ⟨_,rfl,_,_,rfl,rfl,by decide,rfl,_,rfl,zp (fun c=>?_) (fun c=>hz _ _ (hd fun Z hz=>?_))⟩
  ·refine ⟨8,rfl,by decide,by decide,fun D hD=>?_⟩;refine zx 8 (fun i ys H'=>i<=8/\ys=((List.range i).map fun k:Nat=>so [97+((n/3+3*(k:Int))% 26).toNat]).map V.str/\H'=L2.upd H D (.lst ys)) ⟨zUN _,rfl,rfl⟩ (bs 8) ?_ ?_ ?_
   ·rintro i ys H' hi ⟨_,rfl,rfl⟩;exact ⟨by simp,zE,fun h=>h,fun h=>Nat.le_of_eq h.symm⟩
   ·rintro i ys H' x H'' hi ⟨_,rfl,rfl⟩ ⟨rfl,rfl⟩ pre hpre;obtain ⟨p0,rfl⟩:=zAt hpre;refine ⟨⟨[some (.int (0+(i:Int)))],rfl,rfl⟩,zI ?_⟩;have m0:=zUP (n/3+3*(0+(i:Int))) (show (26:Int)≠0 by decide);have m1:=zUK (n/3+3*(0+(i:Int))) (show (0:Int)<26 by decide);have ev:atI ("abcdefghijklmnopqrstuvwxyz" :Str).cps.toList ((n/3+3*(0+(i:Int)))% 26)=some (97+((n/3+3*(i:Int))% 26).toNat):=by
     rw [Int.zero_add] at m0 m1⊢;obtain ⟨j,hj⟩: ∃j:Nat,(n/3+3*(i:Int))% 26=j:=⟨((n/3+3*(i:Int))% 26).toNat,by omega⟩;rw [hj];exact zg (zEn ⟨j,by omega⟩)
    refine ⟨_,rfl,_,rfl,_,_,rfl,rfl,⟨by decide,by decide⟩,_,rfl,_,_,rfl,rfl,.inl ⟨by decide,by decide⟩,_,_,rfl,rfl,_,_,rfl,rfl,by decide,_,_,_,rfl,rfl,by decide+kernel,ev,zE,hi,?_,by rw [zEG]⟩;rw [List.range_succ,zUT,zUT];rfl
   ·rintro ys H' ⟨_,rfl,rfl⟩;refine q D _ _ (zA.upd hD) hD zE ⟨by simp,zEE fun i j hij hj z=>?_,fun x hx=>?_,fun x hx=>?_,fun x hx=>?_⟩
    ·have:=zHp z;simp at this;omega
    ·obtain ⟨k,hk,rfl⟩:=zUt.mp hx;have m0:=zUP (n/3+3*(k:Int)) (show (26:Int)≠0 by decide);have m1:=zUK (n/3+3*(k:Int)) (show (0:Int)<26 by decide);refine zNF (by simp) (by simp) (fun c hc=>?_) fun z=>?_
     ·simp at hc;subst hc;exact ⟨by omega,by omega⟩
     ·have:=zKW _ z;rw [zCZ] at this;simp at this
    ·obtain ⟨k,hk,rfl⟩:=zUt.mp hx;intro z;have:=congrArg Str.length z;rw [zCZ,zSt] at this;simp at this
    ·intro y hy h2;obtain ⟨k,hk,rfl⟩:=zUt.mp hx;rw [zCZ] at h2;simp at h2
  refine ⟨8,rfl,by decide,by decide,fun D hD=>?_⟩;refine zx 8 (fun i ys H'=> ∃cs:List Nat,i<=8/\cs.length=i/\(∀c∈cs,Lt c)/\ys=(cs.map fun c=>(⟨#[c]⟩:Str)).map V.str/\H'=L2.upd H D (.lst ys)) ⟨[],by decide,rfl,fun _ h=>(nomatch h),rfl,rfl⟩ (bs 8) ?_ ?_ ?_
  ·rintro i ys H' hi ⟨cs,_,hc,_,rfl,rfl⟩;exact ⟨by simp [hc],zE,fun h=>h,fun h=>Nat.le_of_eq h.symm⟩
  ·rintro i ys H' x H'' hi ⟨cs,_,hc,hl,rfl,rfl⟩ ⟨rfl,rfl⟩ pre hpre;obtain ⟨p0,rfl⟩:=zAt hpre;refine ⟨⟨[some (.int (0+(i:Int)))],rfl,rfl⟩,zI ?_⟩;refine ⟨_,rfl,_,rfl,_,rfl,n,0+(i:Int),rfl,by omega,by omega,fun r r0 r1=>?_⟩;have m0:0<=r % 26:=zUP r (by decide);have m1:r % 26<26:=zUK r (by decide);obtain ⟨j,hj⟩: ∃j:Nat,r % 26=j:=⟨(r % 26).toNat,by omega⟩;have hj2:j<26:=by omega
   refine ⟨_,_,rfl,rfl,by decide,_,_,97+j,rfl,rfl,by decide+kernel,?_,zE,cs++ [97+j],hi,by simp [hc],?_,?_,?_⟩
   ·rw [hj];exact zg (zEn ⟨j,hj2⟩)
   ·intro c hc2;rcases zUq.mp hc2 with z | z
    ·exact hl c z
    ·rw [zUs.mp z];exact ⟨by omega,by omega⟩
   ·simp
   ·rw [zEG]
  ·rintro ys H' ⟨cs,_,hc,hl,rfl,rfl⟩;obtain ⟨H1,g1,s1,e1⟩:=yH hD (.lst ((cs.map fun c=>(⟨#[c]⟩:Str)).map V.str));rw [g1];refine hz _ _ (hd fun Z hz=>?_);have fin: ∀(x y z:Option V) (l:Addr) (N:List Str) (H':Hp),zA H H'->H l=none->H' l=some (.lst (N.map V.str))->N.length=8->N.Nodup->(∀x∈N,∃cs,x=so cs/\1<=cs.length/\cs.length<=8/\ ∀c∈cs,Lt c)->(∀x∈N,∀y∈N,x.length=2->y.length=2->x=y)->
     Z [some (.int n),some (.str "abcdefghijklmnopqrstuvwxyz"),some (.ref D),some (.ref l),x,y,z,none] H':=fun x y z l N H' s' nl el N8 nd hN tw=>hz _ _ (hd fun Z hz=>by
    refine nw fun w1 H3 s3 e3=>?_;refine hz _ _ (hd fun Z hz=>?_);refine ⟨_,rfl,nw fun w2 H4 s4 e4=>?_⟩;refine cl (s4 _ _ e3) e4 fun w3 H5 s5 e5=>?_;have e5:H5 w3=some (.lst (zAz.map V.str)):=e5;have s35:=s3.trans (s4.trans s5);refine hz _ _ (hd fun Z hz=>?_);refine ⟨_,rfl,l,rfl,⟨_,SqL.of (s35 _ _ el)⟩,fun D2 hD2=>?_⟩;refine zx N.length (fun i ys H'=>i<=N.length/\ys=((N.take i).filter fun x=>decide (x∈zAz)).map V.str/\zA H5 H'/\H' D2=some (.lst ys)) ⟨zUN _,rfl,zA.upd hD2,zE⟩ (by rw [N8];exact bs 8) ?_ ?_ ?_
    ·rintro i ys H6 hi ⟨_,rfl,s6,e6⟩;refine ⟨?_,e6,fun h=>⟨_,.str N[i],SqL.of (s6 _ _ (s35 _ _ el)),by simp [h]⟩,fun h=>⟨_,SqL.of (s6 _ _ (s35 _ _ el)),by simp [h]⟩⟩;rw [zUF];exact zUM (zVC ..) (by simp;omega)
    ·rintro i ys H6 y H7 hi ⟨_,rfl,s6,e6⟩ ⟨rfl,hy⟩ pre hpre;obtain ⟨p0,rfl⟩:=zAt hpre;have hy':=hy _ (SqL.of (s6 _ _ (s35 _ _ el)));rw [zUD,zTy hi] at hy';cases hy';have tk:N.take (i+1)=N.take i++ [N[i]] :=by rw [zUU,zTy hi];rfl
     refine ⟨⟨[some (.str N[i])],rfl,rfl⟩,_,rfl,_,rfl,w3,_,rfl,.inl (SqL.of (s6 _ _ e5)),rfl,by decide+kernel,_,rfl,?_⟩;show if (inV (.str N[i]) (zAz.map V.str))=true then _ else _;rw [zBq];refine zp (fun cc=>?_) (fun cc=>?_)
     ·refine ⟨_,rfl,e6,hi,?_,zA.store s6 hD2,zE⟩;rw [tk,zUx,zUT];simp only [List.filter_cons,cc,List.filter_nil,if_true];rfl
     ·refine ⟨hi,?_,s6,e6⟩;rw [tk,zUx,zUT];simp only [List.filter_cons,cc,List.filter_nil];simp
    ·rintro ys H6 ⟨_,rfl,s6,e6⟩;rw [List.take_of_length_le (zUC _)] at e6;refine nw fun em H7 s7 e7=>?_;have s07:=s'.trans (s35.trans (s6.trans s7));refine ⟨D2,em,_,rfl,rfl,SqL.of (s7 _ _ e6),SqL.of e7,_,rfl,zp (fun cc=>?_) (fun cc=>hz _ _ ?_)⟩
     ·refine ⟨bs 8,fun r8 hr8=>?_⟩;exact q r8 ["a","b","c","d","e","g","h","i"] _ (s07.trans (zA.upd hr8)) (zA.none s07 hr8) zE zRX
     ·have emp:N.filter (fun x=>decide (x∈zAz))= [] :=by
       have:((N.filter fun x=>decide (x∈zAz)).map V.str).isEmpty=true:=by simpa using cc
       simpa using this
      have no: ∀x∈N,x∉zAz:=fun x hx hw=>by
       have:x∈N.filter (fun x=>decide (x∈zAz)):=zUz.mpr ⟨hx,by simpa using hw⟩;rw [emp] at this;cases this
      refine ⟨_,rfl,q l N H7 s07 nl (s7 _ _ (s6 _ _ (s35 _ _ el))) ⟨N8,nd,fun x hx=>?_,fun x hx z=>no x hx (by rw [z];decide+kernel),tw⟩⟩;obtain ⟨cs,rfl,h1,h8,hl⟩:=hN x hx;exact zNF h1 h8 hl fun z=>no _ hx (zKN _ z))
   have cv: ∀(lo hi:Option Int),yW ((cs.map fun c=>(⟨#[c]⟩:Str)).map V.str) lo hi=((zDr cs lo hi).map fun c=>(⟨#[c]⟩:Str)).map V.str:=fun lo hi=>by
    unfold yW zDr;simp only [zUF,List.map_drop,List.map_take]
   have jn: ∀ds:List Nat,ds.length<=8->((ds.map fun c=>(⟨#[c]⟩:Str)).map (·.length)).sum+(ds.map fun c=>(⟨#[c]⟩:Str)).length*("" :Str).length<=16777216:=fun ds h=>by
    have z:=StrLaws.sumLen_le (B:=1) (ds.map fun c=>(⟨#[c]⟩:Str)) (fun y hy=>by obtain ⟨c,_,rfl⟩:=zUt.mp hy;exact zUC 1);rw [zUF] at z⊢;have e0:("" :Str).length=0:=by decide+kernel
    rw [e0];omega
   refine ⟨_,rfl,_,_,rfl,rfl,by decide,rfl,_,rfl,zp (fun c3=>?_) (fun c3=>hd fun Z2 hz2=>?_)⟩
   ·refine ⟨8,rfl,by decide,by decide,fun D2 hD2=>?_⟩;have nD2:=zA.none s1 hD2;refine zx 8 (fun i ys H'=>i<=8/\ys=((List.range i).map fun k:Nat=>so (cs.take (k+1))).map V.str/\zA H1 H'/\H' D2=some (.lst ys)) ⟨zUN _,rfl,zA.upd hD2,zE⟩ (bs 8) ?_ ?_ ?_
    ·rintro i ys H' hi ⟨_,rfl,s2,e2⟩;exact ⟨by simp,e2,fun h=>h,fun h=>Nat.le_of_eq h.symm⟩
    ·rintro i ys H' x H'' hi ⟨_,rfl,s2,e2⟩ ⟨rfl,rfl⟩ pre hpre;obtain ⟨p0,rfl⟩:=zAt hpre;refine ⟨⟨[some (.int (0+(i:Int)))],rfl,rfl⟩,zI ?_⟩;refine ⟨rfl,_,rfl,_,rfl,_,_,rfl,rfl,_,rfl,D,_,rfl,SqL.of (s2 _ _ e1),fun p hp=>?_⟩;have hcut:zDr cs none (some (0+(i:Int)+1))=cs.take (i+1):=by
      unfold zDr;rw [show (0+(i:Int)+1)=((i+1:Nat):Int) by omega,HT.sIx_nat,HT.sIx_none,hc,List.drop_zero];congr 1;omega
     obtain ⟨H3,g3,s3,e3⟩:=yH hp (.lst (yW ((cs.map fun c=>(⟨#[c]⟩:Str)).map V.str) none (some (0+(i:Int)+1))));rw [g3];rw [cv,hcut] at e3;refine ⟨_,p,_,rfl,rfl,SqL.of e3,jn _ (by rw [List.length_take];omega),s3 _ _ e2,hi,?_,zA.store (s2.trans s3) hD2,zE⟩;rw [List.range_succ,zUT,zUT,zNK (zDZ (cs.take (i+1)))];rfl
    ·rintro ys H' ⟨_,rfl,s2,e2⟩;refine fin _ _ _ D2 _ H' (s1.trans s2) nD2 e2 (by simp) (zEE fun i j hij hj z=>?_) (fun x hx=>?_) fun x hx y hy hx2 hy2=>?_
     ·have:=congrArg List.length (zHp z);rw [List.length_take,List.length_take,hc] at this;omega
     ·obtain ⟨k,hk,rfl⟩:=zUt.mp hx;have hk':=List.mem_range.mp hk;exact ⟨_,rfl,by rw [List.length_take,hc];omega,by rw [List.length_take,hc];omega,fun c h=>hl c (List.mem_of_mem_take h)⟩
     ·obtain ⟨k,hk,rfl⟩:=zUt.mp hx;obtain ⟨k',hk',rfl⟩:=zUt.mp hy;have h1:=List.mem_range.mp hk;have h2:=List.mem_range.mp hk';rw [zCZ,List.length_take,hc] at hx2 hy2;have:k=k':=by omega
      rw [this]
   ·have a0:0<=n/3 % 8:=zUP _ (by decide);have a1:n/3 % 8<8:=zUK _ (by decide);obtain ⟨at',hat⟩: ∃k:Nat,n/3 % 8=(k:Int):=⟨(n/3 % 8).toNat,by omega⟩;have at8:at'<8:=by omega
    refine ⟨_,rfl,_,_,rfl,rfl,⟨by decide,by decide⟩,_,_,rfl,rfl,by decide,hz2 _ _ (hd fun Z3 hz3=>?_)⟩;rw [hat];refine ⟨rfl,_,rfl,_,rfl,_,rfl,sll e1 fun p H3 s3 e3=>?_⟩;have hcut:zDr cs none (some (at':Int))=cs.take at':=by
     unfold zDr;rw [HT.sIx_nat,HT.sIx_none,hc,List.drop_zero];congr 1;omega
    rw [cv,hcut] at e3;refine ⟨_,p,_,rfl,rfl,SqL.of e3,jn _ (by rw [List.length_take];omega),hz3 _ _ (hd fun Z4 hz4=>?_)⟩;refine ⟨rfl,_,rfl,_,rfl,_,_,rfl,rfl,_,rfl,sll (s3 _ _ e1) fun p2 H4 s4 e4=>?_⟩;have hcut2:zDr cs (some ((at':Int)+1)) none=cs.drop (at'+1):=by
     unfold zDr;rw [show ((at':Int)+1)=((at'+1:Nat):Int) by omega,HT.sIx_nat,HT.sIx_none,hc,show min (at'+1) 8=at'+1 by omega];exact List.take_of_length_le (by rw [List.length_drop,hc];exact zUC _)
    rw [cv,hcut2] at e4;refine ⟨_,p2,_,rfl,rfl,SqL.of e4,jn _ (by rw [List.length_drop,hc];omega),hz4 _ _ ?_⟩;have hA:=zDZ (cs.take at');have hB:=zDZ (cs.drop (at'+1));generalize Txt.join "" ((cs.take at').map fun c=>(⟨#[c]⟩:Str))=SA at hA⊢;generalize Txt.join "" ((cs.drop (at'+1)).map fun c=>(⟨#[c]⟩:Str))=SB at hB⊢;refine ⟨8,rfl,by decide,by decide,fun D2 hD2=>?_⟩;have s14:=s3.trans s4;have nD2:=zA.none (s1.trans s14) hD2;refine zx 8 (fun i ys H'=>i<=8/\ys=((List.range i).map fun k:Nat=>so (cs.take at'++([97+((n/24+3*(k:Int))% 26).toNat] ++cs.drop (at'+1)))).map V.str/\zA H4 H'/\H' D2=some (.lst ys)) ⟨zUN _,rfl,zA.upd hD2,zE⟩ (bs 8) ?_ ?_ ?_
    ·rintro i ys H' hi ⟨_,rfl,s2,e2⟩;exact ⟨by simp,e2,fun h=>h,fun h=>Nat.le_of_eq h.symm⟩
    ·rintro i ys H' x H'' hi ⟨_,rfl,s2,e2⟩ ⟨rfl,rfl⟩ pre hpre;obtain ⟨p0,rfl⟩:=zAt hpre;refine ⟨⟨[some (.int (0+(i:Int)))],rfl,rfl⟩,zI ?_⟩;have m0:=zUP (n/24+3*(0+(i:Int))) (show (26:Int)≠0 by decide);have m1:=zUK (n/24+3*(0+(i:Int))) (show (0:Int)<26 by decide);have ev:atI ("abcdefghijklmnopqrstuvwxyz" :Str).cps.toList ((n/24+3*(0+(i:Int)))% 26)=some (97+((n/24+3*(i:Int))% 26).toNat):=by
      rw [Int.zero_add] at m0 m1⊢;obtain ⟨j,hj⟩: ∃j:Nat,(n/24+3*(i:Int))% 26=j:=⟨((n/24+3*(i:Int))% 26).toNat,by omega⟩;rw [hj];exact zg (zEn ⟨j,by omega⟩)
     have lA:SA.length=at':=by rw [zCD,hA,List.length_take,hc];omega
     have lB:SB.length=8 -(at'+1):=by rw [zCD,hB,List.length_drop,hc]
     have l1:(⟨#[97+((n/24+3*(i:Int))% 26).toNat]⟩:Str).length=1:=rfl;refine ⟨_,rfl,_,rfl,_,rfl,_,_,rfl,rfl,⟨by decide,by decide⟩,_,rfl,_,_,rfl,rfl,.inl ⟨by decide,by decide⟩,_,_,rfl,rfl,_,_,rfl,rfl,by decide,_,_,_,rfl,rfl,by decide+kernel,ev,_,_,rfl,rfl,by rw [lA,l1,zUJ];omega,_,rfl,_,_,rfl,rfl,by rw [zOv,lA,l1,lB,zUJ];omega,e2,hi,?_,zA.store s2 hD2,zE⟩;rw [List.range_succ,zUT,zUT];congr 1;rw [List.map_singleton,List.map_singleton];congr 2;apply zNK;rw [Str.cps_append,Str.cps_append,Array.toList_append,Array.toList_append,hA,hB,List.append_assoc]
    ·rintro ys H' ⟨_,rfl,s2,e2⟩;refine fin _ _ _ D2 _ H' ((s1.trans s14).trans s2) nD2 e2 (by simp) (zEE fun i j hij hj z=>?_) (fun x hx=>?_) fun x hx y hy hx2 hy2=>?_
     ·have:=zHp z;have:=List.append_cancel_left this;simp at this;omega
     ·obtain ⟨k,hk,rfl⟩:=zUt.mp hx;have m0:=zUP (n/24+3*(k:Int)) (show (26:Int)≠0 by decide);have m1:=zUK (n/24+3*(k:Int)) (show (0:Int)<26 by decide);refine ⟨_,rfl,by simp;omega,by simp [hc];omega,fun c h=>?_⟩;simp only [zUq,zUs] at h;rcases h with h | h | h
      ·exact hl c (List.mem_of_mem_take h)
      ·subst h;exact ⟨by omega,by omega⟩
      ·exact hl c (List.mem_of_mem_drop h)
     ·obtain ⟨k,hk,rfl⟩:=zUt.mp hx;rw [zCZ] at hx2;simp [hc] at hx2;omega
theorem zOg:Nm "last" :=by show yJ (.str "last")=true;decide+kernel
theorem zLD(hC: ∀p∈Cs,Nm p.1)(g:Gen U Cs N e):(∀x∈N,Nm x)->Ok e:=by
 induction g with
 | leaf h=>
  intro hN;cases h with
  | nam h=>exact hN _ h
  | num ok _=>exact ok
 | neg _ ih=>exact fun hN=>ih hN
 | bin hw _ _ i1 i2=>exact fun hN=>⟨hw,i1 hN,i2 hN⟩
 | pow _ k0 k1 ih=>exact fun hN=>⟨ih hN,k0,k1⟩
 | ite _ _ _ _ i1 i2 i3 i4=>exact fun hN=>⟨i1 hN,i2 hN,i3 hN,i4 hN⟩
 | @loop N s e f k hs _ k0 k1 _ i1 i2=>
  intro hN;have ns:Nm s:=hs.elim (fun h=>hN _ h) fun h=>by rw [h];exact zOg
  exact ⟨ns,i1 hN,k0,k1,i2 fun x hx=>(zUq.mp hx).elim (fun h=>hN _ h) fun h=>by rw [zUs.mp h];exact ns⟩
 | call1 hc _ i1=>exact fun hN=>⟨hC _ hc,i1 hN⟩
 | call2 hc _ _ i1 i2=>exact fun hN=>⟨hC _ hc,i1 hN,i2 hN⟩
 | call3 hc _ _ _ i1 i2 i3=>exact fun hN=>⟨hC _ hc,i1 hN,i2 hN,i3 hN⟩
theorem zIx(hU: ∀x∈U,srt ks x=some ("unit" :Str))(g:Gen U Cs N e):
  ∀inn:List Str,(∀x∈N,x∈inn\/srt ks x=some ("take" :Str)\/srt ks x=some ("let" :Str))->(∀p∈Cs,p.1∉inn/\p.1∉N/\p.1≠ "last" /\ ∃m ps x,ks.lookup p.1=some (.fun' m ps x)/\ps.length=p.2)->bad ks e inn=none:=by
 have call: ∀(Cs:List (Str×Nat)) (N inn:List Str) (s:Str) (k:Nat),(s,k)∈Cs->(∀p∈Cs,p.1∉inn/\p.1∉N/\p.1≠ "last" /\ ∃m ps x,ks.lookup p.1=some (.fun' m ps x)/\ps.length=p.2)->zBN ks inn s k=none:=fun Cs N inn s k hc hC=>by
  obtain ⟨h1,_,_,m,ps,x,h2,h3⟩:=hC _ hc;unfold zBN;rw [if_neg h1,h2];exact if_pos h3
 induction g with
 | leaf h=>
  intro inn hN _;cases h with
  | @nam s h=>
   show zDG ks inn s=none;unfold zDG;by_cases hi:s∈inn
   ·rw [if_pos hi]
   ·rw [if_neg hi,if_pos ((hN s h).resolve_left hi)]
  | @num a b u ok hs=>
   cases u with
   | none=>rfl
   | some us=>
    show zBM ks us=none;unfold zBM;rw [List.findSome?_eq_none_iff];intro p hp;rw [if_pos (hU _ (hs us rfl p hp))]
 | neg _ ih=>exact fun inn hN hC=>ih inn hN hC
 | bin hw _ _ i1 i2=>exact fun inn hN hC=>by show Option.or _ _=none;rw [i1 inn hN hC,i2 inn hN hC];rfl
 | pow _ k0 k1 ih=>exact fun inn hN hC=>ih inn hN hC
 | ite _ _ _ _ i1 i2 i3 i4=>exact fun inn hN hC=>by show Option.or _ _=none;rw [i1 inn hN hC,i2 inn hN hC,i3 inn hN hC,i4 inn hN hC];rfl
 | @loop N s e f k hs _ k0 k1 _ i1 i2=>
  intro inn hN hC;show Option.or _ _=none;rw [i1 inn hN hC,i2 (s::inn) (fun x hx=>?_) fun p hp=>?_]
  ·rfl
  ·rcases zUq.mp hx with h | h
   ·exact (hN x h).elim (fun z=> .inl (zUd _ z)) .inr
   ·rw [zUs.mp h];exact .inl (List.mem_cons_self ..)
  ·obtain ⟨h1,h2,h3,h4⟩:=hC p hp;have hps:p.1≠s:=fun z=>hs.elim (fun h=>h2 (by rw [z];exact h)) fun h=>h3 (by rw [z,h]);refine ⟨fun z=>(zUo.mp z).elim (fun y=>hps y) h1,fun z=>(zUq.mp z).elim h2 fun y=>hps (zUs.mp y),h3,h4⟩
 | call1 hc _ i1=>exact fun inn hN hC=>by show Option.or _ _=none;rw [call _ _ _ _ _ hc hC,i1 inn hN hC];rfl
 | call2 hc _ _ i1 i2=>exact fun inn hN hC=>by show Option.or _ _=none;rw [call _ _ _ _ _ hc hC,i1 inn hN hC,i2 inn hN hC];rfl
 | call3 hc _ _ _ i1 i2 i3=>exact fun inn hN hC=>by show Option.or _ _=none;rw [call _ _ _ _ _ hc hC,i1 inn hN hC,i2 inn hN hC,i3 inn hN hC];rfl
def kn(rs:List Rw):Kn:=rs.foldl zCp []
theorem zAS(rs:List Rw)(r:Rw):kn (rs++ [r])=zCp (kn rs) r:=by simp [kn]
theorem zDu: ∀(rs:List Rw) (ks:Kn) (i:Nat) (r:Rw),zAR ks i rs=none->yV (rs.foldl zCp ks) r=none->zAR ks i (rs++ [r])=none
 | [],ks,i,r,_,h=>by show zAR ks i [r] =none;unfold zAR;rw [show yV ks r=none from h];rfl
 | r0::rs,ks,i,r,h,k=>by
  show zAR ks i (r0::(rs++ [r]))=none;unfold zAR at h⊢;cases e:yV ks r0 with
  | some p=>rw [e] at h;cases h
  | none=>
   rw [e] at h;exact zDu rs (zCp ks r0) (i+1) r h k
theorem zBA(x:Str):(ks++ [(n,r)]).lookup x=(ks.lookup x).or (if x=n then some r else none):=by
 induction ks with
 | nil=>
  show List.lookup x [(n,r)] =_;rw [List.lookup_cons];by_cases h:x=n
  ·simp [h]
  ·simp [h,beq_eq_false_iff_ne.mpr h]
 | cons p ks ih=>
  rw [List.cons_append,List.lookup_cons,List.lookup_cons];cases (x==p.1)
  ·exact ih
  ·rfl
def GN(x:Str):Prop:=Nm x/\x≠ "last"
structure Wl(U Vs:List Str)(Cs:List (Str×Nat))(F:List Str)(rs:List Rw):Prop where
 bad:zAR [] 0 rs=none
 u: ∀x∈U,srt (kn rs) x=some ("unit" :Str)
 v: ∀x∈Vs,srt (kn rs) x=some ("take" :Str)\/srt (kn rs) x=some ("let" :Str)
 c: ∀p∈Cs,1<=p.2/\p.2<=3/\ ∃m ps e,(kn rs).lookup p.1=some (.fun' m ps e)/\ps.length=p.2
 f: ∀x∈F,(kn rs).lookup x=none
 gu: ∀x∈U,GN x
 gv: ∀x∈Vs,GN x
 gc: ∀p∈Cs,GN p.1
 gf: ∀x∈F,GN x
 ok: ∀r∈rs,OkR r
 un:U.length=yb rs
 u6:U.length<=6
 nd:U.Nodup
 ndf:F.Nodup
 vl:Vs.length<=rs.length
 cl:Cs.length<=rs.length
 fl:18<=F.length+rs.length
theorem zMR{ks:Kn}{n:Str}{r:Rw}{x w:Str}(h:srt ks x=some w):srt (ks++ [(n,r)]) x=some w:=by
 unfold srt at*;rw [zBA];cases e:ks.lookup x with
 | none=>rw [e] at h;cases h
 | some y=>rw [e] at h;exact h
theorem zEC{ks:Kn}{n:Str}{r y:Rw}{x:Str}(h:ks.lookup x=some y):(ks++ [(n,r)]).lookup x=some y:=by rw [zBA,h];rfl
theorem zEp{ks:Kn}{n:Str}{r:Rw}(h:ks.lookup n=none):(ks++ [(n,r)]).lookup n=some r:=by rw [zBA,h,if_pos rfl];rfl
theorem zCA(rs:List Rw)(r:Rw):yb (rs++ [r])=yb rs+if zAf r then 1 else 0:=by
 unfold yb;rw [zUx,zUY];cases h:zAf r<;>simp [List.filter_cons,h]
theorem Wl.add{U Vs:List Str}{Cs:List (Str×Nat)}{F:List Str}{rs:List Rw}(h:Wl U Vs Cs F rs){n:Str}{r:Rw}(hn:n∈F)(e:nmR r=some n)(ok:OkR r)(hb:yV (kn rs) r=none)(j:Nat)(hj:F[j]?=some n):
  (∀x,srt (kn rs) x≠none->srt (kn (rs++ [r])) x=srt (kn rs) x)/\kn (rs++ [r])=kn rs++ [(n,r)] /\zAR [] 0 (rs++ [r])=none/\(∀x∈F.eraseIdx j,(kn (rs++ [r])).lookup x=none)/\(F.eraseIdx j).Nodup/\(∀x∈F.eraseIdx j,GN x)/\18<=(F.eraseIdx j).length+(rs++ [r]).length/\(∀x∈rs++ [r],OkR x):=by
 have ek:kn (rs++ [r])=kn rs++ [(n,r)] :=by rw [zAS];unfold zCp;rw [e]
 have sub:=List.eraseIdx_sublist F j;have jl:=(zUy.mp hj).1;refine ⟨fun x hx=>?_,ek,zDu rs [] 0 r h.bad hb,fun x hx=>?_,h.ndf.sublist sub,fun x hx=>h.gf x (sub.subset hx),?_,fun x hx=>?_⟩
 ·cases hs:srt (kn rs) x with
  | none=>exact absurd hs hx
  | some w=>rw [ek];exact zMR hs
 ·rw [ek,zBA,h.f x (sub.subset hx)];have hne:x≠n:=fun z=>by
   subst z;obtain ⟨i,hi,ei⟩:=List.getElem_of_mem hx;have hl:=List.length_eraseIdx_of_lt jl;rw [List.getElem_eraseIdx] at ei;obtain ⟨_,e2⟩:=zUy.mp hj;have pw:=List.pairwise_iff_getElem.mp h.ndf;split at ei
   ·rename_i hij
    exact pw i j (by omega) jl hij (by rw [ei,e2])
   ·rename_i hij
    exact pw j (i+1) jl (by omega) (by omega) (by rw [ei,e2])
  rw [if_neg hne];rfl
 ·rw [List.length_eraseIdx_of_lt jl,zUY,List.length_singleton];have:=h.fl;omega
 ·rcases zUq.mp hx with z | z
  ·exact h.ok x z
  ·rw [zUs.mp z];exact ok
theorem zAj{ks:Kn}{x:Str}{w:Str}(h:srt ks x=some w):srt ks x≠none:=fun z=>by rw [z] at h;cases h
theorem Wl.unit{U Vs:List Str}{Cs:List (Str×Nat)}{F:List Str}{rs:List Rw}(h:Wl U Vs Cs F rs){n:Str}{j:Nat}(hj:F[j]?=some n)(h5:U.length<=5):Wl (U++ [n]) Vs Cs (F.eraseIdx j) (rs++ [.unit n]):=by
 have hn:n∈F:=zUa hj;have ln:=h.f n hn;have hb:yV (kn rs) (.unit n)=none:=by simp [yV,ln]
 have gn:=h.gf n hn;obtain ⟨k1,k2,k3,k4,k5,k6,k7,k8⟩:=h.add hn (r:= .unit n) rfl gn.1 hb j hj;have sn:srt (kn (rs++ [.unit n])) n=some ("unit" :Str):=by unfold srt;rw [k2,zEp ln];rfl
 have su:=zCA rs (.unit n);refine ⟨k3,fun x hx=>?_,fun x hx=>?_,fun p hp=>?_,k4,fun x hx=>?_,h.gv,h.gc,k6,k8,?_,?_,?_,k5,?_,?_,k7⟩
 ·rcases zUq.mp hx with z | z
  ·rw [k1 x (zAj (h.u x z))];exact h.u x z
  ·rw [zUs.mp z];exact sn
 ·rcases h.v x hx with z | z
  ·exact .inl (by rw [k1 x (zAj z)];exact z)
  ·exact .inr (by rw [k1 x (zAj z)];exact z)
 ·obtain ⟨a,b,m,ps,e,c,d⟩:=h.c p hp;exact ⟨a,b,m,ps,e,by rw [k2];exact zEC c,d⟩
 ·rcases zUq.mp hx with z | z
  ·exact h.gu x z
  ·rw [zUs.mp z];exact gn
 ·rw [zUY,su,h.un];rfl
 ·rw [zUY,List.length_singleton];omega
 ·rw [List.nodup_append];refine ⟨h.nd,by simp,fun a ha b hb z=>?_⟩;rw [zUs] at hb;subst hb z;have:=h.u a ha;unfold srt at this;rw [ln] at this;cases this
 ·have:=h.vl;rw [zUY];omega
 ·have:=h.cl;rw [zUY];omega
theorem Wl.val{U Vs:List Str}{Cs:List (Str×Nat)}{F:List Str}{rs:List Rw}(h:Wl U Vs Cs F rs){n:Str}{j:Nat}{r:Rw}(hj:F[j]?=some n)(e:nmR r=some n)(hs:zAC r= "take" \/zAC r= "let")(ok:OkR r)(hb:yV (kn rs) r=none)(hu:zAf r=false):Wl U (Vs++ [n]) Cs (F.eraseIdx j) (rs++ [r]):=by
 have hn:n∈F:=zUa hj;have ln:=h.f n hn;have gn:=h.gf n hn;obtain ⟨k1,k2,k3,k4,k5,k6,k7,k8⟩:=h.add hn e ok hb j hj;have sn:srt (kn (rs++ [r])) n=some (zAC r):=by unfold srt;rw [k2,zEp ln];rfl
 have su:=zCA rs r;rw [hu] at su;refine ⟨k3,fun x hx=>?_,fun x hx=>?_,fun p hp=>?_,k4,h.gu,fun x hx=>?_,h.gc,k6,k8,?_,h.u6,h.nd,k5,?_,?_,k7⟩
 ·rw [k1 x (zAj (h.u x hx))];exact h.u x hx
 ·rcases zUq.mp hx with z | z
  ·rcases h.v x z with z | z
   ·exact .inl (by rw [k1 x (zAj z)];exact z)
   ·exact .inr (by rw [k1 x (zAj z)];exact z)
  ·rw [zUs.mp z,sn];rcases hs with z | z
   ·exact .inl (by rw [z])
   ·exact .inr (by rw [z])
 ·obtain ⟨a,b,m,ps,e,c,d⟩:=h.c p hp;exact ⟨a,b,m,ps,e,by rw [k2];exact zEC c,d⟩
 ·rcases zUq.mp hx with z | z
  ·exact h.gv x z
  ·rw [zUs.mp z];exact gn
 ·rw [su,h.un];rfl
 ·have:=h.vl;rw [zUY,zUY,List.length_singleton,List.length_singleton];omega
 ·have:=h.cl;rw [zUY];omega
theorem Wl.fn{U Vs:List Str}{Cs:List (Str×Nat)}{F:List Str}{rs:List Rw}(h:Wl U Vs Cs F rs){n:Str}{j:Nat}{ps:List Str}{e:Ex}(hj:F[j]?=some n)(p1:1<=ps.length)(p3:ps.length<=3)(ok:OkR (.fun' n ps e))(hb:yV (kn rs) (.fun' n ps e)=none):Wl U Vs (Cs++ [(n,ps.length)]) (F.eraseIdx j) (rs++ [.fun' n ps e]):=by
 have hn:n∈F:=zUa hj;have ln:=h.f n hn;have gn:=h.gf n hn;obtain ⟨k1,k2,k3,k4,k5,k6,k7,k8⟩:=h.add hn (r:= .fun' n ps e) rfl ok hb j hj;have su:=zCA rs (.fun' n ps e);refine ⟨k3,fun x hx=>?_,fun x hx=>?_,fun p hp=>?_,k4,h.gu,h.gv,fun p hp=>?_,k6,k8,?_,h.u6,h.nd,k5,?_,?_,k7⟩
 ·rw [k1 x (zAj (h.u x hx))];exact h.u x hx
 ·rcases h.v x hx with z | z
  ·exact .inl (by rw [k1 x (zAj z)];exact z)
  ·exact .inr (by rw [k1 x (zAj z)];exact z)
 ·rcases zUq.mp hp with z | z
  ·obtain ⟨a,b,m,ps,e,c,d⟩:=h.c p z;exact ⟨a,b,m,ps,e,by rw [k2];exact zEC c,d⟩
  ·rw [zUs.mp z];exact ⟨p1,p3,n,ps,e,by rw [k2];exact zEp ln,rfl⟩
 ·rcases zUq.mp hp with z | z
  ·exact h.gc p z
  ·rw [zUs.mp z];exact gn
 ·rw [su,h.un];rfl
 ·have:=h.vl;rw [zUY];omega
 ·have:=h.cl;rw [zUY,zUY,List.length_singleton,List.length_singleton];omega
theorem Wl.shw(h:Wl U Vs Cs F rs)(ok:OkE e)(hb:Fr.bad (kn rs) e [] =none):Wl U Vs Cs F (rs++ [.show' e]):=by
 have ek:kn (rs++ [.show' e])=kn rs:=by rw [zAS];rfl
 have su:=zCA rs (.show' e);refine ⟨zDu rs [] 0 _ h.bad (by show up (Fr.bad (kn rs) e [])=none;rw [hb];rfl),?_,?_,?_,?_,h.gu,h.gv,h.gc,h.gf,fun x hx=>?_,?_,h.u6,h.nd,h.ndf,?_,?_,?_⟩
 ·rw [ek];exact h.u
 ·rw [ek];exact h.v
 ·rw [ek];exact h.c
 ·rw [ek];exact h.f
 ·rcases zUq.mp hx with z | z
  ·exact h.ok x z
  ·rw [zUs.mp z];exact ok
 ·rw [su,h.un];rfl
 ·have:=h.vl;rw [zUY];omega
 ·have:=h.cl;rw [zUY];omega
 ·have:=h.fl;rw [zUY];omega
theorem Wl.exp(h:Wl U Vs Cs F rs)(g:Gen U Cs Vs e):Ok e/\Fr.bad (kn rs) e [] =none:=by
 refine ⟨zLD (fun p hp=>(h.gc p hp).1) g fun x hx=>(h.gv x hx).1,zIx h.u g [] (fun x hx=> .inr (h.v x hx)) fun p hp=>?_⟩;obtain ⟨_,_,m,ps,x,c,d⟩:=h.c p hp;refine ⟨by simp,fun z=>?_,(h.gc p hp).2,m,ps,x,c,d⟩;have:=h.v _ z;unfold srt at this;rw [c] at this;rcases this with t | t
 ·exact absurd (Option.some.inj t) (by show ("fun" :Str)≠ "take";decide)
 ·exact absurd (Option.some.inj t) (by show ("fun" :Str)≠ "let";decide)
theorem zGZ: ∀(ps inn:List Str),ps.Nodup->(∀p∈ps,p∉inn)->twP inn ps=none
 | [],_,_,_=>rfl
 | p::ps,inn,nd,h=>by
  rw [List.nodup_cons] at nd;unfold twP;rw [if_neg (h p (List.mem_cons_self ..))];exact zGZ ps (p::inn) nd.2 fun q hq z=>(zUo.mp z).elim (fun y=>nd.1 (by rw [<-y];exact hq)) (h q (zUd _ hq))
theorem Wl.fexp(h:Wl U Vs Cs F rs)(nd:ps.Nodup)(gp: ∀p∈ps,Nm p)(g:Gen U (Cs.filter fun p=>!decide (p.1∈ps)) ((Vs.filter fun x=>!decide (x∈ps))++ps) e):Ok e/\Fr.bad (kn rs) e ps.reverse=none:=by
 have mem: ∀p∈Cs.filter (fun p=>!decide (p.1∈ps)),p∈Cs/\p.1∉ps:=fun p hp=>by
  obtain ⟨a,b⟩:=zUz.mp hp;exact ⟨a,by simpa using b⟩
 have memv: ∀x∈Vs.filter (fun x=>!decide (x∈ps)),x∈Vs:=fun x hx=>(zUz.mp hx).1;refine ⟨zLD (fun p hp=>(h.gc p (mem p hp).1).1) g fun x hx=>?_,zIx h.u g ps.reverse (fun x hx=>?_) fun p hp=>?_⟩
 ·rcases zUq.mp hx with z | z
  ·exact (h.gv x (memv x z)).1
  ·exact gp x z
 ·rcases zUq.mp hx with z | z
  ·exact .inr (h.v x (memv x z))
  ·exact .inl (List.mem_reverse.mpr z)
 ·obtain ⟨hp1,hp2⟩:=mem p hp;obtain ⟨_,_,m,qs,x,c,d⟩:=h.c p hp1;refine ⟨fun z=>hp2 (List.mem_reverse.mp z),fun z=>?_,(h.gc p hp1).2,m,qs,x,c,d⟩;rcases zUq.mp z with z | z
  ·have:=h.v _ (memv _ z);unfold srt at this;rw [c] at this;rcases this with t | t
   ·exact absurd (Option.some.inj t) (by show ("fun" :Str)≠ "take";decide)
   ·exact absurd (Option.some.inj t) (by show ("fun" :Str)≠ "let";decide)
  ·exact hp2 z
def yk:List Str:= ["pa","pb","pc","pd","pe","qa","qb","qc","qd","qe","sa","sb","sc","sd","se","ta","tb","tc","td","te"]
def mo(N:List Str):List Str:=yk.filter fun x=>!decide (x∈N)
theorem zMX: ∀x∈yk,yJ (.str x)=true:=by decide+kernel
theorem zGX: ∀x∈yk,x.length=2:=by decide+kernel
theorem zMz: ∀x∈yk,x≠ "last" :=by decide+kernel
theorem zIH:yk.Nodup:=by decide+kernel
theorem zLg: ∀z∈yk,(yk.filter fun x=>!decide (x=z)).length=19:=by decide+kernel
theorem zFK(N:List Str):(mo N).Sublist yk:=List.filter_sublist
theorem zIC(h:Eight N):19<=(mo N).length:=by
 by_cases hz: ∃z∈yk,z∈N
 ·obtain ⟨z,hz,hN⟩:=hz;have:mo N=yk.filter fun x=>!decide (x=z):=by
   unfold mo;refine List.filter_congr fun x hx=>?_;congr 1;rw [decide_eq_decide];exact ⟨fun hxN=>h.two x hxN z hN (zGX x hx) (zGX z hz),fun e=>by rw [e];exact hN⟩
  rw [this,zLg z hz];exact zUC _
 ·have:mo N=yk:=by
   unfold mo;rw [List.filter_eq_self];intro x hx;have:x∉N:=fun hxN=>hz ⟨x,hx,hxN⟩;simp [this]
  rw [this];decide
theorem zJZ(h:x∈mo N):x∉N:=by
 have:=(zUz.mp h).2;simpa using this
theorem zGt(h:x∈mo N):GN x:=⟨zMX x ((zFK N).subset h),zMz x ((zFK N).subset h)⟩
theorem zOs(h:Eight N):Wl [] [] [] (N++(mo N).take 10) [] :=by
 have hl:=zIC h;refine ⟨rfl,by simp,by simp,by simp,fun x _=>rfl,by simp,by simp,by simp,fun x hx=>?_,by simp,rfl,by simp,by simp,?_,by simp,by simp,?_⟩
 ·rcases zUq.mp hx with z | z
  ·exact ⟨h.nm x z,h.la x z⟩
  ·exact zGt (List.mem_of_mem_take z)
 ·rw [List.nodup_append];exact ⟨h.nd,(zIH.sublist (zFK N)).sublist (List.take_sublist ..),fun a ha b hb e=>zJZ (List.mem_of_mem_take hb) (by rw [<-e];exact ha)⟩
 ·rw [zUY,List.length_take,h.len,List.length_nil];omega
structure LpI(H0 H:Hp)(aN aM aF l aU aV aC aR:Addr)(N U Vs:List Str)(Cs:List (Str×Nat))(F:List Str)(rs:List Rw)(ys:List V)(x y:Int):Prop where
 sm:zA H0 H
 n:H aN=some (.lst (N.map V.str))
 m:H aM=some (.lst ((mo N).map V.str))
 f:H aF=some (.lst (F.map V.str))
 at_:H l=some (.lst [.int x,.int y])
 u:H aU=some (.lst (U.map V.str))
 v:H aV=some (.lst (Vs.map V.str))
 c: ∃ts:List Addr,H aC=some (.lst (ts.map V.ref))/\Paired (fun t (p:Str×Nat)=>H t=some (.tup [.str p.1,.int (p.2:Int)])) ts Cs
 r:H aR=some (.lst ys)
 rows:Paired (fun v r=>Rt H r v) ys rs
 nF:aF≠aN/\aF≠aM/\aF≠aU/\aF≠aV/\aF≠aC/\aF≠aR/\aF≠l
 nR:aR≠aN/\aR≠aM/\aR≠aU/\aR≠aV/\aR≠aC/\aR≠l
 nl:l≠aN/\l≠aM/\l≠aU/\l≠aV/\l≠aC
 h0:H0 l=none/\H0 aF=none/\H0 aR=none
section
variable {H0 H H':Hp}{aN aM aF l aU aV aC aR:Addr}{N U Vs:List Str}{Cs:List (Str×Nat)}{F:List Str}{rs:List Rw}{ys:List V}{x y:Int}
theorem LpI.same(h:LpI H0 H aN aM aF l aU aV aC aR N U Vs Cs F rs ys x y)(s:zA H H'):LpI H0 H' aN aM aF l aU aV aC aR N U Vs Cs F rs ys x y:=
 ⟨h.sm.trans s,s _ _ h.n,s _ _ h.m,s _ _ h.f,s _ _ h.at_,s _ _ h.u,s _ _ h.v,let ⟨ts,e,p⟩:=h.c;⟨ts,s _ _ e,Paired.mapM p fun _ _ _ e=>s _ _ e⟩,s _ _ h.r,Paired.mapM h.rows fun _ _ _ k=>k.same s,h.nF,h.nR,h.nl,h.h0⟩
theorem LpI.but(h:LpI H0 H aN aM aF l aU aV aC aR N U Vs Cs F rs ys x y)(b:But [l] H H')(e:H' l=some (.lst [.int x',.int y'])):LpI H0 H' aN aM aF l aU aV aC aR N U Vs Cs F rs ys x' y':=by
 have g: ∀{a:Addr} {o:HO},H a=some o->a≠l->H' a=some o:=fun e n=>b _ _ e (by simpa using n);have T:zc H H':=zc.of_but b h.at_;refine ⟨fun c o k=>b c o (h.sm c o k) fun z=>?_,g h.n h.nl.1.symm,g h.m h.nl.2.1.symm,g h.f h.nF.2.2.2.2.2.2,e,g h.u h.nl.2.2.1.symm,g h.v h.nl.2.2.2.1.symm,?_,g h.r h.nR.2.2.2.2.2,Paired.mapM h.rows fun _ _ _ k=>k.sameT T,h.nF,h.nR,h.nl,h.h0⟩
 ·have z:c=l:=by simpa using z
  rw [z,h.h0.1] at k;cases k
 ·obtain ⟨ts,e,p⟩:=h.c;exact ⟨ts,g e h.nl.2.2.2.2.symm,Paired.mapM p fun _ _ _ e=>T _ _ e⟩
theorem LpI.setF(h:LpI H0 H aN aM aF l aU aV aC aR N U Vs Cs F rs ys x y)(F':List Str):LpI H0 (L2.upd H aF (.lst (F'.map V.str))) aN aM aF l aU aV aC aR N U Vs Cs F' rs ys x y:=by
 have g: ∀{a:Addr} {o:HO},H a=some o->aF≠a->(L2.upd H aF (.lst (F'.map V.str))) a=some o:=fun e n=>by rw [zN n.symm];exact e
 have T:zc H (L2.upd H aF (.lst (F'.map V.str))):=zc.lst h.f;obtain ⟨f1,f2,f3,f4,f5,f6,f7⟩:=h.nF;exact ⟨zA.store h.sm h.h0.2.1,g h.n f1,g h.m f2,zE,g h.at_ f7,g h.u f3,g h.v f4,let ⟨ts,e,p⟩:=h.c;⟨ts,g e f5,Paired.mapM p fun _ _ _ e=>T _ _ e⟩,g h.r f6,Paired.mapM h.rows fun _ _ _ k=>k.sameT T,h.nF,h.nR,h.nl,h.h0⟩
theorem LpI.app(h:LpI H0 H aN aM aF l aU aV aC aR N U Vs Cs F rs ys x y){v:V}{r:Rw}(k:Rt H r v):LpI H0 (L2.upd H aR (.lst (ys++ [v]))) aN aM aF l aU aV aC aR N U Vs Cs F (rs++ [r]) (ys++ [v]) x y:=by
 have g: ∀{a:Addr} {o:HO},H a=some o->aR≠a->(L2.upd H aR (.lst (ys++ [v]))) a=some o:=fun e n=>by rw [zN n.symm];exact e
 have T:zc H (L2.upd H aR (.lst (ys++ [v]))):=zc.lst h.r;obtain ⟨r1,r2,r3,r4,r5,r6⟩:=h.nR;exact ⟨zA.store h.sm h.h0.2.2,g h.n r1,g h.m r2,g h.f h.nF.2.2.2.2.2.1.symm,g h.at_ r6,g h.u r3,g h.v r4,let ⟨ts,e,p⟩:=h.c;⟨ts,g e r5,Paired.mapM p fun _ _ _ e=>T _ _ e⟩,zE,Paired.snoc' (Paired.mapM h.rows fun _ _ _ k=>k.sameT T) (k.sameT T),h.nF,h.nR,h.nl,h.h0⟩
theorem LpI.setU(h:LpI H0 H aN aM aF l aU aV aC aR N U Vs Cs F rs ys x y)(ha:H a=none)(s:zA H H')(e:H' a=some (.lst (U'.map V.str))):LpI H0 H' aN aM aF l a aV aC aR N U' Vs Cs F rs ys x y:=by
 have k:=h.same s;have n: ∀{b:Addr} {o:HO},H b=some o->b≠a:=fun e z=>by rw [z,ha] at e;cases e
 obtain ⟨f1,f2,f3,f4,f5,f6,f7⟩:=h.nF;obtain ⟨r1,r2,r3,r4,r5,r6⟩:=h.nR;obtain ⟨l1,l2,l3,l4,l5⟩:=h.nl;exact ⟨k.sm,k.n,k.m,k.f,k.at_,e,k.v,k.c,k.r,k.rows,⟨f1,f2,n h.f,f4,f5,f6,f7⟩,⟨r1,r2,n h.r,r4,r5,r6⟩,⟨l1,l2,n h.at_,l4,l5⟩,h.h0⟩
theorem LpI.setV(h:LpI H0 H aN aM aF l aU aV aC aR N U Vs Cs F rs ys x y)(ha:H a=none)(s:zA H H')(e:H' a=some (.lst (V'.map V.str))):LpI H0 H' aN aM aF l aU a aC aR N U V' Cs F rs ys x y:=by
 have k:=h.same s;have n: ∀{b:Addr} {o:HO},H b=some o->b≠a:=fun e z=>by rw [z,ha] at e;cases e
 obtain ⟨f1,f2,f3,f4,f5,f6,f7⟩:=h.nF;obtain ⟨r1,r2,r3,r4,r5,r6⟩:=h.nR;obtain ⟨l1,l2,l3,l4,l5⟩:=h.nl;exact ⟨k.sm,k.n,k.m,k.f,k.at_,k.u,e,k.c,k.r,k.rows,⟨f1,f2,f3,n h.f,f5,f6,f7⟩,⟨r1,r2,r3,n h.r,r5,r6⟩,⟨l1,l2,l3,n h.at_,l5⟩,h.h0⟩
theorem LpI.setC(h:LpI H0 H aN aM aF l aU aV aC aR N U Vs Cs F rs ys x y)(ha:H a=none)(s:zA H H')(e: ∃ts:List Addr,H' a=some (.lst (ts.map V.ref))/\Paired (fun t (p:Str×Nat)=>H' t=some (.tup [.str p.1,.int (p.2:Int)])) ts C'):LpI H0 H' aN aM aF l aU aV a aR N U Vs C' F rs ys x y:=by
 have k:=h.same s;have n: ∀{b:Addr} {o:HO},H b=some o->b≠a:=fun e z=>by rw [z,ha] at e;cases e
 obtain ⟨f1,f2,f3,f4,f5,f6,f7⟩:=h.nF;obtain ⟨r1,r2,r3,r4,r5,r6⟩:=h.nR;obtain ⟨l1,l2,l3,l4,l5⟩:=h.nl;exact ⟨k.sm,k.n,k.m,k.f,k.at_,k.u,k.v,e,k.r,k.rows,⟨f1,f2,f3,f4,n h.f,f6,f7⟩,⟨r1,r2,r3,r4,n h.r,r6⟩,⟨l1,l2,l3,l4,n h.at_⟩,h.h0⟩
end
theorem SqL.sameS(h:SqL K H a xs)(s:zA H H'):SqL K H' a xs:=by
 rcases h with (h |⟨o,h⟩)| h
 ·exact .inl (.inl (s _ _ h))
 ·exact .inl (.inr ⟨o,s _ _ h⟩)
 ·exact .inr h
theorem zKE:Txt.split "pa pb pc pd pe qa qb qc qd qe sa sb sc sd se ta tb tc td te" " " =yk:=by decide+kernel
theorem zBQ(N:List Str):(N.map V.str).all zAa=true:=by rw [List.all_map,List.all_eq_true];exact fun _ _=>rfl
theorem Paired.and_mem{α β:Type}{F:α->β->Prop}{G:β->Prop}{xs:List α}{ys:List β}(h:Paired F xs ys):(∀y∈ys,G y)->Paired (fun x y=>F x y/\G y) xs ys:=by
 induction h with
 | nil=>exact fun _=> .nil
 | cons h _ ih=>exact fun k=> .cons ⟨h,k _ (List.mem_cons_self ..)⟩ (ih fun y hy=>k y (zUd _ hy))
def SmR(k d:Nat):Rw->Prop
 | .let' _ e=>zQ e<=k/\ze e<=d
 | .fun' _ _ e=>zQ e<=k/\ze e<=d
 | .show' e=>zQ e<=k/\ze e<=d
 | _=>True
structure Pg(H:Hp)(t:Addr)(xs:List V)(rs:List Rw)(k d:Nat):Prop where
 at_:H t=some (.tup xs)
 rows:RtL H xs rs
 l1:1<=xs.length
 l16:xs.length<=16
 u6:yb rs<=6
 sm: ∀r∈rs,SmR k d r
def zRB(K:zUn):Sp:=fun vs H Q _=> ∃(sA:Addr) (ns:List Int),vs= [.ref sA,.int 0,.int 16] /\SqL K H sA (ns.map V.int)/\ns.length<=63/\ ∀t H' xs rs,zA H H'->H t=none->Pg H' t xs rs 33 4->zAR [] 0 rs=none->Q (.ref t) H'
theorem zAH:FnScope ["_law_script","_law_first_here","_law_most","_law_names_here","_law_more","_law_free","_law_at","_law_units","_law_values","_law_calls","_law_rows","_law_k","_law_number_here","_law_kind","_law_name","_law_params","_law_known","_law_others","_law_told_here"] ["_law_script","_law_first_here","_law_most"] (zK zHE):=fs
def LpJ(H:Hp)(n:Nat)(sA aN aM aF l aR:Addr)(N:List Str)(i:Nat)(σ:L2.St)(H':Hp):Prop:= ∃(o1 o2 o3 o4 o5 o6 o7 o8:Option V) (aU aV aC:Addr) (U Vs:List Str) (Cs:List (Str×Nat)) (F:List Str) (rs:List Rw) (ys:List V) (x y:Int),σ= [some (.ref sA),some (.int 0),some (.int 16),some (.ref aN),some (.ref aM),some (.ref aF),some (.ref l),some (.ref aU),some (.ref aV),some (.ref aC),some (.ref aR),o1,o2,o3,o4,o5,o6,o7,o8] /\LpI H H' aN aM aF l aU aV aC aR N U Vs Cs F rs ys x y/\Wl U Vs Cs F rs/\rs.length=i/\i<=n/\(∀r∈rs,SmR 33 4 r)/\0<=x/\x<=1+33*i
theorem zSM(F:Fun K "_law_program" "_law_program" zHE f fd)(B:Bn mg)
  (FNa:Fun K "_law_names" "_law_names" zFg fNa fdNa) (bNa:zO K fdNa ["_law_number_here"] []) (mNa:mg "_law_names" =some (.ref fNa)) (GNa:FnOk P w K mg base CX0 2 fNa fdNa ["_law_number_here"] zPn)
  (FNu:Fun K "_law_number" "_law_number" zFl fNu fdNu) (bNu:zO K fdNu ["_law_script","_law_k"] []) (mNu:mg "_law_number" =some (.ref fNu)) (GNu:FnOk P w K mg base CX0 2 fNu fdNu ["_law_script","_law_k"] (zHM K))
  (FU:Fun K "_law_unit" "_law_unit" zEz fU fdU) (bU:zO K fdU ["_law_number_here","_law_names_here"] []) (mU:mg "_law_unit" =some (.ref fU)) (GU:FnOk P w K mg base CX0 2 fU fdU ["_law_number_here","_law_names_here"] zMS)
  (FX:Fun K "_law_expression" "_law_expression" zJx fX fdX) (bX:zO K fdX ["_law_script","_law_at","_law_deep","_law_units","_law_names_here","_law_calls"] []) (mX:mg "_law_expression" =some (.ref fX))
  (GX:FnOk P w K mg base CX0 8 fX fdX ["_law_script","_law_at","_law_deep","_law_units","_law_names_here","_law_calls"] (zQi K 4)):
  FnOk P w K mg base CX0 9 f fd ["_law_script","_law_first_here","_law_most"] (zRB K):=by
 refine F.ok zAH (fun vs H Q E h=>?_) (fun _ A _ s H vs Q E hr8 h=>?_)
 ·obtain ⟨sA,ns,rfl,_⟩:=h;rfl
 ·obtain ⟨sA,ns,rfl,sq,nsl,q⟩:=h;have hr8:Room 8 _:=hr8;have hr2:Room 2 _:=hr8.mono (by decide);refine ⟨_,QB.out (zF
   (zBS 3 zAH.nd rfl (Or.inr rfl) (zR GNa hr2 rfl mNa FNa.kp bNa .nil zP (qc (zR GNu hr2 rfl mNu FNu.kp bNu .nil zP (qc (qw 0 rfl) (qc (qw 1 rfl) zB rfl) rfl) rfl rfl rfl) zB rfl) rfl rfl rfl) rfl (.inl rfl)) (zF
   (zY 4 zAH.nd rfl (zOH (K:=K) rfl zG zG rfl rfl rfl) rfl) (zF
   (zCz zCK 4 (by exact zAH.nd) rfl (Or.inl rfl) (.inr rfl) ["_law_name"] ["_law_names_here"] [3] rfl (zCR (K:=K) rfl (qw 4 rfl)) rfl (by decide+kernel) rfl (by decide+kernel) (zw rfl lk0) rfl (fr1 ⟨rfl,rfl,rfl,_,rfl,rfl⟩) (yF rfl) (fun _ _ _ _=>(zb 0 (show (["_law_name","_law_names_here"] :List Str).Nodup by decide+kernel) rfl (.inl rfl) (.inr rfl))) (fun _ _ _ _=>(zCH (zL (zBR (K:=K) rfl) (qw 0 rfl) (qx 1 rfl) rfl))) (fun C s₂ H₂ fp xe E hp=>(qw 0 rfl)) (fun _=>rfl) rfl) (zF
   (zY 5 zAH.nd rfl (zAd (qx 3 rfl) (zDO (K:=K) rfl (qw 4 rfl) yR (yE zC))) rfl) (zF
   (zY 6 zAH.nd rfl (zd (qc (yg (qw 1 rfl) zC) (qc zC zB rfl) rfl)) rfl) (zF
   (zNO (zM (qc (zd zB) (qc (zd zB) (qc (zd zB) (qc (zd zB) zB rfl) rfl) rfl) rfl)) (zCj (K:=K) rfl rfl (ya (zb 7 zAH.nd rfl (Or.inl rfl) (.inr rfl)) (ya (zb 8 zAH.nd rfl (Or.inl rfl) (.inr rfl)) (ya (zb 9 zAH.nd rfl (Or.inl rfl) (.inr rfl)) (ya (zb 10 zAH.nd rfl (Or.inl rfl) (.inr rfl)) zCc rfl) rfl) rfl) rfl) rfl rfl) rfl rfl rfl) (zF
   (zAh PassesOwn.never rfl (zBo rfl B.range (qc (yg zC (zl (zj (zR GNu hr2 rfl mNu FNu.kp bNu .nil zP (qc (qw 0 rfl) (qc (qw 1 rfl) zB rfl) rfl) rfl rfl rfl) zC) (qw 2 rfl))) zB rfl) rfl) (zb 11 zAH.nd rfl (Or.inl rfl) (.inr rfl)) (zF
    (zY 12 zAH.nd rfl (zR GNu hr2 rfl mNu FNu.kp bNu .nil zP (qc (qw 0 rfl) (qc (yg (yg (qw 1 rfl) zC) (qw 11 rfl)) zB rfl) rfl) rfl rfl rfl) rfl) (zF
    (zY 13 zAH.nd rfl (yN (K:=K) rfl (zd (qc zG (qc zG (qc zG (qc zG (qc zG (qc zG (qc zG (qc zG zB rfl) rfl) rfl) rfl) rfl) rfl) rfl) rfl)) (zl (qw 12 rfl) zC) (fun _ _=>rfl)) rfl) (zF
    (zY 14 zAH.nd rfl (yN (K:=K) rfl (qw 5 rfl) (zl (zj (qw 12 rfl) zC) (zq (zm (K:=K) rfl) rfl B.len yB (qc (qw 5 rfl) zB rfl) rfl)) (fun _ _=>rfl)) rfl) (zF
    (zV (t_w (zAi (zL zZ (qw 13 rfl) zG rfl) (zAU (zL zBx (zq (zm (K:=K) rfl) rfl B.len yB (qc (qw 7 rfl) zB rfl) rfl) zC rfl)))) (zH
     (zY 13 zAH.nd rfl zG rfl)) zU) (zF
    (zLF (qw 6 rfl) zC (yN (K:=K) rfl (qw 6 rfl) zC (fun _ _=>rfl)) rfl) (zF
    (zV (zL zZ (qw 13 rfl) zG rfl) (zF
     (yP (zAk (K:=K) rfl (qw 10 rfl) (zM (qc zG (qc (qw 14 rfl) zB rfl) rfl)) rfl rfl rfl) rfl) (zH
     (zY 7 zAH.nd rfl (zAd (qw 7 rfl) (zd (qc (qw 14 rfl) zB rfl))) rfl))) (zH
     (zV (zL zZ (qw 13 rfl) zG rfl) (zH
      (yP (zAk (K:=K) rfl (qw 10 rfl) (zM (qc zG (qc (qw 14 rfl) (qc (zR GU hr2 rfl mU FU.kp bU .nil zP (qc (zj (qw 12 rfl) zC) (qc (qw 7 rfl) zB rfl) rfl) rfl rfl rfl) zB rfl) rfl) rfl)) rfl rfl rfl) rfl)) (zH
      (zV (zL zZ (qw 13 rfl) zG rfl) (zF
       (zBS 15 zAH.nd rfl (Or.inr rfl) (yN (K:=K) rfl (zd (qc (zDO (K:=K) rfl (qw 4 rfl) (yE zC) (yE zC)) (qc (zDO (K:=K) rfl (qw 4 rfl) (yE zC) (yE zC)) (qc (zd (qc (yN (K:=K) rfl (qx 3 rfl) zC (fun _ _=>rfl)) (qc (yN (K:=K) rfl (qw 4 rfl) zC (fun _ _=>rfl)) (qc (yN (K:=K) rfl (qx 3 rfl) zC (fun _ _=>rfl)) zB rfl) rfl) rfl)) zB rfl) rfl) rfl)) (zl (zj (qw 12 rfl) zC) zC) (fun _ _=>rfl)) rfl (.inl rfl)) (zF
       (zBS 15 zAH.nd rfl (Or.inr rfl) (zDO (K:=K) rfl (qx 15 rfl) yR (yE (yg zC (zl (zj (qw 12 rfl) zC) zC)))) rfl (.inl rfl)) (zF
       (zY 16 zAH.nd rfl (zAd (yx ["_law_value"] ["_law_params"] [15] rfl (zCR (K:=K) rfl (qw 8 rfl)) rfl (by decide+kernel) rfl (by decide+kernel) (zw rfl lk0) rfl (fr1 ⟨rfl,rfl,rfl,_,rfl,rfl⟩) (yF rfl) (fun _ _ _ _=>(zb 0 (show (["_law_value","_law_params"] :List Str).Nodup by decide+kernel) rfl (.inl rfl) (.inr rfl))) (fun _ _ _ _=>(zCH (zL (zBR (K:=K) rfl) (qw 0 rfl) (qx 1 rfl) rfl))) (fun _ _ _ _=>(qw 0 rfl)) (fun _=>rfl)) (qx 15 rfl)) rfl) (zF
       (zCz zCK 17 (by exact zAH.nd) rfl (Or.inl rfl) (.inr rfl) ["_law_pair"] ["_law_params"] [15] rfl (zCR (K:=K) rfl (qw 9 rfl)) rfl (by decide+kernel) rfl (by decide+kernel) (zw rfl lk0) rfl (fr1 ⟨rfl,rfl,rfl,_,rfl,rfl⟩) (yF rfl) (fun _ _ _ _=>(zb 0 (show (["_law_pair","_law_params"] :List Str).Nodup by decide+kernel) rfl (.inl rfl) (.inr rfl))) (fun _ _ _ _=>(zCH (zL (zBR (K:=K) rfl) (zJ (K:=K) rfl (qw 0 rfl) zC (fun _ _=>rfl)) (qx 1 rfl) rfl))) (fun C s₂ H₂ fp xe E hp=>(qw 0 rfl)) (fun _=>rfl) rfl) (zH
       (yP (zAk (K:=K) rfl (qw 10 rfl) (zM (qc zG (qc (qw 14 rfl) (qc (zBZ (zBD (K:=K) rfl) rfl B.tuple yn (qc (qx 15 rfl) zB rfl) rfl) (qc (zR GX hr8 rfl mX FX.kp bX .nil zP (qc (qw 0 rfl) (qc (qw 6 rfl) (qc zC (qc (qw 7 rfl) (qc (qw 16 rfl) (qc (qw 17 rfl) zB rfl) rfl) rfl) rfl) rfl) rfl) rfl rfl rfl) zB rfl) rfl) rfl) rfl)) rfl rfl rfl) rfl)))))) (zF
       (zY 18 zAH.nd rfl (zR GX hr8 rfl mX FX.kp bX .nil zP (qc (qw 0 rfl) (qc (qw 6 rfl) (qc zC (qc (qw 7 rfl) (qc (qw 8 rfl) (qc (qw 9 rfl) zB rfl) rfl) rfl) rfl) rfl) rfl) rfl rfl rfl) rfl) (zH
       (yP (zAk (K:=K) rfl (qw 10 rfl) (zFM (zL zZ (qw 13 rfl) zG rfl) (zM (qc zG (qc (qw 14 rfl) (qc (qw 18 rfl) zB rfl) rfl) rfl)) (zM (qc zG (qc (qw 18 rfl) zB rfl) rfl))) rfl rfl rfl) rfl)))))))) (zF
    (zV (zL yw (qw 13 rfl) zG rfl) (zH
     (yP (zMs (K:=K) rfl (qw 5 rfl) (qw 14 rfl) rfl rfl rfl) rfl)) zU) (zF
    (zV (zL (zCS (K:=K) rfl) (qw 13 rfl) (zM (qc zG (qc zG zB rfl) rfl)) rfl) (zH
     (zY 8 zAH.nd rfl (zAd (qw 8 rfl) (zd (qc (qw 14 rfl) zB rfl))) rfl)) zU) (zH
    (zV (zL zZ (qw 13 rfl) zG rfl) (zH
     (zY 9 zAH.nd rfl (zAd (qw 9 rfl) (zd (qc (zM (qc (qw 14 rfl) (qc (zq (zm (K:=K) rfl) rfl B.len yB (qc (qx 15 rfl) zB rfl) rfl) zB rfl) rfl)) zB rfl))) rfl)) zU)))))))))) (fun _=>rfl)) (zH
   (zS (zBZ (zBD (K:=K) rfl) rfl B.tuple yn (qc (qw 10 rfl) zB rfl) rfl)))))))))),?_⟩
  refine hd fun Z hz=>?_;refine ⟨_,rfl,_,rfl,sA,ns,0,rfl,sq,nsl,by decide,by decide,fun r1 H1 s1 r10 r11=>⟨r1,rfl,r10,fun aN N H2 s2 nN eN e8=>hz _ _ (hd fun Z hz=>?_)⟩⟩;refine ⟨rfl,_,_,rfl,rfl,rfl,by decide+kernel,by decide+kernel,fun m0 hm0=>?_⟩;obtain ⟨H3,g3,s3,e3⟩:=yH hm0 (.lst ((Txt.split "pa pb pc pd pe qa qb qc qd qe sa sb sc sd se ta tb tc td te" " ").map V.str));rw [g3];rw [zKE] at e3;refine hz _ _ (hd fun Z hz=>?_);have eN3:=s3 _ _ eN;refine ⟨_,rfl,m0,rfl,⟨_,SqL.of e3⟩,fun aM hM=>?_⟩;refine zx yk.length (fun i ys H'=>i<=yk.length/\ys=((yk.take i).filter fun x=>!decide (x∈N)).map V.str/\zA H3 H'/\H' aM=some (.lst ys)) ⟨zUN _,rfl,zA.upd hM,zE⟩ (by rw [show yk.length=20 from rfl];exact bs 20) ?_ ?_ ?_
  ·rintro i ys H6 hi ⟨_,rfl,s6,e6⟩;refine ⟨?_,e6,fun h=>⟨_,.str yk[i],SqL.of (s6 _ _ e3),by simp [h]⟩,fun h=>⟨_,SqL.of (s6 _ _ e3),by simp [h]⟩⟩;rw [zUF];exact zUM (zVC ..) (by rw [List.length_take];omega)
  ·rintro i ys H6 y H7 hi ⟨_,rfl,s6,e6⟩ ⟨rfl,hy⟩ pre hpre;obtain ⟨p0,rfl⟩:=zAt hpre;have hy':=hy _ (SqL.of (s6 _ _ e3));rw [zUD,zTy hi] at hy';cases hy';have tk:yk.take (i+1)=yk.take i++ [yk[i]] :=by rw [zUU,zTy hi];rfl
   refine ⟨⟨[some (.str yk[i])],rfl,rfl⟩,_,rfl,_,rfl,aN,_,rfl,.inl (SqL.of (s6 _ _ eN3)),rfl,zBQ N,_,rfl,?_⟩;show if (!inV (.str yk[i]) (N.map V.str))=true then _ else _;rw [zBq];refine zp (fun cc=>?_) (fun cc=>?_)
   ·refine ⟨_,rfl,e6,hi,?_,zA.store s6 hM,zE⟩;rw [tk,zUx,zUT];simp only [List.filter_cons,cc,List.filter_nil,if_true];rfl
   ·refine ⟨hi,?_,s6,e6⟩;rw [tk,zUx,zUT];simp only [List.filter_cons,cc,List.filter_nil];simp
  ·rintro ys H4 ⟨_,rfl,s4,e4⟩;rw [List.take_of_length_le (zUC _)] at e4;have e4:H4 aM=some (.lst ((mo N).map V.str)):=e4;refine hz _ _ (hd fun Z hz=>?_);have eN4:=s4 _ _ eN3;have hml:=zIC e8;refine ⟨_,rfl,_,rfl,_,rfl,sll e4 fun cu H5 s5 e5=>?_⟩;have hcut:yW ((mo N).map V.str) none (some 10)=((mo N).take 10).map V.str:=by
    unfold yW;rw [show (10:Int)=((10:Nat):Int) from rfl,HT.sIx_nat,HT.sIx_none,zUF,List.drop_zero,List.map_take];congr 1;omega
   rw [hcut] at e5;refine zHu (s5 _ _ eN4) e5 (by rw [zUJ];simp;have:=e8.len;omega) fun aF H6 haF s6 e6=>?_;rw [<-zUT] at e6;refine hz _ _ (hd fun Z hz=>?_);refine ⟨_,rfl,_,_,rfl,rfl,yc fun l H7 hl s7 e7=>?_⟩;refine hz _ _ (hd fun Z hz=>?_);refine ⟨bs 0,fun aU haU=>?_⟩;obtain ⟨H8,g8,s8,e8'⟩:=yH haU (.lst []);rw [g8];refine yc fun aV H9 haV s9 e9=>?_;refine yc fun aC H10 haC s10 e10=>?_;refine yc fun aR H11 haR s11 e11=>?_;refine yc fun tp H12 htp s12 e12=>?_;refine ⟨tp,_,rfl,SqT.of e12,rfl,_,_,rfl,_,_,rfl,_,_,rfl,_,_,rfl,rfl,hz _ _ (hd fun Z hz=>?_)⟩;have sE:zA H H12:=s1.trans (s2.trans (s3.trans (s4.trans (s5.trans (s6.trans (s7.trans (s8.trans (s9.trans (s10.trans (s11.trans s12))))))))));have s04:zA H H4:=s1.trans (s2.trans (s3.trans s4));have s05:=s04.trans s5;have s06:=s05.trans s6;have s07:=s06.trans s7;have s08:=s07.trans s8;have s09:=s08.trans s9;have s010:=s09.trans s10;have hl0:H l=none:=zA.none s06 hl;have dn: ∀{G:Hp} {a b:Addr} {o:HO},G a=some o->G b=none->b≠a:=fun {G a b o} e n z=>by rw [z,e] at n;cases n
   have wl0:=zOs e8;have eN5:=s5 _ _ eN4;have eM5:=s5 _ _ e4;have eN6:=s6 _ _ eN5;have eM6:=s6 _ _ eM5;have li0:LpI H H12 aN aM aF l aU aV aC aR N [] [] [] (N++(mo N).take 10) [] [] 1 0:=
    ⟨sE,(s7.trans (s8.trans (s9.trans (s10.trans (s11.trans s12))))) _ _ eN6,(s7.trans (s8.trans (s9.trans (s10.trans (s11.trans s12))))) _ _ eM6,(s7.trans (s8.trans (s9.trans (s10.trans (s11.trans s12))))) _ _ e6,(s8.trans (s9.trans (s10.trans (s11.trans s12)))) _ _ e7,
     (s9.trans (s10.trans (s11.trans s12))) _ _ e8',(s10.trans (s11.trans s12)) _ _ e9,⟨[],(s11.trans s12) _ _ e10,.nil⟩,s12 _ _ e11,.nil,
     ⟨dn eN5 haF,dn eM5 haF,(dn (s7 _ _ e6) haU).symm,(dn ((s7.trans s8) _ _ e6) haV).symm,(dn ((s7.trans (s8.trans s9)) _ _ e6) haC).symm,(dn ((s7.trans (s8.trans (s9.trans s10))) _ _ e6) haR).symm,(dn e6 hl).symm⟩,
     ⟨dn ((s7.trans (s8.trans (s9.trans s10))) _ _ eN6) haR,dn ((s7.trans (s8.trans (s9.trans s10))) _ _ eM6) haR,dn ((s9.trans s10) _ _ e8') haR,dn (s10 _ _ e9) haR,dn e10 haR,dn ((s8.trans (s9.trans s10)) _ _ e7) haR⟩,
     ⟨dn eN6 hl,dn eM6 hl,(dn e7 haU).symm,(dn (s8 _ _ e7) haV).symm,(dn ((s8.trans s9) _ _ e7) haC).symm⟩,
     ⟨hl0,zA.none s05 haF,zA.none s010 haR⟩⟩
   refine ⟨_,rfl,_,rfl,sA,ns,0,rfl,SqL.sameS sq sE,nsl,by decide,by decide,fun r2 H13 s13 r20 r21=>⟨_,_,rfl,rfl,⟨by decide,by decide⟩,_,rfl,_,_,rfl,rfl,by decide,_,_,rfl,rfl,1+r2/24 % 16,rfl,by omega,by omega,?_⟩⟩;have li1:=li0.same s13;clear li0 dn eN5 eM5 eN6 eM6;obtain ⟨n,hn⟩: ∃n:Nat,(1+r2/24 % 16).toNat=n:=⟨_,rfl⟩;have n1:1<=n:=by omega
   have n16:n<=16:=by omega
   rw [hn];refine zAB n (LpJ H n sA aN aM aF l aR N)
    ⟨_,_,_,_,_,_,_,_,aU,aV,aC,[],[],[],_,[],[],1,0,rfl,li1,wl0,rfl,zUN _,by simp,by decide,by decide⟩ ?_ ?_ ?_ ?_
   ·rintro i σ H' hi _;exact hi
   ·rintro σ H' _;exact zUC _
   ·rintro i σ H' v H'' hi ⟨o1,o2,o3,o4,o5,o6,o7,o8,aU,aV,aC,U,Vs,Cs,F,rs,ys,x,y,rfl,li,wl,rl,_,sm,x0,x1⟩ ⟨rfl,rfl⟩;refine hd fun Z hz=>?_;have fl:=wl.fl;refine ⟨_,rfl,_,rfl,_,_,rfl,rfl,_,rfl,_,_,rfl,rfl,sA,ns,_,rfl,SqL.sameS sq li.sm,nsl,by omega,by omega,fun rn H1 s1 rn0 rn1=>hz _ _ (hd fun Z hz=>?_)⟩;have li:=li.same s1;refine nw fun kl H2 s2 e2=>?_;have li:=li.same s2;obtain ⟨kv,ekv,kd,rfl,hkd⟩:=zAJ (n:=rn) (p:=fun v=> ∃kd:Str,v= .str kd/\(kd= "unit" \/kd= "take" \/kd= "let" \/kd= "fun" \/kd= "show")) (xs:= [.str "unit",.str "take",.str "let",.str "fun",.str "show",.str "show",.str "let",.str "unit"]) (m:=8) (fun v hv=>by
     simp only [zUo,zUw,or_false] at hv;rcases hv with h | h | h | h | h | h | h | h<;>exact ⟨_,h,by simp⟩) rfl (by decide)
    refine ⟨_,rfl,_,_,rfl,rfl,by decide,kl,_,_,_,rfl,rfl,SqL.of e2,ekv,hz _ _ (hd fun Z hz=>?_)⟩;obtain ⟨nv,env,j,nm,rfl,hj⟩:=zAJ (n:=rn/8) (p:=fun v=> ∃(j:Nat) (nm:Str),v= .str nm/\F[j]?=some nm) (xs:=F.map V.str) (m:=((F.map V.str).length:Int)) (fun v hv=>by
     obtain ⟨y,hy,rfl⟩:=zUt.mp hv;obtain ⟨j,hj,e⟩:=List.getElem_of_mem hy;exact ⟨j,y,rfl,zUy.mpr ⟨hj,e⟩⟩) rfl (by rw [zUF];omega)
    refine ⟨_,rfl,_,rfl,_,_,rfl,rfl,⟨by decide,by decide⟩,_,rfl,aF,_,rfl,.inl (SqL.of li.f),_,_,rfl,rfl,by rw [zUF];omega,aF,_,_,_,rfl,rfl,SqL.of li.f,env,hz _ _ (hd fun Z hz=>?_)⟩;have fin: ∀kd:Str,((kd= "unit" /\U.length<=5)\/kd= "take" \/kd= "let" \/kd= "fun" \/kd= "show")->Z [some (.ref sA),some (.int 0),some (.int 16),some (.ref aN),some (.ref aM),some (.ref aF),some (.ref l),some (.ref aU),some (.ref aV),some (.ref aC),some (.ref aR),some (.int (0+(i:Int))),some (.int rn),some (.str kd),some (.str nm),o5,o6,o7,o8] H2:=fun kd hkd=>hz _ _ (hd fun Z hz=>by
     refine ⟨_,rfl,l,_,_,_,rfl,rfl,SqL.of li.at_,rfl,_,rfl,l,_,1,1,rfl,rfl,li.at_,rfl,hz _ _ (hd fun Z hz=>?_)⟩;obtain ⟨H3,g3,b3,e3'⟩: ∃H3,L2.upd H2 l (.lst (List.set [V.int x,.int y] 1 (.int x)))=H3/\But [l] H2 H3/\H3 l=some (.lst [.int x,.int x]):=⟨_,rfl,But.upd,zE⟩;rw [g3];have li:=li.but b3 e3';have gnm:=wl.gf nm (zUa hj);have pl:=Paired.len li.rows;have vl:=wl.vl;have cl:=wl.cl;have u6:=wl.u6;have hno: ∀m z,m<j->F[m]?=some z->z≠nm:=fun m z hm e1 e2=>by
      obtain ⟨h1,e1⟩:=zUy.mp e1;obtain ⟨h2,e3⟩:=zUy.mp hj;exact List.pairwise_iff_getElem.mp wl.ndf m j h1 h2 hm (by rw [e1,e2,e3])
     rcases hkd with ⟨rfl,h5⟩| rfl | rfl | rfl | rfl
     ·skip
      refine ⟨_,rfl,rfl,_,rfl,zI (hd fun Z2 hz2=>?_)⟩;refine ⟨_,rfl,.inl ⟨rfl,_,SqL.of li.r⟩,_,rfl,yc fun t H21 ht s21 e21=>?_⟩;have li:=li.same s21;refine ⟨aR,_,_,rfl,rfl,li.r,by rw [zUJ];omega,hz2 _ _ ?_⟩;have li:=li.app (show Rt H21 (.unit nm) (.ref t) from ⟨t,rfl,e21⟩);generalize L2.upd _ aR (.lst (ys++ [.ref t]))=HR at li⊢;refine ⟨_,rfl,_,rfl,yc fun q1 H22 hq s22 e22=>?_⟩;have li:=li.same s22;refine zHu li.u e22 (by rw [zUJ];simp;omega) fun a3 H23 ha3 s23 e23=>?_;have li:=li.setU ha3 s23 (U':=U++ [nm]) (by rw [zUT];exact e23);refine hz _ _ (hd fun Z hz=>?_);refine ⟨_,rfl,rfl,_,rfl,zI ⟨_,rfl,.inl ⟨rfl,_,SqL.of li.f⟩,_,rfl,aF,F,nm,j,rfl,rfl,li.f,hj,hno,hz _ _ (hd fun Z hz=>?_)⟩⟩;have li:=li.setF (F.eraseIdx j);generalize L2.upd _ aF (.lst ((F.eraseIdx j).map V.str))=HF at li⊢;refine ⟨_,rfl,yc fun p H24 hp s24 e24=>?_⟩;have li:=li.same s24;refine ⟨p,_,rfl,.inr (SqT.of e24),rfl,rfl,_,rfl,zD ?_⟩;refine hz _ _ ?_;refine ⟨_,rfl,rfl,_,rfl,zD ?_⟩;exact ⟨_,_,_,_,_,_,_,_,a3,aV,aC,_,_,_,_,_,_,_,_,rfl,li,wl.unit hj h5,by simp [rl],hi,fun r hr=>(zUq.mp hr).elim (sm r) fun z=>by rw [zUs.mp z];exact trivial,by omega,by omega⟩
     ·skip
      refine ⟨_,rfl,rfl,_,rfl,zD ⟨_,rfl,rfl,_,rfl,zI ⟨_,rfl,.inl ⟨rfl,_,SqL.of li.r⟩,_,rfl,_,rfl,_,_,rfl,rfl,⟨by decide,by decide⟩,_,rfl,_,aU,U,rfl,li.u,by omega,wl.nd,fun x hx=>(wl.gu x hx).1,fun H60 upa us s60 hup=>⟨bs 3,fun t ht=>?_⟩⟩⟩⟩;have li:=li.same s60;obtain ⟨H61,g61,s61,e61⟩:=yH ht (.tup [.str "take",.str nm,.ref upa]);rw [g61];have li:=li.same s61;refine ⟨aR,_,_,rfl,rfl,li.r,by rw [zUJ];omega,?_⟩;have li:=li.app (show Rt H61 (.take nm us) (.ref t) from ⟨t,_,rfl,e61,hup.un.same s61⟩);generalize L2.upd _ aR (.lst (ys++ [.ref t]))=HR at li⊢;have hb:yV (kn rs) (.take nm us)=none:=by
       show (if ((kn rs).lookup nm).isSome=true then _ else _)=none;rw [wl.f nm (zUa hj)];show up (zBM (kn rs) us)=none;have:zBM (kn rs) us=none:=by
        unfold zBM;rw [List.findSome?_eq_none_iff];intro p hp;rw [if_pos (wl.u _ (hup.sub p hp))]
       rw [this];rfl
      refine hz _ _ (hd fun Z hz=>?_);refine ⟨_,rfl,rfl,_,rfl,zI ⟨_,rfl,.inl ⟨rfl,_,SqL.of li.f⟩,_,rfl,aF,F,nm,j,rfl,rfl,li.f,hj,hno,hz _ _ (hd fun Z hz=>?_)⟩⟩;have li:=li.setF (F.eraseIdx j);generalize L2.upd _ aF (.lst ((F.eraseIdx j).map V.str))=HF at li⊢;refine ⟨_,rfl,yc fun p H62 hp s62 e62=>?_⟩;have li:=li.same s62;refine ⟨p,_,rfl,.inr (SqT.of e62),rfl,rfl,_,rfl,zI ?_⟩;refine ⟨_,rfl,_,rfl,yc fun q1 H63 hq s63 e63=>?_⟩;have li:=li.same s63;refine zHu li.v e63 (by rw [zUJ];simp;omega) fun a2 H64 ha2 s64 e64=>?_;have li:=li.setV ha2 s64 (V':=Vs++ [nm]) (by rw [zUT];exact e64);refine hz _ _ ?_;refine ⟨_,rfl,rfl,_,rfl,zD ?_⟩;exact ⟨_,_,_,_,_,_,_,_,aU,a2,aC,_,_,_,_,_,_,_,_,rfl,li,wl.val hj rfl (.inl rfl) ⟨gnm.1,hup.gd⟩ hb rfl,by simp [rl],hi,fun r hr=>(zUq.mp hr).elim (sm r) fun z=>by rw [zUs.mp z];exact trivial,by omega,by omega⟩
     ·skip
      refine ⟨_,rfl,rfl,_,rfl,zD ⟨_,rfl,rfl,_,rfl,zD ⟨_,rfl,rfl,_,rfl,zD (hd fun Z2 hz2=>⟨_,rfl,_,rfl,_,rfl,_,rfl,_,rfl,sA,l,aU,aV,aC,ns,x,x,4,U,Vs,Cs,rfl,⟨(Scr.of sq hl0).but (zA.but li.sm [l]),nsl,li.at_,x0,Int.le_refl _,by omega,by omega,by decide,by decide,⟨⟨li.u,by omega,fun x hx=>(wl.gu x hx).1⟩,wl.nd,⟨li.v,by omega,fun x hx=>(wl.gv x hx).1⟩,li.c,by omega,fun p hp=>⟨(wl.c p hp).1,(wl.c p hp).2.1⟩⟩,by omega⟩,fun v H60 e po=>hz2 _ _ ?_⟩)⟩⟩⟩;obtain ⟨x',ex',hx'⟩:=po.at_;have li:=li.but po.but ex';have in1:=po.inn;have ni:=zAq e;have dp:=po.dp;have n33:zQ e<=33:=by omega
      have d4:ze e<=4:=by omega
      obtain ⟨oke,hbe⟩:=wl.exp po.gen;have oke:OkE e:=⟨oke,by omega,by omega⟩;refine ⟨_,rfl,.inl ⟨rfl,_,SqL.of li.r⟩,⟨_,rfl,rfl,_,rfl,zI ⟨_,rfl,_,rfl,yc fun t H65 ht s65 e65=>?_⟩⟩⟩;have li:=li.same s65;refine ⟨aR,_,_,rfl,rfl,li.r,by rw [zUJ];omega,?_⟩;have li:=li.app (show Rt H65 (.let' nm e) (.ref t) from ⟨t,_,rfl,e65,po.xt.same s65⟩);generalize L2.upd _ aR (.lst (ys++ [.ref t]))=HR at li⊢;have hb:yV (kn rs) (.let' nm e)=none:=by
       show (if ((kn rs).lookup nm).isSome=true then _ else _)=none;rw [wl.f nm (zUa hj)];show up (bad (kn rs) e [])=none;rw [hbe];rfl
      refine hz _ _ (hd fun Z hz=>?_);refine ⟨_,rfl,rfl,_,rfl,zI ⟨_,rfl,.inl ⟨rfl,_,SqL.of li.f⟩,_,rfl,aF,F,nm,j,rfl,rfl,li.f,hj,hno,hz _ _ (hd fun Z hz=>?_)⟩⟩;have li:=li.setF (F.eraseIdx j);generalize L2.upd _ aF (.lst ((F.eraseIdx j).map V.str))=HF at li⊢;refine ⟨_,rfl,yc fun p H66 hp s66 e66=>?_⟩;have li:=li.same s66;refine ⟨p,_,rfl,.inr (SqT.of e66),rfl,rfl,_,rfl,zI ?_⟩;refine ⟨_,rfl,_,rfl,yc fun q1 H67 hq s67 e67=>?_⟩;have li:=li.same s67;refine zHu li.v e67 (by rw [zUJ];simp;omega) fun a2 H68 ha2 s68 e68=>?_;have li:=li.setV ha2 s68 (V':=Vs++ [nm]) (by rw [zUT];exact e68);refine hz _ _ ?_;refine ⟨_,rfl,rfl,_,rfl,zD ?_⟩;exact ⟨_,_,_,_,_,_,_,_,aU,a2,aC,_,_,_,_,_,_,_,_,rfl,li,wl.val hj rfl (.inr rfl) ⟨gnm.1,oke⟩ hb rfl,by simp [rl],hi,fun r hr=>(zUq.mp hr).elim (sm r) fun z=>by rw [zUs.mp z];exact ⟨n33,d4⟩,by omega,by omega⟩
     ·skip
      refine ⟨_,rfl,rfl,_,rfl,zD ⟨_,rfl,rfl,_,rfl,zD ⟨_,rfl,rfl,_,rfl,zI (hd fun Z2 hz2=>?_)⟩⟩⟩;have hml:=zIC e8;have hnl:=e8.len;obtain ⟨n0,n1,hn0,hn1,n01,gn0,gn1⟩: ∃n0 n1,N[0]?=some n0/\N[1]?=some n1/\n0≠n1/\n0∈N/\n1∈N:=
       ⟨N[0],N[1],zTy _,zTy _,List.pairwise_iff_getElem.mp e8.nd 0 1 _ _ (by decide),zUb _,zUb _⟩
      obtain ⟨m16,hm16,gm16⟩: ∃m16,(mo N)[16]?=some m16/\m16∈mo N:=⟨(mo N)[16],zTy _,zUb _⟩;refine ⟨_,rfl,_,rfl,_,rfl,sll li.m fun c1 H101 s101 e101=>?_⟩;have li:=li.same s101;have ec1:=e101;refine ⟨_,rfl,_,rfl,_,rfl,sll li.m fun c2 H102 s102 e102=>?_⟩;have li:=li.same s102;have ec1:=s102 _ _ ec1;have ec2:=e102;refine ⟨_,rfl,aN,_,_,_,rfl,rfl,SqL.of li.n,zg (j:=0) (by rw [zUD,hn0];rfl),_,rfl,aM,_,_,_,rfl,rfl,SqL.of li.m,zg (j:=16) (by rw [zUD,hm16];rfl),_,rfl,aN,_,_,_,rfl,rfl,SqL.of li.n,zg (j:=1) (by rw [zUD,hn1];rfl),nw fun c3 H103 s103 e103=>?_⟩;have li:=li.same s103;have ec1:=s103 _ _ ec1;have ec2:=s103 _ _ ec2;have ec3:=e103;refine nw fun pl0 H104 s104 e104=>?_;have li:=li.same s104;have ec1:=s104 _ _ ec1;have ec2:=s104 _ _ ec2;have ec3:=s104 _ _ ec3;have epl:=e104;obtain ⟨pv,epv,pa0,ps0,rfl,epa0,nd0,nm0,l30⟩:=zAJ (n:=rn/144) (p:=fun v=> ∃(a:Addr) (ps0:List Str),v= .ref a/\H104 a=some (.lst (ps0.map V.str))/\ps0.Nodup/\(∀p∈ps0,Nm p)/\ps0.length=3) (xs:= [.ref c1,.ref c2,.ref c3]) (m:=3) (fun v hv=>by
       have ndm:(mo N).Nodup:=zIH.sublist (zFK N);have cutm: ∀(a b:Nat),a<=b->b<=16->yW ((mo N).map V.str) (some (a:Int)) (some (b:Int))=(((mo N).drop a).take (b - a)).map V.str:=fun a b h1 h2=>by
        unfold yW;rw [HT.sIx_nat,HT.sIx_nat,zUF,List.map_take,List.map_drop,show min a (mo N).length=a by omega,show min b (mo N).length=b by omega]
       simp only [zUo,zUw,or_false] at hv;rcases hv with rfl | rfl | rfl
       ·refine ⟨c1,_,rfl,ec1.trans (congrArg (fun z=>some (HO.lst z)) (cutm 10 13 (by decide) (by decide))),ndm.sublist ((List.take_sublist ..).trans (List.drop_sublist ..)),fun p hp=>(zGt (List.mem_of_mem_drop (List.mem_of_mem_take hp))).1,by simp;omega⟩
       ·refine ⟨c2,_,rfl,ec2.trans (congrArg (fun z=>some (HO.lst z)) (cutm 13 16 (by decide) (by decide))),ndm.sublist ((List.take_sublist ..).trans (List.drop_sublist ..)),fun p hp=>(zGt (List.mem_of_mem_drop (List.mem_of_mem_take hp))).1,by simp;omega⟩
       ·refine ⟨c3,[n0,m16,n1],rfl,ec3,?_,fun p hp=>?_,rfl⟩
        ·have h1:n0≠m16:=fun z=>zJZ gm16 (by rw [<-z];exact gn0);have h2:m16≠n1:=fun z=>zJZ gm16 (by rw [z];exact gn1);simp [h1,h2,n01]
        ·simp only [zUo,zUw,or_false] at hp;rcases hp with rfl | rfl | rfl
         ·exact e8.nm _ gn0
         ·exact (zGt gm16).1
         ·exact e8.nm _ gn1) rfl (by decide)
      refine ⟨_,rfl,_,_,rfl,rfl,⟨by decide,by decide⟩,_,_,rfl,rfl,by decide,pl0,_,_,_,rfl,rfl,SqL.of epl,epv,hz2 _ _ (hd fun Z2 hz2=>?_)⟩;refine ⟨_,rfl,_,rfl,_,_,rfl,rfl,⟨by decide,by decide⟩,_,_,rfl,rfl,by decide,_,_,rfl,rfl,_,rfl,pa0,_,rfl,SqL.of epa0,fun pa hpa=>?_⟩;have nPF:pa≠aF:=fun z=>by rw [z,li.f] at hpa;cases hpa
      have nPR:pa≠aR:=fun z=>by rw [z,li.r] at hpa;cases hpa
      have nPl:pa≠l:=fun z=>by rw [z,li.at_] at hpa;cases hpa
      obtain ⟨H105,g105,s105,e105⟩:=yH hpa (.lst (yW (ps0.map V.str) none (some (1+rn/432 % 3))));rw [g105];have li:=li.same s105;have q0:=zUP (rn/432) (show (3:Int)≠0 by decide);have q1:=zUK (rn/432) (show (0:Int)<3 by decide);obtain ⟨kp,hkp⟩: ∃kp:Nat,1+rn/432 % 3=(kp:Int):=⟨(1+rn/432 % 3).toNat,by omega⟩;obtain ⟨ps,hps,ndp,nmp,p1,p3⟩: ∃ps:List Str,yW (ps0.map V.str) none (some (1+rn/432 % 3))=ps.map V.str/\ps.Nodup/\(∀p∈ps,Nm p)/\1<=ps.length/\ps.length<=3:=by
       refine ⟨ps0.take kp,?_,nd0.sublist (List.take_sublist ..),fun p hp=>nm0 p (List.mem_of_mem_take hp),by rw [List.length_take];omega,by rw [List.length_take];omega⟩;unfold yW;rw [hkp,HT.sIx_nat,HT.sIx_none,zUF,List.drop_zero,List.map_take];congr 1;omega
      have ePa:=e105;rw [hps] at ePa;refine hz2 _ _ (hd fun Z2 hz2=>?_);refine ⟨_,rfl,aV,rfl,⟨_,SqL.of li.v⟩,fun D hD=>?_⟩;refine zx Vs.length (fun i ys H'=>i<=Vs.length/\ys=((Vs.take i).filter fun x=>!decide (x∈ps)).map V.str/\zA H105 H'/\H' D=some (.lst ys)) ⟨zUN _,rfl,zA.upd hD,zE⟩ (by rw [zUJ];omega) ?_ ?_ ?_
      ·rintro i ys H6 hi ⟨_,rfl,s6,e6⟩;refine ⟨?_,e6,fun h=>⟨_,.str Vs[i],SqL.of (s6 _ _ li.v),by simp [h]⟩,fun h=>⟨_,SqL.of (s6 _ _ li.v),by simp [h]⟩⟩;rw [zUF];exact zUM (zVC ..) (by rw [List.length_take];omega)
      ·rintro i ys H6 y H7 hi ⟨_,rfl,s6,e6⟩ ⟨rfl,hy⟩ pre hpre;obtain ⟨p0,rfl⟩:=zAt hpre;have hy':=hy _ (SqL.of (s6 _ _ li.v));rw [zUD,zTy hi] at hy';cases hy';have tk:Vs.take (i+1)=Vs.take i++ [Vs[i]] :=by rw [zUU,zTy hi];rfl
       refine ⟨⟨[some (.str Vs[i])],rfl,rfl⟩,_,rfl,_,rfl,pa,_,rfl,.inl (SqL.of (s6 _ _ ePa)),rfl,zBQ ps,_,rfl,?_⟩;show if (!inV (.str Vs[i]) (ps.map V.str))=true then _ else _;rw [zBq];refine zp (fun cc=>?_) (fun cc=>?_)
       ·refine ⟨_,rfl,e6,hi,?_,zA.store s6 hD,zE⟩;rw [tk,zUx,zUT];simp only [List.filter_cons,cc,List.filter_nil,if_true];rfl
       ·refine ⟨hi,?_,s6,e6⟩;rw [tk,zUx,zUT];simp only [List.filter_cons,cc,List.filter_nil];simp
      rintro ys6 H6 ⟨_,rfl,s6,e6⟩;rw [List.take_of_length_le (zUC _)] at e6;have li:=li.same s6;have ePa:=s6 _ _ ePa;have fvl:(Vs.filter fun x=>!decide (x∈ps)).length<=Vs.length:=zVC ..;refine ⟨_,rfl,D,pa,_,_,rfl,rfl,e6,ePa,by rw [zUJ,zUF,zUF];omega,fun ak hak=>?_⟩;have nkl:l≠ak:=fun z=>by rw [<-z,li.at_] at hak;cases hak
      obtain ⟨H121,g121,s121,e121⟩:=yH hak (.lst ((Vs.filter fun x=>!decide (x∈ps)).map V.str++ps.map V.str));rw [g121];have li:=li.same s121;have ePa:=s121 _ _ ePa;have eak:=e121;rw [<-zUT] at eak;refine hz2 _ _ (hd fun Z2 hz2=>?_);obtain ⟨ts,ec,pc⟩:=li.c;have pcl:=Paired.len pc;refine ⟨_,rfl,aC,rfl,⟨_,SqL.of ec⟩,fun D2 hD2=>?_⟩;refine zx ts.length (fun i ys H'=> ∃ts':List Addr,i<=ts.length/\ys=ts'.map V.ref/\ts'.length<=i/\Paired (fun t (p:Str×Nat)=>H121 t=some (.tup [.str p.1,.int (p.2:Int)])) ts' ((Cs.take i).filter fun p=>!decide (p.1∈ps))/\zA H121 H'/\H' D2=some (.lst ys)) ⟨[],zUN _,rfl,zUC _,.nil,zA.upd hD2,zE⟩ (by rw [zUJ];omega) ?_ ?_ ?_
      ·rintro i ys H7 hi ⟨ts',_,rfl,tl,_,s7,e7⟩;exact ⟨by simpa using tl,e7,fun h=>⟨_,.ref ts[i],SqL.of (s7 _ _ ec),by simp [h]⟩,fun h=>⟨_,SqL.of (s7 _ _ ec),by simp [h]⟩⟩
      ·rintro i ys H7 y H8 hi ⟨ts',_,rfl,tl,pt,s7,e7⟩ ⟨rfl,hy⟩ pre hpre;obtain ⟨p0,rfl⟩:=zAt hpre;have hy':=hy _ (SqL.of (s7 _ _ ec));rw [zUD,zTy hi] at hy';cases hy';obtain ⟨cp,ecp,hcp⟩:=Paired.get' pc (zTy hi);have tk:Cs.take (i+1)=Cs.take i++ [cp] :=by rw [zUU,ecp];rfl
       refine ⟨⟨[some (.ref ts[i])],rfl,rfl⟩,_,rfl,ts[i],_,_,_,rfl,rfl,SqT.of (s7 _ _ hcp),rfl,_,rfl,pa,_,rfl,.inl (SqL.of (s7 _ _ ePa)),rfl,zBQ ps,_,rfl,?_⟩;show if (!inV (.str cp.1) (ps.map V.str))=true then _ else _;rw [zBq];refine zp (fun cc=>?_) (fun cc=>?_)
       ·refine ⟨_,rfl,e7,ts'++ [ts[i]],hi,by rw [zUT];rfl,by simp;omega,?_,zA.store s7 hD2,zE⟩;rw [tk,zUx];simp only [List.filter_cons,cc,List.filter_nil,if_true];exact Paired.snoc' pt hcp
       ·refine ⟨ts',hi,rfl,by omega,?_,s7,e7⟩;rw [tk,zUx];simp only [List.filter_cons,cc,List.filter_nil];simpa using pt
      rintro ys7 H7 ⟨ts',_,rfl,tl,pt,s7,e7⟩;rw [List.take_of_length_le (by omega)] at pt;have li:=li.same s7;have ePa:=s7 _ _ ePa;refine hz2 _ _ ?_;refine ⟨_,rfl,.inl ⟨rfl,_,SqL.of li.r⟩,_,rfl,_,rfl,pa,_,rfl,.inl ⟨SqL.of ePa,fun tp htp=>?_⟩⟩;obtain ⟨H122,g122,s122,e122⟩:=yH htp (.tup (ps.map V.str));rw [g122];have li:=li.same s122;have ePa:=s122 _ _ ePa;have fcl:(Cs.filter fun p=>!decide (p.1∈ps)).length<=Cs.length:=zVC ..;have ev:EnvAt H122 aU ak D2 U ((Vs.filter fun x=>!decide (x∈ps))++ps) (Cs.filter fun p=>!decide (p.1∈ps)):=
       ⟨⟨li.u,by omega,fun x hx=>(wl.gu x hx).1⟩,wl.nd,⟨(s7.trans s122) _ _ eak,by rw [zUY];omega,fun x hx=>by
        rcases zUq.mp hx with z | z
        ·exact (wl.gv x (zUz.mp z).1).1
        ·exact nmp x z⟩,⟨ts',s122 _ _ e7,Paired.mapM pt fun _ _ _ e=>(s7.trans s122) _ _ e⟩,by omega,fun p hp=>⟨(wl.c p (zUz.mp hp).1).1,(wl.c p (zUz.mp hp).1).2.1⟩⟩
      refine ⟨_,rfl,_,rfl,_,rfl,_,rfl,_,rfl,sA,l,aU,ak,D2,ns,x,x,4,U,_,_,rfl,⟨(Scr.of sq hl0).but (zA.but li.sm [l]),nsl,li.at_,x0,Int.le_refl _,by omega,by omega,by decide,by decide,ev,by rw [zUY];omega⟩,fun v H60 e po=>⟨bs 4,fun t ht=>?_⟩⟩;obtain ⟨x',ex',hx'⟩:=po.at_;have T6:=zc.of_but po.but li.at_;have ePa:=po.but _ _ ePa (by simpa using nPl);have li:=li.but po.but ex';obtain ⟨H123,g123,s123,e123⟩:=yH ht (.tup [.str "fun",.str nm,.ref tp,v]);rw [g123];have li:=li.same s123;have ePa:=s123 _ _ ePa;have in1:=po.inn;have ni:=zAq e;have dp:=po.dp;have n33:zQ e<=33:=by omega
      have d4:ze e<=4:=by omega
      obtain ⟨oke,hbe⟩:=wl.fexp ndp nmp po.gen;have oke:OkE e:=⟨oke,by omega,by omega⟩;refine ⟨aR,_,_,rfl,rfl,li.r,by rw [zUJ];omega,?_⟩;have li:=li.app (show Rt H123 (.fun' nm ps e) (.ref t) from ⟨t,tp,v,rfl,e123,s123 _ _ (T6 _ _ e122),po.xt.same s123⟩);have ePa:=(zN (o:= .lst (ys++ [.ref t])) nPR).trans ePa;generalize L2.upd _ aR (.lst (ys++ [.ref t]))=HR at li ePa⊢;have hb:yV (kn rs) (.fun' nm ps e)=none:=by
       show (if ((kn rs).lookup nm).isSome=true then _ else _)=none;rw [wl.f nm (zUa hj)];show (match twP [] ps with | some p=>some (.tw,p)| none=>up (bad (kn rs) e ps.reverse))=none;rw [zGZ ps [] ndp (fun _ _=>by simp),hbe];rfl
      refine hz _ _ (hd fun Z hz=>?_);refine ⟨_,rfl,rfl,_,rfl,zI ⟨_,rfl,.inl ⟨rfl,_,SqL.of li.f⟩,_,rfl,aF,F,nm,j,rfl,rfl,li.f,hj,hno,hz _ _ (hd fun Z hz=>?_)⟩⟩;have li:=li.setF (F.eraseIdx j);have ePa:=(fun z:pa≠aF=>show L2.upd _ aF (.lst ((F.eraseIdx j).map V.str)) pa=_ from (zN z).trans ePa) nPF;generalize L2.upd _ aF (.lst ((F.eraseIdx j).map V.str))=HF at li ePa⊢;refine ⟨_,rfl,yc fun p H124 hp s124 e124=>?_⟩;have li:=li.same s124;have ePa:=s124 _ _ ePa;refine ⟨p,_,rfl,.inr (SqT.of e124),rfl,rfl,_,rfl,zD ?_⟩;refine hz _ _ ?_;refine ⟨_,rfl,rfl,_,rfl,zI ?_⟩;refine ⟨_,rfl,_,rfl,_,rfl,pa,_,rfl,.inl (SqL.of ePa),nw fun t1 H125 s125 e125=>?_⟩;have li:=li.same s125;refine nw fun q1 H126 s126 e126=>?_;have li:=li.same s126;obtain ⟨ts,ec,pc⟩:=li.c;refine zHu ec e126 (by rw [zUJ];have:=Paired.len pc;simp;omega) fun a2 H127 ha2 s127 e127=>?_;have li:=li.setC ha2 s127 (C':=Cs++ [(nm,ps.length)]) ⟨ts++ [t1],by rw [zUT];exact e127,Paired.snoc' (Paired.mapM pc fun _ _ _ e=>s127 _ _ e) (by have:=(s126.trans s127) _ _ e125;rw [zUF] at this;exact this)⟩;exact ⟨_,_,_,_,_,_,_,_,aU,aV,a2,_,_,_,_,_,_,_,_,rfl,li,wl.fn hj p1 p3 ⟨gnm.1,p1,p3,nmp,oke⟩ hb,by simp [rl],hi,fun r hr=>(zUq.mp hr).elim (sm r) fun z=>by rw [zUs.mp z];exact ⟨n33,d4⟩,by omega,by omega⟩
     ·skip
      refine ⟨_,rfl,rfl,_,rfl,zD ⟨_,rfl,rfl,_,rfl,zD ⟨_,rfl,rfl,_,rfl,zD (hd fun Z2 hz2=>⟨_,rfl,_,rfl,_,rfl,_,rfl,_,rfl,sA,l,aU,aV,aC,ns,x,x,4,U,Vs,Cs,rfl,⟨(Scr.of sq hl0).but (zA.but li.sm [l]),nsl,li.at_,x0,Int.le_refl _,by omega,by omega,by decide,by decide,⟨⟨li.u,by omega,fun x hx=>(wl.gu x hx).1⟩,wl.nd,⟨li.v,by omega,fun x hx=>(wl.gv x hx).1⟩,li.c,by omega,fun p hp=>⟨(wl.c p hp).1,(wl.c p hp).2.1⟩⟩,by omega⟩,fun v H60 e po=>hz2 _ _ ?_⟩)⟩⟩⟩;obtain ⟨x',ex',hx'⟩:=po.at_;have li:=li.but po.but ex';have in1:=po.inn;have ni:=zAq e;have dp:=po.dp;have n33:zQ e<=33:=by omega
      have d4:ze e<=4:=by omega
      obtain ⟨oke,hbe⟩:=wl.exp po.gen;have oke:OkE e:=⟨oke,by omega,by omega⟩;refine ⟨_,rfl,.inl ⟨rfl,_,SqL.of li.r⟩,⟨_,rfl,rfl,_,rfl,zD ⟨_,rfl,yc fun t H69 ht s69 e69=>?_⟩⟩⟩;have li:=li.same s69;refine ⟨aR,_,_,rfl,rfl,li.r,by rw [zUJ];omega,?_⟩;have li:=li.app (show Rt H69 (.show' e) (.ref t) from ⟨t,_,rfl,e69,po.xt.same s69⟩);generalize L2.upd _ aR (.lst (ys++ [.ref t]))=HR at li⊢;refine hz _ _ (hd fun Z hz=>?_);refine ⟨_,rfl,rfl,_,rfl,zD (hz _ _ (hd fun Z hz=>?_))⟩;refine ⟨_,rfl,nw fun p H70 s70 e70=>?_⟩;have li:=li.same s70;refine ⟨p,_,rfl,.inr (SqT.of e70),rfl,rfl,_,rfl,zD ?_⟩;refine hz _ _ ?_;refine ⟨_,rfl,rfl,_,rfl,zD ?_⟩;exact ⟨_,_,_,_,_,_,_,_,aU,aV,aC,_,_,_,_,_,_,_,_,rfl,li,wl.shw oke hbe,by simp [rl],hi,fun r hr=>(zUq.mp hr).elim (sm r) fun z=>by rw [zUs.mp z];exact ⟨n33,d4⟩,by omega,by omega⟩
     )
    have hkd':(kd= "unit" /\U.length<=5)\/(kd= "unit" /\5<U.length)\/kd= "take" \/kd= "let" \/kd= "fun" \/kd= "show" :=by
     rcases hkd with h | h | h | h | h
     ·by_cases h5:U.length<=5
      ·exact .inl ⟨h,h5⟩
      ·exact .inr (.inl ⟨h,by omega⟩)
     all_goals simp [h]
    rcases hkd' with ⟨rfl,h5⟩|⟨rfl,h5⟩| rfl | rfl | rfl | rfl
    ·exact ⟨_,rfl,rfl,_,rfl,zI ⟨_,rfl,aU,_,rfl,.inl (SqL.of li.u),_,_,rfl,rfl,false,congrArg V.bl (zUW (by rw [zUF];omega)),zD (fin _ (.inl ⟨rfl,h5⟩))⟩⟩
    ·exact ⟨_,rfl,rfl,_,rfl,zI ⟨_,rfl,aU,_,rfl,.inl (SqL.of li.u),_,_,rfl,rfl,true,congrArg V.bl (zUV (by rw [zUF];omega)),zI (fin _ (by simp))⟩⟩
    all_goals exact ⟨_,rfl,rfl,_,rfl,zD (zD (fin _ (by simp)))⟩
   ·rintro σ H' ⟨o1,o2,o3,o4,o5,o6,o7,o8,aU,aV,aC,U,Vs,Cs,F,rs,ys,x,y,rfl,li,wl,rl,_,sm,x0,x1⟩;refine hz _ _ ?_;refine ⟨_,rfl,aR,_,rfl,.inl ⟨SqL.of li.r,fun t ht=>?_⟩⟩;obtain ⟨H5,g5,s5,e5⟩:=yH ht (.tup ys);rw [g5];have pl:=Paired.len li.rows;have rows:RtL H5 ys rs:=by
     have:=Paired.and_mem (Paired.mapM li.rows fun _ _ _ k=>k.same s5) wl.ok;exact this
    exact q t H5 ys rs (li.sm.trans s5) (zA.none li.sm ht) ⟨e5,rows,by omega,by omega,by rw [<-wl.un];exact wl.u6,sm⟩ wl.bad
structure Wn where
 srt:Str
 nm:Str
 due:Int
 here:Int
def zEg(H:Hp)(t:Addr)(x:Wn):Prop:=H t=some (.tup [.str x.srt,.str x.nm,.int x.due,.int x.here])
abbrev yQ:=Str->Option Int
def yS(g:yQ)(s:Str):Int:=(g s).getD (-1)
def zBf(g:yQ)(s:Str)(i:Int):yQ:=fun n=>if n=s then some i else g n
def zAT(us:Us):List Wn:=us.map fun p=>⟨"unit",p.1,0,0⟩
def zn:Ex->yQ->List Wn
 | .num _ _ none,_=> []
 | .num _ _ (some us),_=>zAT us
 | .nam s,g=> [⟨"value",s,0,yS g s⟩]
 | .neg e,g=>zn e g
 | .bin _ e f,g=>zn e g++zn f g
 | .pow e _,g=>zn e g
 | .ite a b c d,g=>zn a g++(zn b g++(zn c g++zn d g))
 | .loop s e _ f,g=>zn e g++zn f (zBf g s 0)
 | .call1 s e,g=>⟨"call",s,1,yS g s⟩::zn e g
 | .call2 s e f,g=>⟨"call",s,2,yS g s⟩::(zn e g++zn f g)
 | .call3 s e f h,g=>⟨"call",s,3,yS g s⟩::(zn e g++(zn f g++zn h g))
theorem yC: ∀(e:Ex) (g:yQ),Ok e->(zn e g).length<=100*zQ e
 | .num _ _ none,_,_=>by simp [zn]
 | .num _ _ (some us),_,ok=>by
  have:=ok.2.2.2.le;simp only [zn,zAT,zUF,zQ];omega
 | .nam s,g,_=>by simp [zn,zQ]
 | .neg e,g,ok=>by have:=yC e g ok;simp only [zn,zQ];omega
 | .bin _ e f,g,ok=>by have:=yC e g ok.2.1;have:=yC f g ok.2.2;simp only [zn,zQ,zUY];omega
 | .pow e _,g,ok=>by have:=yC e g ok.1;simp only [zn,zQ];omega
 | .ite a b c d,g,ok=>by
  have:=yC a g ok.1;have:=yC b g ok.2.1;have:=yC c g ok.2.2.1;have:=yC d g ok.2.2.2;simp only [zn,zQ,zUY];omega
 | .loop s e _ f,g,ok=>by have:=yC e g ok.2.1;have:=yC f (zBf g s 0) ok.2.2.2.2;simp only [zn,zQ,zUY];omega
 | .call1 s e,g,ok=>by have:=yC e g ok.2;simp only [zn,zQ,zUu];omega
 | .call2 s e f,g,ok=>by have:=yC e g ok.2.1;have:=yC f g ok.2.2;simp only [zn,zQ,zUY,zUu];omega
 | .call3 s e f h,g,ok=>by
  have:=yC e g ok.2.1;have:=yC f g ok.2.2.1;have:=yC h g ok.2.2.2;simp only [zn,zQ,zUY,zUu];omega
def zQV:Ex->Str
 | .num ..=> "number"
 | .nam _=> "name"
 | .neg _=> "negative"
 | .bin w _ _=>w
 | .pow _ _=> "power"
 | .ite ..=> "if"
 | .loop ..=> "loop"
 | .call1 ..=> "call"
 | .call2 ..=> "call"
 | .call3 ..=> "call"
theorem Xt.hd'(h:Xt H e v): ∃t ys,v= .ref t/\H t=some (.tup (.str (zQV e)::ys)):=by
 cases e with
 | num=>obtain ⟨t,p,y,e,h,_⟩:=h;exact ⟨t,_,e,h⟩
 | nam=>obtain ⟨t,e,h⟩:=h;exact ⟨t,_,e,h⟩
 | neg=>obtain ⟨t,x,e,h,_⟩:=h;exact ⟨t,_,e,h⟩
 | bin=>obtain ⟨t,x,y,e,h,_⟩:=h;exact ⟨t,_,e,h⟩
 | pow=>obtain ⟨t,x,e,h,_⟩:=h;exact ⟨t,_,e,h⟩
 | ite=>obtain ⟨t,x,y,z,u,e,h,_⟩:=h;exact ⟨t,_,e,h⟩
 | loop=>obtain ⟨t,x,y,e,h,_⟩:=h;exact ⟨t,_,e,h⟩
 | call1=>obtain ⟨t,q,x,e,h,_⟩:=h;exact ⟨t,_,e,h⟩
 | call2=>obtain ⟨t,q,x,y,e,h,_⟩:=h;exact ⟨t,_,e,h⟩
 | call3=>obtain ⟨t,q,x,y,z,e,h,_⟩:=h;exact ⟨t,_,e,h⟩
def zDL(e:Ex)(g:yQ)(i:Nat):yQ:=match e with
 | .loop s _ _ _=>if 1<=i then zBf g s 0 else g
 | _=>g
def zKB(e:Ex)(g:yQ)(i:Nat):yQ:=match e with
 | .loop s _ _ _=>if 2<=i then zBf g s 0 else g
 | _=>g
def own:Ex->yQ->List Wn
 | .num _ _ (some us),_=>zAT us
 | .nam s,g=> [⟨"value",s,0,yS g s⟩]
 | .call1 s _,g=> [⟨"call",s,1,yS g s⟩]
 | .call2 s _ _,g=> [⟨"call",s,2,yS g s⟩]
 | .call3 s _ _ _,g=> [⟨"call",s,3,yS g s⟩]
 | _,_=> []
def zBC(e:Ex)(g:yQ):Nat->List Ex->List Wn
 | _,[] => []
 | i,k::ks=>zn k (zDL e g i)++zBC e g (i+1) ks
theorem zOC(e:Ex)(g:yQ):zn e g=own e g++zBC e g 0 (zi e):=by
 cases e with
 | num a b u=>cases u<;>simp [zn,own,zi,zBC]
 | _=>simp [zn,own,zi,zBC,zDL]
theorem zFH(e:Ex)(g:yQ)(k:Ex): ∀(i:Nat) (ks:List Ex),zBC e g i (ks++ [k])=zBC e g i ks++zn k (zDL e g (i+ks.length))
 | i,[] =>by simp [zBC]
 | i,x::ks=>by
  rw [List.cons_append];show zn x (zDL e g i)++zBC e g (i+1) (ks++ [k])=_;rw [zFH e g k (i+1) ks,<-List.append_assoc,show i+1+ks.length=i+(x::ks).length by simp;omega];rfl
theorem zGK(e:Ex)(g:yQ): ∀(i:Nat) (ks:List Ex),(∀k∈ks,Ok k)->(zBC e g i ks).length<=100*(ks.map zQ).sum
 | _,[],_=>by simp [zBC]
 | i,k::ks,h=>by
  have h1:=yC k (zDL e g i) (h k (List.mem_cons_self ..));have h2:=zGK e g (i+1) ks fun x hx=>h x (zUd _ hx);simp only [zBC,zUY,zUr,List.sum_cons];omega
theorem zPG(g:yQ)(ok:Ok e):(own e g).length<=100:=by
 cases e with
 | num a b u=>
  cases u with
  | none=>simp [own]
  | some us=>simp only [own,zAT,zUF];exact ok.2.2.2.le
 | _=>simp [own]
theorem zMU(ks:List Ex)(h:ks[i]?=some k):((ks.take i).map zQ).sum+zQ k<=(ks.map zQ).sum:=by
 obtain ⟨hi,e⟩:=zUy.mp h;have:ks=ks.take i++(k::ks.drop (i+1)):=by rw [<-e,<-List.drop_eq_getElem_cons hi,List.take_append_drop]
 conv=>rhs;rw [this]
 rw [zUT,List.sum_append,zUr,List.sum_cons];omega
def DAt(H:Hp)(d:Addr)(g:yQ)(k:Nat):Prop:= ∃kvs,H d=some (.dK kvs)/\kvs.length<=k/\ ∀n,yZ kvs (.inr n)=(g n).map V.int
theorem DAt.same{g:yQ}(h:DAt H d g k)(s:zA H H'):DAt H' d g k:=let ⟨kvs,e,p⟩:=h;⟨kvs,s _ _ e,p⟩
theorem DAt.mono{g:yQ}(h:DAt H d g k)(l:k<=k'):DAt H d g k':=let ⟨kvs,e,a,p⟩:=h;⟨kvs,e,zUM a l,p⟩
theorem DAt.get{g:yQ}(h:DAt H d g k)(n:Str):zBt H d (.str n) ((g n).map V.int):=by
 obtain ⟨kvs,e,_,p⟩:=h;exact .inl ⟨kvs,.inr n,.inl e,rfl,(p n).symm⟩
theorem zDM(g:yQ)(n:Str):((g n).map V.int).getD (.int (-1))= .int (yS g n):=by
 unfold yS;cases g n<;>rfl
def zRI(d:Nat):Sp:=fun vs H Q _=> ∃(v:V) (kd fo:Addr) (e:Ex) (g:yQ) (k:Nat) (ws:List V),vs= [v,.ref kd,.ref fo] /\Xt H e v/\Ok e/\ze e<=d/\DAt H kd g k/\k+5*d<=1000/\H fo=some (.lst ws)/\ws.length+100*zQ e<=100000/\
 ∀H' ts,But [fo] H H'->H' fo=some (.lst (ws++ts.map V.ref))->Paired (zEg H') ts (zn e g)->Q (.ref fo) H'
theorem zHi:FnScope ["_law_told_here","_law_known","_law_found","_law_inner","_law_k","_law_kid"] ["_law_told_here","_law_known","_law_found"] (zK zES):=fs
theorem zSP(FW:Fun K "_law_wanted" "_law_wanted" zES f fd)(B:Bn mg)
  (FK:Fun K "_law_kids" "_law_kids" zDb fK fdK) (bK:zO K fdK ["_law_told_here"] []) (mK:mg "_law_kids" =some (.ref fK)) (GK:FnOk P w K mg base CX0 1 fK fdK ["_law_told_here"] zFx)
  (bW:zO K fd ["_law_told_here","_law_known","_law_found"] []) (mW:mg "_law_wanted" =some (.ref f)):
  ∀d,FnOk P w K mg base CX0 (2+d) f fd ["_law_told_here","_law_known","_law_found"] (zRI d):=by
 intro d
 induction d with
 | zero=>
  refine FW.ok zHi (fun vs H Q E h=>?_) (fun cdv A outer s H vs Q E hr h=>?_)
  ·obtain ⟨v,kd,fo,e,g,k,ws,rfl,_⟩:=h;rfl
  ·obtain ⟨v,kd,fo,e,g,k,ws,rfl,_,_,h,_⟩:=h;have:=zCM e;omega
 | succ d GW=>
  refine FW.ok zHi (fun vs H Q E h=>?_) (fun cdv A outer s H vs Q E hrW h=>?_)
  ·obtain ⟨v,kd,fo,e,g,k,ws,rfl,_⟩:=h;rfl
  ·obtain ⟨v,kd,fo,e,g,k,ws,rfl,hx,ok,dp,hg,kd1,ef,wl,q⟩:=h;have hrW:Room (2+d) _:=hrW;have hr1:Room 1 _:=hrW.mono (by omega);have hu:=zAb hrW;obtain ⟨t2,hq2,ht2⟩: ∃t2:TS,QB (zBk CX0 P w K mg base ["_law_told_here","_law_known","_law_found","_law_inner","_law_k","_law_kid"] "_law_wanted" (zK zES) f cdv A outer s H E).nox ((yT zES).drop 1) t2/\
     ∀(H1:Hp) (ts0:List Addr),But [fo] H H1->H1 fo=some (.lst (ws++ts0.map V.ref))->Paired (zEg H1) ts0 (own e g)->t2 {nx:=fun _ H'=>Q .non H',rt:=Q} [some v,some (.ref kd),some (.ref fo),none,none,none] H1:=by
    refine ⟨_,(zF
   (zY 3 zHi.nd rfl (zBZ zDV rfl B.dict zFv (qc (qw 1 rfl) zB rfl) rfl) rfl) (zF
   (zAh PassesOwn.never rfl (zLL (K:=K) rfl rfl B.enumerate (qc (zR GK hr1 rfl mK FK.kp bK .nil zP (qc (qw 0 rfl) zB rfl) rfl rfl rfl) zB rfl) rfl) (zCj (K:=K) (n:=2) rfl rfl (ya (zb 4 zHi.nd rfl (Or.inl rfl) (.inr rfl)) (ya (zb 5 zHi.nd rfl (Or.inl rfl) (.inr rfl)) zCc rfl) rfl) rfl rfl) (zF
    (zV (t_w (zAi (zL zZ (zJ (K:=K) rfl (qw 0 rfl) zC (fun _ _=>rfl)) zG rfl) (zAU (zL zZ (qw 4 rfl) zC rfl)))) (zH
     (zDn hu (qw 3 rfl) (zJ (K:=K) rfl (qw 0 rfl) zC (fun _ _=>rfl)) zC rfl)) zU) (zH
    (yP (zR GW hrW rfl mW FW.kp bW .nil zP (qc (qw 5 rfl) (qc (qw 3 rfl) (qc (qw 2 rfl) zB rfl) rfl) rfl) rfl rfl rfl) rfl))) (fun _=>rfl)) (zH
   (zS (qw 2 rfl))))),?_⟩
    intro H1 ts0 b1 e1 p0;refine hd fun Z hz=>?_;obtain ⟨kvs,ekd,kl,kg⟩:=hg;have nkf:kd≠fo:=fun z=>by rw [z,ef] at ekd;cases ekd
    have ekd1:=b1 _ _ ekd (by simpa using nkf);have T1:zc H H1:=zc.of_but b1 ef;refine ⟨_,rfl,kd,kvs,rfl,.inl ekd1,fun id hid=>?_⟩;obtain ⟨H2,g2,s2,e2⟩:=yH hid (.dK kvs);rw [g2];refine hz _ _ (hd fun Z hz=>?_);have T2:zc H H2:=T1.trans (zA.t s2);refine ⟨_,rfl,v,e,rfl,hx.sameT T2,ok,fun la xs H3 s3 nla ela hxs=>?_⟩;have T3:zc H H3:=T2.trans (zA.t s3);have s13:=s2.trans s3;have ef3:=s13 _ _ e1;have eid3:=s3 _ _ e2;have nif:id≠fo:=fun z=>by rw [z,e1] at hid;cases hid
    have nlf:la≠fo:=fun z=>by rw [z,s2 _ _ e1] at nla;cases nla
    have nli:la≠id:=fun z=>by rw [z,e2] at nla;cases nla
    have lx:=Paired.len hxs;have k4:=zEt e;have nH:H id=none:=by
     cases hh:H id with
     | none=>rfl
     | some o=>
      have:=b1 id o hh (by simpa using nif);rw [hid] at this;cases this
    refine ⟨la,rfl,⟨_,SqL.of ela⟩,?_⟩;refine zAB xs.length (fun i σ H'=> ∃(a b:Option V) (ts:List Addr),σ= [some v,some (.ref kd),some (.ref fo),some (.ref id),a,b] /\i<=xs.length/\But [fo,id] H3 H'/\H' fo=some (.lst (ws++(ts0++ts).map V.ref))/\Paired (zEg H') (ts0++ts) (own e g++zBC e g 0 ((zi e).take i))/\DAt H' id (zKB e g i) (k+i))
     ⟨_,_,[],rfl,zUN _,fun b o h _=>h,by rw [zUX];exact ef3,by rw [zUX,List.take_zero];simp only [zBC,zUX];exact Paired.mapM p0 fun _ _ _ h=>s13 _ _ h,⟨kvs,eid3,by omega,by rw [show zKB e g 0=g by cases e<;>rfl];exact kg⟩⟩ ?_ ?_ ?_ ?_
    ·rintro i σ H' hi ⟨a,b,ts,rfl,_,b3,_⟩;exact ⟨_,_,SqL.of (b3 _ _ ela (by simp [nlf,nli])),zTy hi⟩
    ·rintro σ H' ⟨a,b,ts,rfl,_,b3,_⟩;exact ⟨_,SqL.of (b3 _ _ ela (by simp [nlf,nli])),zUC _⟩
    ·rintro i σ H' y H4 hi ⟨a,b,ts,rfl,_,b3,e3,p3,d3⟩ ⟨pt,z,hz',npt,rfl,rfl⟩;have hz'':=hz' _ (SqL.of (b3 _ _ ela (by simp [nlf,nli])));rw [zTy hi] at hz'';cases hz'';obtain ⟨H5,g5,s5,e5⟩:=yH npt (.tup [.int (i:Int),xs[i]]);rw [g5];refine ⟨pt,_,rfl,SqT.of e5,rfl,_,_,rfl,_,_,rfl,rfl,hd fun Z hz=>?_⟩;have T35:zc H3 H5:=fun c zs h=>s5 _ _ (b3 _ _ h (by
      have h1:c≠fo:=fun z=>by rw [z,ef3] at h;cases h
      have h2:c≠id:=fun z=>by rw [z,eid3] at h;cases h
      simp [h1,h2]))
     obtain ⟨kx,ek,hkx⟩:=Paired.get' hxs (zTy hi);have hkm:=zUa ek;have dk:=zBj hkm;have tks:=zMU (zi e) ek;have nk:=zCB e;have ol:=zPG g ok;have wll:=zGK e g 0 ((zi e).take i) fun x hx=>zDk ok (List.mem_of_mem_take hx);have pl3:=Paired.len p3;have tk:(zi e).take (i+1)=(zi e).take i++ [kx] :=by rw [zUU,ek];rfl
     have tkl:((zi e).take i).length=i:=by rw [List.length_take];omega
     obtain ⟨th,yh,rfl,eth⟩:=(hx.sameT T3).hd';have call: ∀H6,But [id] H5 H6->DAt H6 id (zDL e g i) (k+i+1)->Z [some (.ref th),some (.ref kd),some (.ref fo),some (.ref id),some (.int (i:Int)),some xs[i]] H6:=fun H6 b6 d6=>hz _ _ (by
      have n5: ∀{c:Addr} {o:HO},H5 c=some o->c≠id->H6 c=some o:=fun h n=>b6 _ _ h (by simpa using n);have e6:=n5 (s5 _ _ e3) (Ne.symm nif);have T56:zc H5 H6:=fun c zs h=>n5 h fun z=>by
       obtain ⟨kv',ed,_⟩:=d3;rw [z,s5 _ _ ed] at h;cases h
      refine ⟨_,rfl,_,rfl,_,rfl,xs[i],id,fo,kx,zDL e g i,k+i+1,_,rfl,(hkx.sameT T35).sameT T56,zDk ok hkm,by omega,d6,by omega,e6,?_,fun H7 ts7 b7 e7 p7=>?_⟩
      ·simp only [zUY,zUF] at pl3⊢;omega
      ·have T67:zc H6 H7:=zc.of_but b7 e6;obtain ⟨kv6,ed6,rest6⟩:=d6;refine ⟨_,_,ts++ts7,rfl,hi,fun c o h n=>?_,?_,?_,⟨kv6,b7 _ _ ed6 (by simpa using nif),rest6.1,?_⟩⟩
       ·have n1:c≠fo:=fun z=>n (by simp [z]);have n2:c≠id:=fun z=>n (by simp [z]);exact b7 _ _ (n5 (s5 _ _ (b3 _ _ h n)) n2) (by simpa using n1)
       ·rw [e7,<-List.append_assoc,zUT (l₁:=ts0++ts),List.append_assoc]
       ·rw [tk,zFH,tkl,Nat.zero_add,<-List.append_assoc,<-List.append_assoc];exact Paired.app (Paired.mapM p3 fun _ _ _ h=>T67 _ _ (T56 _ _ (s5 _ _ h))) p7
       ·rw [show zKB e g (i+1)=zDL e g i by
         cases e with
         | loop s a k b=>simp only [zKB,zDL,Nat.succ_le_succ_iff]
         | _=>rfl]
        exact rest6.2)
     have bb:But [id] H5 H5:=fun _ _ h _=>h;cases e with
     | loop sn ea kn eb=>
      obtain ⟨t',x',y',ev,h1,_⟩:=hx;obtain rfl:th=t':=by injection ev
      have h5:=T35 _ _ (T3 _ _ h1);by_cases hi1:i=1
      ·subst hi1;obtain ⟨kv',ed,kl',kg'⟩:=d3;refine ⟨_,rfl,th,_,_,_,rfl,rfl,SqT.of h5,rfl,rfl,_,rfl,zI ⟨_,rfl,rfl,_,rfl,zI ⟨_,rfl,_,rfl,th,_,_,_,rfl,rfl,SqT.of h5,rfl,id,_,rfl,.inl ⟨kv',.inr sn,s5 _ _ ed,rfl,by rw [zUJ];omega,rfl⟩,call _ But.upd ⟨_,zE,?_,fun n=>?_⟩⟩⟩⟩
       ·have:=zBG kv' (.inr sn) (.int 0);omega
       ·rw [zEl,kg' n];show _=Option.map V.int (zBf g sn 0 n);unfold zBf;by_cases hn:n=sn
        ·rw [if_pos hn,if_pos (by rw [hn])];rfl
        ·rw [if_neg hn,if_neg fun z=>hn (Sum.inr.inj z)];rfl
      ·have hi0:i=0:=by
        have:xs.length=2:=by rw [lx];rfl
        omega
       subst hi0;exact ⟨_,rfl,th,_,_,_,rfl,rfl,SqT.of h5,rfl,rfl,_,rfl,zI ⟨_,rfl,rfl,_,rfl,zD (call _ bb ((d3.same s5).mono (by omega)))⟩⟩
     | bin wd ea eb=>
      obtain ⟨hw,_⟩:=ok;rcases hw with rfl | rfl | rfl | rfl
      all_goals exact ⟨_,rfl,th,_,_,_,rfl,rfl,SqT.of (T35 _ _ eth),zg (j:=0) rfl,rfl,_,rfl,zD (zD (call _ bb ((d3.same s5).mono (by omega))))⟩
     | _=>exact ⟨_,rfl,th,_,_,_,rfl,rfl,SqT.of (T35 _ _ eth),zg (j:=0) rfl,rfl,_,rfl,zD (zD (call _ bb ((d3.same s5).mono (by omega))))⟩
    ·rintro σ H' ⟨a,b,ts,rfl,_,b3,e3,p3,d3⟩;refine hz _ _ ⟨_,rfl,?_⟩;rw [List.take_of_length_le (by omega),<-zOC] at p3;exact q H' (ts0++ts) (fun c o h n=>b3 _ _ (s13 _ _ (b1 _ _ h n)) (by
      have n1:c≠fo:=by simpa using n
      have n2:c≠id:=fun z=>by rw [z,nH] at h;cases h
      simp [n1,n2])) e3 p3
   refine ⟨_,QB.out (zF
   (zV (zL zZ (zJ (K:=K) rfl (qw 0 rfl) zC (fun _ _=>rfl)) zG rfl) (zH
    (yP (zMW (K:=K) rfl (qw 2 rfl) (yx (cl:= []) ["_law_pair"] [] [] rfl (zBT (K:=K) rfl (zSQ (zJ (K:=K) rfl (qw 0 rfl) zC (fun _ _=>rfl)) (zCg (zM zB)))) rfl (by decide+kernel) rfl (by decide+kernel) (fun _ _ h=>nomatch h) rfl (fun j y i h=>nomatch h) (yF rfl) (fun _ _ _ _=>(zb 0 (show (["_law_pair"] :List Str).Nodup by decide+kernel) rfl (.inl rfl) (.inr rfl))) (fun _ _ _ _=>zAn) (fun _ _ _ _=>(zM (qc zG (qc (zJ (K:=K) rfl (qw 0 rfl) zC (fun _ _=>rfl)) (qc zC (qc zC zB rfl) rfl) rfl) rfl))) (fun _=>rfl)) rfl rfl rfl) rfl)) (zH
    (zV (zL zZ (zJ (K:=K) rfl (qw 0 rfl) zC (fun _ _=>rfl)) zG rfl) (zH
     (yP (zAk (K:=K) rfl (qw 2 rfl) (zM (qc zG (qc (zJ (K:=K) rfl (qw 0 rfl) zC (fun _ _=>rfl)) (qc zC (qc (zIg hu (qw 1 rfl) (zJ (K:=K) rfl (qw 0 rfl) zC (fun _ _=>rfl)) (zER zC) ⟨rfl,rfl,rfl,rfl⟩) zB rfl) rfl) rfl) rfl)) rfl rfl rfl) rfl)) (zH
     (zV (zL zZ (zJ (K:=K) rfl (qw 0 rfl) zC (fun _ _=>rfl)) zG rfl) (zH
      (yP (zAk (K:=K) rfl (qw 2 rfl) (zM (qc zG (qc (zJ (K:=K) rfl (qw 0 rfl) zC (fun _ _=>rfl)) (qc (zq (zm (K:=K) rfl) rfl B.len yB (qc (zJ (K:=K) rfl (qw 0 rfl) zC (fun _ _=>rfl)) zB rfl) rfl) (qc (zIg hu (qw 1 rfl) (zJ (K:=K) rfl (qw 0 rfl) zC (fun _ _=>rfl)) (zER zC) ⟨rfl,rfl,rfl,rfl⟩) zB rfl) rfl) rfl) rfl)) rfl rfl rfl) rfl)) zU))))) hq2),?_⟩
   cases e with
   | neg e=>
    obtain ⟨t,x,rfl,h1,h2⟩:=hx;exact ⟨_,rfl,t,_,_,_,rfl,rfl,SqT.of h1,rfl,rfl,_,rfl,zD ⟨_,rfl,t,_,_,_,rfl,rfl,SqT.of h1,rfl,rfl,_,rfl,zD ⟨_,rfl,t,_,_,_,rfl,rfl,SqT.of h1,rfl,rfl,_,rfl,zD (ht2 H [] (fun _ _ h _=>h) (by rw [List.map_nil,zUX];exact ef) .nil)⟩⟩⟩
   | pow e n=>
    obtain ⟨t,x,rfl,h1,h2⟩:=hx;exact ⟨_,rfl,t,_,_,_,rfl,rfl,SqT.of h1,rfl,rfl,_,rfl,zD ⟨_,rfl,t,_,_,_,rfl,rfl,SqT.of h1,rfl,rfl,_,rfl,zD ⟨_,rfl,t,_,_,_,rfl,rfl,SqT.of h1,rfl,rfl,_,rfl,zD (ht2 H [] (fun _ _ h _=>h) (by rw [List.map_nil,zUX];exact ef) .nil)⟩⟩⟩
   | bin wd e f=>
    obtain ⟨t,x,y,rfl,h1,h2⟩:=hx;obtain ⟨hw,_⟩:=ok;rcases hw with rfl | rfl | rfl | rfl
    all_goals exact ⟨_,rfl,t,_,_,_,rfl,rfl,SqT.of h1,rfl,rfl,_,rfl,zD ⟨_,rfl,t,_,_,_,rfl,rfl,SqT.of h1,rfl,rfl,_,rfl,zD ⟨_,rfl,t,_,_,_,rfl,rfl,SqT.of h1,rfl,rfl,_,rfl,zD (ht2 H [] (fun _ _ h _=>h) (by rw [List.map_nil,zUX];exact ef) .nil)⟩⟩⟩
   | ite a b c d=>
    obtain ⟨t,x,y,z,u,rfl,h1,h2⟩:=hx;exact ⟨_,rfl,t,_,_,_,rfl,rfl,SqT.of h1,rfl,rfl,_,rfl,zD ⟨_,rfl,t,_,_,_,rfl,rfl,SqT.of h1,rfl,rfl,_,rfl,zD ⟨_,rfl,t,_,_,_,rfl,rfl,SqT.of h1,rfl,rfl,_,rfl,zD (ht2 H [] (fun _ _ h _=>h) (by rw [List.map_nil,zUX];exact ef) .nil)⟩⟩⟩
   | loop n e k f=>
    obtain ⟨t,x,y,rfl,h1,h2⟩:=hx;exact ⟨_,rfl,t,_,_,_,rfl,rfl,SqT.of h1,rfl,rfl,_,rfl,zD ⟨_,rfl,t,_,_,_,rfl,rfl,SqT.of h1,rfl,rfl,_,rfl,zD ⟨_,rfl,t,_,_,_,rfl,rfl,SqT.of h1,rfl,rfl,_,rfl,zD (ht2 H [] (fun _ _ h _=>h) (by rw [List.map_nil,zUX];exact ef) .nil)⟩⟩⟩
   | call1 s ea=>
    obtain ⟨t,qa,x,rfl,h1,h0,h2⟩:=hx;obtain ⟨kvs,ekd,kl,kg⟩:=id hg;refine ⟨_,rfl,t,_,_,_,rfl,rfl,SqT.of h1,rfl,rfl,_,rfl,zD ⟨_,rfl,t,_,_,_,rfl,rfl,SqT.of h1,rfl,rfl,_,rfl,zD ⟨_,rfl,t,_,_,_,rfl,rfl,SqT.of h1,rfl,rfl,_,rfl,zI ⟨_,rfl,.inl ⟨rfl,_,SqL.of ef⟩,_,rfl,t,_,_,_,rfl,rfl,SqT.of h1,rfl,_,rfl,t,_,_,_,rfl,rfl,SqT.of h1,rfl,qa,_,rfl,.inr (SqT.of h0),_,rfl,kd,rfl,.inl ⟨_,.inl ekd⟩,_,rfl,t,_,_,_,rfl,rfl,SqT.of h1,rfl,_,rfl,_,hg.get s,?_⟩⟩⟩⟩;rw [zDM];refine yc fun t1 H2 ht1 s2 e2=>?_;refine ⟨fo,_,_,rfl,rfl,s2 _ _ ef,by rw [zUJ];have:=zAx (.call1 s ea);omega,ht2 _ [t1] ((zA.but s2 _).trans But.upd) (by rw [zE];rfl) (.cons ?_ .nil)⟩;exact zc.lst (s2 _ _ ef) _ _ e2
   | call2 s ea eb=>
    obtain ⟨t,qa,x,y,rfl,h1,h0,h2⟩:=hx;obtain ⟨kvs,ekd,kl,kg⟩:=id hg;refine ⟨_,rfl,t,_,_,_,rfl,rfl,SqT.of h1,rfl,rfl,_,rfl,zD ⟨_,rfl,t,_,_,_,rfl,rfl,SqT.of h1,rfl,rfl,_,rfl,zD ⟨_,rfl,t,_,_,_,rfl,rfl,SqT.of h1,rfl,rfl,_,rfl,zI ⟨_,rfl,.inl ⟨rfl,_,SqL.of ef⟩,_,rfl,t,_,_,_,rfl,rfl,SqT.of h1,rfl,_,rfl,t,_,_,_,rfl,rfl,SqT.of h1,rfl,qa,_,rfl,.inr (SqT.of h0),_,rfl,kd,rfl,.inl ⟨_,.inl ekd⟩,_,rfl,t,_,_,_,rfl,rfl,SqT.of h1,rfl,_,rfl,_,hg.get s,?_⟩⟩⟩⟩;rw [zDM];refine yc fun t1 H2 ht1 s2 e2=>?_;refine ⟨fo,_,_,rfl,rfl,s2 _ _ ef,by rw [zUJ];have:=zAx (.call2 s ea eb);omega,ht2 _ [t1] ((zA.but s2 _).trans But.upd) (by rw [zE];rfl) (.cons ?_ .nil)⟩;exact zc.lst (s2 _ _ ef) _ _ e2
   | call3 s ea eb ec=>
    obtain ⟨t,qa,x,y,z,rfl,h1,h0,h2⟩:=hx;obtain ⟨kvs,ekd,kl,kg⟩:=id hg;refine ⟨_,rfl,t,_,_,_,rfl,rfl,SqT.of h1,rfl,rfl,_,rfl,zD ⟨_,rfl,t,_,_,_,rfl,rfl,SqT.of h1,rfl,rfl,_,rfl,zD ⟨_,rfl,t,_,_,_,rfl,rfl,SqT.of h1,rfl,rfl,_,rfl,zI ⟨_,rfl,.inl ⟨rfl,_,SqL.of ef⟩,_,rfl,t,_,_,_,rfl,rfl,SqT.of h1,rfl,_,rfl,t,_,_,_,rfl,rfl,SqT.of h1,rfl,qa,_,rfl,.inr (SqT.of h0),_,rfl,kd,rfl,.inl ⟨_,.inl ekd⟩,_,rfl,t,_,_,_,rfl,rfl,SqT.of h1,rfl,_,rfl,_,hg.get s,?_⟩⟩⟩⟩;rw [zDM];refine yc fun t1 H2 ht1 s2 e2=>?_;refine ⟨fo,_,_,rfl,rfl,s2 _ _ ef,by rw [zUJ];have:=zAx (.call3 s ea eb ec);omega,ht2 _ [t1] ((zA.but s2 _).trans But.upd) (by rw [zE];rfl) (.cons ?_ .nil)⟩;exact zc.lst (s2 _ _ ef) _ _ e2
   | nam s=>
    obtain ⟨t,rfl,h1⟩:=hx;obtain ⟨kvs,ekd,kl,kg⟩:=id hg;refine ⟨_,rfl,t,_,_,_,rfl,rfl,SqT.of h1,rfl,rfl,_,rfl,zD ⟨_,rfl,t,_,_,_,rfl,rfl,SqT.of h1,rfl,rfl,_,rfl,zI ⟨_,rfl,.inl ⟨rfl,_,SqL.of ef⟩,_,rfl,t,_,_,_,rfl,rfl,SqT.of h1,rfl,_,rfl,kd,rfl,.inl ⟨_,.inl ekd⟩,_,rfl,t,_,_,_,rfl,rfl,SqT.of h1,rfl,_,rfl,_,hg.get s,?_⟩⟩⟩;rw [zDM];refine nw fun t1 H2 s2 e2=>?_;refine ⟨fo,_,_,rfl,rfl,s2 _ _ ef,by rw [zUJ];have:=zAx (.nam s);omega,ht2 _ [t1] ((zA.but s2 _).trans But.upd) (by rw [zE];rfl) (.cons ?_ .nil)⟩;exact zc.lst (s2 _ _ ef) _ _ e2
   | num a b u=>
    obtain ⟨t,pa,y,rfl,h1,h2,h3⟩:=hx;have wl':ws.length+100<=100000:=wl;cases u with
    | none=>
     cases h3;refine ⟨_,rfl,t,_,_,_,rfl,rfl,SqT.of h1,rfl,rfl,_,rfl,zI ⟨_,rfl,.inl ⟨rfl,_,SqL.of ef⟩,_,rfl,t,_,_,_,rfl,rfl,SqT.of h1,rfl,.non rfl ?_⟩⟩;refine yc fun em H1 hem s1 e1=>?_;refine ⟨em,rfl,⟨_,SqT.of e1⟩,fun D hD=>?_⟩;refine zx 0 (fun i ys H'=>ys= [] /\zA H1 H'/\H' D=some (.lst ys)) ⟨rfl,zA.upd hD,zE⟩ (bs 0) ?_ (fun i _ _ _ _ hi=>absurd hi (Nat.not_lt_zero _)) ?_
     ·rintro i ys H' hi ⟨rfl,s3,e3⟩;exact ⟨zUN _,e3,fun h=>absurd h (Nat.not_lt_zero _),fun h=>⟨_,SqT.of (s3 _ _ e1),zUN _⟩⟩
     rintro ys H' ⟨rfl,s3,e3⟩;have sE:=s1.trans s3;exact ⟨fo,D,_,_,rfl,rfl,sE _ _ ef,.inl e3,by rw [zUJ];simp;omega,ht2 _ [] ((zA.but sE _).trans But.upd) (by rw [zE];rfl) .nil⟩
    | some us=>
     obtain ⟨up,tsu,rfl,eu,hu⟩:=h3;have ul:=Paired.len hu;have u1:=ok.2.2.2.le;refine ⟨_,rfl,t,_,_,_,rfl,rfl,SqT.of h1,rfl,rfl,_,rfl,zI ⟨_,rfl,.inl ⟨rfl,_,SqL.of ef⟩,_,rfl,t,_,_,_,rfl,rfl,SqT.of h1,rfl,.tup up _ rfl eu (by rw [zUF];omega) (fun z=>?_) (fun z=>?_)⟩⟩
     ·obtain rfl:tsu= [] :=by simpa using z
      cases hu;refine nw fun em H1 s1 e1=>?_;refine ⟨em,rfl,⟨_,SqT.of e1⟩,fun D hD=>?_⟩;refine zx 0 (fun i ys H'=>ys= [] /\zA H1 H'/\H' D=some (.lst ys)) ⟨rfl,zA.upd hD,zE⟩ (bs 0) ?_ (fun i _ _ _ _ hi=>absurd hi (Nat.not_lt_zero _)) ?_
      ·rintro i ys H' hi ⟨rfl,s3,e3⟩;exact ⟨zUN _,e3,fun h=>absurd h (Nat.not_lt_zero _),fun h=>⟨_,SqT.of (s3 _ _ e1),zUN _⟩⟩
      rintro ys H' ⟨rfl,s3,e3⟩;have sE:=s1.trans s3;exact ⟨fo,D,_,_,rfl,rfl,sE _ _ ef,.inl e3,by rw [zUJ];simp;omega,ht2 _ [] ((zA.but sE _).trans But.upd) (by rw [zE];rfl) .nil⟩
     ·skip
      refine ⟨up,rfl,⟨_,SqT.of eu⟩,fun D hD=>?_⟩;have nDf:fo≠D:=fun z=>by rw [<-z,(zA.refl H) _ _ ef] at hD;cases hD
      refine zx tsu.length (fun i ys H'=> ∃tw:List Addr,i<=tsu.length/\tw.length=i/\ys=tw.map V.ref/\zA H H'/\H' D=some (.lst ys)/\Paired (zEg H') tw (zAT (us.take i))) ⟨[],zUN _,rfl,rfl,zA.upd hD,zE,.nil⟩ (by rw [zUJ];omega) ?_ ?_ ?_
      ·rintro i ys H' hi ⟨tw,_,tl,rfl,s3,e3,_⟩;exact ⟨by simp [tl],e3,fun h=>⟨_,.ref tsu[i],SqT.of (s3 _ _ eu),by simp [h]⟩,fun h=>⟨_,SqT.of (s3 _ _ eu),by simp [h]⟩⟩
      ·rintro i ys H' y H'' hi ⟨tw,_,tl,rfl,s3,e3,p3⟩ ⟨rfl,hy⟩ pre hpre;obtain ⟨p0,rfl⟩:=zAt hpre;have hy':=hy _ (SqT.of (s3 _ _ eu));rw [zUD,zTy hi] at hy';cases hy';obtain ⟨up,eu,hu⟩:=Paired.get' hu (zTy hi);refine ⟨⟨[some (.ref tsu[i])],rfl,rfl⟩,zI ⟨_,rfl,tsu[i],_,_,_,rfl,rfl,SqT.of (s3 _ _ hu),rfl,nw fun t4 H5 s5 e5=>?_⟩⟩;have e35:=s5 _ _ e3;have T:zc H5 (L2.upd H5 D (.lst (tw.map V.ref++ [.ref t4]))):=zc.lst e35;refine ⟨e35,tw++ [t4],hi,by simp [tl],by rw [zUT];rfl,zA.store (s3.trans s5) hD,zE,?_⟩;have tk:zAT (us.take (i+1))=zAT (us.take i)++ [⟨"unit",up.1,0,0⟩] :=by rw [zUU,eu];unfold zAT;rw [zUT];rfl
       rw [tk];exact Paired.snoc' (Paired.mapM p3 fun _ _ _ h=>T _ _ (s5 _ _ h)) (T _ _ e5)
      rintro ys H' ⟨tw,_,tl,rfl,s3,e3,p3⟩;have sE:=((zA.refl H)).trans s3;rw [List.take_of_length_le (by omega)] at p3;refine ⟨fo,D,_,_,rfl,rfl,sE _ _ ef,.inl e3,by rw [zUJ,zUF];omega,ht2 _ tw ((zA.but sE _).trans But.upd) zE (Paired.mapM p3 fun _ _ _ h=>zc.lst (sE _ _ ef) _ _ h)⟩
def yD(U:List Str)(x:Wn):Option (Bool×Str):=
 if (x.srt= "unit" /\x.nm∉U)\/(x.srt= "value" /\x.here≠0)\/(x.srt= "call" /\x.here<1) then some (false,x.nm)
 else if x.srt= "call" /\x.here≠x.due then some (true,x.nm) else none
structure Agree(ks:Kn)(inn:List Str)(U:List Str)(g:yQ):Prop where
 u: ∀n,n∈U↔srt ks n=some ("unit" :Str)
 i: ∀n∈inn,g n=some 0
 v: ∀n,n∉inn->(srt ks n=some ("take" :Str)\/srt ks n=some ("let" :Str))->g n=some 0
 f: ∀n m ps e,n∉inn->ks.lookup n=some (.fun' m ps e)->g n=some (ps.length:Int)
 n: ∀n,n∉inn->(ks.lookup n=none\/srt ks n=some ("unit" :Str))->g n=none
 p: ∀n m ps e,ks.lookup n=some (.fun' m ps e)->1<=ps.length
 s: ∀n e,ks.lookup n≠some (.show' e)
theorem Agree.put{g:yQ}(h:Agree ks inn U g)(s:Str):Agree ks (s::inn) U (zBf g s 0):=by
 have ne: ∀n,n∉s::inn->n≠s/\n∉inn:=fun n hn=>⟨fun z=>hn (by rw [z];exact List.mem_cons_self ..),fun z=>hn (zUd _ z)⟩;refine ⟨h.u,fun n hn=>?_,fun n hn hv=>?_,fun n m ps e hn hf=>?_,fun n hn hv=>?_,h.p,h.s⟩
 ·unfold zBf;by_cases z:n=s
  ·rw [if_pos z]
  ·rw [if_neg z];exact h.i n ((zUo.mp hn).resolve_left z)
 ·obtain ⟨z,hi⟩:=ne n hn;unfold zBf;rw [if_neg z];exact h.v n hi hv
 ·obtain ⟨z,hi⟩:=ne n hn;unfold zBf;rw [if_neg z];exact h.f n m ps e hi hf
 ·obtain ⟨z,hi⟩:=ne n hn;unfold zBf;rw [if_neg z];exact h.n n hi hv
theorem zFG{g:yQ}(h:Agree ks inn U g)(us:Us):(zAT us).findSome? (yD U)=zBM ks us:=by
 unfold zAT zBM;rw [List.findSome?_map];congr 1
 funext p
 show yD U ⟨"unit",p.1,0,0⟩=_;unfold yD;have c1: ¬(("unit" :Str)= "value"):=by decide
 have c2: ¬(("unit" :Str)= "call"):=by decide
 simp only [c1,c2,false_and,or_false,true_and];by_cases hu:p.1∈U
 ·rw [if_neg (by simpa using hu),if_neg (by simp),if_pos ((h.u _).mp hu)]
 ·rw [if_pos (by simpa using hu),if_neg fun z=>hu ((h.u _).mpr z)]
theorem zIP{g:yQ}(h:Agree ks inn U g)(s:Str):yD U ⟨"value",s,0,yS g s⟩=zDG ks inn s:=by
 unfold yD zDG;have c1: ¬(("value" :Str)= "unit"):=by decide
 have c2: ¬(("value" :Str)= "call"):=by decide
 simp only [c1,c2,false_and,or_false,false_or,true_and];by_cases hi:s∈inn
 ·rw [if_pos hi,show yS g s=0 by unfold yS;rw [h.i s hi];rfl];simp
 ·rw [if_neg hi];by_cases hv:srt ks s=some ("take" :Str)\/srt ks s=some ("let" :Str)
  ·rw [if_pos hv,show yS g s=0 by unfold yS;rw [h.v s hi hv];rfl];simp
  ·rw [if_neg hv];have:yS g s≠0:=by
    unfold yS;cases hl:ks.lookup s with
    | none=>rw [h.n s hi (.inl hl)];decide
    | some r=>
     cases r with
     | fun' m ps e=>
      rw [h.f s m ps e hi hl];have:=h.p s m ps e hl;show (ps.length:Int)≠0;omega
     | unit n=>rw [h.n s hi (.inr (by unfold srt;rw [hl];rfl))];decide
     | take n us=>exact absurd (.inl (by unfold srt;rw [hl];rfl)) hv
     | let' n e=>exact absurd (.inr (by unfold srt;rw [hl];rfl)) hv
     | show' e=>exact absurd hl (h.s s e)
   simp [this]
theorem zDH{g:yQ}(h:Agree ks inn U g)(s:Str)(k:Nat)(k1:1<=k):yD U ⟨"call",s,(k:Int),yS g s⟩=zBN ks inn s k:=by
 unfold yD zBN;have c1: ¬(("call" :Str)= "unit"):=by decide
 have c2: ¬(("call" :Str)= "value"):=by decide
 simp only [c1,c2,false_and,or_false,false_or,true_and];by_cases hi:s∈inn
 ·rw [if_pos hi,show yS g s=0 by unfold yS;rw [h.i s hi];rfl];simp
 ·rw [if_neg hi];cases hl:ks.lookup s with
  | none=>
   rw [show yS g s= -1 by unfold yS;rw [h.n s hi (.inl hl)];rfl];simp
  | some r=>
   cases r with
   | fun' m ps e=>
    have hp:=h.p s m ps e hl;rw [show yS g s=(ps.length:Int) by unfold yS;rw [h.f s m ps e hi hl];rfl];rw [if_neg (by omega)];by_cases hk:ps.length=k
    ·rw [if_neg (by omega)];show none=if ps.length=k then none else _;rw [if_pos hk]
    ·rw [if_pos (by omega)];show _=if ps.length=k then none else some (true,s);rw [if_neg hk]
   | unit n=>
    rw [show yS g s= -1 by unfold yS;rw [h.n s hi (.inr (by unfold srt;rw [hl];rfl))];rfl];simp
   | take n us=>
    rw [show yS g s=0 by unfold yS;rw [h.v s hi (.inl (by unfold srt;rw [hl];rfl))];rfl];simp
   | let' n e=>
    rw [show yS g s=0 by unfold yS;rw [h.v s hi (.inr (by unfold srt;rw [hl];rfl))];rfl];simp
   | show' e=>exact absurd hl (h.s s e)
theorem yG: ∀(e:Ex) {inn:List Str} {g:yQ},Agree ks inn U g->(zn e g).findSome? (yD U)=bad ks e inn
 | .num _ _ none,_,_,_=>rfl
 | .num _ _ (some us),_,_,h=>zFG h us
 | .nam s,inn,_,h=>by
  show [_].findSome? _=zDG ks inn s;rw [List.findSome?_cons,zIP h s];cases zDG ks inn s<;>rfl
 | .neg e,_,_,h=>yG e h
 | .bin _ e f,_,_,h=>by
  show (zn e _++zn f _).findSome? _=Option.or _ _;rw [List.findSome?_append,yG e h,yG f h]
 | .pow e _,_,_,h=>yG e h
 | .ite a b c d,_,_,h=>by
  show (zn a _++(zn b _++(zn c _++zn d _))).findSome? _=Option.or _ _;rw [List.findSome?_append,List.findSome?_append,List.findSome?_append,yG a h,yG b h,yG c h,yG d h]
 | .loop s e _ f,_,_,h=>by
  show (zn e _++zn f _).findSome? _=Option.or _ _;rw [List.findSome?_append,yG e h,yG f (h.put s)]
 | .call1 s e,inn,g,h=>by
  show (_::zn e g).findSome? _=Option.or _ _;rw [List.findSome?_cons,show yD U ⟨"call",s,1,yS g s⟩=zBN ks inn s 1 from zDH h s 1 (by decide),yG e h];cases zBN ks inn s 1<;>rfl
 | .call2 s e f,inn,g,h=>by
  show (_::(zn e g++zn f g)).findSome? _=Option.or _ _;rw [List.findSome?_cons,List.findSome?_append,show yD U ⟨"call",s,2,yS g s⟩=zBN ks inn s 2 from zDH h s 2 (by decide),yG e h,yG f h];cases zBN ks inn s 2<;>rfl
 | .call3 s e f x,inn,g,h=>by
  show (_::(zn e g++(zn f g++zn x g))).findSome? _=Option.or _ _;rw [List.findSome?_cons,List.findSome?_append,List.findSome?_append,show yD U ⟨"call",s,3,yS g s⟩=zBN ks inn s 3 from zDH h s 3 (by decide),yG e h,yG f h,yG x h];cases zBN ks inn s 3<;>rfl
def zAg(D:List (Str×Int)):List (Key×V):=D.map fun p=>(.inr p.1,.int p.2)
theorem zBl(n:Str): ∀D:List (Str×Int),yZ (zAg D) (.inr n)=(D.lookup n).map V.int
 | [] =>rfl
 | p::D=>by
  rw [List.lookup_cons];by_cases h:n=p.1
  ·rw [show (n==p.1)=true from beq_iff_eq.mpr h];exact ym (by rw [h])
  ·rw [show (n==p.1)=false from beq_eq_false_iff_ne.mpr h];exact (yq fun z=>h (Sum.inr.inj z).symm).trans (zBl n D)
theorem zKu(D:List (Str×Int)):(zAg D).map (fun p=>kV p.1)=(D.map (·.1)).map V.str:=by
 unfold zAg;rw [List.map_map,List.map_map];rfl
theorem zGh(n:Str): ∀D:List (Str×Int),n∈D.map (·.1)↔D.lookup n≠none
 | [] =>by simp
 | p::D=>by
  rw [List.lookup_cons,zUr,zUo,zGh n D];by_cases h:n=p.1
  ·simp [h]
  ·simp [h,beq_eq_false_iff_ne.mpr h]
theorem zEF{D:List (Str×Int)}(x:Str):(D++ [(n,i)]).lookup x=(D.lookup x).or (if x=n then some i else none):=by
 induction D with
 | nil=>
  show List.lookup x [(n,i)] =_;rw [List.lookup_cons];by_cases h:x=n
  ·simp [h]
  ·simp [h,beq_eq_false_iff_ne.mpr h]
 | cons p D ih=>
  rw [List.cons_append,List.lookup_cons,List.lookup_cons];cases (x==p.1)
  ·exact ih
  ·rfl
abbrev zBP(D:List (Str×Int)):yQ:=fun n=>D.lookup n
theorem zKc:Agree [] [] [] (zBP []):=⟨fun n=>by simp [srt],fun n h=>by simp at h,fun n _ h=>by simp [srt] at h,fun n m ps e _ h=>by simp at h,fun n _ _=>rfl,fun n m ps e h=>by simp at h,fun n e h=>by simp at h⟩
theorem Agree.mem{D:List (Str×Int)}(h:Agree ks [] U (zBP D))(n:Str):(n∈D.map (·.1)\/n∈U)↔(ks.lookup n).isSome=true:=by
 rw [zGh];cases hl:ks.lookup n with
 | none=>
  have h1:=h.n n (by simp) (.inl hl);have h2:n∉U:=fun z=>by have:=(h.u n).mp z;unfold srt at this;rw [hl] at this;cases this
  simp only [zBP] at h1;simp [h1,h2]
 | some r=>
  cases r with
  | unit m=>have:n∈U:=(h.u n).mpr (by unfold srt;rw [hl];rfl);simp [this]
  | take m us=>have h1:=h.v n (by simp) (.inl (by unfold srt;rw [hl];rfl));simp only [zBP] at h1;simp [h1]
  | let' m e=>have h1:=h.v n (by simp) (.inr (by unfold srt;rw [hl];rfl));simp only [zBP] at h1;simp [h1]
  | fun' m ps e=>have h1:=h.f n m ps e (by simp) hl;simp only [zBP] at h1;simp [h1]
  | show' e=>exact absurd hl (h.s n e)
theorem zGF(hn:ks.lookup n=none)(x:Str):srt (ks++ [(n,r)]) x=if x=n then some (zAC r) else srt ks x:=by
 unfold srt;rw [zBA];by_cases h:x=n
 ·subst h;rw [hn];simp
 ·rw [if_neg h,if_neg h];cases ks.lookup x<;>rfl
theorem zDR{ks:Kn}{n:Str}{r:Rw}(hn:ks.lookup n=none)(x:Str):(ks++ [(n,r)]).lookup x=if x=n then some r else ks.lookup x:=by
 rw [zBA];by_cases h:x=n
 ·subst h;rw [hn];simp
 ·rw [if_neg h,if_neg h];cases ks.lookup x<;>rfl
def zTW:Rw->Option Int
 | .take ..=>some 0
 | .let' ..=>some 0
 | .fun' _ ps _=>some (ps.length:Int)
 | _=>none
theorem Agree.add{ks:Kn}{U:List Str}{g g':yQ}(h:Agree ks [] U g){n:Str}{r:Rw}(e:nmR r=some n)(ok:OkR r)(hn:ks.lookup n=none){U':List Str}(hU: ∀x,x∈U'↔x∈U\/(x=n/\zAf r=true))(hg: ∀x,g' x=if x=n then zTW r else g x):
  Agree (ks++ [(n,r)]) [] U' g':=by
 refine ⟨fun x=>?_,fun x hx=>by simp at hx,fun x _ hv=>?_,fun x m ps ex _ hf=>?_,fun x _ hv=>?_,fun x m ps ex hf=>?_,fun x ex hf=>?_⟩
 ·rw [hU,zGF hn];by_cases z:x=n
  ·subst z;have h2:x∉U:=fun y=>by have:=(h.u x).mp y;unfold srt at this;rw [hn] at this;cases this
   rw [if_pos rfl];simp only [h2,false_or,true_and];cases r with
   | unit=>simp [zAf,zAC]
   | show'=>cases e
   | take=>show (false=true)↔some ("take" :Str)=some ("unit" :Str);decide
   | let'=>show (false=true)↔some ("let" :Str)=some ("unit" :Str);decide
   | fun'=>show (false=true)↔some ("fun" :Str)=some ("unit" :Str);decide
  ·rw [if_neg z,h.u x];simp [z]
 ·rw [zGF hn] at hv;rw [hg];by_cases z:x=n
  ·rw [if_pos z] at hv⊢;cases r with
   | take=>rfl
   | let'=>rfl
   | unit=>exact absurd (show some ("unit" :Str)=some "take" \/some ("unit" :Str)=some "let" from hv) (by decide)
   | fun'=>exact absurd (show some ("fun" :Str)=some "take" \/some ("fun" :Str)=some "let" from hv) (by decide)
   | show'=>cases e
  ·rw [if_neg z] at hv⊢;exact h.v x (by simp) hv
 ·rw [zDR hn] at hf;rw [hg];by_cases z:x=n
  ·rw [if_pos z] at hf⊢;cases hf;rfl
  ·rw [if_neg z] at hf⊢;exact h.f x m ps ex (by simp) hf
 ·rw [zDR hn,zGF hn] at hv;rw [hg];by_cases z:x=n
  ·rw [if_pos z,if_pos z] at hv;rw [if_pos z];cases r with
   | unit=>rfl
   | show'=>rfl
   | take=>exact absurd ((show _\/some ("take" :Str)=some ("unit" :Str) from hv).resolve_left (fun y=>by cases y)) (by decide)
   | let'=>exact absurd ((show _\/some ("let" :Str)=some ("unit" :Str) from hv).resolve_left (fun y=>by cases y)) (by decide)
   | fun'=>exact absurd ((show _\/some ("fun" :Str)=some ("unit" :Str) from hv).resolve_left (fun y=>by cases y)) (by decide)
  ·rw [if_neg z,if_neg z] at hv;rw [if_neg z];exact h.n x (by simp) hv
 ·rw [zDR hn] at hf;by_cases z:x=n
  ·rw [if_pos z] at hf;cases hf;exact ok.2.1
  ·rw [if_neg z] at hf;exact h.p x m ps ex hf
 ·rw [zDR hn] at hf;by_cases z:x=n
  ·rw [if_pos z] at hf;cases hf;cases e
  ·rw [if_neg z] at hf;exact h.s x ex hf
theorem zMn(inn:List Str)(p:Str)(ps:List Str):twP inn (p::ps)=if p∈inn then some p else twP (p::inn) ps:=rfl
theorem uv: ¬(("unit" :Str)= "value"):=by decide
theorem uc: ¬(("unit" :Str)= "call"):=by decide
theorem vu: ¬(("value" :Str)= "unit"):=by decide
theorem vc: ¬(("value" :Str)= "call"):=by decide
theorem cu: ¬(("call" :Str)= "unit"):=by decide
theorem cv: ¬(("call" :Str)= "value"):=by decide
theorem zLv(k:n∉U):yD U ⟨"unit",n,d,h⟩=some (false,n):=by unfold yD;exact if_pos (.inl ⟨rfl,k⟩)
theorem zMF(k:n∈U):yD U ⟨"unit",n,d,h⟩=none:=by
 unfold yD;rw [if_neg (fun z=>z.elim (fun y=>y.2 k) fun z=>z.elim (fun y=>uv y.1) fun y=>uc y.1),if_neg fun y=>uc y.1]
theorem zMY(k:h≠0):yD U ⟨"value",n,d,h⟩=some (false,n):=by unfold yD;exact if_pos (.inr (.inl ⟨rfl,k⟩))
theorem zNA(k:h=0):yD U ⟨"value",n,d,h⟩=none:=by
 unfold yD;rw [if_neg (fun z=>z.elim (fun y=>vu y.1) fun z=>z.elim (fun y=>y.2 k) fun y=>vc y.1),if_neg fun y=>vc y.1]
theorem zLo(k:h<1):yD U ⟨"call",n,d,h⟩=some (false,n):=by unfold yD;exact if_pos (.inr (.inr ⟨rfl,k⟩))
theorem zMK(k: ¬h<1)(j:h≠d):yD U ⟨"call",n,d,h⟩=some (true,n):=by
 unfold yD;rw [if_neg (fun z=>z.elim (fun y=>cu y.1) fun z=>z.elim (fun y=>cv y.1) fun y=>k y.2)];exact if_pos ⟨rfl,j⟩
theorem zMT(k: ¬h<1)(j:h=d):yD U ⟨"call",n,d,h⟩=none:=by
 unfold yD;rw [if_neg (fun z=>z.elim (fun y=>cu y.1) fun z=>z.elim (fun y=>cv y.1) fun y=>k y.2),if_neg fun y=>y.2 j]
theorem zOI{U:List Str}{s n:Str}{d h:Int}(a:s≠ "unit")(b:s≠ "value")(c:s≠ "call"):yD U ⟨s,n,d,h⟩=none:=by
 unfold yD;rw [if_neg (fun z=>z.elim (fun y=>a y.1) fun z=>z.elim (fun y=>b y.1) fun y=>c y.1),if_neg fun y=>c y.1]
def zMN:Rw->List Str
 | .fun' _ ps _=>ps.reverse
 | _=> []
def twR:Rw->Option Str
 | .fun' _ ps _=>twP [] ps
 | _=>none
def zBH:Rw->yQ->List Wn
 | .unit _,_=> []
 | .take _ us,_=>zAT us
 | .let' _ e,g=>zn e g
 | .fun' _ _ e,g=>zn e g
 | .show' e,g=>zn e g
def zJI:Rw->List Wn
 | .take _ us=>zAT us
 | _=> []
def zGA(ks:Kn):Rw->Option (Bool×Str)
 | .unit _=>none
 | .take _ us=>zBM ks us
 | .let' _ e=>bad ks e []
 | .fun' _ ps e=>bad ks e ps.reverse
 | .show' e=>bad ks e []
theorem zJq{g:yQ}(r:Rw)(h:Agree ks (zMN r) U g):(zBH r g).findSome? (yD U)=zGA ks r:=by
 cases r with
 | unit=>rfl
 | take n us=>exact zFG h us
 | let' n e=>exact yG e h
 | fun' n ps e=>exact yG e h
 | show' e=>exact yG e h
theorem zOV(r:Rw)(h: ∀n,nmR r=some n->ks.lookup n=none)(t:twR r=none):yV ks r=up (zGA ks r):=by
 cases r with
 | unit n=>simp [yV,h n rfl,zGA,up]
 | take n us=>simp [yV,h n rfl,zGA]
 | let' n e=>simp [yV,h n rfl,zGA]
 | fun' n ps e=>
  have t:twP [] ps=none:=t;simp only [yV,h n rfl,zGA,t];rfl
 | show' e=>rfl
theorem zOG(e:nmR r=some n)(h:(ks.lookup n).isSome=true):yV ks r=some (.tw,n):=by
 cases r with
 | show'=>cases e
 | _=>cases e;simp only [yV,h,if_true]
theorem zKH{g:yQ}(ok:OkR r):(zBH r g).length<=4000:=by
 cases r with
 | unit=>simp [zBH]
 | take n us=>have:=ok.2.le;simp only [zBH,zAT,zUF];omega
 | let' n e=>have:=yC e g ok.2.ok;have:=ok.2.n;show (zn e g).length<=4000;omega
 | fun' n ps e=>have:=yC e g ok.2.2.2.2.ok;have:=ok.2.2.2.2.n;show (zn e g).length<=4000;omega
 | show' e=>have:=yC e g ok.ok;have:=ok.n;show (zn e g).length<=4000;omega
def zJt:Tl->Str
 | .tw=> "twice"
 | .no=> "none"
 | .ct=> "count"
def Fi(H:Hp)(Q:VK):Option (Tl×Nat×Str)->Prop
 | none=> ∀H',zA H H'->Q .non H'
 | some (k,i,n)=> ∀H' p,zA H H'->H' p=some (.tup [.str (zJt k),.int (i:Int),.str n])->Q (.ref p) H'
def zMV:Sp:=fun vs H Q _=> ∃(t:Addr) (xs:List V) (rs:List Rw) (k d:Nat),vs= [.ref t] /\Pg H t xs rs k d/\Fi H Q (zAR [] 0 rs)
theorem zBg:FnScope ["_law_program_here","_law_told_here","_law_units","_law_number_here","_law_row","_law_inner","_law_k","_law_name","_law_wanted_here","_law_sort","_law_due","_law_here"] ["_law_program_here"] (zK zFB):=fs
def FiJ(H:Hp)(Q:VK)(t td ul:Addr)(xs:List V)(rs:List Rw)(i:Nat)(σ:L2.St)(H':Hp):Prop:= ∃(o1 o2 o3 o4 o5 o6 o7 o8 o9:Option V) (D:List (Str×Int)) (U:List Str),σ= [some (.ref t),some (.ref td),some (.ref ul),o1,o2,o3,o4,o5,o6,o7,o8,o9] /\i<=xs.length/\zA H H'/\H' td=some (.dK (zAg D))/\H' ul=some (.lst (U.map V.str))/\D.length<=i/\U.length<=i/\Agree (kn (rs.take i)) [] U (zBP D)/\Fi H Q (zAR (kn (rs.take i)) i (rs.drop i))
theorem zSl{f fW:Addr}{fd fdW:FuncData}(F:Fun K "_law_first" "_law_first" zFB f fd)(B:Bn mg)
  (FW:Fun K "_law_wanted" "_law_wanted" zES fW fdW) (bW:zO K fdW ["_law_told_here","_law_known","_law_found"] []) (mW:mg "_law_wanted" =some (.ref fW)) (GW:FnOk P w K mg base CX0 12 fW fdW ["_law_told_here","_law_known","_law_found"] (zRI 10)):
  FnOk P w K mg base CX0 13 f fd ["_law_program_here"] zMV:=by
 refine F.ok zBg (fun vs H Q E h=>?_) (fun _ A _ s H vs Q E hrW h=>?_)
 ·obtain ⟨t,xs,rs,k,d,rfl,_⟩:=h;rfl
 ·obtain ⟨t,xs,rs,k,d,rfl,pg,q⟩:=h;have hrW:Room 12 _:=hrW;have hu:=zAb hrW;refine ⟨_,QB.out (zF
   (zJT (i:=1) (j:=2) rfl zBg.nd rfl rfl (by decide) rfl rfl (qc zDz (qc (zd zB) zB rfl) rfl) rfl rfl) (zF
   (zAh PassesOwn.never rfl (zFn rfl B.enumerate (qc (qw 0 rfl) zB rfl) rfl) (zCj (K:=K) (n:=2) rfl rfl (ya (zb 3 zBg.nd rfl (Or.inl rfl) (.inr rfl)) (ya (zb 4 zBg.nd rfl (Or.inl rfl) (.inr rfl)) zCc rfl) rfl) rfl rfl) (zF
    (zV (t_w (zAi (zL yw (zJ (K:=K) rfl (qw 4 rfl) zC (fun _ _=>rfl)) zG rfl) (zAU (zL (zCS (K:=K) rfl) (zJ (K:=K) rfl (qw 4 rfl) zC (fun _ _=>rfl)) (zAd (zBZ (zJJ rfl) rfl B.list zCx (qc (qw 1 rfl) zB rfl) rfl) (qw 2 rfl)) rfl)))) (zH
     (zS (zM (qc zG (qc (qw 3 rfl) (qc (zJ (K:=K) rfl (qw 4 rfl) zC (fun _ _=>rfl)) zB rfl) rfl) rfl)))) zU) (zF
    (zY 5 zBg.nd rfl (zBZ zDV rfl B.dict zFv (qc (qw 1 rfl) zB rfl) rfl) rfl) (zF
    (zAh PassesOwn.never rfl (zFn rfl B.enumerate (qc (zFM (zL zZ (zJ (K:=K) rfl (qw 4 rfl) zC (fun _ _=>rfl)) zG rfl) (zJ (K:=K) rfl (qw 4 rfl) zC (fun _ _=>rfl)) (zM zB)) zB rfl) rfl) (zCj (K:=K) (n:=2) rfl rfl (ya (zb 6 zBg.nd rfl (Or.inl rfl) (.inr rfl)) (ya (zb 7 zBg.nd rfl (Or.inl rfl) (.inr rfl)) zCc rfl) rfl) rfl rfl) (zF
     (zV (zL (zCS (K:=K) rfl) (qw 7 rfl) (zAe (K:=K) rfl (zJ (K:=K) rfl (qw 4 rfl) zC (fun _ _=>rfl)) yR (yE (qw 6 rfl))) rfl) (zH
      (zS (zM (qc zG (qc (qw 3 rfl) (qc (qw 7 rfl) zB rfl) rfl) rfl)))) zU) (zH
     (zDn hu (qw 5 rfl) (qw 7 rfl) zC rfl))) (fun _=>rfl)) (zF
    (zY 8 zBg.nd rfl (zFM (zL zZ (zJ (K:=K) rfl (qw 4 rfl) zC (fun _ _=>rfl)) zG rfl) (yx (cl:= []) ["_law_pair"] [] [] rfl (zBT (K:=K) rfl (zJ (K:=K) rfl (qw 4 rfl) zC (fun _ _=>rfl))) rfl (by decide+kernel) rfl (by decide+kernel) (fun _ _ h=>nomatch h) rfl (fun j y i h=>nomatch h) (yF rfl) (fun _ _ _ _=>(zb 0 (show (["_law_pair"] :List Str).Nodup by decide+kernel) rfl (.inl rfl) (.inr rfl))) (fun _ _ _ _=>zAn) (fun _ _ _ _=>(zM (qc zG (qc (zJ (K:=K) rfl (qw 0 rfl) zC (fun _ _=>rfl)) (qc zC (qc zC zB rfl) rfl) rfl) rfl))) (fun _=>rfl)) (zd zB)) rfl) (zF
    (zV (zL (zCS (K:=K) rfl) (zJ (K:=K) rfl (qw 4 rfl) zC (fun _ _=>rfl)) (zM (qc zG (qc zG (qc zG zB rfl) rfl) rfl)) rfl) (zH
     (zY 8 zBg.nd rfl (zR GW hrW rfl mW FW.kp bW .nil zP (qc (zJ (K:=K) rfl (qw 4 rfl) (zCh (zq (zm (K:=K) rfl) rfl B.len yB (qc (qw 4 rfl) zB rfl) rfl) zC) (fun _ _=>rfl)) (qc (qw 5 rfl) (qc (zd zB) zB rfl) rfl) rfl) rfl rfl rfl) rfl)) zU) (zF
    (zAh PassesOwn.never rfl (zCR (K:=K) rfl (qw 8 rfl)) (zCj (K:=K) (n:=4) rfl rfl (ya (zb 9 zBg.nd rfl (Or.inl rfl) (.inr rfl)) (ya (zb 7 zBg.nd rfl (Or.inl rfl) (.inr rfl)) (ya (zb 10 zBg.nd rfl (Or.inl rfl) (.inr rfl)) (ya (zb 11 zBg.nd rfl (Or.inl rfl) (.inr rfl)) zCc rfl) rfl) rfl) rfl) rfl rfl) (zF
     (zV (t_w (zAI (t_w (zAi (zL zZ (qw 9 rfl) zG rfl) (zAU (zL (zBR (K:=K) rfl) (qw 7 rfl) (qw 2 rfl) rfl)))) (zAI (t_w (zAi (zL zZ (qw 9 rfl) zG rfl) (zAU (zL yw (qw 11 rfl) zC rfl)))) (zAN (t_w (zAi (zL zZ (qw 9 rfl) zG rfl) (zAU (zL zDd (qw 11 rfl) zC rfl)))))))) (zH
      (zS (zM (qc zG (qc (qw 3 rfl) (qc (qw 7 rfl) zB rfl) rfl) rfl)))) zU) (zH
     (zV (t_w (zAi (zL zZ (qw 9 rfl) zG rfl) (zAU (zL yw (qw 11 rfl) (qw 10 rfl) rfl)))) (zH
      (zS (zM (qc zG (qc (qw 3 rfl) (qc (qw 7 rfl) zB rfl) rfl) rfl)))) zU))) (fun _=>rfl)) (zH
    (zV (zL zZ (zJ (K:=K) rfl (qw 4 rfl) zC (fun _ _=>rfl)) zG rfl) (zH
     (yP (zAk (K:=K) rfl (qw 2 rfl) (zJ (K:=K) rfl (qw 4 rfl) zC (fun _ _=>rfl)) rfl rfl rfl) rfl)) (zH
     (zV (zL yw (zJ (K:=K) rfl (qw 4 rfl) zC (fun _ _=>rfl)) zG rfl) (zH
      (zDn hu (qw 1 rfl) (zJ (K:=K) rfl (qw 4 rfl) zC (fun _ _=>rfl)) (zFM (zL zZ (zJ (K:=K) rfl (qw 4 rfl) zC (fun _ _=>rfl)) zG rfl) (zq (zm (K:=K) rfl) rfl B.len yB (qc (zJ (K:=K) rfl (qw 4 rfl) zC (fun _ _=>rfl)) zB rfl) rfl) zC) rfl)) zU)))))))))) (fun _=>rfl)) (zH
   (zS zBX)))),?_⟩
  refine hd fun Z hz=>?_;intro td htd;obtain ⟨H1,g1,s1,e1⟩:=yH htd (.dK []);rw [g1];refine yc fun ul H2 hul s2 e2=>?_;refine ⟨_,_,rfl,hz _ _ (hd fun Z hz=>?_)⟩;have s02:=s1.trans s2;have n1:H ul=none:=zA.none s1 hul;have nTd:H td=none:=htd;have ntu:td≠ul:=fun z=>by rw [<-z,e1] at hul;cases hul
  have lx:=Paired.len pg.rows;have l16:=pg.l16;refine ⟨_,rfl,t,rfl,⟨_,s02 _ _ pg.at_⟩,?_⟩;refine zAB xs.length (FiJ H Q t td ul xs rs) ⟨_,_,_,_,_,_,_,_,_,[],[],rfl,zUN _,s02,s2 _ _ e1,e2,zUC _,zUC _,zKc,q⟩ ?_ ?_ ?_ ?_
  ·rintro i σ H' hi ⟨o1,o2,o3,o4,o5,o6,o7,o8,o9,D,U,rfl,_,s3,_⟩;exact ⟨_,_,s3 _ _ pg.at_,zTy hi⟩
  ·rintro σ H' ⟨o1,o2,o3,o4,o5,o6,o7,o8,o9,D,U,rfl,_,s3,_⟩;exact ⟨_,s3 _ _ pg.at_,rfl⟩
  ·rintro i σ H' y H4 hi ⟨o1,o2,o3,o4,o5,o6,o7,o8,o9,D,U,rfl,_,s3,eD,eU,Dl,Ul,ag,q⟩ ⟨pt,z,hz',npt,rfl,rfl⟩;have hz'':=hz' _ (s3 _ _ pg.at_);rw [zTy hi] at hz'';cases hz'';obtain ⟨H5,g5,s5,e5⟩:=yH npt (.tup [.int (i:Int),xs[i]]);rw [g5];obtain ⟨r,er,hr,okr⟩:=Paired.get' pg.rows (zTy hi);have hdr:rs.drop i=r::rs.drop (i+1):=by
    obtain ⟨hlt,e'⟩:=zUy.mp er;rw [<-e',List.drop_eq_getElem_cons hlt]
   have htk:rs.take (i+1)=rs.take i++ [r] :=by rw [zUU,er];rfl
   rw [hdr] at q;unfold zAR at q;refine ⟨pt,_,rfl,SqT.of e5,rfl,_,_,rfl,_,_,rfl,rfl,hd fun Z hz=>?_⟩;have s05:=s3.trans s5;have eD:=s5 _ _ eD;have eU:=s5 _ _ eU;obtain ⟨tr,ys,ev,etr⟩:=(hr.same s05).hd;have fin1: ∀H6,zA H5 H6->(∀n,nmR r=some n->(kn (rs.take i)).lookup n=none)->Z [some (.ref t),some (.ref td),some (.ref ul),some (.int (i:Int)),some xs[i],o3,o4,o5,o6,o7,o8,o9] H6:=fun H6 s6 hn=>hz _ _ (hd fun Z hz=>by
    refine ⟨_,rfl,td,_,rfl,.inl (s6 _ _ eD),fun id hid=>?_⟩;obtain ⟨H7,g7,s7,e7⟩:=yH hid (.dK (zAg D));rw [g7];have s57:=s6.trans s7;have nid:H5 id=none:=zA.none s6 hid;refine hz _ _ (hd fun Z hz=>?_);have fin3: ∀(H8:Hp) (o4 o5:Option V) (gr:yQ),zA H5 H8->DAt H8 id gr 20->Agree (kn (rs.take i)) (zMN r) U gr->twR r=none->Z [some (.ref t),some (.ref td),some (.ref ul),some (.int (i:Int)),some xs[i],some (.ref id),o4,o5,o6,o7,o8,o9] H8:=fun H8 o4 o5 gr s8 hg agr htw=>hz _ _ (hd fun Z hz=>by
     have s08:=s05.trans s8;have hr8:=hr.same s08;have fin4: ∀(H9:Hp) (wh:Addr) (tw:List Addr),zA H8 H9->H9 wh=some (.lst (tw.map V.ref))->Paired (zEg H9) tw (zJI r)->Z [some (.ref t),some (.ref td),some (.ref ul),some (.int (i:Int)),some xs[i],some (.ref id),o4,o5,some (.ref wh),o7,o8,o9] H9:=fun H9 wh tw s9 ew pw=>hz _ _ (hd fun Z hz=>by
      have s89:=s8.trans s9;have hr9:=hr8.same s9;have fin5: ∀(H10:Hp) (wh:Addr) (tw:List Addr),zA H5 H10->H10 wh=some (.lst (tw.map V.ref))->Paired (zEg H10) tw (zBH r gr)->Z [some (.ref t),some (.ref td),some (.ref ul),some (.int (i:Int)),some xs[i],some (.ref id),o4,o5,some (.ref wh),o7,o8,o9] H10:=fun H10 wh tw s10 ew pw=>hz _ _ (hd fun Z hz=>by
       have hwb:=zJq r agr;have hbr:=zOV r hn htw;rw [<-hwb] at hbr;have eD10:=s10 _ _ eD;have eU10:=s10 _ _ eU;have wlen:=Paired.len pw;have wl4:=zKH (g:=gr) okr;refine ⟨_,rfl,wh,rfl,⟨_,SqL.of ew⟩,?_⟩;refine zAB tw.length (fun k σ H'=> ∃o5 o7 o8 o9:Option V,σ= [some (.ref t),some (.ref td),some (.ref ul),some (.int (i:Int)),some xs[i],some (.ref id),o4,o5,some (.ref wh),o7,o8,o9] /\H'=H10/\k<=tw.length/\yV (kn (rs.take i)) r=up (((zBH r gr).drop k).findSome? (yD U))) ⟨_,_,_,_,rfl,rfl,zUN _,hbr⟩ ?_ ?_ ?_ ?_
       ·rintro k σ H' hk ⟨o5,o7,o8,o9,rfl,rfl,_,_⟩;exact ⟨_,.ref tw[k],SqL.of ew,by simp [hk]⟩
       ·rintro σ H' ⟨o5,o7,o8,o9,rfl,rfl,_,_⟩;exact ⟨_,SqL.of ew,by simp⟩
       ·rintro k σ H' y H11 hk ⟨o5,o7,o8,o9,rfl,rfl,_,hb⟩ ⟨rfl,hy⟩;have hy':=hy _ (SqL.of ew);rw [zUD,zTy hk] at hy';cases hy';obtain ⟨wx,ewx,hwx⟩:=Paired.get' pw (zTy hk);have hdw:(zBH r gr).drop k=wx::(zBH r gr).drop (k+1):=by
         obtain ⟨hlt,e'⟩:=zUy.mp ewx;rw [<-e',List.drop_eq_getElem_cons hlt]
        rw [hdw,List.findSome?_cons] at hb;have hwx:H11 tw[k] =some (.tup [.str wx.srt,.str wx.nm,.int wx.due,.int wx.here]):=hwx;refine ⟨tw[k],_,rfl,SqT.of hwx,rfl,_,_,rfl,_,_,rfl,_,_,rfl,_,_,rfl,rfl,hd fun Z2 hz2=>?_⟩;have wr: ∀b,yD U wx=some (b,wx.nm)-> ∀p,H11 p=none->Q (.ref p) (L2.upd H11 p (.tup [.str (if b then "count" else "none"),.int (i:Int),.str wx.nm])):=fun b hw p hp=>by
         rw [hw] at hb;have hb:yV (kn (rs.take i)) r=some (if b then .ct else .no,wx.nm):=hb;rw [hb] at q;refine q _ p ((s05.trans s10).trans (zA.upd hp)) ?_;rw [zE];cases b<;>rfl
        have okx:yD U wx=none->yV (kn (rs.take i)) r=up (((zBH r gr).drop (k+1)).findSome? (yD U)):=fun hw=>by rw [hw] at hb;exact hb
        obtain ⟨ws',wn,wd,whh⟩:=wx;by_cases hA:ws'= "unit"
        ·subst hA;refine ⟨_,rfl,rfl,_,rfl,zI ⟨_,rfl,_,rfl,ul,_,rfl,.inl (SqL.of eU10),rfl,zBQ U,_,rfl,?_⟩⟩;show if (!inV (.str wn) (U.map V.str))=true then _ else _;rw [zBq];refine zp (fun cc=>zI ⟨_,rfl,_,rfl,bs 3,fun p hp=>wr false (zLv (by simpa using cc)) p hp⟩) (fun cc=>?_);exact ⟨_,rfl,rfl,_,rfl,zD (zD ⟨_,rfl,rfl,_,rfl,zD (zD (hz2 _ _ ⟨_,rfl,rfl,_,rfl,zD (zD ⟨_,_,_,_,rfl,rfl,hk,okx (zMF (by simpa using cc))⟩)⟩))⟩)⟩
        by_cases hB:ws'= "value"
        ·subst hB;refine ⟨_,rfl,rfl,_,rfl,zD (zD ⟨_,rfl,rfl,_,rfl,zI ⟨_,rfl,rfl,_,rfl,zp (fun cc=>zI ⟨_,rfl,_,rfl,bs 3,fun p hp=>wr false (zMY ?_) p hp⟩) (fun cc=>?_)⟩⟩)⟩
         ·intro z;have cc:(!decide (V.int whh=V.int 0))=true:=cc;rw [zUV (by rw [z])] at cc;cases cc
         ·have h0:whh=0:=by
           by_cases z:whh=0
           ·exact z
           ·exact absurd (show (!decide (V.int whh=V.int 0))=true by rw [zUW fun y=>z (by injection y)];rfl) cc
          exact ⟨_,rfl,rfl,_,rfl,zD (zD (hz2 _ _ ⟨_,rfl,rfl,_,rfl,zD (zD ⟨_,_,_,_,rfl,rfl,hk,okx (zNA h0)⟩)⟩))⟩
        by_cases hC:ws'= "call"
        ·subst hC;refine ⟨_,rfl,rfl,_,rfl,zD (zD ⟨_,rfl,rfl,_,rfl,zD (zD ⟨_,rfl,rfl,_,rfl,zI ⟨_,rfl,_,_,rfl,rfl,_,rfl,zp (fun cc=>⟨_,rfl,_,rfl,bs 3,fun p hp=>wr false (zLo (by simpa using cc)) p hp⟩) (fun cc=>hz2 _ _ ?_)⟩⟩)⟩)⟩;have cc: ¬whh<1:=by simpa using cc
         by_cases hd':whh=wd
         ·have e:(!decide (V.int whh=V.int wd))=false:=by rw [zUV (by rw [hd'])];rfl
          exact ⟨_,rfl,rfl,_,rfl,zI ⟨_,rfl,_,rfl,rfl,false,congrArg V.bl e,zD ⟨_,_,_,_,rfl,rfl,hk,okx (zMT cc hd')⟩⟩⟩
         ·have e:(!decide (V.int whh=V.int wd))=true:=by rw [zUW fun y=>hd' (by injection y)];rfl
          exact ⟨_,rfl,rfl,_,rfl,zI ⟨_,rfl,_,rfl,rfl,true,congrArg V.bl e,zI ⟨_,rfl,_,rfl,bs 3,fun p hp=>wr true (zMK cc hd') p hp⟩⟩⟩
        have fA:decide (V.str ws'=V.str "unit")=false:=zUW fun z=>hA (by injection z);have fB:decide (V.str ws'=V.str "value")=false:=zUW fun z=>hB (by injection z);have fC:decide (V.str ws'=V.str "call")=false:=zUW fun z=>hC (by injection z);exact ⟨_,rfl,rfl,false,congrArg V.bl fA,zD (zD ⟨_,rfl,rfl,false,congrArg V.bl fB,zD (zD ⟨_,rfl,rfl,false,congrArg V.bl fC,zD (zD (hz2 _ _ ⟨_,rfl,rfl,false,congrArg V.bl fC,zD (zD ⟨_,_,_,_,rfl,rfl,hk,okx (zOI hA hB hC)⟩)⟩))⟩)⟩)⟩
       ·rintro σ H' ⟨o5,o7,o8,o9,rfl,rfl,_,hb⟩;rw [List.drop_eq_nil_of_le (by omega)] at hb;have hb:yV (kn (rs.take i)) r=none:=hb;rw [hb] at q;have q:Fi H Q (zAR (zCp (kn (rs.take i)) r) (i+1) (rs.drop (i+1))):=q;have s0A:=s05.trans s10;refine hz _ _ ?_;have nut:ul≠td:=ntu.symm;cases r with
        | unit n=>
         obtain ⟨t',ev',h1⟩:=hr.same s0A;refine ⟨_,rfl,t',_,_,_,ev',rfl,SqT.of h1,rfl,rfl,_,rfl,zI ⟨_,rfl,.inl ⟨rfl,_,SqL.of eU10⟩,_,rfl,t',_,_,_,ev',rfl,SqT.of h1,rfl,ul,_,_,rfl,rfl,eU10,by rw [zUJ];simp;omega,?_⟩⟩;refine ⟨_,_,_,_,_,_,_,_,_,D,U++ [n],rfl,hi,zA.store s0A n1,by rw [zN ntu];exact eD10,by rw [zE,zUT];rfl,by omega,by simp;omega,?_,?_⟩
         ·rw [htk,zAS];refine ag.add (r:= .unit n) rfl okr (hn n rfl) (fun x=>by simp [zAf]) fun x=>?_;by_cases hx:x=n
          ·rw [if_pos hx,hx];exact ag.n n (by simp) (.inl (hn n rfl))
          ·rw [if_neg hx]
         ·rw [htk,zAS];exact q
        | show' e=>
         obtain ⟨t',x,ev',h1,hx⟩:=hr.same s0A;refine ⟨_,rfl,t',_,_,_,ev',rfl,SqT.of h1,rfl,rfl,_,rfl,zD ⟨_,rfl,t',_,_,_,ev',rfl,SqT.of h1,rfl,rfl,_,rfl,zD ?_⟩⟩;exact ⟨_,_,_,_,_,_,_,_,_,D,U,rfl,hi,s0A,eD10,eU10,by omega,by omega,by rw [htk,zAS];exact ag,by rw [htk,zAS];exact q⟩
        | take n us=>
         obtain ⟨t',y,ev',h1,hy⟩:=hr.same s0A;have hl:=hn n rfl;have hv0:yZ (zAg D) (.inr n)=none:=by
          rw [zBl];have:=ag.n n (by simp) (.inl hl);simp only [zBP] at this;rw [this];rfl
         refine ⟨_,rfl,t',_,_,_,ev',rfl,SqT.of h1,rfl,rfl,_,rfl,zD ⟨_,rfl,t',_,_,_,ev',rfl,SqT.of h1,rfl,rfl,_,rfl,zI ⟨_,rfl,t',_,_,_,ev',rfl,SqT.of h1,rfl,rfl,_,rfl,zD ⟨_,rfl,_,rfl,t',_,_,_,ev',rfl,SqT.of h1,rfl,td,_,rfl,.inl ⟨zAg D,.inr n,eD10,rfl,by rw [zUJ];unfold zAg;rw [zUF];omega,rfl⟩,?_⟩⟩⟩⟩;rw [zDT _ hv0];refine ⟨_,_,_,_,_,_,_,_,_,D++ [(n,0)],U,rfl,hi,zA.store s0A nTd,?_,by rw [zN nut];exact eU10,by simp;omega,by omega,?_,?_⟩
         ·rw [zE];unfold zAg;rw [zUT];rfl
         ·rw [htk,zAS];refine ag.add (r:= .take n us) rfl okr hl (fun x=>by simp [zAf]) fun x=>?_;show (D++ [(n,0)]).lookup x=_;rw [zEF];by_cases hx:x=n
          ·rw [if_pos hx,if_pos hx,hx];have:=ag.n n (by simp) (.inl hl);simp only [zBP] at this;rw [this];rfl
          ·rw [if_neg hx,if_neg hx];show (D.lookup x).or none=D.lookup x;cases D.lookup x<;>rfl
         ·rw [htk,zAS];exact q
        | let' n e=>
         obtain ⟨t',y,ev',h1,hy⟩:=hr.same s0A;have hl:=hn n rfl;have hv0:yZ (zAg D) (.inr n)=none:=by
          rw [zBl];have:=ag.n n (by simp) (.inl hl);simp only [zBP] at this;rw [this];rfl
         refine ⟨_,rfl,t',_,_,_,ev',rfl,SqT.of h1,rfl,rfl,_,rfl,zD ⟨_,rfl,t',_,_,_,ev',rfl,SqT.of h1,rfl,rfl,_,rfl,zI ⟨_,rfl,t',_,_,_,ev',rfl,SqT.of h1,rfl,rfl,_,rfl,zD ⟨_,rfl,_,rfl,t',_,_,_,ev',rfl,SqT.of h1,rfl,td,_,rfl,.inl ⟨zAg D,.inr n,eD10,rfl,by rw [zUJ];unfold zAg;rw [zUF];omega,rfl⟩,?_⟩⟩⟩⟩;rw [zDT _ hv0];refine ⟨_,_,_,_,_,_,_,_,_,D++ [(n,0)],U,rfl,hi,zA.store s0A nTd,?_,by rw [zN nut];exact eU10,by simp;omega,by omega,?_,?_⟩
         ·rw [zE];unfold zAg;rw [zUT];rfl
         ·rw [htk,zAS];refine ag.add (r:= .let' n e) rfl okr hl (fun x=>by simp [zAf]) fun x=>?_;show (D++ [(n,0)]).lookup x=_;rw [zEF];by_cases hx:x=n
          ·rw [if_pos hx,if_pos hx,hx];have:=ag.n n (by simp) (.inl hl);simp only [zBP] at this;rw [this];rfl
          ·rw [if_neg hx,if_neg hx];show (D.lookup x).or none=D.lookup x;cases D.lookup x<;>rfl
         ·rw [htk,zAS];exact q
        | fun' n ps e=>
         obtain ⟨t',qa,y,ev',h1,h0,hy⟩:=hr.same s0A;have hl:=hn n rfl;have hv0:yZ (zAg D) (.inr n)=none:=by
          rw [zBl];have:=ag.n n (by simp) (.inl hl);simp only [zBP] at this;rw [this];rfl
         refine ⟨_,rfl,t',_,_,_,ev',rfl,SqT.of h1,rfl,rfl,_,rfl,zD ⟨_,rfl,t',_,_,_,ev',rfl,SqT.of h1,rfl,rfl,_,rfl,zI ⟨_,rfl,t',_,_,_,ev',rfl,SqT.of h1,rfl,rfl,_,rfl,zI ⟨_,rfl,t',_,_,_,ev',rfl,SqT.of h1,rfl,qa,_,rfl,.inr (SqT.of h0),_,rfl,_,rfl,t',_,_,_,ev',rfl,SqT.of h1,rfl,td,_,rfl,.inl ⟨zAg D,.inr n,eD10,rfl,by rw [zUJ];unfold zAg;rw [zUF];omega,rfl⟩,?_⟩⟩⟩⟩;rw [zDT _ hv0];refine ⟨_,_,_,_,_,_,_,_,_,D++ [(n,(ps.length:Int))],U,rfl,hi,zA.store s0A nTd,?_,by rw [zN nut];exact eU10,by simp;omega,by omega,?_,?_⟩
         ·rw [zE];unfold zAg;rw [zUT];rw [zUF];rfl
         ·rw [htk,zAS];refine ag.add (r:= .fun' n ps e) rfl okr hl (fun x=>by simp [zAf]) fun x=>?_;show (D++ [(n,(ps.length:Int))]).lookup x=_;rw [zEF];by_cases hx:x=n
          ·rw [if_pos hx,if_pos hx,hx];have:=ag.n n (by simp) (.inl hl);simp only [zBP] at this;rw [this];rfl
          ·rw [if_neg hx,if_neg hx];show (D.lookup x).or none=D.lookup x;cases D.lookup x<;>rfl
         ·rw [htk,zAS];exact q)
      refine ⟨_,rfl,tr,_,_,_,ev,rfl,SqT.of (s89 _ _ etr),zg (j:=0) rfl,yc fun p H10 hp s10 e10=>?_⟩;have hr10:=hr9.same s10;have go:zJI r=zBH r gr->Z [some (.ref t),some (.ref td),some (.ref ul),some (.int (i:Int)),some xs[i],some (.ref id),o4,o5,some (.ref wh),o7,o8,o9] H10:=fun h=>fin5 H10 wh tw (s89.trans s10) (s10 _ _ ew) (by rw [<-h];exact Paired.mapM pw fun _ _ _ k=>s10 _ _ k);cases r with
      | unit n=>exact ⟨p,_,rfl,.inr (SqT.of e10),rfl,rfl,_,rfl,zD (go rfl)⟩
      | take n us=>exact ⟨p,_,rfl,.inr (SqT.of e10),rfl,rfl,_,rfl,zD (go rfl)⟩
      | let' n e=>
       obtain ⟨t',x,ev',h1,hx⟩:=hr10;refine ⟨p,_,rfl,.inr (SqT.of e10),rfl,rfl,_,rfl,zI ⟨_,rfl,_,rfl,t',_,congrArg (fun z=> [z]) ev',.inr (SqT.of h1),_,_,rfl,rfl,t',_,_,_,ev',rfl,SqT.of h1,rfl,_,rfl,yc fun fo H11 hfo s11 e11=>?_⟩⟩;refine ⟨x,id,fo,e,gr,20,[],rfl,hx.same s11,okr.2.ok,okr.2.d,(hg.same s9).same (s10.trans s11),by decide,e11,by have:=okr.2.n;simp;omega,fun H12 ts b12 e12 p12=>fin5 H12 fo ts (fun c o h=>b12 _ _ (s11 _ _ (s10 _ _ (s89 _ _ h))) ?_) e12 p12⟩;simp only [zUs];exact fun z=>by rw [z] at h;rw [s10 _ _ (s89 _ _ h)] at hfo;cases hfo
      | fun' n ps e=>
       obtain ⟨t',qa,x,ev',h1,h0,hx⟩:=hr10;refine ⟨p,_,rfl,.inr (SqT.of e10),rfl,rfl,_,rfl,zI ⟨_,rfl,_,rfl,t',_,congrArg (fun z=> [z]) ev',.inr (SqT.of h1),_,_,rfl,rfl,t',_,_,_,ev',rfl,SqT.of h1,rfl,_,rfl,yc fun fo H11 hfo s11 e11=>?_⟩⟩;refine ⟨x,id,fo,e,gr,20,[],rfl,hx.same s11,okr.2.2.2.2.ok,okr.2.2.2.2.d,(hg.same s9).same (s10.trans s11),by decide,e11,by have:=okr.2.2.2.2.n;simp;omega,fun H12 ts b12 e12 p12=>fin5 H12 fo ts (fun c o h=>b12 _ _ (s11 _ _ (s10 _ _ (s89 _ _ h))) ?_) e12 p12⟩;simp only [zUs];exact fun z=>by rw [z] at h;rw [s10 _ _ (s89 _ _ h)] at hfo;cases hfo
      | show' e=>
       obtain ⟨t',x,ev',h1,hx⟩:=hr10;refine ⟨p,_,rfl,.inr (SqT.of e10),rfl,rfl,_,rfl,zI ⟨_,rfl,_,rfl,t',_,congrArg (fun z=> [z]) ev',.inr (SqT.of h1),_,_,rfl,rfl,t',_,_,_,ev',rfl,SqT.of h1,rfl,_,rfl,yc fun fo H11 hfo s11 e11=>?_⟩⟩;refine ⟨x,id,fo,e,gr,20,[],rfl,hx.same s11,okr.ok,okr.d,(hg.same s9).same (s10.trans s11),by decide,e11,by have:=okr.n;simp;omega,fun H12 ts b12 e12 p12=>fin5 H12 fo ts (fun c o h=>b12 _ _ (s11 _ _ (s10 _ _ (s89 _ _ h))) ?_) e12 p12⟩;simp only [zUs];exact fun z=>by rw [z] at h;rw [s10 _ _ (s89 _ _ h)] at hfo;cases hfo
      )
     by_cases hf: ∃n us,r= .take n us
     ·obtain ⟨n,us,rfl⟩:=hf;obtain ⟨t',y,ev',h1,hy⟩:=hr8;obtain ⟨u,tsu,rfl,eu,hu⟩:=hy;have ul':=Paired.len hu;have u1:=okr.2.le;refine ⟨_,rfl,t',_,_,_,ev',rfl,SqT.of h1,rfl,rfl,_,rfl,zI ⟨_,rfl,t',_,_,_,ev',rfl,SqT.of h1,rfl,u,rfl,⟨_,SqT.of eu⟩,fun D2 hD2=>?_⟩⟩;refine zx tsu.length (fun i ys H'=> ∃tw:List Addr,i<=tsu.length/\tw.length=i/\ys=tw.map V.ref/\zA H8 H'/\H' D2=some (.lst ys)/\Paired (zEg H') tw (zAT (us.take i))) ⟨[],zUN _,rfl,rfl,zA.upd hD2,zE,.nil⟩ (by rw [zUJ];omega) ?_ ?_ ?_
      ·rintro i ys H' hi ⟨tw,_,tl,rfl,s3,e3,_⟩;exact ⟨by simp [tl],e3,fun h=>⟨_,.ref tsu[i],SqT.of (s3 _ _ eu),by simp [h]⟩,fun h=>⟨_,SqT.of (s3 _ _ eu),by simp [h]⟩⟩
      ·rintro i ys H' y H'' hi ⟨tw,_,tl,rfl,s3,e3,p3⟩ ⟨rfl,hy⟩ pre hpre;obtain ⟨p0,rfl⟩:=zAt hpre;have hy':=hy _ (SqT.of (s3 _ _ eu));rw [zUD,zTy hi] at hy';cases hy';obtain ⟨up',eup,hup⟩:=Paired.get' hu (zTy hi);refine ⟨⟨[some (.ref tsu[i])],rfl,rfl⟩,zI ⟨_,rfl,tsu[i],_,_,_,rfl,rfl,SqT.of (s3 _ _ hup),rfl,bs 4,fun t4 ht4=>?_⟩⟩;obtain ⟨H5',g5',s5',e5'⟩:=yH ht4 (.tup [.str "unit",.str up'.1,.int 0,.int 0]);rw [g5'];have e35:=s5' _ _ e3;have T:zc H5' (L2.upd H5' D2 (.lst (tw.map V.ref++ [.ref t4]))):=zc.lst e35;refine ⟨e35,tw++ [t4],hi,by simp [tl],by rw [zUT];rfl,zA.store (s3.trans s5') hD2,zE,?_⟩;have tk:zAT (us.take (i+1))=zAT (us.take i)++ [⟨"unit",up'.1,0,0⟩] :=by rw [zUU,eup];unfold zAT;rw [zUT];rfl
       rw [tk];exact Paired.snoc' (Paired.mapM p3 fun _ _ _ h=>T _ _ (s5' _ _ h)) (T _ _ e5')
      ·rintro ys H' ⟨tw,_,tl,rfl,s3,e3,p3⟩;rw [List.take_of_length_le (by omega)] at p3;exact fin4 H' D2 tw s3 e3 p3
     ·have a1:zJI r= [] :=by cases r with | take n us=>exact absurd ⟨n,us,rfl⟩ hf | _=>rfl
      have a3:zAC r≠ "take" :=by
       cases r with
       | take n us=>exact absurd ⟨n,us,rfl⟩ hf
       | unit=>show ("unit" :Str)≠ "take";decide
       | fun'=>show ("fun" :Str)≠ "take";decide
       | let'=>show ("let" :Str)≠ "take";decide
       | show'=>show ("show" :Str)≠ "take";decide
      refine ⟨_,rfl,tr,_,_,_,ev,rfl,SqT.of (s8 _ _ etr),zg (j:=0) rfl,rfl,false,congrArg V.bl (zUW fun z=>a3 (by injection z)),zD (nw fun wh H9 s9 e9=>?_)⟩;exact fin4 H9 wh [] s9 e9 (by rw [a1];exact .nil))
    by_cases hf: ∃n ps e,r= .fun' n ps e
    ·obtain ⟨n,ps,e,rfl⟩:=hf;obtain ⟨t',qa,x,ev',h1,h0,hx⟩:=hr.same (s05.trans s57);have p3:=okr.2.2.1;have hn':=hn n rfl;refine ⟨_,rfl,t',_,_,_,ev',rfl,SqT.of h1,rfl,rfl,_,rfl,zI ⟨_,rfl,t',_,_,_,ev',rfl,SqT.of h1,rfl,qa,rfl,⟨_,h0⟩,?_⟩⟩;have T7: ∀{G:Hp},But [id] H7 G->zc H7 G:=fun b c ys h=>b _ _ h (by
      simp only [zUs];exact fun z=>by rw [z,e7] at h;cases h)
     refine zAB ps.length (fun k σ H'=> ∃(o4 o5:Option V) (gr:yQ),σ= [some (.ref t),some (.ref td),some (.ref ul),some (.int (i:Int)),some xs[i],some (.ref id),o4,o5,o6,o7,o8,o9] /\k<=ps.length/\But [id] H7 H'/\DAt H' id gr (16+k)/\Agree (kn (rs.take i)) (ps.take k).reverse U gr/\twP (ps.take k).reverse (ps.drop k)=twP [] ps)
      ⟨_,_,zBP D,rfl,zUN _,fun _ _ h _=>h,⟨_,e7,by unfold zAg;rw [zUF];omega,fun n=>zBl n D⟩,ag,rfl⟩ ?_ ?_ ?_ ?_
     ·rintro k σ H8 hk ⟨o4,o5,gr,rfl,_,b8,_⟩;exact ⟨_,.str ps[k],T7 b8 _ _ h0,by simp [hk]⟩
     ·rintro σ H8 ⟨o4,o5,gr,rfl,_,b8,_⟩;exact ⟨_,T7 b8 _ _ h0,by simp⟩
     ·rintro k σ H8 y H9 hk ⟨o4,o5,gr,rfl,_,b8,dg,agk,tw⟩ ⟨pt',z,hz',npt',rfl,rfl⟩;have hz'':=hz' _ (T7 b8 _ _ h0);rw [zUD,zTy hk] at hz'';cases hz'';obtain ⟨H10,g10,s10,e10⟩:=yH npt' (.tup [.int (k:Int),.str ps[k]]);rw [g10];have T10:zc H7 H10:=(T7 b8).trans (zA.t s10);refine ⟨pt',_,rfl,SqT.of e10,rfl,_,_,rfl,_,_,rfl,rfl,hd fun Z2 hz2=>?_⟩;refine ⟨_,rfl,_,rfl,t',_,_,_,ev',rfl,SqT.of (T10 _ _ h1),rfl,_,rfl,_,rfl,qa,_,rfl,SqT.of (T10 _ _ h0),fun z=>?_,fun sp hsp=>?_⟩
      ·have z:=z.2;rw [HT.sIx_nat,zUF] at z;omega
      obtain ⟨H11,g11,s11,e11⟩:=yH hsp (.tup (yW (ps.map V.str) none (some (k:Int))));rw [g11];have ec:yW (ps.map V.str) none (some (k:Int))=(ps.take k).map V.str:=by
       unfold yW;rw [HT.sIx_nat,HT.sIx_none,zUF,List.drop_zero,List.map_take];congr 1;omega
      rw [ec] at e11;refine ⟨sp,_,rfl,.inr (SqT.of e11),rfl,zBQ _,_,rfl,?_⟩;show if (inV (.str ps[k]) ((ps.take k).map V.str))=true then _ else _;rw [zBq];rw [List.drop_eq_getElem_cons hk] at tw;rw [zMn] at tw;have s811:=s10.trans s11;refine zp (fun cc=>?_) (fun cc=>?_)
      ·have cc:ps[k] ∈ps.take k:=by simpa using cc
       rw [if_pos (List.mem_reverse.mpr cc)] at tw;have hb:yV (kn (rs.take i)) (.fun' n ps e)=some (.tw,ps[k]):=by
        show (if ((kn (rs.take i)).lookup n).isSome=true then _ else _)=_;rw [hn'];show (match twP [] ps with | some p=>some (Tl.tw,p)| none=>up (bad (kn (rs.take i)) e ps.reverse))=_;rw [<-tw]
       rw [hb] at q;refine ⟨_,rfl,_,rfl,bs 3,fun p hp=>?_⟩;refine q _ p (fun c o h=>?_) zE;have h5:=s57 _ _ (s05 _ _ h);have hc:c≠id:=fun z=>by
        have:=s05 _ _ h;rw [z,nid] at this;cases this
       exact (zA.upd hp) _ _ (s811 _ _ (b8 _ _ h5 (by simpa using hc)))
      ·have cc:ps[k] ∉ps.take k:=by simpa using cc
       rw [if_neg (fun z=>cc (List.mem_reverse.mp z))] at tw;obtain ⟨kv,ekv,kvl,kvg⟩:=dg;have ekv':=s811 _ _ ekv;refine hz2 _ _ ⟨_,rfl,_,rfl,id,_,rfl,.inl ⟨kv,.inr ps[k],ekv',rfl,by rw [zUJ];omega,rfl⟩,?_⟩;have tke:(ps.take (k+1)).reverse=ps[k] ::(ps.take k).reverse:=by rw [zUU,zTy hk];simp
       refine ⟨_,_,zBf gr ps[k] 0,rfl,hk,fun c o h nc=>?_,⟨_,zE,?_,fun m=>?_⟩,?_,?_⟩
       ·have hc:c≠id:=by simpa using nc
        rw [zN hc];exact s811 _ _ (b8 _ _ h nc)
       ·have:=zBG kv (.inr ps[k]) (.int 0);omega
       ·rw [zEl,kvg m];unfold zBf;by_cases hm:m=ps[k]
        ·rw [if_pos hm,if_pos (by rw [hm])];rfl
        ·rw [if_neg hm,if_neg fun z=>hm (Sum.inr.inj z)]
       ·rw [tke];exact agk.put _
       ·rw [tke];exact tw
     ·rintro σ H8 ⟨o4,o5,gr,rfl,_,b8,dg,agk,tw⟩;rw [List.take_of_length_le (zUC _)] at agk tw;rw [List.drop_eq_nil_of_le (zUC _)] at tw;refine fin3 H8 _ _ gr (fun c o h=>b8 _ _ (s57 _ _ h) ?_) (dg.mono (by omega)) agk tw.symm;simp only [zUs];exact fun z=>by rw [z,nid] at h;cases h
    ·have a1:zMN r= [] :=by cases r with | fun' n ps e=>exact absurd ⟨n,ps,e,rfl⟩ hf | _=>rfl
     have a2:twR r=none:=by cases r with | fun' n ps e=>exact absurd ⟨n,ps,e,rfl⟩ hf | _=>rfl
     have a3:zAC r≠ "fun" :=by
      cases r with
      | fun' n ps e=>exact absurd ⟨n,ps,e,rfl⟩ hf
      | unit=>show ("unit" :Str)≠ "fun";decide
      | take=>show ("take" :Str)≠ "fun";decide
      | let'=>show ("let" :Str)≠ "fun";decide
      | show'=>show ("show" :Str)≠ "fun";decide
     refine ⟨_,rfl,tr,_,_,_,ev,rfl,SqT.of (s57 _ _ etr),zg (j:=0) rfl,rfl,false,congrArg V.bl (zUW fun z=>a3 (by injection z)),zD (nw fun em H8 s8 e8=>?_)⟩;refine ⟨em,rfl,⟨_,e8⟩,?_⟩;refine zAB 0 (fun k σ H'=>σ= [some (.ref t),some (.ref td),some (.ref ul),some (.int (i:Int)),some xs[i],some (.ref id),o4,o5,o6,o7,o8,o9] /\H'=H8) ⟨rfl,rfl⟩ (fun k _ _ hk=>absurd hk (Nat.not_lt_zero _)) ?_ (fun k _ _ _ _ hk=>absurd hk (Nat.not_lt_zero _)) ?_
     ·rintro σ H' ⟨rfl,rfl⟩;exact ⟨_,e8,rfl⟩
     ·rintro σ H' ⟨rfl,rfl⟩;exact fin3 _ _ _ (zBP D) (s57.trans s8) ⟨_,s8 _ _ e7,by unfold zAg;rw [zUF];omega,fun n=>zBl n D⟩ (by rw [a1];exact ag) a2)
   rcases (hr.same s05).row with ⟨_,hn,tr,ys,ev,et⟩|⟨tr,n,ys,hn,hs,ev,et⟩
   ·exact ⟨_,rfl,tr,_,_,_,ev,rfl,SqT.of et,zg (j:=0) rfl,rfl,_,rfl,zD (zD (fin1 _ (zA.refl _) fun n h=>by rw [hn] at h;cases h))⟩
   ·have hw:(!decide (V.str (zAC r)=V.str "show"))=true:=by
     rw [zUW (fun z=>hs (by injection z))];rfl
    refine ⟨_,rfl,tr,_,_,_,ev,rfl,SqT.of et,zg (j:=0) rfl,rfl,true,congrArg V.bl hw,zI ⟨_,rfl,tr,_,_,_,ev,rfl,SqT.of et,zg (j:=1) rfl,_,rfl,td,_,rfl,.inl eD,fun ld hld=>?_⟩⟩;obtain ⟨H6,g6,s6,e6⟩:=yH hld (.lst ((zAg D).map fun p=>kV p.1));rw [g6];rw [zKu] at e6;refine ⟨_,rfl,cls e6 (s6 _ _ eU) (by rw [zUJ];simp;omega) fun cl H7 s7 e7=>?_⟩;rw [<-zUT] at e7;refine ⟨cl,_,rfl,.inl (SqL.of e7),rfl,zBQ _,_,rfl,?_⟩;show if (inV (.str n) ((D.map (·.1)++U).map V.str))=true then _ else _;rw [zBq];have hm:=ag.mem n;have s57:=s6.trans s7;refine zp (fun cc=>?_) (fun cc=>?_)
    ·have hk:((kn (rs.take i)).lookup n).isSome=true:=hm.mp (by simpa using cc);rw [zOG hn hk] at q;refine ⟨_,rfl,_,rfl,tr,_,_,_,ev,rfl,SqT.of (s57 _ _ et),zg (j:=1) rfl,bs 3,fun p hp=>?_⟩;exact q _ p ((s05.trans s57).trans (zA.upd hp)) zE
    ·refine fin1 _ s57 fun m h=>?_;rw [hn] at h;cases h;cases hl:(kn (rs.take i)).lookup n with
     | none=>rfl
     | some x=>exact absurd (hm.mpr (by rw [hl];rfl)) (by simpa using cc)
  ·rintro σ H' ⟨o1,o2,o3,o4,o5,o6,o7,o8,o9,D,U,rfl,_,s3,eD,eU,Dl,Ul,ag,q⟩;rw [List.drop_eq_nil_of_le (by omega)] at q;exact hz _ _ (q _ s3)
def Gd(e k:Ex)(g:Ex->Ex):Prop:= ∀k',Ok k'->zQ k'<=zQ k+3->ze k'<=ze k+1->Ok (g k')/\zQ (g k')<=zQ e+3/\ze (g k')<=ze e+1
theorem zOz{e:Ex}{m:Nat}(h: ∀k∈zi e,ze k<=m):ze e<=m+1:=by
 cases e<;>simp [zi] at h<;>simp only [ze] <;>omega
theorem zId: ∀{xs:List Nat} {j y x:Nat},xs[j]?=some y->(xs.set j x).sum+y=xs.sum+x
 | a::xs,0,y,x,h=>by simp at h⊢;omega
 | a::xs,j+1,y,x,h=>by
  have:=zId (xs:=xs) (x:=x) (show xs[j]?=some y from h);simp only [List.set_cons_succ,List.sum_cons];omega
theorem zAZ{e k:Ex}{g:Ex->Ex}{j:Nat}(hk:(zi e)[j]?=some k)(hg: ∀k',zi (g k')=(zi e).set j k')(ho: ∀k',Ok k'->Ok (g k')):Gd e k g:=fun k' o n d=>by
 refine ⟨ho k' o,?_,zOz fun x hx=>?_⟩
 ·have h:=zId (xs:=(zi e).map zQ) (x:=zQ k') (show _=some (zQ k) by rw [zUD,hk];rfl);rw [zCB (g k'),zCB e,hg,List.map_set];omega
 ·have dk:=zBj (zUa hk);rw [hg] at hx;rcases List.mem_or_eq_of_mem_set hx with z | rfl
  ·have:=zBj z;omega
  ·omega
inductive PutK (H:Hp) (e k:Ex) (j:Nat) (t:Addr):Prop
 | row (w:Str) (xs:List V) (pl:Nat) (g:Ex->Ex) (e1:H t=some (.tup (.str w::xs))) (nc:w≠ "call") (hl:w= "loop" ->pl=2+2*j) (hn:w≠ "loop" ->pl=1+j) (l:pl<xs.length+1) (l4:xs.length<=4) (gd:Gd e k g)
   (put: ∀H' p v' k',zA H H'->Xt H' k' v'->H' p=some (.tup ((V.str w::xs).take pl++ [v'] ++(V.str w::xs).drop (pl+1)))->Xt H' (g k') (.ref p))
 | call (m:Str) (q:Addr) (ys:List V) (g:Ex->Ex) (e1:H t=some (.tup [.str "call",.str m,.ref q])) (e2:H q=some (.tup ys)) (l:j<ys.length) (l3:ys.length<=3) (gd:Gd e k g)
   (put: ∀H' p q' v' k',zA H H'->Xt H' k' v'->H' p=some (.tup [.str "call",.str m,.ref q'])->H' q'=some (.tup (ys.take j++ [v'] ++ys.drop (j+1)))->Xt H' (g k') (.ref p))
theorem zPJ(hx:Xt H e v)(ok:Ok e)(hk:(zi e)[j]?=some k): ∃t,v= .ref t/\PutK H e k j t:=by
 cases e with
 | num=>simp [zi] at hk
 | nam=>simp [zi] at hk
 | neg a=>
  obtain ⟨t,x,rfl,h1,h2⟩:=hx;rcases j with _ | j
  ·exact ⟨t,rfl,.row _ _ 1 (fun k'=> .neg k') h1 (by decide) (fun z=>absurd z (by decide)) (fun _=>rfl) (show 1<2 by decide) (show 1<=4 by decide) (zAZ hk (fun _=>rfl) fun k' o=>o) fun H' p v' k' s h e=>⟨p,v',rfl,e,h⟩⟩
  ·simp [zi] at hk
 | bin w a b=>
  obtain ⟨t,x,y,rfl,h1,h2,h3⟩:=hx;obtain ⟨hw,ok2⟩:=ok;rcases j with _ | _ | j
  ·rcases hw with rfl | rfl | rfl | rfl
   all_goals exact ⟨t,rfl,.row _ _ 1 (fun k'=> .bin _ k' b) h1 (by decide) (fun z=>absurd z (by decide)) (fun _=>rfl) (show 1<3 by decide) (show 2<=4 by decide) (zAZ hk (fun _=>rfl) fun k' o=>⟨by simp [zHT],o,ok2.2⟩) fun H' p v' k' s h e=>⟨p,v',y,rfl,e,h,h3.same s⟩⟩
  ·rcases hw with rfl | rfl | rfl | rfl
   all_goals exact ⟨t,rfl,.row _ _ 2 (fun k'=> .bin _ a k') h1 (by decide) (fun z=>absurd z (by decide)) (fun _=>rfl) (show 2<3 by decide) (show 2<=4 by decide) (zAZ hk (fun _=>rfl) fun k' o=>⟨by simp [zHT],ok2.1,o⟩) fun H' p v' k' s h e=>⟨p,x,v',rfl,e,h2.same s,h⟩⟩
  ·simp [zi] at hk
 | pow a m=>
  obtain ⟨t,x,rfl,h1,h2⟩:=hx;rcases j with _ | j
  ·exact ⟨t,rfl,.row _ _ 1 (fun k'=> .pow k' m) h1 (by decide) (fun z=>absurd z (by decide)) (fun _=>rfl) (show 1<3 by decide) (show 2<=4 by decide) (zAZ hk (fun _=>rfl) fun k' o=>⟨o,ok.2⟩) fun H' p v' k' s h e=>⟨p,v',rfl,e,h⟩⟩
  ·simp [zi] at hk
 | ite a b c d'=>
  obtain ⟨t,x,y,z,u,rfl,h1,h2,h3,h4,h5⟩:=hx;rcases j with _ | _ | _ | _ | j
  ·exact ⟨t,rfl,.row _ _ 1 (fun k'=> .ite k' b c d') h1 (by decide) (fun z=>absurd z (by decide)) (fun _=>rfl) (show 1<5 by decide) (show 4<=4 by decide) (zAZ hk (fun _=>rfl) fun k' o=>⟨o,ok.2⟩) fun H' p v' k' s h e=>⟨p,v',y,z,u,rfl,e,h,h3.same s,h4.same s,h5.same s⟩⟩
  ·exact ⟨t,rfl,.row _ _ 2 (fun k'=> .ite a k' c d') h1 (by decide) (fun z=>absurd z (by decide)) (fun _=>rfl) (show 2<5 by decide) (show 4<=4 by decide) (zAZ hk (fun _=>rfl) fun k' o=>⟨ok.1,o,ok.2.2⟩) fun H' p v' k' s h e=>⟨p,x,v',z,u,rfl,e,h2.same s,h,h4.same s,h5.same s⟩⟩
  ·exact ⟨t,rfl,.row _ _ 3 (fun k'=> .ite a b k' d') h1 (by decide) (fun z=>absurd z (by decide)) (fun _=>rfl) (show 3<5 by decide) (show 4<=4 by decide) (zAZ hk (fun _=>rfl) fun k' o=>⟨ok.1,ok.2.1,o,ok.2.2.2⟩) fun H' p v' k' s h e=>⟨p,x,y,v',u,rfl,e,h2.same s,h3.same s,h,h5.same s⟩⟩
  ·exact ⟨t,rfl,.row _ _ 4 (fun k'=> .ite a b c k') h1 (by decide) (fun z=>absurd z (by decide)) (fun _=>rfl) (show 4<5 by decide) (show 4<=4 by decide) (zAZ hk (fun _=>rfl) fun k' o=>⟨ok.1,ok.2.1,ok.2.2.1,o⟩) fun H' p v' k' s h e=>⟨p,x,y,z,v',rfl,e,h2.same s,h3.same s,h4.same s,h⟩⟩
  ·simp [zi] at hk
 | loop m a r b=>
  obtain ⟨t,x,y,rfl,h1,h2,h3⟩:=hx;rcases j with _ | _ | j
  ·exact ⟨t,rfl,.row _ _ 2 (fun k'=> .loop m k' r b) h1 (by decide) (fun _=>rfl) (fun z=>absurd rfl z) (show 2<5 by decide) (show 4<=4 by decide) (zAZ hk (fun _=>rfl) fun k' o=>⟨ok.1,o,ok.2.2⟩) fun H' p v' k' s h e=>⟨p,v',y,rfl,e,h,h3.same s⟩⟩
  ·exact ⟨t,rfl,.row _ _ 4 (fun k'=> .loop m a r k') h1 (by decide) (fun _=>rfl) (fun z=>absurd rfl z) (show 4<5 by decide) (show 4<=4 by decide) (zAZ hk (fun _=>rfl) fun k' o=>⟨ok.1,ok.2.1,ok.2.2.1,ok.2.2.2.1,o⟩) fun H' p v' k' s h e=>⟨p,x,v',rfl,e,h2.same s,h⟩⟩
  ·simp [zi] at hk
 | call1 m a=>
  obtain ⟨t,qa,x,rfl,h1,h0,h2⟩:=hx;rcases j with _ | j
  ·exact ⟨t,rfl,.call m qa _ (fun k'=> .call1 m k') h1 h0 (show 0<1 by decide) (show 1<=3 by decide) (zAZ hk (fun _=>rfl) fun k' o=>⟨ok.1,o⟩) fun H' p q' v' k' s h e e'=>⟨p,q',v',rfl,e,e',h⟩⟩
  ·simp [zi] at hk
 | call2 m a b=>
  obtain ⟨t,qa,x,y,rfl,h1,h0,h2,h3⟩:=hx;rcases j with _ | _ | j
  ·exact ⟨t,rfl,.call m qa _ (fun k'=> .call2 m k' b) h1 h0 (show 0<2 by decide) (show 2<=3 by decide) (zAZ hk (fun _=>rfl) fun k' o=>⟨ok.1,o,ok.2.2⟩) fun H' p q' v' k' s h e e'=>⟨p,q',v',y,rfl,e,e',h,h3.same s⟩⟩
  ·exact ⟨t,rfl,.call m qa _ (fun k'=> .call2 m a k') h1 h0 (show 1<2 by decide) (show 2<=3 by decide) (zAZ hk (fun _=>rfl) fun k' o=>⟨ok.1,ok.2.1,o⟩) fun H' p q' v' k' s h e e'=>⟨p,q',x,v',rfl,e,e',h2.same s,h⟩⟩
  ·simp [zi] at hk
 | call3 m a b c=>
  obtain ⟨t,qa,x,y,z,rfl,h1,h0,h2,h3,h4⟩:=hx;rcases j with _ | _ | _ | j
  ·exact ⟨t,rfl,.call m qa _ (fun k'=> .call3 m k' b c) h1 h0 (show 0<3 by decide) (show 3<=3 by decide) (zAZ hk (fun _=>rfl) fun k' o=>⟨ok.1,o,ok.2.2.1,ok.2.2.2⟩) fun H' p q' v' k' s h e e'=>⟨p,q',v',y,z,rfl,e,e',h,h3.same s,h4.same s⟩⟩
  ·exact ⟨t,rfl,.call m qa _ (fun k'=> .call3 m a k' c) h1 h0 (show 1<3 by decide) (show 3<=3 by decide) (zAZ hk (fun _=>rfl) fun k' o=>⟨ok.1,ok.2.1,o,ok.2.2.2⟩) fun H' p q' v' k' s h e e'=>⟨p,q',x,v',z,rfl,e,e',h2.same s,h,h4.same s⟩⟩
  ·exact ⟨t,rfl,.call m qa _ (fun k'=> .call3 m a b k') h1 h0 (show 2<3 by decide) (show 3<=3 by decide) (zAZ hk (fun _=>rfl) fun k' o=>⟨ok.1,ok.2.1,ok.2.2.1,o⟩) fun H' p q' v' k' s h e e'=>⟨p,q',x,y,v',rfl,e,e',h2.same s,h3.same s,h⟩⟩
  ·simp [zi] at hk
def zPQ(d:Nat):Sp:=fun vs H Q _=> ∃(v w:V) (n:Int) (e o:Ex),vs= [v,.int n,w] /\0<=n/\Xt H e v/\Ok e/\ze e<=d/\Xt H o w/\Ok o/\zQ o<=4/\ze o<=2/\
 ∀H' v' e',zA H H'->Xt H' e' v'->Ok e'->zQ e'<=zQ e+3->ze e'<=ze e+1->Q v' H'
theorem zGH:FnScope ["_law_told_here","_law_number_here","_law_other","_law_kids_here","_law_at","_law_kid","_law_place"] ["_law_told_here","_law_number_here","_law_other"] (zK zHJ):=fs
theorem zRu(FX:Fun K "_law_exchanged" "_law_exchanged" zHJ f fd)(B:Bn mg)
  (FK:Fun K "_law_kids" "_law_kids" zDb fK fdK) (bK:zO K fdK ["_law_told_here"] []) (mK:mg "_law_kids" =some (.ref fK)) (GK:FnOk P w K mg base CX0 1 fK fdK ["_law_told_here"] zFx)
  (bX:zO K fd ["_law_told_here","_law_number_here","_law_other"] []) (mX:mg "_law_exchanged" =some (.ref f)):
  ∀d,FnOk P w K mg base CX0 (2+d) f fd ["_law_told_here","_law_number_here","_law_other"] (zPQ d):=by
 intro d
 induction d with
 | zero=>
  refine FX.ok zGH (fun vs H Q E h=>?_) (fun cdv A outer s H vs Q E hr h=>?_)
  ·obtain ⟨v,w,n,e,o,rfl,_⟩:=h;rfl
  ·obtain ⟨v,w,n,e,o,rfl,_,_,_,h,_⟩:=h;have:=zCM e;omega
 | succ d GX=>
  refine FX.ok zGH (fun vs H Q E h=>?_) (fun cdv A outer s H vs Q E hrX h=>?_)
  ·obtain ⟨v,w,n,e,o,rfl,_⟩:=h;rfl
  ·obtain ⟨v,w0,n,e,o,rfl,n0,hx,ok,dp,ho,oko,no4,do2,q⟩:=h;have hrX:Room (2+d) _:=hrX;have hr1:Room 1 _:=hrX.mono (by omega);have huN:=Nat.lt_of_succ_lt (zAb hrX);refine ⟨_,QB.out (zF
   (zY 3 zGH.nd rfl (zR GK hr1 rfl mK FK.kp bK .nil zP (qc (qw 0 rfl) zB rfl) rfl rfl rfl) rfl) (zF
   (zV (t_w (zAI (zL (zEe huN) (qw 3 rfl) (zd zB) rfl) (zAN (zL zZ (zl (qw 1 rfl) zC) zC rfl)))) (zH
    (zS (qw 2 rfl))) zU) (zF
   (zY 4 zGH.nd rfl (zl (zj (qw 1 rfl) zC) (zq (zm (K:=K) rfl) rfl B.len yB (qc (qw 3 rfl) zB rfl) rfl)) rfl) (zF
   (zY 5 zGH.nd rfl (zR GX hrX rfl mX FX.kp bX .nil zP (qc (yN (K:=K) rfl (qw 3 rfl) (qw 4 rfl) (fun _ _=>rfl)) (qc (zj (qw 1 rfl) zC) (qc (qw 2 rfl) zB rfl) rfl) rfl) rfl rfl rfl) rfl) (zF
   (zV (zL zZ (zJ (K:=K) rfl (qw 0 rfl) zC (fun _ _=>rfl)) zG rfl) (zH
    (zS (yt (yi (K:=K) rfl) (zAe (K:=K) rfl (qw 0 rfl) yR (yE zC)) (zM (qc (yt (yi (K:=K) rfl) (yt (yi (K:=K) rfl) (zAe (K:=K) rfl (zJ (K:=K) rfl (qw 0 rfl) zC (fun _ _=>rfl)) yR (yE (qw 4 rfl))) (zM (qc (qw 5 rfl) zB rfl))) (zAe (K:=K) rfl (zJ (K:=K) rfl (qw 0 rfl) zC (fun _ _=>rfl)) (yE (yg (qw 4 rfl) zC)) yR)) zB rfl))))) zU) (zF
   (zY 6 zGH.nd rfl (yN (K:=K) rfl (zd (qc (yg zC (qw 4 rfl)) (qc (yg zC (zHK zC (qw 4 rfl))) zB rfl) rfl)) (zBZ zKd rfl B.int zKh (qc (zFF zZ (zJ (K:=K) rfl (qw 0 rfl) zC (fun _ _=>rfl)) zG rfl) zB rfl) rfl) (fun _ _=>rfl)) rfl) (zH
   (zS (yt (yi (K:=K) rfl) (yt (yi (K:=K) rfl) (zAe (K:=K) rfl (qw 0 rfl) yR (yE (qw 6 rfl))) (zM (qc (qw 5 rfl) zB rfl))) (zAe (K:=K) rfl (qw 0 rfl) (yE (yg (qw 6 rfl) zC)) yR)))))))))),?_⟩
   refine hd fun Z hz=>?_;refine ⟨_,rfl,v,e,rfl,hx,ok,fun la xs H1 s1 nla ela hxs=>hz _ _ (hd fun Z hz=>?_)⟩;have lx:=Paired.len hxs;have k4:=zEt e;have np:=zAx e;have dpos:=zCM e;refine ⟨_,rfl,nw fun em H2 s2 e2=>?_⟩;have s02:=s1.trans s2;have oth:Q w0 H2:=q H2 w0 o s02 (ho.same s02) oko (by omega) (by omega);refine ⟨la,em,_,rfl,rfl,SqL.of (s2 _ _ ela),SqL.of e2,_,rfl,zp (fun c1=>zI ⟨_,rfl,oth⟩) (fun c1=>?_)⟩;refine ⟨_,rfl,_,_,rfl,rfl,by decide,rfl,_,rfl,zp (fun c2=>⟨_,rfl,oth⟩) (fun c2=>hz _ _ (hd fun Z hz=>?_))⟩;have xne:xs≠ [] :=fun z=>by rw [z] at c1;simp at c1
   have xl:0<xs.length:=List.length_pos_iff.mpr xne;have a0:=zUP (n/3) (show ((xs.length:Nat):Int)≠0 by omega);have a1:=zUK (n/3) (show (0:Int)<((xs.length:Nat):Int) by omega);refine ⟨_,rfl,_,_,rfl,rfl,⟨by decide,by decide⟩,_,rfl,la,_,rfl,.inl (SqL.of (s2 _ _ ela)),_,_,rfl,rfl,by omega,hz _ _ (hd fun Z hz=>?_)⟩;obtain ⟨j,hj⟩: ∃j:Nat,n/3 %((xs.length:Nat):Int)=(j:Int):=⟨(n/3 %((xs.length:Nat):Int)).toNat,by omega⟩;rw [hj];have jl:j<xs.length:=by omega
   obtain ⟨k,ek,hk⟩:=Paired.get' hxs (zTy jl);have hkm:=zUa ek;have dk:=zBj hkm;refine ⟨_,rfl,_,rfl,la,_,_,_,rfl,rfl,SqL.of (s2 _ _ ela),zg (zTy jl),_,rfl,_,_,rfl,rfl,⟨by decide,by decide⟩,_,rfl,xs[j],w0,n/12,k,o,rfl,by omega,hk.same s2,zDk ok hkm,by omega,ho.same s02,oko,no4,do2,fun H3 v' k' s3 hx' ok' nn' dd'=>hz _ _ (hd fun Z hz=>?_)⟩;have s03:=s02.trans s3;obtain ⟨t,rfl,pk⟩:=zPJ (hx.same s03) ok ek;clear ek hk hkm hxs ela e2 oth hx ho;cases pk with
   | call m qa ys g e1 e2 l l3 gd put=>
    obtain ⟨g1,g2,g3⟩:=gd k' ok' nn' dd';refine ⟨_,rfl,t,_,_,_,rfl,rfl,SqT.of e1,rfl,rfl,_,rfl,zI ?_⟩;refine ⟨_,rfl,_,rfl,slc [.str "call",.str m] e1 fun q0 H4 s4 e4=>?_⟩;have e1:=s4 _ _ e1;have e2:=s4 _ _ e2;refine ⟨_,rfl,t,_,_,_,rfl,rfl,SqT.of e1,rfl,_,rfl,_,rfl,sto e2 l fun q1 H5 s5 e5=>⟨_,rfl,nw fun q2 H6 s6 e6=>ct (s6 _ _ e5) e6 (fun q3 H7 s7 e7=>?_) (by simp;omega)⟩⟩;have s47:=s5.trans (s6.trans s7);refine ⟨_,rfl,t,_,_,_,rfl,rfl,SqT.of (s47 _ _ e1),rfl,_,rfl,_,_,rfl,rfl,_,rfl,sfr (s47 _ _ e2) l fun q4 H8 s8 e8=>ct (s8 _ _ e7) e8 (fun q5 H9 s9 e9=>nw fun q6 H10 s10 e10=>?_) (by simp;omega)⟩;have s40:=s47.trans (s8.trans (s9.trans s10));refine ct (s40 _ _ e4) e10 fun q7 H11 s11 e11=>?_;have sE:=s4.trans (s40.trans s11);exact q H11 (.ref q7) (g k') (s03.trans sE) (put H11 q7 q5 v' k' sE (hx'.same sE) e11 ((s10.trans s11) _ _ e9)) g1 g2 g3
   | row w xs pl g e1 nc hl hn l l4 gd put=>
    obtain ⟨g1,g2,g3⟩:=gd k' ok' nn' dd';refine ⟨_,rfl,t,_,_,_,rfl,rfl,SqT.of e1,zg (j:=0) rfl,rfl,false,congrArg V.bl (zUW fun z=>nc (by injection z)),zD (hz _ _ (hd fun Z hz=>?_))⟩;refine ⟨_,rfl,_,_,rfl,rfl,_,rfl,_,_,rfl,rfl,.inl ⟨by decide,by decide⟩,_,_,rfl,rfl,nw fun pa H4 s4 e4=>?_⟩;have tl:Z [some (.ref t),some (.int n),some w0,some (.ref la),some (.int (j:Int)),some v',some (.int (pl:Int))] H4:=by
     refine hz _ _ ?_;have e1:=s4 _ _ e1;have l':pl<(V.str w::xs).length:=l;refine ⟨_,rfl,_,rfl,_,rfl,sto e1 l' fun q1 H5 s5 e5=>⟨_,rfl,nw fun q2 H6 s6 e6=>ct (s6 _ _ e5) e6 (fun q3 H7 s7 e7=>?_) (by simp;omega)⟩⟩;have s47:=s5.trans (s6.trans s7);refine ⟨_,rfl,_,rfl,_,_,rfl,rfl,_,rfl,sfr (s47 _ _ e1) l' fun q4 H8 s8 e8=>ct (s8 _ _ e7) e8 (fun q5 H9 s9 e9=>?_) (by simp;omega)⟩;have sE:=s4.trans (s47.trans (s8.trans s9));exact q H9 (.ref q5) (g k') (s03.trans sE) (put H9 q5 v' k' sE (hx'.same sE) e9) g1 g2 g3
    by_cases hw:w= "loop"
    ·subst hw;rw [hl rfl] at tl;exact ⟨_,rfl,t,_,_,_,rfl,rfl,SqT.of (s4 _ _ e1),zg (j:=0) rfl,rfl,.inr ⟨_,rfl,pa,_,_,_,rfl,rfl,SqL.of e4,rfl,tl⟩⟩
    ·rw [hn hw] at tl;exact ⟨_,rfl,t,_,_,_,rfl,rfl,SqT.of (s4 _ _ e1),zg (j:=0) rfl,rfl,.inr ⟨false,congrArg (fun b=> [V.bl b]) (zUW fun z=>hw (by injection z)),pa,_,_,_,rfl,rfl,SqL.of e4,rfl,tl⟩⟩
theorem SmR.mono(h:SmR k d r)(hk:k<=k')(hd:d<=d'):SmR k' d' r:=by
 cases r with
 | unit=>trivial
 | take=>trivial
 | let' n e=>exact ⟨zUM h.1 hk,zUM h.2 hd⟩
 | fun' n ps e=>exact ⟨zUM h.1 hk,zUM h.2 hd⟩
 | show' e=>exact ⟨zUM h.1 hk,zUM h.2 hd⟩
theorem Paired.take'{α β:Type}{F:α->β->Prop}{xs:List α}{ys:List β}(h:Paired F xs ys): ∀n:Nat,Paired F (xs.take n) (ys.take n):=by
 induction h with
 | nil=>intro n;simp;exact .nil
 | cons h _ ih=>
  intro n;cases n with
  | zero=>exact .nil
  | succ n=>rw [List.take_succ_cons,List.take_succ_cons];exact .cons h (ih n)
theorem Paired.drop0{α β:Type}{F:α->β->Prop}{xs:List α}{ys:List β}(h:Paired F xs ys): ∀n:Nat,Paired F (xs.drop n) (ys.drop n):=by
 induction h with
 | nil=>intro n;simp;exact .nil
 | cons h t ih=>
  intro n;cases n with
  | zero=>exact .cons h t
  | succ n=>rw [List.drop_succ_cons,List.drop_succ_cons];exact ih n
theorem zKo(e:rs[a]?=some r)(h:zAf r'=zAf r):yb (rs.take a++ [r'] ++rs.drop (a+1))=yb rs:=by
 obtain ⟨hi,er⟩:=zUy.mp e;have:rs=rs.take a++ [r] ++rs.drop (a+1):=by rw [List.append_assoc,List.singleton_append,<-er,<-List.drop_eq_getElem_cons hi,List.take_append_drop]
 conv=>rhs;rw [this]
 unfold yb;simp only [zUx,zUY,List.filter_cons,List.filter_nil,h];cases zAf r<;>rfl
theorem Pg.set(h:Pg H t xs rs k d)(s:zA H H')(e:rs[a]?=some r)(hr:Rt H' r' v')(ok:OkR r')(sm:SmR (k+3) (d+1) r')(hu:zAf r'=zAf r)
  (ep:H' p=some (.tup (xs.take a++ [v'] ++xs.drop (a+1)))):Pg H' p (xs.take a++ [v'] ++xs.drop (a+1)) (rs.take a++ [r'] ++rs.drop (a+1)) (k+3) (d+1):=by
 have al:a<rs.length:=(zUy.mp e).1;have lx:=Paired.len h.rows;have l1:=h.l1;have l16:=h.l16;have rows:=RtL.same h.rows s;refine ⟨ep,Paired.app (Paired.app (Paired.take' rows a) (.cons ⟨hr,ok⟩ .nil)) (Paired.drop0 rows (a+1)),?_,?_,by rw [zKo e hu];exact h.u6,fun x hx=>?_⟩
 ·simp only [zUY,List.length_take,List.length_drop,List.length_singleton];omega
 ·simp only [zUY,List.length_take,List.length_drop,List.length_singleton];omega
 ·simp only [zUq,zUs] at hx;rcases hx with (hx | hx)| hx
  ·exact (h.sm x (List.mem_of_mem_take hx)).mono (by omega) (by omega)
  ·rw [hx];exact sm
  ·exact (h.sm x (List.mem_of_mem_drop hx)).mono (by omega) (by omega)
theorem zOK:Nm "none" :=by show yJ (.str "none")=true;decide+kernel
def Sml(H:Hp)(v:V):Prop:= ∃o:Ex,Xt H o v/\Ok o/\zQ o<=4/\ze o<=2
theorem Sml.same(h:Sml H v)(s:zA H H'):Sml H' v:=let ⟨o,a,b,c,d⟩:=h;⟨o,a.same s,b,c,d⟩
theorem zNg(hm:Nm m)(k0:k≠0)(k9: -9<=k/\k<=9):GoodU [(m,k)] :=⟨⟨hm,k0,zHr hm,trivial⟩,fun p hp=>by rw [zUs.mp hp];exact k9,by simp⟩
theorem zHx{H:Hp}{v:V}{e:Ex}{m:Str}{t q:Addr}{c:Int}(hx:Xt H e v)(ok:Ok e)(n1:zQ e=1)(d1:ze e=1)(hm:Nm m)(c1:1<=c)(c3:c<=3)
  (e1:H t=some (.tup [.str "call",.str m,.ref q])) (e2:H q=some (.tup (List.replicate c.toNat v))):Sml H (.ref t):=by
 have hc:c=1\/c=2\/c=3:=by omega
 rcases hc with rfl | rfl | rfl
 ·exact ⟨.call1 m e,⟨t,q,v,rfl,e1,e2,hx⟩,⟨hm,ok⟩,by simp only [zQ];omega,by simp only [ze];omega⟩
 ·exact ⟨.call2 m e e,⟨t,q,v,v,rfl,e1,e2,hx,hx⟩,⟨hm,ok,ok⟩,by simp only [zQ];omega,by simp only [ze];omega⟩
 ·exact ⟨.call3 m e e e,⟨t,q,v,v,v,rfl,e1,e2,hx,hx,hx⟩,⟨hm,ok,ok,ok⟩,by simp only [zQ];omega,by simp only [ze];omega⟩
theorem zHH(e:H q0=some (.tup [v]))(c1:1<=c)(c3:c<=60)(q: ∀p H',zA H H'->H' p=some (.tup (List.replicate c.toNat v))->Q (.ref p) H'):
  XRepT (.ref q0) (.int c) H Q:=⟨q0,c,v,rfl,rfl,e,c1,by omega,fun z=>q q0 H (zA.refl H) (by rw [z];exact e),fun _ p hp=>q p _ (zA.upd hp) zE⟩
theorem zKy{lo hi:Option Int}(h:HT.sIx xs.length 0 lo=0/\HT.sIx xs.length xs.length hi=xs.length):yW xs lo hi=xs:=by
 unfold yW;rw [h.1,h.2,List.drop_zero,Nat.sub_zero,List.take_length]
theorem zKl(h:3<=xs.length):yW xs none (some 3)=xs.take 3:=by
 unfold yW;rw [show (3:Int)=((3:Nat):Int) from rfl,HT.sIx_nat,HT.sIx_none,List.drop_zero,show min 3 xs.length=3 by omega]
theorem slw{lo hi:Option Int}(e:H a=some (.tup xs))(q: ∀p G,zA H G->G p=some (.tup (yW xs lo hi))->Q (.ref p) G):XSlW K (.ref a) lo hi H Q:=
 ⟨a,xs,rfl,SqT.of e,fun h=>q a H (zA.refl H) (by rw [zKy h];exact e),fun _ p hp=>q p _ (zA.upd hp) zE⟩
theorem zTa{p:V->Prop}(j0:0<=j)(j6:j<6)(ha:p a)(hb:p b)(hc:p c)(hd:j=3->p d)(he:p e)(hf:p f): ∃v,atI [a,b,c,d,e,f] j=some v/\p v:=by
 have:j=0\/j=1\/j=2\/j=3\/j=4\/j=5:=by omega
 rcases this with rfl | rfl | rfl | rfl | rfl | rfl
 ·exact ⟨a,rfl,ha⟩
 ·exact ⟨b,rfl,hb⟩
 ·exact ⟨c,rfl,hc⟩
 ·exact ⟨d,rfl,hd rfl⟩
 ·exact ⟨e,rfl,he⟩
 ·exact ⟨f,rfl,hf⟩
def zQS:Sp:=fun vs H Q _=> ∃(t:Addr) (n:Int) (xs:List V) (rs:List Rw) (k d:Nat),vs= [.ref t,.int n] /\0<=n/\Pg H t xs rs k d/\k<=36/\d<=5/\ ∀p H' xs' rs',zA H H'->Pg H' p xs' rs' (k+3) (d+1)->Q (.ref p) H'
theorem zBU:FnScope ["_law_program_here","_law_number_here","_law_at","_law_row","_law_more","_law_names_here","_law_name","_law_leaf_here","_law_some","_law_other"] ["_law_program_here","_law_number_here"] (zK zGu):=fs
theorem zSc{f fX:Addr}{fd fdX:FuncData}(F:Fun K "_law_bent" "_law_bent" zGu f fd)(B:Bn mg)
  (FX:Fun K "_law_exchanged" "_law_exchanged" zHJ fX fdX) (bX:zO K fdX ["_law_told_here","_law_number_here","_law_other"] []) (mX:mg "_law_exchanged" =some (.ref fX)) (GX:FnOk P w K mg base CX0 12 fX fdX ["_law_told_here","_law_number_here","_law_other"] (zPQ 10)):
  FnOk P w K mg base CX0 13 f fd ["_law_program_here","_law_number_here"] zQS:=by
 refine F.ok zBU (fun vs H Q E h=>?_) (fun _ A _ s H vs Q E hr12 h=>?_)
 ·obtain ⟨t,n,xs,rs,k,d,rfl,_⟩:=h;rfl
 ·obtain ⟨t,n,xs,rs,k,d,rfl,n0,pg,k6,d5,q⟩:=h;have hr12:Room 12 _:=hr12;refine ⟨_,QB.out (zF
   (zY 2 zBU.nd rfl (zl (qw 1 rfl) (zq (zm (K:=K) rfl) rfl B.len yB (qc (qw 0 rfl) zB rfl) rfl)) rfl) (zF
   (zY 3 zBU.nd rfl (zJ (K:=K) rfl (qw 0 rfl) (qw 2 rfl) (fun _ _=>rfl)) rfl) (zF
   (zY 4 zBU.nd rfl (zj (qw 1 rfl) zC) rfl) (zF
   (zY 5 zBU.nd rfl (zAd (yx (cl:= []) ["_law_one"] [] [] rfl (zBT (K:=K) rfl (qw 0 rfl)) rfl (by decide+kernel) rfl (by decide+kernel) (fun _ _ h=>nomatch h) rfl (fun j y i h=>nomatch h) (yF rfl) (fun _ _ _ _=>(zb 0 (show (["_law_one"] :List Str).Nodup by decide+kernel) rfl (.inl rfl) (.inr rfl))) (fun _ _ _ _=>(zCH (zL yw (zJ (K:=K) rfl (qw 0 rfl) zC (fun _ _=>rfl)) zG rfl))) (fun _ _ _ _=>(zJ (K:=K) rfl (qw 0 rfl) zC (fun _ _=>rfl))) (fun _=>rfl)) (zd (qc zG zB rfl))) rfl) (zF
   (zY 6 zBU.nd rfl (yN (K:=K) rfl (qw 5 rfl) (zl (zj (qw 4 rfl) zC) (zq (zm (K:=K) rfl) rfl B.len yB (qc (qw 5 rfl) zB rfl) rfl)) (fun _ _=>rfl)) rfl) (zF
   (zY 7 zBU.nd rfl (zM (qc zG (qc (qw 6 rfl) zB rfl) rfl)) rfl) (zF
   (zY 8 zBU.nd rfl (zd (qc (zM (qc zG (qc (qw 6 rfl) (qc (zFa (zM (qc (qw 7 rfl) zB rfl)) (yg zC (zl (zj (qw 4 rfl) zC) zC))) zB rfl) rfl) rfl)) (qc (qw 7 rfl) (qc (zM (qc zG (qc (zM (qc zC (qc zC zB rfl) rfl)) (qc (zM (qc (zM (qc (qw 6 rfl) (qc zC zB rfl) rfl)) zB rfl)) zB rfl) rfl) rfl)) (qc (zM (qc zG (qc (zJ (K:=K) rfl (qw 3 rfl) zC (fun _ _=>rfl)) zB rfl) rfl)) zB rfl) rfl) rfl) rfl)) rfl) (zF
   (zY 8 zBU.nd rfl (zAd (qw 8 rfl) (zd (qc (zM (qc zG (qc (qw 6 rfl) (qc (qw 7 rfl) (qc zC (qc (qw 7 rfl) zB rfl) rfl) rfl) rfl) rfl)) (qc (zM (qc zG (qc (qw 6 rfl) (qc (zFa (zM (qc (zM (qc zG (qc (zM (qc zC (qc zC zB rfl) rfl)) (qc (zM zB) zB rfl) rfl) rfl)) zB rfl)) (yg zC (zl (zj (qw 4 rfl) zC) zC))) zB rfl) rfl) rfl)) zB rfl) rfl))) rfl) (zF
   (zV (t_w (zAi (zL (zCS (K:=K) rfl) (zJ (K:=K) rfl (qw 3 rfl) zC (fun _ _=>rfl)) (zM (qc zG (qc zG (qc zG zB rfl) rfl) rfl)) rfl) (zAU (zL zBx (zl (qw 4 rfl) zC) zC rfl)))) (zF
    (zY 9 zBU.nd rfl (zFM (t_w (zAI (zL yw (zJ (K:=K) rfl (qw 3 rfl) zC (fun _ _=>rfl)) zG rfl) (zAN (zL yw (zl (zj (qw 4 rfl) zC) zC) zC rfl)))) (yN (K:=K) rfl (qw 8 rfl) (zl (zj (qw 4 rfl) zC) zC) (fun _ _=>rfl)) (qw 7 rfl)) rfl) (zH
    (zY 3 zBU.nd rfl (yt (yi (K:=K) rfl) (zAe (K:=K) rfl (qw 3 rfl) yR (yE (zER zC))) (zM (qc (zR GX hr12 rfl mX FX.kp bX .nil zP (qc (zJ (K:=K) rfl (qw 3 rfl) (zCh (zq (zm (K:=K) rfl) rfl B.len yB (qc (qw 3 rfl) zB rfl) rfl) zC) (fun _ _=>rfl)) (qc (zj (qw 4 rfl) zC) (qc (qw 9 rfl) zB rfl) rfl) rfl) rfl rfl rfl) zB rfl))) rfl))) (zH
    (zV (zL zZ (zJ (K:=K) rfl (qw 3 rfl) zC (fun _ _=>rfl)) zG rfl) (zH
     (zY 3 zBU.nd rfl (yt (yi (K:=K) rfl) (yt (yi (K:=K) rfl) (zAe (K:=K) rfl (qw 3 rfl) yR (yE zC)) (zM (qc (zSA (K:=K) rfl (yt (yi (K:=K) rfl) (zJ (K:=K) rfl (qw 3 rfl) zC (fun _ _=>rfl)) (zM (qc (zJ (K:=K) rfl (zJ (K:=K) rfl (qw 3 rfl) zC (fun _ _=>rfl)) zC (fun _ _=>rfl)) (qc (qw 6 rfl) zB rfl) rfl))) yR (yE zC)) zB rfl))) (zAe (K:=K) rfl (qw 3 rfl) (yE zC) yR)) rfl)) (zH
     (zV (zL zZ (zJ (K:=K) rfl (qw 3 rfl) zC (fun _ _=>rfl)) zG rfl) (zH
      (zY 3 zBU.nd rfl (zM (qc zG (qc (zJ (K:=K) rfl (qw 3 rfl) zC (fun _ _=>rfl)) (qc (zM (qc (zM (qc (qw 6 rfl) (qc zC zB rfl) rfl)) zB rfl)) zB rfl) rfl) rfl)) rfl)) (zH
      (zV (zL yw (zJ (K:=K) rfl (qw 3 rfl) zC (fun _ _=>rfl)) zG rfl) (zH
       (zY 3 zBU.nd rfl (yt (yi (K:=K) rfl) (zM (qc (zJ (K:=K) rfl (qw 3 rfl) zC (fun _ _=>rfl)) (qc (qw 6 rfl) zB rfl) rfl)) (zAe (K:=K) rfl (qw 3 rfl) (yE zC) yR)) rfl)) zU))))))) (zH
   (zS (yt (yi (K:=K) rfl) (yt (yi (K:=K) rfl) (zAe (K:=K) rfl (qw 0 rfl) yR (yE (qw 2 rfl))) (zM (qc (qw 3 rfl) zB rfl))) (zAe (K:=K) rfl (qw 0 rfl) (yE (yg (qw 2 rfl) zC)) yR))))))))))))),?_⟩
  refine hd fun Z hz=>?_;have lx:=Paired.len pg.rows;have l1:=pg.l1;have l16:=pg.l16;have a0:=zUP n (show ((xs.length:Nat):Int)≠0 by omega);have a1:=zUK n (show (0:Int)<((xs.length:Nat):Int) by omega);refine ⟨_,rfl,_,rfl,t,_,rfl,.inr (SqT.of pg.at_),_,_,rfl,rfl,by omega,hz _ _ (hd fun Z hz=>?_)⟩;obtain ⟨a,ha⟩: ∃a:Nat,n %((xs.length:Nat):Int)=(a:Int):=⟨(n %((xs.length:Nat):Int)).toNat,by omega⟩;rw [ha];have al:a<xs.length:=by omega
  refine ⟨_,rfl,_,rfl,t,_,_,_,rfl,rfl,SqT.of pg.at_,zg (zTy al),hz _ _ (hd fun Z hz=>?_)⟩;refine ⟨_,rfl,_,_,rfl,rfl,⟨by decide,by decide⟩,hz _ _ (hd fun Z hz=>?_)⟩;refine ⟨_,rfl,t,rfl,⟨_,SqT.of pg.at_⟩,fun D hD=>?_⟩;refine zx xs.length (fun i ys H'=> ∃N:List Str,i<=xs.length/\ys=N.map V.str/\N.length<=i/\(∀x∈N,Nm x)/\zA H H'/\H' D=some (.lst ys)) ⟨[],zUN _,rfl,zUC _,by simp,zA.upd hD,zE⟩ (by rw [zUJ];omega) ?_ ?_ ?_
  ·rintro i ys H' hi ⟨N,_,rfl,nl,_,s1,e1⟩;exact ⟨by simpa using nl,e1,fun h=>⟨_,_,SqT.of (s1 _ _ pg.at_),zTy h⟩,fun h=>⟨_,SqT.of (s1 _ _ pg.at_),by omega⟩⟩
  ·rintro i ys H' y H'' hi ⟨N,_,rfl,nl,nm,s1,e1⟩ ⟨rfl,hy⟩ pre hpre;obtain ⟨p0,rfl⟩:=zAt hpre;have hy':=hy _ (SqT.of (s1 _ _ pg.at_));rw [zTy hi] at hy';cases hy';obtain ⟨r,er,hr,okr⟩:=Paired.get' pg.rows (zTy hi);rcases (hr.same s1).row with ⟨_,hn,tr,zs,ev,et⟩|⟨tr,m,zs,hn,hs,ev,et⟩
   ·exact ⟨⟨[some xs[i]],rfl,rfl⟩,_,rfl,tr,_,_,_,ev,rfl,SqT.of et,zg (j:=0) rfl,rfl,_,rfl,zD ⟨N,hi,rfl,by omega,nm,s1,e1⟩⟩
   ·have hw:(!decide (V.str (zAC r)=V.str "show"))=true:=by
     rw [zUW (fun z=>hs (by injection z))];rfl
    have hm:Nm m:=by
     cases r with
     | unit=>cases hn;exact okr
     | take=>cases hn;exact okr.1
     | let'=>cases hn;exact okr.1
     | fun'=>cases hn;exact okr.1
     | show'=>cases hn
    refine ⟨⟨[some xs[i]],rfl,rfl⟩,_,rfl,tr,_,_,_,ev,rfl,SqT.of et,zg (j:=0) rfl,rfl,true,congrArg V.bl hw,zI ⟨_,rfl,tr,_,_,_,ev,rfl,SqT.of et,zg (j:=1) rfl,e1,N++ [m],hi,by rw [zUT];rfl,by simp;omega,fun x hx=>?_,zA.store s1 hD,zE⟩⟩;rcases zUq.mp hx with z | z
    ·exact nm x z
    ·rw [zUs.mp z];exact hm
  ·rintro ys H1 ⟨N,_,rfl,nl,nm,s1,e1⟩;refine nw fun q1 H2 s2 e2=>?_;refine cls (s2 _ _ e1) e2 (by rw [zUJ];simp;omega) fun aN H3 s3 e3=>?_;have e3:H3 aN=some (.lst ((N++ [("none" :Str)]).map V.str)):=by rw [zUT];exact e3
   have nmN: ∀x∈N++ [("none" :Str)],Nm x:=fun x hx=>by
    rcases zUq.mp hx with z | z
    ·exact nm x z
    ·rw [zUs.mp z];exact zOK
   refine hz _ _ (hd fun Z hz=>?_);have s03:=s1.trans (s2.trans s3);obtain ⟨nv,env,m,rfl,hm⟩:=zAJ (n:=n/16/9) (p:=fun v=> ∃m:Str,v= .str m/\Nm m) (xs:=(N++ [("none" :Str)]).map V.str) (m:=(((N++ [("none" :Str)]).map V.str).length:Int)) (fun v hv=>by
    obtain ⟨x,hx,rfl⟩:=zUt.mp hv;exact ⟨x,rfl,nmN x hx⟩) rfl (by simp)
   refine ⟨_,rfl,_,rfl,_,_,rfl,rfl,⟨by decide,by decide⟩,_,rfl,aN,_,rfl,.inl (SqL.of e3),_,_,rfl,rfl,by simp,aN,_,_,_,rfl,rfl,SqL.of e3,env,hz _ _ (hd fun Z hz=>?_)⟩;refine ⟨_,rfl,nw fun lf H4 s4 e4=>?_⟩;refine hz _ _ (hd fun Z hz=>?_);obtain ⟨r,er,hr,okr⟩:=Paired.get' pg.rows (zTy al);have s04:=s03.trans s4;have mo0:(0:Int)<=n/16:=by omega
   have xlf:Xt H4 (.nam m) (.ref lf):=⟨lf,rfl,e4⟩;obtain ⟨tr,w0,v1,zs,ev,et,hw0⟩: ∃(tr:Addr) (w0:Str) (v1:V) (zs:List V),xs[a] = .ref tr/\H4 tr=some (.tup (.str w0::v1::zs))/\(w0≠ "show" -> ∃n1,v1= .str n1/\Nm n1):=by
    have hr4:=hr.same s04;cases r with
    | unit n1=>obtain ⟨tr,ev,et⟩:=hr4;exact ⟨tr,_,_,_,ev,et,fun _=>⟨n1,rfl,okr⟩⟩
    | take n1 us=>obtain ⟨tr,y,ev,et,_⟩:=hr4;exact ⟨tr,_,_,_,ev,et,fun _=>⟨n1,rfl,okr.1⟩⟩
    | let' n1 e=>obtain ⟨tr,y,ev,et,_⟩:=hr4;exact ⟨tr,_,_,_,ev,et,fun _=>⟨n1,rfl,okr.1⟩⟩
    | fun' n1 ps e=>obtain ⟨tr,q,y,ev,et,_⟩:=hr4;exact ⟨tr,_,_,_,ev,et,fun _=>⟨n1,rfl,okr.1⟩⟩
    | show' e=>obtain ⟨tr,y,ev,et,_⟩:=hr4;exact ⟨tr,_,_,_,ev,et,fun z=>absurd rfl z⟩
   rw [ev];have c1:1<=1+n/16/5 % 3:=by omega
   have c3:1+n/16/5 % 3<=3:=by omega
   refine ⟨_,rfl,_,rfl,nw fun q0 H5 s5 e5=>?_⟩;refine ⟨_,rfl,_,_,rfl,rfl,⟨by decide,by decide⟩,_,_,rfl,rfl,by decide,_,_,rfl,rfl,zHH e5 c1 (by omega) fun q1 H6 s6 e6=>?_⟩;refine nw fun q2 H7 s7 e7=>?_;refine ⟨_,rfl,nw fun q3 H8 s8 e8=>?_⟩;refine ⟨_,rfl,nw fun q4 H9 s9 e9=>?_⟩;refine nw fun q5 H10 s10 e10=>?_;refine nw fun q6 H11 s11 e11=>?_;refine ⟨_,rfl,tr,_,_,_,rfl,rfl,SqT.of ((s5.trans (s6.trans (s7.trans (s8.trans (s9.trans (s10.trans (s11))))))) _ _ et),zg (j:=1) rfl,nw fun q7 H12 s12 e12=>?_⟩;refine nw fun q8 H13 s13 e13=>?_;refine hz _ _ (hd fun Z hz=>?_);refine ⟨_,rfl,_,rfl,_,rfl,_,rfl,nw fun q9 H14 s14 e14=>?_⟩;refine ⟨_,rfl,nw fun q10 H15 s15 e15=>?_⟩;refine nw fun q11 H16 s16 e16=>?_;refine nw fun q12 H17 s17 e17=>?_;refine nw fun q13 H18 s18 e18=>?_;refine ⟨_,rfl,_,_,rfl,rfl,⟨by decide,by decide⟩,_,_,rfl,rfl,by decide,_,_,rfl,rfl,zHH e18 c1 (by omega) fun q14 H19 s19 e19=>?_⟩;refine nw fun q15 H20 s20 e20=>?_;refine nw fun q16 H21 s21 e21=>?_;refine cl ((s14.trans (s15.trans (s16.trans (s17.trans (s18.trans (s19.trans (s20.trans (s21)))))))) _ _ e13) e21 fun q17 H22 s22 e22=>?_;refine hz _ _ (hd fun Z hz=>?_);have t21:=s22;have t20:=s21.trans t21;have t19:=s20.trans t20;have t18:=s19.trans t19;have t17:=s18.trans t18;have t16:=s17.trans t17;have t15:=s16.trans t16;have t14:=s15.trans t15;have t13:=s14.trans t14;have t12:=s13.trans t13;have t11:=s12.trans t12;have t10:=s11.trans t11;have t9:=s10.trans t10;have t8:=s9.trans t9;have t7:=s8.trans t8;have t6:=s7.trans t7;have t5:=s6.trans t6;have t4:=s5.trans t5;have sS:zA H4 H22:=t4;have f1:Sml H22 (.ref q2):=zHx (xlf.same sS) hm rfl rfl hm c1 c3 (t7 _ _ e7) (t6 _ _ e6);have f2:Sml H22 (.ref lf):=⟨.nam m,xlf.same sS,hm,by simp only [zQ];omega,by simp only [ze];omega⟩;have f3:Sml H22 (.ref q6):=⟨.num 1 1 (some [(m,2)]),⟨q6,q3,_,rfl,(t11 _ _ e11),(t8 _ _ e8),q5,[q4],rfl,(t10 _ _ e10),.cons (t9 _ _ e9) .nil⟩,⟨by decide,by decide,by decide,zNg hm (by decide) (by decide)⟩,by simp only [zQ];omega,by simp only [ze];omega⟩;have f4:w0≠ "show" ->Sml H22 (.ref q7):=fun z=>by
    obtain ⟨n1,rfl,h1⟩:=hw0 z;exact ⟨.nam n1,⟨q7,rfl,(t12 _ _ e12)⟩,h1,by simp only [zQ];omega,by simp only [ze];omega⟩
   have f5:Sml H22 (.ref q9):=⟨.loop m (.nam m) 2 (.nam m),⟨q9,_,_,rfl,(t14 _ _ e14),xlf.same sS,xlf.same sS⟩,⟨hm,hm,by decide,by decide,hm⟩,by simp only [zQ];omega,by simp only [ze];omega⟩;have x12:Xt H22 (.num 1 1 (some [])) (.ref q12):=⟨q12,q10,_,rfl,(t17 _ _ e17),(t15 _ _ e15),q11,[],rfl,(t16 _ _ e16),.nil⟩;have f6:Sml H22 (.ref q15):=zHx x12 ⟨by decide,by decide,by decide,zDi⟩ rfl rfl hm c1 c3 (t20 _ _ e20) (t19 _ _ e19);have eS:H22 q17=some (.lst [.ref q2,.ref lf,.ref q6,.ref q7,.ref q9,.ref q15]):=e22;have s0S:zA H H22:=s04.trans sS;have hr:=hr.same s0S;have et:=sS _ _ et;clear x12;generalize H22=G at*;have fin: ∀(G':Hp) (v':V) (r':Rw) (o9:Option V),zA G G'->Rt G' r' v'->OkR r'->SmR (k+3) (d+1) r'->zAf r'=zAf r->
     Z [some (.ref t),some (.int n),some (.int (a:Int)),some v',some (.int (n/16)),some (.ref aN),some (.str m),some (.ref lf),some (.ref q17),o9] G':=by
    intro G' v' r' o9 sG hr' ok' sm' un';have et':=(s0S.trans sG) _ _ pg.at_;refine hz _ _ ?_;refine ⟨_,rfl,_,rfl,_,rfl,sto et' al fun y1 J1 z1 y1e=>⟨_,rfl,nw fun y2 J2 z2 y2e=>ct (z2 _ _ y1e) y2e (fun y3 J3 z3 y3e=>?_) (by simp;omega)⟩⟩;have sJ:=z1.trans (z2.trans z3);refine ⟨_,rfl,_,rfl,_,_,rfl,rfl,_,rfl,sfr (sJ _ _ et') al fun y4 J4 z4 y4e=>ct (z4 _ _ y3e) y4e (fun p H' s' e'=>?_) (by simp;omega)⟩;have s2':=sJ.trans (z4.trans s');exact q p H' _ _ ((s0S.trans sG).trans s2') (pg.set ((s0S.trans sG).trans s2') er (hr'.same s2') ok' sm' un' e')
   have mem:r∈rs:=zUa er;have smr:=pg.sm r mem;have m4:0<=n/16/4 % 6:=by omega
   have m6:n/16/4 % 6<6:=by omega
   have sel: ∀{G':Hp},zA G G'-> ∀c3:n/16/4 % 6=3->w0≠ "show",∃v,atI [.ref q2,.ref lf,.ref q6,.ref q7,.ref q9,.ref q15] (n/16/4 % 6)=some v/\Sml G' v:=fun s' c3=>zTa m4 m6 (f1.same s') (f2.same s') (f3.same s') (fun z=>(f4 (c3 z)).same s') (f5.same s') (f6.same s');cases r with
   | unit n1=>
    obtain ⟨tr2,e2,et2⟩:=hr;cases ev.symm.trans e2;refine ⟨_,rfl,tr,_,_,_,rfl,rfl,SqT.of et2,rfl,nw fun y0 J0 z0 y0e=>?_⟩;have et3:=z0 _ _ et2;refine ⟨y0,_,rfl,.inr (SqT.of y0e),rfl,rfl,_,rfl,zD ⟨_,rfl,tr,_,_,_,rfl,rfl,SqT.of et3,rfl,rfl,_,rfl,zD ⟨_,rfl,tr,_,_,_,rfl,rfl,SqT.of et3,rfl,rfl,_,rfl,zD ⟨_,rfl,tr,_,_,_,rfl,rfl,SqT.of et3,rfl,rfl,_,rfl,zI ?_⟩⟩⟩⟩;refine ⟨_,rfl,tr,_,_,_,rfl,rfl,SqT.of et3,rfl,_,rfl,nw fun y1 J1 z1 y1e=>?_⟩;refine ⟨_,rfl,_,rfl,slc [] (z1 _ _ et3) fun y2 J2 z2 y2e=>?_⟩;refine ⟨y1,y2,_,_,rfl,rfl,SqT.of (z2 _ _ y1e),SqT.of y2e,bs 2,fun z=>(by cases z),fun _ _=>?_,fun _ z=>absurd rfl z⟩;have sJ:=z0.trans (z1.trans z2);exact fin J2 (.ref y1) (.unit m) none sJ ⟨y1,rfl,z2 _ _ y1e⟩ hm trivial rfl
   | take n1 us=>
    obtain ⟨tr2,yu,e2,et2,hu⟩:=hr;cases ev.symm.trans e2;refine ⟨_,rfl,tr,_,_,_,rfl,rfl,SqT.of et2,rfl,nw fun y0 J0 z0 y0e=>?_⟩;have et3:=z0 _ _ et2;refine ⟨y0,_,rfl,.inr (SqT.of y0e),rfl,rfl,_,rfl,zD ⟨_,rfl,tr,_,_,_,rfl,rfl,SqT.of et3,rfl,rfl,_,rfl,zD ⟨_,rfl,tr,_,_,_,rfl,rfl,SqT.of et3,rfl,rfl,_,rfl,zI ?_⟩⟩⟩;refine ⟨_,rfl,tr,_,_,_,rfl,rfl,SqT.of et3,rfl,_,rfl,nw fun y1 J1 z1 y1e=>?_⟩;refine nw fun y2 J2 z2 y2e=>?_;refine nw fun y3 J3 z3 y3e=>?_;exact fin J3 (.ref y3) (.take n1 [(m,1)]) none (z0.trans (z1.trans (z2.trans z3))) ⟨y3,_,rfl,y3e,y2,[y1],rfl,z3 _ _ y2e,.cons ((z2.trans z3) _ _ y1e) .nil⟩ ⟨okr.1,zNg hm (by decide) (by decide)⟩ trivial rfl
   | let' n1 e=>
    obtain ⟨tr2,x,e2,et2,hx⟩:=hr;cases ev.symm.trans e2;have ne0:w0≠ "show" :=by
     cases et.symm.trans et2;decide
    refine ⟨_,rfl,tr,_,_,_,rfl,rfl,SqT.of et2,rfl,nw fun y0 J0 z0 y0e=>?_⟩;have et3:=z0 _ _ et2;refine ⟨y0,_,rfl,.inr (SqT.of y0e),rfl,rfl,_,rfl,zI ⟨_,rfl,_,_,rfl,rfl,by decide,_,_,rfl,rfl,_,rfl,zp (fun c0=>?_) (fun c0=>?_)⟩⟩
    ·refine hd fun Z2 hz2=>?_;have ex: ∀(G2:Hp) (v:V),zA J0 G2->Sml G2 v->Z2 [some (.ref t),some (.int n),some (.int (a:Int)),some (.ref tr),some (.int (n/16)),some (.ref aN),some (.str m),some (.ref lf),some (.ref q17),some v] G2:=by
      rintro G2 v sg ⟨o,xo,oko,no4,do2⟩;have et4:=sg _ _ et3;have s02:=z0.trans sg;refine hz2 _ _ ?_;refine ⟨_,rfl,_,rfl,_,rfl,slc [.str "let",.str n1] et4 fun y1 J1 z1 y1e=>?_⟩;have et5:=z1 _ _ et4;refine ⟨_,rfl,_,rfl,tr,_,rfl,.inr (SqT.of et5),_,_,rfl,rfl,tr,_,_,_,rfl,rfl,SqT.of et5,rfl,_,rfl,_,_,rfl,rfl,⟨by decide,by decide⟩,_,rfl,x,v,n/16/81,e,o,rfl,by omega,hx.same (s02.trans z1),okr.2.ok,by have:=smr.2;omega,xo.same z1,oko,no4,do2,fun J2 v2 e2 z2 x2 ok2 nn2 dd2=>nw fun y2 J3 z3 y3e=>?_⟩;refine ct ((z2.trans z3) _ _ y1e) y3e fun y4 J4 z4 y4e=>?_;have sJ:=s02.trans (z1.trans (z2.trans (z3.trans z4)));have n1e:=smr.1;have d1e:=smr.2;exact fin J4 (.ref y4) (.let' n1 e2) _ sJ ⟨y4,v2,rfl,y4e,x2.same (z3.trans z4)⟩ ⟨okr.1,ok2,by omega,by omega⟩ ⟨by omega,by omega⟩ rfl
     obtain ⟨v,env,hv⟩:=sel z0 (fun _=>ne0);exact ⟨_,rfl,tr,_,_,_,rfl,rfl,SqT.of et3,rfl,rfl,_,rfl,zI ⟨_,rfl,_,rfl,_,_,rfl,rfl,⟨by decide,by decide⟩,_,_,rfl,rfl,by decide,q17,_,_,_,rfl,rfl,SqL.of (z0 _ _ eS),env,ex J0 v (zA.refl J0) hv⟩⟩
    ·refine ⟨_,rfl,tr,_,_,_,rfl,rfl,SqT.of et3,rfl,rfl,_,rfl,zD ⟨_,rfl,tr,_,_,_,rfl,rfl,SqT.of et3,rfl,rfl,_,rfl,zD ⟨_,rfl,tr,_,_,_,rfl,rfl,SqT.of et3,rfl,rfl,_,rfl,zI ?_⟩⟩⟩;refine ⟨_,rfl,tr,_,_,_,rfl,rfl,SqT.of et3,rfl,_,rfl,nw fun y1 J1 z1 y1e=>?_⟩;refine ⟨_,rfl,_,rfl,slc [x] (z1 _ _ et3) fun y2 J2 z2 y2e=>?_⟩;refine ct (z2 _ _ y1e) y2e fun y3 J3 z3 y3e=>?_;have sJ:=z0.trans (z1.trans (z2.trans z3));exact fin J3 (.ref y3) (.let' m e) none sJ ⟨y3,x,rfl,y3e,hx.same sJ⟩ ⟨hm,okr.2⟩ (smr.mono (by omega) (by omega)) rfl
   | fun' n1 ps e=>
    obtain ⟨tr2,qa,x,e2,et2,h0,hx⟩:=hr;cases ev.symm.trans e2;have ne0:w0≠ "show" :=by
     cases et.symm.trans et2;decide
    refine ⟨_,rfl,tr,_,_,_,rfl,rfl,SqT.of et2,rfl,nw fun y0 J0 z0 y0e=>?_⟩;have et3:=z0 _ _ et2;refine ⟨y0,_,rfl,.inr (SqT.of y0e),rfl,rfl,_,rfl,zI ⟨_,rfl,_,_,rfl,rfl,by decide,_,_,rfl,rfl,_,rfl,zp (fun c0=>?_) (fun c0=>?_)⟩⟩
    ·refine hd fun Z2 hz2=>?_;have ex: ∀(G2:Hp) (v:V),zA J0 G2->Sml G2 v->Z2 [some (.ref t),some (.int n),some (.int (a:Int)),some (.ref tr),some (.int (n/16)),some (.ref aN),some (.str m),some (.ref lf),some (.ref q17),some v] G2:=by
      rintro G2 v sg ⟨o,xo,oko,no4,do2⟩;have et4:=sg _ _ et3;have s02:=z0.trans sg;refine hz2 _ _ ?_;refine ⟨_,rfl,_,rfl,_,rfl,slc [.str "fun",.str n1,.ref qa] et4 fun y1 J1 z1 y1e=>?_⟩;have et5:=z1 _ _ et4;refine ⟨_,rfl,_,rfl,tr,_,rfl,.inr (SqT.of et5),_,_,rfl,rfl,tr,_,_,_,rfl,rfl,SqT.of et5,rfl,_,rfl,_,_,rfl,rfl,⟨by decide,by decide⟩,_,rfl,x,v,n/16/81,e,o,rfl,by omega,hx.same (s02.trans z1),okr.2.2.2.2.ok,by have:=smr.2;omega,xo.same z1,oko,no4,do2,fun J2 v2 e2 z2 x2 ok2 nn2 dd2=>nw fun y2 J3 z3 y3e=>?_⟩;refine ct ((z2.trans z3) _ _ y1e) y3e fun y4 J4 z4 y4e=>?_;have sJ:=s02.trans (z1.trans (z2.trans (z3.trans z4)));have n1e:=smr.1;have d1e:=smr.2;exact fin J4 (.ref y4) (.fun' n1 ps e2) _ sJ ⟨y4,qa,v2,rfl,y4e,sJ _ _ h0,x2.same (z3.trans z4)⟩ ⟨okr.1,okr.2.1,okr.2.2.1,okr.2.2.2.1,ok2,by omega,by omega⟩ ⟨by omega,by omega⟩ rfl
     obtain ⟨v,env,hv⟩:=sel z0 (fun _=>ne0);exact ⟨_,rfl,tr,_,_,_,rfl,rfl,SqT.of et3,rfl,rfl,_,rfl,zI ⟨_,rfl,_,rfl,_,_,rfl,rfl,⟨by decide,by decide⟩,_,_,rfl,rfl,by decide,q17,_,_,_,rfl,rfl,SqL.of (z0 _ _ eS),env,ex J0 v (zA.refl J0) hv⟩⟩
    ·refine ⟨_,rfl,tr,_,_,_,rfl,rfl,SqT.of et3,rfl,rfl,_,rfl,zI ?_⟩;obtain ⟨okn,o1,o3,okp,oke⟩:=okr;obtain ⟨p1,pr,rfl⟩: ∃p1 pr,ps=p1::pr:=List.exists_cons_of_length_pos o1;refine ⟨_,rfl,_,rfl,slc [.str "fun",.str n1] et3 fun y1 J1 z1 y1e=>?_⟩;have et4:=z1 _ _ et3;have h0:=(z0.trans z1) _ _ h0;refine ⟨_,rfl,tr,_,_,_,rfl,rfl,SqT.of et4,rfl,_,rfl,tr,_,_,_,rfl,rfl,SqT.of et4,rfl,qa,_,_,_,rfl,rfl,SqT.of h0,zg (j:=0) rfl,_,rfl,nw fun y2 J2 z2 y2e=>ct (z2 _ _ h0) y2e (fun y3 J3 z3 y3e=>⟨_,rfl,slw y3e fun y4 J4 z4 y4e=>nw fun y5 J5 z5 y5e=>?_⟩) (by simp at o3⊢;omega)⟩;have u5:=z2.trans (z3.trans (z4.trans z5));refine ct (u5 _ _ y1e) y5e fun y6 J6 z6 y6e=>⟨_,rfl,_,rfl,slc [x] ((u5.trans z6) _ _ et4) fun y7 J7 z7 y7e=>ct (z7 _ _ y6e) y7e fun y8 J8 z8 y8e=>?_⟩;have u8:=z5.trans (z6.trans (z7.trans z8));have sJ:=z0.trans (z1.trans (z2.trans (z3.trans (z4.trans u8))));have y4e:J4 y4=some (.tup (((p1::pr++ [p1,m]).take 3).map V.str)):=by
      rw [y4e];congr 2;rw [List.map_take,zUT];exact zKl (by simp)
     refine fin J8 (.ref y8) (.fun' n1 ((p1::pr++ [p1,m]).take 3) e) none sJ ⟨y8,y4,x,rfl,y8e,u8 _ _ y4e,hx.same sJ⟩ ⟨okn,by simp,List.length_take_le ..,fun p hp=>?_,oke⟩ (smr.mono (by omega) (by omega)) rfl;rcases zUq.mp (List.mem_of_mem_take hp) with z | z
     ·exact okp p z
     ·rcases zUo.mp z with rfl | z
      ·exact okp _ (List.mem_cons_self ..)
      ·rw [zUs.mp z];exact hm
   | show' e=>
    obtain ⟨tr2,x,e2,et2,hx⟩:=hr;cases ev.symm.trans e2;refine ⟨_,rfl,tr,_,_,_,rfl,rfl,SqT.of et2,rfl,nw fun y0 J0 z0 y0e=>?_⟩;have et3:=z0 _ _ et2;refine ⟨y0,_,rfl,.inr (SqT.of y0e),rfl,rfl,_,rfl,zI ⟨_,rfl,_,_,rfl,rfl,by decide,_,_,rfl,rfl,_,rfl,zp (fun c0=>?_) (fun c0=>?_)⟩⟩
    ·refine hd fun Z2 hz2=>?_;have ex: ∀(G2:Hp) (v:V),zA J0 G2->Sml G2 v->Z2 [some (.ref t),some (.int n),some (.int (a:Int)),some (.ref tr),some (.int (n/16)),some (.ref aN),some (.str m),some (.ref lf),some (.ref q17),some v] G2:=by
      rintro G2 v sg ⟨o,xo,oko,no4,do2⟩;have et4:=sg _ _ et3;have s02:=z0.trans sg;refine hz2 _ _ ?_;refine ⟨_,rfl,_,rfl,_,rfl,slc [.str "show"] et4 fun y1 J1 z1 y1e=>?_⟩;have et5:=z1 _ _ et4;refine ⟨_,rfl,_,rfl,tr,_,rfl,.inr (SqT.of et5),_,_,rfl,rfl,tr,_,_,_,rfl,rfl,SqT.of et5,rfl,_,rfl,_,_,rfl,rfl,⟨by decide,by decide⟩,_,rfl,x,v,n/16/81,e,o,rfl,by omega,hx.same (s02.trans z1),okr.ok,by have:=smr.2;omega,xo.same z1,oko,no4,do2,fun J2 v2 e2 z2 x2 ok2 nn2 dd2=>nw fun y2 J3 z3 y3e=>?_⟩;refine ct ((z2.trans z3) _ _ y1e) y3e fun y4 J4 z4 y4e=>?_;have sJ:=s02.trans (z1.trans (z2.trans (z3.trans z4)));have n1e:=smr.1;have d1e:=smr.2;exact fin J4 (.ref y4) (.show' e2) _ sJ ⟨y4,v2,rfl,y4e,x2.same (z3.trans z4)⟩ ⟨ok2,by omega,by omega⟩ ⟨by omega,by omega⟩ rfl
     refine ⟨_,rfl,tr,_,_,_,rfl,rfl,SqT.of et3,rfl,rfl,_,rfl,zD ⟨_,rfl,_,_,rfl,rfl,⟨by decide,by decide⟩,_,_,rfl,rfl,by decide,rfl,_,rfl,zp (fun c=>?_) (fun c=>?_)⟩⟩
     ·obtain ⟨v,env,hv⟩:=sel z0 (fun z=>by rw [z] at c;exact absurd c (by decide));exact ⟨_,rfl,_,rfl,_,_,rfl,rfl,⟨by decide,by decide⟩,_,_,rfl,rfl,by decide,q17,_,_,_,rfl,rfl,SqL.of (z0 _ _ eS),env,ex J0 v (zA.refl J0) hv⟩
     ·exact ⟨_,rfl,ex J0 _ (zA.refl J0) (f2.same z0)⟩
    ·exact ⟨_,rfl,tr,_,_,_,rfl,rfl,SqT.of et3,rfl,rfl,_,rfl,zD ⟨_,rfl,tr,_,_,_,rfl,rfl,SqT.of et3,rfl,rfl,_,rfl,zD ⟨_,rfl,tr,_,_,_,rfl,rfl,SqT.of et3,rfl,rfl,_,rfl,zD (fin J0 _ (.show' e) none z0 ⟨tr,x,rfl,et3,hx.same z0⟩ okr (smr.mono (by omega) (by omega)) rfl)⟩⟩⟩
theorem zJl:Nm "a" :=by show yJ (.str "a")=true;decide+kernel
theorem zQr:Nm "b" :=by show yJ (.str "b")=true;decide+kernel
theorem zHj:Nm "f" :=by show yJ (.str "f")=true;decide+kernel
theorem fm{p:V->Prop}(h:p a)(t: ∀v∈l,p v): ∀v∈a::l,p v:=fun v hv=>(zUo.mp hv).elim (fun e=>e▸h) (t v)
theorem fm0{p:V->Prop}: ∀v∈([] :List V),p v:=fun _ h=>nomatch h
theorem zRU(e:H q=some (.tup [.str "x",.int 5])):PaB H (.ref q) false:=
 (show ([.str "x",.int 5] :List V).all yJ=false by decide+kernel)▸PaB.all e (by decide) (by decide) (fm (zDF (by decide+kernel)) (fm ⟨.int 5,fun _ z=>(by cases z)⟩ fm0))
theorem zSZ(e1:H p=some (.tup [.str "unit",.str "a"]))(e2:H q=some (.tup (List.replicate 7 (.ref p)))):PrB H (.ref q) false:=by
 have r1:Rt H (.unit "a") (.ref p)/\OkR (.unit "a"):=⟨⟨p,rfl,e1⟩,zJl⟩;have k:RtL H (List.replicate 7 (.ref p)) (List.replicate 7 (.unit "a")):= .cons r1 (.cons r1 (.cons r1 (.cons r1 (.cons r1 (.cons r1 (.cons r1 .nil))))));exact (show decide (yb (List.replicate 7 (.unit "a"))<=6)=false by decide)▸PrB.good e2 (show 1<=7 by decide) (show 7<=16 by decide) k
theorem zPy(h:Pg H t xs rs k d)(s:zA H H')(al:a<xs.length)(hv:OdR H' v')(ep:H' p=some (.tup (xs.take a++ [v'] ++xs.drop (a+1)))):PrB H' (.ref p) false:=by
 have l1:=h.l1;have l16:=h.l16;have b:=(RtL.same h.rows s).b;refine .bad ep ?_ ?_ (Paired.app (Paired.app (Paired.take' b a) (.cons (.inr ⟨hv,rfl⟩) .nil)) (Paired.drop0 b (a+1))) ?_
 ·simp only [zUY,List.length_take,List.length_drop,List.length_singleton];omega
 ·simp only [zUY,List.length_take,List.length_drop,List.length_singleton];omega
 ·simp
def zRN:Sp:=fun vs H Q _=> ∃(t:Addr) (n:Int) (xs:List V) (rs:List Rw) (k d:Nat),vs= [.ref t,.int n] /\0<=n/\Pg H t xs rs k d/\ ∀v H',zA H H'->PrB H' v false->Q v H'
theorem zCn:FnScope ["_law_program_here","_law_number_here","_law_one","_law_rows","_law_at","_law_some"] ["_law_program_here","_law_number_here"] (zK zKM):=fs
theorem zSK(F:Fun K "_law_odd" "_law_odd" zKM f fd)(B:Bn mg):FnOk P w K mg base CX0 1 f fd ["_law_program_here","_law_number_here"] zRN:=by
 refine F.ok zCn (fun vs H Q E h=>?_) (fun _ A _ s H vs Q E hr h=>?_)
 ·obtain ⟨t,n,xs,rs,k,d,rfl,_⟩:=h;rfl
 ·obtain ⟨t,n,xs,rs,k,d,rfl,n0,pg,q⟩:=h;refine ⟨_,QB.out (zF
   (zY 2 zCn.nd rfl (zM (qc zG (qc (zM (qc zC (qc zC zB rfl) rfl)) (qc (zM zB) zB rfl) rfl) rfl)) rfl) (zF
   (zY 3 zCn.nd rfl (zd (qc zBX (qc zG (qc (zd (qc zG (qc (qw 2 rfl) zB rfl) rfl)) (qc (zM zB) (qc (zM (qc zG zB rfl)) (qc (zM (qc zG (qc zBX zB rfl) rfl)) (qc (zM (qc zG (qc (qw 2 rfl) zB rfl) rfl)) (qc (zM (qc zG (qc zG zB rfl) rfl)) (qc (zM (qc zG (qc zG zB rfl) rfl)) zB rfl) rfl) rfl) rfl) rfl) rfl) rfl) rfl) rfl)) rfl) (zF
   (zY 3 zCn.nd rfl (zAd (qw 3 rfl) (zd (qc (zM (qc zG (qc zC zB rfl) rfl)) (qc (zM (qc zG (qc zG (qc zG zB rfl) rfl) rfl)) (qc (zM (qc zG (qc zG zB rfl) rfl)) (qc (zM (qc zG (qc zG (qc zBX zB rfl) rfl) rfl)) (qc (zM (qc zG (qc zG (qc (zd (qc (zM (qc zG (qc zC zB rfl) rfl)) zB rfl)) zB rfl) rfl) rfl)) zB rfl) rfl) rfl) rfl) rfl))) rfl) (zF
   (zY 3 zCn.nd rfl (zAd (qw 3 rfl) (zd (qc (zM (qc zG (qc zG (qc (zM (qc (zM (qc zG (qc zC zB rfl) rfl)) zB rfl)) zB rfl) rfl) rfl)) (qc (zM (qc zG (qc zG zB rfl) rfl)) (qc (zM (qc zG (qc zG (qc (qw 2 rfl) (qc (qw 2 rfl) zB rfl) rfl) rfl) rfl)) (qc (zM (qc zG (qc (zd (qc zG zB rfl)) (qc (qw 2 rfl) zB rfl) rfl) rfl)) zB rfl) rfl) rfl) rfl))) rfl) (zF
   (zY 3 zCn.nd rfl (zAd (qw 3 rfl) (zd (qc (zM (qc (zd (qc zG zB rfl)) (qc zG (qc (qw 2 rfl) zB rfl) rfl) rfl)) (qc (zM (qc zG (qc zG (qc (zM zB) (qc (qw 2 rfl) zB rfl) rfl) rfl) rfl)) (qc (zM (qc zG (qc zG (qc (zd (qc zG zB rfl)) (qc (qw 2 rfl) zB rfl) rfl) rfl) rfl)) (qc (zM (qc zBX (qc (qw 2 rfl) zB rfl) rfl)) zB rfl) rfl) rfl) rfl))) rfl) (zF
   (zY 3 zCn.nd rfl (zAd (qw 3 rfl) (zd (qc (zM (qc zG (qc zG (qc (zM (qc zG (qc zG (qc zG (qc zG zB rfl) rfl) rfl) rfl)) (qc (qw 2 rfl) zB rfl) rfl) rfl) rfl)) (qc (zM (qc zG (qc zG (qc (zM (qc zG (qc zC zB rfl) rfl)) (qc (qw 2 rfl) zB rfl) rfl) rfl) rfl)) (qc (zM (qc zG (qc zG (qc zG (qc (qw 2 rfl) zB rfl) rfl) rfl) rfl)) zB rfl) rfl) rfl))) rfl) (zF
   (zY 3 zCn.nd rfl (zAd (qw 3 rfl) (zd (qc (zM (qc zG (qc zG (qc (zM (qc zG zB rfl)) zB rfl) rfl) rfl)) (qc (zM (qc zG (qc zG (qc (qw 2 rfl) zB rfl) rfl) rfl)) (qc zDz (qc zC (qc zAP zB rfl) rfl) rfl) rfl) rfl))) rfl) (zF
   (zY 4 zCn.nd rfl (zl (qw 1 rfl) (zq (zm (K:=K) rfl) rfl B.len yB (qc (qw 0 rfl) zB rfl) rfl)) rfl) (zF
   (zV (zL zZ (zl (zj (qw 1 rfl) zC) zC) zC rfl) (zF
    (zY 5 zCn.nd rfl (zd (qc zBX (qc (zM zB) (qc (zd zB) (qc (zBZ (zBz (K:=K) rfl) rfl B.list zCx (qc (qw 0 rfl) zB rfl) rfl) (qc (yt (yi (K:=K) rfl) (qw 0 rfl) (zFa (zM (qc (zM (qc zG (qc (qw 2 rfl) zB rfl) rfl)) zB rfl)) zC)) (qc zG (qc zDz (qc zC zB rfl) rfl) rfl) rfl) rfl) rfl) rfl) rfl)) rfl) (zH
    (zS (yN (K:=K) rfl (qw 5 rfl) (zl (zj (qw 1 rfl) zC) zC) (fun _ _=>rfl))))) zU) (zF
   (zV (zL zZ (zl (zj (qw 1 rfl) zC) zC) zC rfl) (zH
    (zS (zFa (zM (qc (zM (qc zG (qc zG zB rfl) rfl)) zB rfl)) zC))) zU) (zH
   (zS (yt (yi (K:=K) rfl) (yt (yi (K:=K) rfl) (zAe (K:=K) rfl (qw 0 rfl) yR (yE (qw 4 rfl))) (zM (qc (yN (K:=K) rfl (qw 3 rfl) (zl (zj (qw 1 rfl) zC) zC) (fun _ _=>rfl)) zB rfl))) (zAe (K:=K) rfl (qw 0 rfl) (yE (yg (qw 4 rfl) zC)) yR)))))))))))))),?_⟩
  clear B F;refine hd fun Z hz=>?_;refine nw fun p1 H1 s1 e1=>?_;refine nw fun p2 H2 s2 e2=>?_;refine nw fun p3 H3 s3 e3=>?_;refine hz _ _ (hd fun Z hz=>?_);have s0:zA H H3:=s1.trans (s2.trans s3);obtain ⟨oA,rfl⟩: ∃x,x=p3:=⟨_,rfl⟩;clear e1 e2 e3 s1 s2 s3;refine ⟨_,rfl,nw fun p4 H4 s4 e4=>?_⟩;refine nw fun p5 H5 s5 e5=>?_;refine nw fun p6 H6 s6 e6=>?_;refine nw fun p7 H7 s7 e7=>?_;refine ⟨_,rfl,nw fun p8 H8 s8 e8=>?_⟩;refine nw fun p9 H9 s9 e9=>?_;refine nw fun p10 H10 s10 e10=>?_;refine nw fun p11 H11 s11 e11=>?_;have t11:zA H11 H11:=zA.refl _;have t10:=s11.trans t11;have t9:=s10.trans t10;have t8:=s9.trans t9;have t7:=s8.trans t8;have t6:=s7.trans t7;have t5:=s6.trans t6;have t4:=s5.trans t5;have t3:=s4.trans t4;have A: ∀v∈ [.non,.str "show",.ref p4,.ref p5,.ref p6,.ref p7,.ref p8,.ref p9,.ref p10],OdR H11 v:=(fm (.wd (.noT .non)) (fm (.wd (.noT (.str _))) (fm (.wd (.noT (.lst (t4 _ _ e4)))) (fm (.wd (.emp (t5 _ _ e5))) (fm (.len (t6 _ _ e6) rfl (show ((1:Nat):Int)≠2 by decide)) (fm (.shw (t7 _ _ e7)) (fm (.no (t8 _ _ e8) rfl) (fm (.nam (t9 _ _ e9) rfl rfl (by decide) (zDF (by decide+kernel)) (by decide+kernel)) (fm (.nam (t10 _ _ e10) rfl rfl (by decide) (zDF (by decide+kernel)) (by decide+kernel)) fm0)))))))));obtain ⟨L,eL,B,lL⟩: ∃L,H11 p11=some (.lst L)/\(∀v∈L,OdR H11 v)/\L.length=9:=⟨_,e11,A,rfl⟩;have s0:=s0.trans t3;clear A e11 e10 e9 e8 e7 e6 e5 e4 t3 t4 t5 t6 t7 t8 t9 t10 t11 s4 s5 s6 s7 s8 s9 s10 s11;refine hz _ _ (hd fun Z hz=>?_);refine ⟨_,rfl,nw fun p12 H12 s12 e12=>?_⟩;refine nw fun p13 H13 s13 e13=>?_;refine nw fun p14 H14 s14 e14=>?_;refine nw fun p15 H15 s15 e15=>?_;refine nw fun p16 H16 s16 e16=>?_;refine nw fun p17 H17 s17 e17=>?_;refine nw fun p18 H18 s18 e18=>?_;refine nw fun p19 H19 s19 e19=>?_;have t19:zA H19 H19:=zA.refl _;have t18:=s19.trans t19;have t17:=s18.trans t18;have t16:=s17.trans t17;have t15:=s16.trans t16;have t14:=s15.trans t15;have t13:=s14.trans t14;have t12:=s13.trans t13;have t11:=s12.trans t12;have A: ∀v∈ [.ref p12,.ref p13,.ref p14,.ref p15,.ref p18],OdR H19 v:=(fm (.nam (t12 _ _ e12) rfl rfl (by decide) (⟨.int _,fun _ z=>(by cases z)⟩) rfl) (fm (.len (t13 _ _ e13) rfl (show ((3:Nat):Int)≠2 by decide)) (fm (.len (t14 _ _ e14) rfl (show ((2:Nat):Int)≠3 by decide)) (fm (.tak (t15 _ _ e15) zJl (.inl .non)) (fm (.tak (t18 _ _ e18) zJl (.inl (.lst (t17 _ _ e17)))) fm0)))));refine cls (t11 _ _ eL) e19 (by rw [lL];exact bs 14) fun p20 H20 s20 e20=>?_;obtain ⟨L2,eL2,B2,lL2⟩: ∃L2,H20 p20=some (.lst L2)/\(∀v∈L2,OdR H20 v)/\L2.length=14:=⟨_,e20,fun v hv=>(zUq.mp hv).elim (fun z=>(B v z).same (t11.trans s20)) fun z=>(A v z).same s20,by rw [zUY,lL];rfl⟩;have s0:=s0.trans (t11.trans s20);clear eL B lL;obtain ⟨L,rfl⟩: ∃x,x=L2:=⟨_,rfl⟩;have eL:=eL2;have B:=B2;have lL:=lL2;clear eL2 B2 lL2;clear A e20 e19 e18 e17 e16 e15 e14 e13 e12 t11 t12 t13 t14 t15 t16 t17 t18 t19 s12 s13 s14 s15 s16 s17 s18 s19 s20;refine hz _ _ (hd fun Z hz=>?_);refine ⟨_,rfl,nw fun p21 H21 s21 e21=>?_⟩;refine nw fun p22 H22 s22 e22=>?_;refine nw fun p23 H23 s23 e23=>?_;refine nw fun p24 H24 s24 e24=>?_;refine ⟨_,rfl,_,rfl,nw fun p25 H25 s25 e25=>?_⟩;refine nw fun p26 H26 s26 e26=>?_;refine ⟨_,rfl,nw fun p27 H27 s27 e27=>?_⟩;refine nw fun p28 H28 s28 e28=>?_;have t28:zA H28 H28:=zA.refl _;have t27:=s28.trans t28;have t26:=s27.trans t27;have t25:=s26.trans t26;have t24:=s25.trans t25;have t23:=s24.trans t24;have t22:=s23.trans t23;have t21:=s22.trans t22;have t20:=s21.trans t21;have A: ∀v∈ [.ref p23,.ref p24,.ref p25,.ref p27],OdR H28 v:=(fm (.tak (t23 _ _ e23) zJl (.inr ⟨[("b",10)],⟨_,[p21],rfl,(t22 _ _ e22),.cons (t21 _ _ e21) .nil⟩,⟨zQr,by decide,zHr zQr,trivial⟩,by simp,by decide+kernel⟩)) (fm (.len (t24 _ _ e24) rfl (show ((2:Nat):Int)≠3 by decide)) (fm (.len (t25 _ _ e25) rfl (show ((4:Nat):Int)≠3 by decide)) (fm (.nam (t27 _ _ e27) rfl rfl (by decide) (⟨.lst (t26 _ _ e26),fun _ z=>(by cases z)⟩) rfl) fm0))));refine cls (t20 _ _ eL) e28 (by rw [lL];exact bs 18) fun p29 H29 s29 e29=>?_;obtain ⟨L2,eL2,B2,lL2⟩: ∃L2,H29 p29=some (.lst L2)/\(∀v∈L2,OdR H29 v)/\L2.length=18:=⟨_,e29,fun v hv=>(zUq.mp hv).elim (fun z=>(B v z).same (t20.trans s29)) fun z=>(A v z).same s29,by rw [zUY,lL];rfl⟩;have s0:=s0.trans (t20.trans s29);clear eL B lL;obtain ⟨L,rfl⟩: ∃x,x=L2:=⟨_,rfl⟩;have eL:=eL2;have B:=B2;have lL:=lL2;clear eL2 B2 lL2;clear A e29 e28 e27 e26 e25 e24 e23 e22 e21 t20 t21 t22 t23 t24 t25 t26 t27 t28 s21 s22 s23 s24 s25 s26 s27 s28 s29;refine hz _ _ (hd fun Z hz=>?_);refine ⟨_,rfl,nw fun p30 H30 s30 e30=>?_⟩;refine ⟨_,rfl,nw fun p31 H31 s31 e31=>?_⟩;refine nw fun p32 H32 s32 e32=>?_;refine ⟨_,rfl,nw fun p33 H33 s33 e33=>?_⟩;refine nw fun p34 H34 s34 e34=>?_;refine ⟨_,rfl,nw fun p35 H35 s35 e35=>?_⟩;refine ⟨_,rfl,nw fun p36 H36 s36 e36=>?_⟩;refine nw fun p37 H37 s37 e37=>?_;have t37:zA H37 H37:=zA.refl _;have t36:=s37.trans t37;have t35:=s36.trans t36;have t34:=s35.trans t35;have t33:=s34.trans t34;have t32:=s33.trans t33;have t31:=s32.trans t32;have t30:=s31.trans t31;have t29:=s30.trans t30;have A: ∀v∈ [.ref p31,.ref p33,.ref p35,.ref p36],OdR H37 v:=(fm (.wd (.noS (t31 _ _ e31) (.lst (t30 _ _ e30)) rfl)) (fm (.par (t33 _ _ e33) zHj (.len (t32 _ _ e32) (.inl rfl) (by decide))) (fm (.par (t35 _ _ e35) zHj (.noT (.lst (t34 _ _ e34)))) (fm (.wd (.noS (t36 _ _ e36) .non rfl)) fm0))));refine cls (t29 _ _ eL) e37 (by rw [lL];exact bs 22) fun p38 H38 s38 e38=>?_;obtain ⟨L2,eL2,B2,lL2⟩: ∃L2,H38 p38=some (.lst L2)/\(∀v∈L2,OdR H38 v)/\L2.length=22:=⟨_,e38,fun v hv=>(zUq.mp hv).elim (fun z=>(B v z).same (t29.trans s38)) fun z=>(A v z).same s38,by rw [zUY,lL];rfl⟩;have s0:=s0.trans (t29.trans s38);clear eL B lL;obtain ⟨L,rfl⟩: ∃x,x=L2:=⟨_,rfl⟩;have eL:=eL2;have B:=B2;have lL:=lL2;clear eL2 B2 lL2;clear A e38 e37 e36 e35 e34 e33 e32 e31 e30 t29 t30 t31 t32 t33 t34 t35 t36 t37 s30 s31 s32 s33 s34 s35 s36 s37 s38;refine hz _ _ (hd fun Z hz=>?_);refine ⟨_,rfl,nw fun p39 H39 s39 e39=>?_⟩;refine ⟨_,rfl,nw fun p40 H40 s40 e40=>?_⟩;refine nw fun p41 H41 s41 e41=>?_;refine ⟨_,rfl,nw fun p42 H42 s42 e42=>?_⟩;refine ⟨_,rfl,nw fun p43 H43 s43 e43=>?_⟩;refine nw fun p44 H44 s44 e44=>?_;have t44:zA H44 H44:=zA.refl _;have t43:=s44.trans t44;have t42:=s43.trans t43;have t41:=s42.trans t42;have t40:=s41.trans t41;have t39:=s40.trans t40;have t38:=s39.trans t39;have A: ∀v∈ [.ref p40,.ref p42,.ref p43],OdR H44 v:=(fm (.par (t40 _ _ e40) zHj (.len (t39 _ _ e39) (.inr (by decide)) (by decide))) (fm (.par (t42 _ _ e42) zHj (zRU (t41 _ _ e41))) (fm (.par (t43 _ _ e43) zHj (.noT (.str _))) fm0)));refine cls (t38 _ _ eL) e44 (by rw [lL];exact bs 25) fun p45 H45 s45 e45=>?_;obtain ⟨L2,eL2,B2,lL2⟩: ∃L2,H45 p45=some (.lst L2)/\(∀v∈L2,OdR H45 v)/\L2.length=25:=⟨_,e45,fun v hv=>(zUq.mp hv).elim (fun z=>(B v z).same (t38.trans s45)) fun z=>(A v z).same s45,by rw [zUY,lL];rfl⟩;have s0:=s0.trans (t38.trans s45);clear eL B lL;obtain ⟨L,rfl⟩: ∃x,x=L2:=⟨_,rfl⟩;have eL:=eL2;have B:=B2;have lL:=lL2;clear eL2 B2 lL2;clear A e45 e44 e43 e42 e41 e40 e39 t38 t39 t40 t41 t42 t43 t44 s39 s40 s41 s42 s43 s44 s45;refine hz _ _ (hd fun Z hz=>?_);refine ⟨_,rfl,nw fun p46 H46 s46 e46=>?_⟩;refine nw fun p47 H47 s47 e47=>?_;refine ⟨_,rfl,nw fun p48 H48 s48 e48=>?_⟩;refine fun p49 hp49=>?_;obtain ⟨H49,g49,s49,e49⟩:=yH hp49 (.dK []);rw [g49];clear g49 hp49;refine nw fun p50 H50 s50 e50=>?_;have t50:zA H50 H50:=zA.refl _;have t49:=s50.trans t50;have t48:=s49.trans t49;have t47:=s48.trans t48;have t46:=s47.trans t47;have t45:=s46.trans t46;have A: ∀v∈ [.ref p47,.ref p48,.ref p49,.int 5,.bl true],OdR H50 v:=(fm (.len (t47 _ _ e47) rfl (show ((3:Nat):Int)≠4 by decide)) (fm (.nam (t48 _ _ e48) rfl rfl (by decide) (zDF (by decide+kernel)) (by decide+kernel)) (fm (.wd (.noT (.dic (t49 _ _ e49)))) (fm (.wd (.noT (.int 5))) (fm (.wd (.noT (.bl true))) fm0)))));refine cls (t45 _ _ eL) e50 (by rw [lL];exact bs 30) fun p51 H51 s51 e51=>?_;obtain ⟨L2,eL2,B2,lL2⟩: ∃L2,H51 p51=some (.lst L2)/\(∀v∈L2,OdR H51 v)/\L2.length=30:=⟨_,e51,fun v hv=>(zUq.mp hv).elim (fun z=>(B v z).same (t45.trans s51)) fun z=>(A v z).same s51,by rw [zUY,lL];rfl⟩;have s0:=s0.trans (t45.trans s51);clear eL B lL;obtain ⟨L,rfl⟩: ∃x,x=L2:=⟨_,rfl⟩;have eL:=eL2;have B:=B2;have lL:=lL2;clear eL2 B2 lL2;clear A e51 e50 e49 e48 e47 e46 t45 t46 t47 t48 t49 t50 s46 s47 s48 s49 s50 s51;refine hz _ _ (hd fun Z hz=>?_);have et:=s0 _ _ pg.at_;have l1:=pg.l1;have l16:=pg.l16;have lx:=Paired.len pg.rows;have a0:=zUP n (show ((xs.length:Nat):Int)≠0 by omega);have a1:=zUK n (show (0:Int)<((xs.length:Nat):Int) by omega);refine ⟨_,rfl,_,rfl,t,_,rfl,.inr (SqT.of et),_,_,rfl,rfl,by omega,hz _ _ (hd fun Z hz=>?_)⟩;obtain ⟨a,ha⟩: ∃a:Nat,n %((xs.length:Nat):Int)=(a:Int):=⟨(n %((xs.length:Nat):Int)).toNat,by omega⟩;rw [ha];have al:a<xs.length:=by omega
  refine ⟨_,rfl,_,_,rfl,rfl,⟨by decide,by decide⟩,_,_,rfl,rfl,by decide,rfl,_,rfl,zp (fun c=>?_) (fun c=>hz _ _ (hd fun Z hz=>?_))⟩
  ·refine hd fun Z hz=>?_;refine nw fun q1 J1 z1 y1=>?_;refine nw fun q2 J2 z2 y2=>?_;refine ⟨_,rfl,t,_,rfl,.inr (SqT.of ((z1.trans z2) _ _ et)),fun q3 hq3=>?_⟩;obtain ⟨J3,j3,z3,y3⟩:=yH hq3 (.lst xs);rw [j3];refine ⟨_,rfl,_,rfl,nw fun q4 J4 z4 y4=>?_⟩;refine nw fun q5 J5 z5 y5=>?_;refine zHH (c:=16) y5 (by decide) (by decide) fun q6 J6 z6 y6=>?_;have y6:J6 q6=some (.tup (List.replicate 16 (.ref q4))):=y6;have z16:=z1.trans (z2.trans (z3.trans (z4.trans (z5.trans z6))));refine ct (z16 _ _ et) y6 (fun q7 J7 z7 y7=>?_) (by simp;omega);refine fun q8 hq8=>?_;obtain ⟨J8,j8,z8,y8⟩:=yH hq8 (.dK []);rw [j8];refine nw fun q9 J9 z9 y9=>?_;have u8:=z9;have u7:=z8.trans u8;have u3:=z4.trans (z5.trans (z6.trans (z7.trans u7)));have u2:=z3.trans u3;have u1:=z2.trans u2;refine hz _ _ ?_;obtain ⟨v,ev,hv⟩:=zAJ (n:=n/80) (m:=8) (p:=fun v=>PrB J9 v false) (xs:= [.non,.ref q1,.ref q2,.ref q3,.ref q7,.str "show 1",.ref q8,.int 5])
    (fm (.noT .non) (fm (.len (u1 _ _ y1) (.inl rfl) (by decide)) (fm (.noT (.lst (u2 _ _ y2))) (fm (.noT (.lst (u3 _ _ y3))) (fm (.len (u7 _ _ y7) (.inr (by simp;omega)) (by simp;omega)) (fm (.noT (.str _)) (fm (.noT (.dic (u8 _ _ y8))) (fm (.noT (.int 5)) fm0)))))))) rfl (by decide)
   exact ⟨_,rfl,_,rfl,_,_,rfl,rfl,⟨by decide,by decide⟩,_,_,rfl,rfl,by decide,q9,_,_,_,rfl,rfl,SqL.of y9,ev,q v J9 (s0.trans (z1.trans u1)) hv⟩
  refine ⟨_,rfl,_,_,rfl,rfl,⟨by decide,by decide⟩,_,_,rfl,rfl,by decide,rfl,_,rfl,zp (fun c=>?_) (fun c=>hz _ _ ?_)⟩
  ·refine nw fun q1 J1 z1 y1=>?_;refine nw fun q2 J2 z2 y2=>?_;refine zHH (c:=7) y2 (by decide) (by decide) fun q3 J3 z3 y3=>?_;exact q (.ref q3) J3 (s0.trans (z1.trans (z2.trans z3))) (zSZ ((z2.trans z3) _ _ y1) y3)
  obtain ⟨v',ev,hv⟩:=zAJ (n:=n/80) (m:=30) (p:=fun v=>OdR H51 v) B (by rw [lL];rfl) (by decide);refine ⟨_,rfl,_,rfl,_,rfl,sto et al fun y1 J1 z1 y1e=>⟨_,rfl,_,rfl,_,_,rfl,rfl,⟨by decide,by decide⟩,_,_,rfl,rfl,by decide,p51,_,_,_,rfl,rfl,SqL.of (z1 _ _ eL),ev,nw fun y2 J2 z2 y2e=>ct (z2 _ _ y1e) y2e (fun y3 J3 z3 y3e=>?_) (by simp;omega)⟩⟩;have sJ:=z1.trans (z2.trans z3);refine ⟨_,rfl,_,rfl,_,_,rfl,rfl,_,rfl,sfr (sJ _ _ et) al fun y4 J4 z4 y4e=>ct (z4 _ _ y3e) y4e (fun p H' s' e'=>?_) (by simp;omega)⟩;have s2':=sJ.trans (z4.trans s');exact q (.ref p) H' (s0.trans s2') (zPy pg (s0.trans s2') al (hv.same s2') e')
structure ClsZ(mg:Str->Option Value)(c0 c1 c2 c3 c4 c5 c6 c7 c8 c9 c10 c11 c12:Addr):Prop where
 m0:mg "Twice" =some (.ref c0)
 m1:mg "NoName" =some (.ref c1)
 m2:mg "BadCount" =some (.ref c2)
 m3:mg "BadText" =some (.ref c3)
 m4:mg "BadName" =some (.ref c4)
 m5:mg "BadNumber" =some (.ref c5)
 m6:mg "BadRate" =some (.ref c6)
 m7:mg "BadTable" =some (.ref c7)
 m8:mg "BadUnit" =some (.ref c8)
 m9:mg "Clash" =some (.ref c9)
 m10:mg "NoRow" =some (.ref c10)
 m11:mg "Steep" =some (.ref c11)
 m12:mg "Unlike" =some (.ref c12)
structure LK(K:zUn)(c0 c1 c2 c3:Addr)(ds:List Addr)(C:Addr)(b0 b1 b2 b3:Bool):Prop where
 xc:XCls K C
 kv:PySem.W.kitOne K (.ref C) (.type "ValueError")=some true
 k0:PySem.W.kitOne K (.ref C) (.ref c0)=some b0
 k1:PySem.W.kitOne K (.ref C) (.ref c1)=some b1
 k2:PySem.W.kitOne K (.ref C) (.ref c2)=some b2
 k3:PySem.W.kitOne K (.ref C) (.ref c3)=some b3
 ks: ∀c∈ds,PySem.W.kitOne K (.ref C) (.ref c)=some false
structure Rfs(K:zUn)(c0 c1 c2 c3:Addr)(ds:List Addr)(ME:Addr):Prop where
 l0:LK K c0 c1 c2 c3 ds c0 true false false false
 l1:LK K c0 c1 c2 c3 ds c1 false true false false
 l2:LK K c0 c1 c2 c3 ds c2 false false true false
 l3:LK K c0 c1 c2 c3 ds c3 false false false true
 x0:PySem.W.exmOne K (.ref c0) (.ref ME)=some true
 x1:PySem.W.exmOne K (.ref c1) (.ref ME)=some true
 x2:PySem.W.exmOne K (.ref c2) (.ref ME)=some true
 x3:PySem.W.exmOne K (.ref c3) (.ref ME)=some true
 r0:yO K c0 "row" /\yO K c0 "name"
 r1:yO K c1 "row" /\yO K c1 "name"
 r2:yO K c2 "row" /\yO K c2 "name"
 a3:yO K c3 "at"
def Tw(H:Hp)(Q:VK)(xs:List V):Prop:= ∀r H',zA H H'->H' r=some (.tup xs)->Q (.ref r) H'
def EX(c0 c1 c2 c3:Addr)(Q:VK):XK:=fun cls d H=>
 (∃k dx x y,cls= .ref (cK c0 c1 c2 k)/\d=some dx/\H dx=some (XD dx (yr "name" y [("row",x)]))/\Tw H Q [.str (zJt k),x,y])\/
 (∃dx x,cls= .ref c3/\d=some dx/\H dx=some (XD dx [("at",x)])/\Tw H Q [.str "text",x])
theorem zEo.mono(f: ∀cls d H,E cls d H->E' cls d H)(h:zEo TW NN BC BT vs H Q E):zEo TW NN BC BT vs H Q E':=by
 obtain ⟨x,e,h⟩:=h;refine ⟨x,e,?_⟩;rcases h with ⟨h,q⟩|⟨t,xs,rs,a,b,c,d,g,i,q⟩
 ·exact .inl ⟨h,fun H' dx s e=>f _ _ _ (q H' dx s e)⟩
 ·refine .inr ⟨t,xs,rs,a,b,c,d,g,i,?_⟩;generalize zAR [] 0 rs=o at q⊢
  match o,q with
  | none,q=>exact q
  | some (k,i,n),q=>exact fun H' dx s e=>f _ _ _ (q H' dx s e)
def zLt(c0 c1 c2 c3:Addr):Sp:=fun vs H Q _=> ∃x:V,vs= [x] /\zEo c0 c1 c2 c3 [x] H Q (EX c0 c1 c2 c3 Q)
theorem zJW:FnScope ["_law_program_here","e","_law_other","_law_kinds"] ["_law_program_here"] (zK zHL):=fs
theorem zRs(F:Fun K "_law_told" "_law_told" zHL f fd)(B:Bn mg)(Z:ClsZ mg c0 c1 c2 c3 c4 c5 c6 c7 c8 c9 c10 c11 c12)(mME:mg "MeasureError" =some (.ref ME))(R:Rfs K c0 c1 c2 c3 [c4,c5,c6,c7,c8,c9,c10,c11,c12] ME)
  (FN:Fun K "need_program" "need_program" zFc fN fdN) (bN:zO K fdN ["program"] []) (mN:mg "need_program" =some (.ref fN)) (GN:FnOk P w K mg base (yo P w) 21 fN fdN ["program"] (zEo c0 c1 c2 c3)):
  FnOk P w K mg base CX0 22 f fd ["_law_program_here"] (zLt c0 c1 c2 c3):=by
 refine F.ok zJW (fun vs H Q E h=>?_) (fun _ A _ s H vs Q E hr21 h=>?_)
 ·obtain ⟨x,rfl,_⟩:=h;rfl
 ·obtain ⟨x,rfl,h⟩:=h;have hr21:Room 21 _:=hr21;refine ⟨_,QB.out (zH
   (zPY (K:=K) 1 rfl rfl rfl zJW.nd rfl rfl rfl (.inl mME) (fun ps xe E hp=>(zH
    (zS (zFq GN hr21 rfl mN FN.kp bN .nil hp (qc (qw 0 rfl) zB rfl) rfl rfl rfl)))) (fun e=>(zF
    (zY 2 zJW.nd rfl (zq (zIR (K:=K) rfl) rfl B.isi zf (qc (qw 1 rfl) (qc (zM (qc (zt (v:= .ref c4) rfl Z.m4 rfl rfl) (qc (zt (v:= .ref c5) rfl Z.m5 rfl rfl) (qc (zt (v:= .ref c6) rfl Z.m6 rfl rfl) (qc (zt (v:= .ref c7) rfl Z.m7 rfl rfl) (qc (zt (v:= .ref c8) rfl Z.m8 rfl rfl) (qc (zt (v:= .ref c9) rfl Z.m9 rfl rfl) (qc (zt (v:= .ref c10) rfl Z.m10 rfl rfl) (qc (zt (v:= .ref c11) rfl Z.m11 rfl rfl) (qc (zt (v:= .ref c12) rfl Z.m12 rfl rfl) zB rfl) rfl) rfl) rfl) rfl) rfl) rfl) rfl) rfl)) zB rfl) rfl) rfl) rfl) (zF
    (zY 3 zJW.nd rfl (zd (qc (zq (zBa (K:=K) rfl) rfl B.isi zf (qc (qw 1 rfl) (qc (zt (v:= .ref c0) rfl Z.m0 rfl rfl) zB rfl) rfl) rfl) (qc (zq (zBa (K:=K) rfl) rfl B.isi zf (qc (qw 1 rfl) (qc (zt (v:= .ref c1) rfl Z.m1 rfl rfl) zB rfl) rfl) rfl) (qc (zq (zBa (K:=K) rfl) rfl B.isi zf (qc (qw 1 rfl) (qc (zt (v:= .ref c2) rfl Z.m2 rfl rfl) zB rfl) rfl) rfl) (qc (zq (zBa (K:=K) rfl) rfl B.isi zf (qc (qw 1 rfl) (qc (zt (v:= .ref c3) rfl Z.m3 rfl rfl) zB rfl) rfl) rfl) zB rfl) rfl) rfl) rfl)) rfl) (zF
    (zV (t_w (zAI (zAM (qw 2 rfl) (fun _=>rfl)) (zAI (zL yw (zOa (K:=K) rfl (qw 3 rfl) zAP rfl rfl rfl) zC rfl) (zAN (zAl (zAM (zq (zBa (K:=K) rfl) rfl B.isi zf (qc (qw 1 rfl) (qc (zAv (v:= .ty "ValueError") rfl B.verr zGp rfl (by decide) rfl) zB rfl) rfl) rfl) (fun _=>rfl))))))) (zH
     (zS zG)) zU) (zF
    (zV (zAM (yN (K:=K) rfl (qw 3 rfl) zC (fun _ _=>rfl)) (fun _=>rfl)) (zH
     (zS (zM (qc zG (qc (zMy (K:=K) rfl (qw 1 rfl) rfl) zB rfl) rfl)))) zU) (zH
    (zS (zM (qc (yN (K:=K) rfl (zd (qc zG (qc zG (qc zG zB rfl) rfl) rfl)) (zOc (K:=K) rfl (qw 3 rfl) zAP rfl rfl rfl) (fun _ _=>rfl)) (qc (zMy (K:=K) rfl (qw 1 rfl) rfl) (qc (zMy (K:=K) rfl (qw 1 rfl) rfl) zB rfl) rfl) rfl))))))))) rfl)),?_⟩
  unfold zKD;generalize hE:zFP K (Value.ref ME) 1 _ _=EE;have hnd: ∀cls d H',EX c0 c1 c2 c3 Q cls d H'->EE [some x,none,none,none] cls d H':=by
   intro cls d H' h;rw [<-hE];rcases h with ⟨k,dx,x1,y1,rfl,rfl,e,q⟩|⟨dx,x1,rfl,rfl,e,q⟩
   ·cases k with
    | tw=>
     refine ⟨R.x0,fun ea hea=>?_⟩;obtain ⟨G,hG,se,he⟩:=yH hea (zCm ea (Value.ref (cK c0 c1 c2 Tl.tw)) (some dx));rw [hG];have he:G ea=some (.ext (XCf ea (.ref c0) dx)):=he;refine hd fun Z hz=>?_;refine ⟨_,rfl,yc fun p1 H1 h1 s1 e1=>?_⟩;refine ⟨ea,c0,p1,[c4,c5,c6,c7,c8,c9,c10,c11,c12],_,rfl,e1,s1 _ _ he,fun h z=>yM h z,R.l0.xc,R.l0.ks,hz _ _ (hd fun Z hz=>?_)⟩;refine ⟨_,rfl,ea,c0,.ref c0,.ref c0,_,_,rfl,rfl,s1 _ _ he,fun h z=>yM h z,R.l0.xc,R.l0.k0,_,rfl,ea,c0,.ref c1,.ref c1,_,_,rfl,rfl,s1 _ _ he,fun h z=>yM h z,R.l0.xc,R.l0.k1,_,rfl,ea,c0,.ref c2,.ref c2,_,_,rfl,rfl,s1 _ _ he,fun h z=>yM h z,R.l0.xc,R.l0.k2,_,rfl,ea,c0,.ref c3,.ref c3,_,_,rfl,rfl,s1 _ _ he,fun h z=>yM h z,R.l0.xc,R.l0.k3,yc fun p2 H2 h2 s2 e2=>?_⟩;have he2:=(s1.trans s2) _ _ he;refine hz _ _ (hd fun Z hz=>?_);refine ⟨_,rfl,_,rfl,zD ⟨_,rfl,.inl ⟨rfl,_,SqL.of e2⟩,p2,_,_,rfl,rfl,SqL.of e2,rfl,rfl,rfl,_,rfl,zD ⟨_,rfl,ea,c0,.ty "ValueError",.type "ValueError",_,_,rfl,rfl,he2,fun h z=>yM h z,R.l0.xc,R.l0.kv,_,rfl,zD (hz _ _ (hd fun Z hz=>?_))⟩⟩⟩;refine ⟨_,rfl,p2,_,_,_,rfl,rfl,SqL.of e2,rfl,_,rfl,zD (hz _ _ ?_)⟩;refine yc fun p3 H3 h3 s3 e3=>?_;have sG:=se.trans (s1.trans (s2.trans s3));refine ⟨_,rfl,.inl ⟨rfl,_,SqL.of (s3 _ _ e2)⟩,p2,_,_,0,rfl,rfl,SqL.of (s3 _ _ e2),rfl,rfl,⟨by decide,rfl⟩,?_,p3,_,_,_,rfl,rfl,SqL.of e3,rfl,?_⟩
     ·intro m hm hlt;exact absurd hlt (Nat.not_lt_zero m)
     refine ⟨_,rfl,ea,c0,dx,_,x1,rfl,s3 _ _ he2,sG _ _ e,R.l0.xc,R.r0.1,zGJ (by decide) (lk1 _ _),_,rfl,ea,c0,dx,_,y1,rfl,s3 _ _ he2,sG _ _ e,R.l0.xc,R.r0.2,zGE _ _ _,bs 3,fun r hr=>?_⟩;exact q r _ (sG.trans (zA.upd hr)) zE
    | no=>
     refine ⟨R.x1,fun ea hea=>?_⟩;obtain ⟨G,hG,se,he⟩:=yH hea (zCm ea (Value.ref (cK c0 c1 c2 Tl.no)) (some dx));rw [hG];have he:G ea=some (.ext (XCf ea (.ref c1) dx)):=he;refine hd fun Z hz=>?_;refine ⟨_,rfl,yc fun p1 H1 h1 s1 e1=>?_⟩;refine ⟨ea,c1,p1,[c4,c5,c6,c7,c8,c9,c10,c11,c12],_,rfl,e1,s1 _ _ he,fun h z=>yM h z,R.l1.xc,R.l1.ks,hz _ _ (hd fun Z hz=>?_)⟩;refine ⟨_,rfl,ea,c1,.ref c0,.ref c0,_,_,rfl,rfl,s1 _ _ he,fun h z=>yM h z,R.l1.xc,R.l1.k0,_,rfl,ea,c1,.ref c1,.ref c1,_,_,rfl,rfl,s1 _ _ he,fun h z=>yM h z,R.l1.xc,R.l1.k1,_,rfl,ea,c1,.ref c2,.ref c2,_,_,rfl,rfl,s1 _ _ he,fun h z=>yM h z,R.l1.xc,R.l1.k2,_,rfl,ea,c1,.ref c3,.ref c3,_,_,rfl,rfl,s1 _ _ he,fun h z=>yM h z,R.l1.xc,R.l1.k3,yc fun p2 H2 h2 s2 e2=>?_⟩;have he2:=(s1.trans s2) _ _ he;refine hz _ _ (hd fun Z hz=>?_);refine ⟨_,rfl,_,rfl,zD ⟨_,rfl,.inl ⟨rfl,_,SqL.of e2⟩,p2,_,_,rfl,rfl,SqL.of e2,rfl,rfl,rfl,_,rfl,zD ⟨_,rfl,ea,c1,.ty "ValueError",.type "ValueError",_,_,rfl,rfl,he2,fun h z=>yM h z,R.l1.xc,R.l1.kv,_,rfl,zD (hz _ _ (hd fun Z hz=>?_))⟩⟩⟩;refine ⟨_,rfl,p2,_,_,_,rfl,rfl,SqL.of e2,rfl,_,rfl,zD (hz _ _ ?_)⟩;refine yc fun p3 H3 h3 s3 e3=>?_;have sG:=se.trans (s1.trans (s2.trans s3));refine ⟨_,rfl,.inl ⟨rfl,_,SqL.of (s3 _ _ e2)⟩,p2,_,_,1,rfl,rfl,SqL.of (s3 _ _ e2),rfl,rfl,⟨by decide,rfl⟩,?_,p3,_,_,_,rfl,rfl,SqL.of e3,rfl,?_⟩
     ·intro m hm hlt
      match m,hlt with
      | 0,_=>rfl
     refine ⟨_,rfl,ea,c1,dx,_,x1,rfl,s3 _ _ he2,sG _ _ e,R.l1.xc,R.r1.1,zGJ (by decide) (lk1 _ _),_,rfl,ea,c1,dx,_,y1,rfl,s3 _ _ he2,sG _ _ e,R.l1.xc,R.r1.2,zGE _ _ _,bs 3,fun r hr=>?_⟩;exact q r _ (sG.trans (zA.upd hr)) zE
    | ct=>
     refine ⟨R.x2,fun ea hea=>?_⟩;obtain ⟨G,hG,se,he⟩:=yH hea (zCm ea (Value.ref (cK c0 c1 c2 Tl.ct)) (some dx));rw [hG];have he:G ea=some (.ext (XCf ea (.ref c2) dx)):=he;refine hd fun Z hz=>?_;refine ⟨_,rfl,yc fun p1 H1 h1 s1 e1=>?_⟩;refine ⟨ea,c2,p1,[c4,c5,c6,c7,c8,c9,c10,c11,c12],_,rfl,e1,s1 _ _ he,fun h z=>yM h z,R.l2.xc,R.l2.ks,hz _ _ (hd fun Z hz=>?_)⟩;refine ⟨_,rfl,ea,c2,.ref c0,.ref c0,_,_,rfl,rfl,s1 _ _ he,fun h z=>yM h z,R.l2.xc,R.l2.k0,_,rfl,ea,c2,.ref c1,.ref c1,_,_,rfl,rfl,s1 _ _ he,fun h z=>yM h z,R.l2.xc,R.l2.k1,_,rfl,ea,c2,.ref c2,.ref c2,_,_,rfl,rfl,s1 _ _ he,fun h z=>yM h z,R.l2.xc,R.l2.k2,_,rfl,ea,c2,.ref c3,.ref c3,_,_,rfl,rfl,s1 _ _ he,fun h z=>yM h z,R.l2.xc,R.l2.k3,yc fun p2 H2 h2 s2 e2=>?_⟩;have he2:=(s1.trans s2) _ _ he;refine hz _ _ (hd fun Z hz=>?_);refine ⟨_,rfl,_,rfl,zD ⟨_,rfl,.inl ⟨rfl,_,SqL.of e2⟩,p2,_,_,rfl,rfl,SqL.of e2,rfl,rfl,rfl,_,rfl,zD ⟨_,rfl,ea,c2,.ty "ValueError",.type "ValueError",_,_,rfl,rfl,he2,fun h z=>yM h z,R.l2.xc,R.l2.kv,_,rfl,zD (hz _ _ (hd fun Z hz=>?_))⟩⟩⟩;refine ⟨_,rfl,p2,_,_,_,rfl,rfl,SqL.of e2,rfl,_,rfl,zD (hz _ _ ?_)⟩;refine nw fun p3 H3 s3 e3=>?_;have sG:=se.trans (s1.trans (s2.trans s3));refine ⟨_,rfl,.inl ⟨rfl,_,SqL.of (s3 _ _ e2)⟩,p2,_,_,2,rfl,rfl,SqL.of (s3 _ _ e2),rfl,rfl,⟨by decide,rfl⟩,?_,p3,_,_,_,rfl,rfl,SqL.of e3,rfl,?_⟩
     ·intro m hm hlt
      match m,hlt with
      | 0,_=>rfl
      | 1,_=>rfl
     refine ⟨_,rfl,ea,c2,dx,_,x1,rfl,s3 _ _ he2,sG _ _ e,R.l2.xc,R.r2.1,zGJ (by decide) (lk1 _ _),_,rfl,ea,c2,dx,_,y1,rfl,s3 _ _ he2,sG _ _ e,R.l2.xc,R.r2.2,zGE _ _ _,bs 3,fun r hr=>?_⟩;exact q r _ (sG.trans (zA.upd hr)) zE
   ·skip
    refine ⟨R.x3,fun ea hea=>?_⟩;obtain ⟨G,hG,se,he⟩:=yH hea (zCm ea (Value.ref c3) (some dx));rw [hG];have he:G ea=some (.ext (XCf ea (.ref c3) dx)):=he;refine hd fun Z hz=>?_;refine ⟨_,rfl,nw fun p1 H1 s1 e1=>?_⟩;refine ⟨ea,c3,p1,[c4,c5,c6,c7,c8,c9,c10,c11,c12],_,rfl,e1,s1 _ _ he,fun h z=>yM h z,R.l3.xc,R.l3.ks,hz _ _ (hd fun Z hz=>?_)⟩;refine ⟨_,rfl,ea,c3,.ref c0,.ref c0,_,_,rfl,rfl,s1 _ _ he,fun h z=>yM h z,R.l3.xc,R.l3.k0,_,rfl,ea,c3,.ref c1,.ref c1,_,_,rfl,rfl,s1 _ _ he,fun h z=>yM h z,R.l3.xc,R.l3.k1,_,rfl,ea,c3,.ref c2,.ref c2,_,_,rfl,rfl,s1 _ _ he,fun h z=>yM h z,R.l3.xc,R.l3.k2,_,rfl,ea,c3,.ref c3,.ref c3,_,_,rfl,rfl,s1 _ _ he,fun h z=>yM h z,R.l3.xc,R.l3.k3,nw fun p2 H2 s2 e2=>?_⟩;have he2:=(s1.trans s2) _ _ he;refine hz _ _ (hd fun Z hz=>?_);refine ⟨_,rfl,_,rfl,zD ⟨_,rfl,.inl ⟨rfl,_,SqL.of e2⟩,p2,_,_,rfl,rfl,SqL.of e2,rfl,rfl,rfl,_,rfl,zD ⟨_,rfl,ea,c3,.ty "ValueError",.type "ValueError",_,_,rfl,rfl,he2,fun h z=>yM h z,R.l3.xc,R.l3.kv,_,rfl,zD (hz _ _ (hd fun Z hz=>?_))⟩⟩⟩;refine ⟨_,rfl,p2,_,_,_,rfl,rfl,SqL.of e2,rfl,_,rfl,zI ⟨_,rfl,ea,c3,dx,_,x1,rfl,he2,(se.trans (s1.trans s2)) _ _ e,R.l3.xc,R.a3,lk1 _ _,bs 2,fun r hr=>?_⟩⟩;exact q r _ ((se.trans (s1.trans s2)).trans (zA.upd hr)) zE
  refine ⟨_,rfl,?_⟩;exact zEo.mono hnd h
theorem zSo{X:Cx}{c:CmpOp}(h1:OpR X (compareOp c) r1)(h2:OpR X (compareOp c) r2):OpR X (compareOp c) (fun x y H Q=>r1 x y H Q\/r2 x y H Q):=by
 intro pins s σ H x y v u Q I rx ry h;rcases h with h | h
 ·exact h1 pins s σ H x y v u Q I rx ry h
 ·exact h2 pins s σ H x y v u Q I rx ry h
def VR(H:Hp)(v:V)(o:Option (Tl×Nat×Str)):Prop:=(o=none/\v= .non)\/ ∃p k i n,o=some (k,i,n)/\v= .ref p/\H p=some (.tup [.str (zJt k),.int ((i:Nat):Int),.str n])
theorem VR.same(h:VR H v o)(s:zA H H'):VR H' v o:=h.elim .inl fun ⟨p,k,i,n,a,b,c⟩=> .inr ⟨p,k,i,n,a,b,s _ _ c⟩
theorem zRn(q: ∀v H',zA H H'->VR H' v o->Q v H'):Fi H Q o:=by
 match o,q with
 | none,q=>exact fun H' s=>q .non H' s (.inl ⟨rfl,rfl⟩)
 | some (k,i,n),q=>exact fun H' p s e=>q (.ref p) H' s (.inr ⟨p,k,i,n,rfl,rfl,e⟩)
theorem zRd(q: ∀v H',zA H H'->VR H' v o->Q v H'):zKG H Q (EX c0 c1 c2 c3 Q) c0 c1 c2 o:=by
 match o,q with
 | none,q=>exact fun H' s=>q .non H' s (.inl ⟨rfl,rfl⟩)
 | some (k,i,n),q=>exact fun H' dx s e=> .inl ⟨k,dx,_,_,rfl,rfl,e,fun r H'' s'' e''=>q (.ref r) H'' (s.trans s'') (.inr ⟨r,k,i,n,rfl,rfl,e''⟩)⟩
theorem Pg.same(h:Pg H t xs rs k d)(s:zA H H'):Pg H' t xs rs k d:=⟨s _ _ h.at_,RtL.same h.rows s,h.l1,h.l16,h.u6,h.sm⟩
theorem zNL(h:Pg H t xs rs k d)(q: ∀v H',zA H H'->VR H' v (zAR [] 0 rs)->Q v H'):zLt c0 c1 c2 c3 [.ref t] H Q E:=
 ⟨_,rfl,_,rfl,.inr ⟨t,xs,rs,rfl,h.at_,h.l1,h.l16,h.rows,h.u6,zRd q⟩⟩
theorem zNi(h:Pg H t xs rs k d)(q: ∀v H',zA H H'->VR H' v (zAR [] 0 rs)->Q v H'):zMV [.ref t] H Q E:=⟨t,xs,rs,k,d,rfl,h,zRn q⟩
theorem zHy(h:H r=some (.tup [.str "text",.non])):Dat H 8 (.ref r) (.tuple [.str "text",.none]):= .inr ⟨_,_,rfl,h,.cons rfl (.cons rfl .nil)⟩
theorem zOM(h:H r=some (.tup [.str "text",.non]))(h':H r'=some (.tup [.str "text",.non]))(q:Q (.bl true) H):zPq 8 false (.ref r) (.ref r') H Q:=
 ⟨_,_,zHy h,zHy h',by decide+kernel,by decide+kernel,(show PyData.eqv (.tuple [.str "text",.none]) (.tuple [.str "text",.none])=true by decide+kernel)▸q⟩
def zHG(K:zUn):Sp:=fun vs H Q _=> ∃(a:Addr) (ns:List Int),vs= [.ref a] /\SqL K H a (ns.map V.int)/\ns.length<=63/\ ∀H',Q (.bl true) H'
theorem zCk:FnScope ["_law_script","_law_program_here","_law_number_here","_law_bent_here","_law_due","_law_turn","_law_found"] ["_law_script"] (zK zGI):=fs
theorem zQK(F:Fun K "law" "law" zGI f fd)(B:Bn mg)
  (FP:Fun K "_law_program" "_law_program" zHE fP fdP) (bP:zO K fdP ["_law_script","_law_first_here","_law_most"] []) (mP:mg "_law_program" =some (.ref fP)) (GP:FnOk P w K mg base CX0 9 fP fdP ["_law_script","_law_first_here","_law_most"] (zRB K))
  (FNu:Fun K "_law_number" "_law_number" zFl fNu fdNu) (bNu:zO K fdNu ["_law_script","_law_k"] []) (mNu:mg "_law_number" =some (.ref fNu)) (GNu:FnOk P w K mg base CX0 2 fNu fdNu ["_law_script","_law_k"] (zHM K))
  (FT:Fun K "_law_told" "_law_told" zHL fT fdT) (bT:zO K fdT ["_law_program_here"] []) (mT:mg "_law_told" =some (.ref fT)) (GT:FnOk P w K mg base CX0 22 fT fdT ["_law_program_here"] (zLt c0 c1 c2 c3))
  (FF:Fun K "_law_first" "_law_first" zFB fF fdF) (bF:zO K fdF ["_law_program_here"] []) (mF:mg "_law_first" =some (.ref fF)) (GF:FnOk P w K mg base CX0 13 fF fdF ["_law_program_here"] zMV)
  (FB:Fun K "_law_bent" "_law_bent" zGu fB fdB) (bB:zO K fdB ["_law_program_here","_law_number_here"] []) (mB:mg "_law_bent" =some (.ref fB)) (GB:FnOk P w K mg base CX0 13 fB fdB ["_law_program_here","_law_number_here"] zQS)
  (FO:Fun K "_law_odd" "_law_odd" zKM fO fdO) (bO:zO K fdO ["_law_program_here","_law_number_here"] []) (mO:mg "_law_odd" =some (.ref fO)) (GO:FnOk P w K mg base CX0 1 fO fdO ["_law_program_here","_law_number_here"] zRN):
  FnOk P w K mg base CX0 23 f fd ["_law_script"] (zHG K):=by
 refine F.ok zCk (fun vs H Q E h=>?_) (fun _ A _ s H vs Q E hr22 h=>?_)
 ·obtain ⟨a,ns,rfl,_⟩:=h;rfl
 ·obtain ⟨sA,ns,rfl,sq,nsl,q⟩:=h;have hr22:Room 22 _:=hr22;have hr13:Room 13 _:=hr22.mono (by decide);have hr9:Room 9 _:=hr22.mono (by decide);have hr2:Room 2 _:=hr22.mono (by decide);have hr1:Room 1 _:=hr22.mono (by decide);have huT:=Nat.lt_of_succ_lt (zAb hr22);have huE:_+8<cLine:=Nat.lt_of_le_of_lt (Nat.add_le_add_left (by decide:8<=64) _) hr22.units;refine ⟨_,QB.out (zF
   (zY 1 zCk.nd rfl (zR GP hr9 rfl mP FP.kp bP .nil zP (qc (qw 0 rfl) (qc zC (qc zC zB rfl) rfl) rfl) rfl rfl rfl) rfl) (zF
   (zY 2 zCk.nd rfl (zR GNu hr2 rfl mNu FNu.kp bNu .nil zP (qc (qw 0 rfl) (qc zC zB rfl) rfl) rfl rfl rfl) rfl) (zF
   (zV (t_w (zAI (zFL (zR GT hr22 rfl mT FT.kp bT .nil zP (qc (qw 1 rfl) zB rfl) rfl rfl rfl) rfl) (zAN (zFL (zR GF hr13 rfl mF FF.kp bF .nil zP (qc (qw 1 rfl) zB rfl) rfl rfl rfl) rfl)))) (zH
    (zS zAP)) zU) (zF
   (zY 3 zCk.nd rfl (zR GB hr13 rfl mB FB.kp bB .nil zP (qc (qw 1 rfl) (qc (zR GNu hr2 rfl mNu FNu.kp bNu .nil zP (qc (qw 0 rfl) (qc zC zB rfl) rfl) rfl rfl rfl) zB rfl) rfl) rfl rfl rfl) rfl) (zF
   (zV (zL zZ (zl (qw 2 rfl) zC) zC rfl) (zH
    (zY 3 zCk.nd rfl (zR GB hr13 rfl mB FB.kp bB .nil zP (qc (qw 3 rfl) (qc (zR GNu hr2 rfl mNu FNu.kp bNu .nil zP (qc (qw 0 rfl) (qc zC zB rfl) rfl) rfl rfl rfl) zB rfl) rfl) rfl rfl rfl) rfl)) zU) (zF
   (zY 4 zCk.nd rfl (zR GF hr13 rfl mF FF.kp bF .nil zP (qc (qw 3 rfl) zB rfl) rfl rfl rfl) rfl) (zF
   (zAh PassesOwn.never rfl (zBo rfl B.range (qc zC zB rfl) rfl) (zb 5 zCk.nd rfl (Or.inl rfl) (.inr rfl)) (zF
    (zY 6 zCk.nd rfl (zR GT hr22 rfl mT FT.kp bT .nil zP (qc (qw 3 rfl) zB rfl) rfl rfl rfl) rfl) (zH
    (zV (t_w (zAI (zL (zSo yw (zQu (K:=K) rfl huT)) (qw 6 rfl) (qw 4 rfl) rfl) (zAN (t_w (zAi (zFL (qw 6 rfl) rfl) (zAU (zAM (zq (zAE (K:=K) rfl) rfl B.isi zf (qc (zJ (K:=K) rfl (qw 6 rfl) zC (fun _ _=>rfl)) (qc (zAv (v:= .ty "bool") rfl B.bool zIo rfl (by decide) rfl) zB rfl) rfl) rfl) (fun _=>rfl)))))))) (zH
     (zS zAP)) zU))) (fun _=>rfl)) (zH
   (zS (zFF (zMg (n:=8) huE) (zR GT hr22 rfl mT FT.kp bT .nil zP (qc (zR GO hr1 rfl mO FO.kp bO .nil zP (qc (qw 3 rfl) (qc (zR GNu hr2 rfl mNu FNu.kp bNu .nil zP (qc (qw 0 rfl) (qc zC zB rfl) rfl) rfl rfl rfl) zB rfl) rfl) rfl rfl rfl) zB rfl) rfl rfl rfl) (zM (qc zG (qc zBX zB rfl) rfl)) rfl)))))))))),?_⟩
  refine hd fun Z hz=>?_;refine ⟨_,rfl,sA,ns,rfl,sq,nsl,fun t H1 xs rs s1 _ pg bad=>hz _ _ (hd fun Z hz=>?_)⟩;refine ⟨_,rfl,sA,ns,60,rfl,SqL.sameS sq s1,nsl,by decide,by decide,fun r1 H2 s2 _ _=>hz _ _ (hd fun Z hz=>?_)⟩;have s02:=s1.trans s2;refine ⟨_,rfl,zNL (E:=E) (pg.same s2) fun v H3 s3 vr=>?_⟩;rw [bad] at vr;rcases vr with ⟨_,rfl⟩|⟨p,k,i,n,z,_⟩
  ·refine ⟨_,rfl,zD ⟨_,rfl,zNi (E:=E) (pg.same (s2.trans s3)) fun v H4 s4 vr=>?_⟩⟩;rw [bad] at vr;rcases vr with ⟨_,rfl⟩|⟨p,k,i,n,z,_⟩
   ·refine ⟨_,rfl,zD (hz _ _ (hd fun Z hz=>?_))⟩;have s04:=s02.trans (s3.trans s4);have pg4:=pg.same (s2.trans (s3.trans s4));clear pg bad;refine ⟨_,rfl,_,rfl,sA,ns,61,rfl,SqL.sameS sq s04,nsl,by decide,by decide,fun r2 H5 s5 r20 _=>⟨t,r2,xs,rs,33,4,rfl,r20,pg4.same s5,by decide,by decide,fun p H6 xs' rs' s6 pg6=>hz _ _ (hd fun Z hz=>?_)⟩⟩;have s06:=s04.trans (s5.trans s6);have go: ∀(H7:Hp) (p7:Addr) (xs7:List V) (rs7:List Rw) (k7 d7:Nat),zA H H7->Pg H7 p7 xs7 rs7 k7 d7->Z [some (.ref sA),some (.ref t),some (.int r1),some (.ref p7),none,none,none] H7:=by
     intro H7 p7 xs7 rs7 k7 d7 s07 pg7;refine hz _ _ (hd fun Z hz=>?_);refine ⟨_,rfl,zNi (E:=E) pg7 fun v H8 s8 vr=>hz _ _ (hd fun Z hz=>?_)⟩;have s08:=s07.trans s8;refine ⟨2,rfl,by decide,by decide,?_⟩;refine zAB 2 (fun i σ H'=> ∃o5 o6:Option V,σ= [some (.ref sA),some (.ref t),some (.int r1),some (.ref p7),some v,o5,o6] /\zA H8 H') ⟨_,_,rfl,zA.refl _⟩ ?_ ?_ ?_ ?_
     ·rintro i σ H' hi _;exact hi
     ·rintro σ H' _;exact zUC _
     ·rintro i σ H' v0 H'' hi ⟨o5,o6,rfl,s9⟩ ⟨rfl,rfl⟩;refine hd fun Z hz=>?_;refine ⟨_,rfl,zNL (E:=E) (pg7.same (s8.trans s9)) fun v' H10 s10 vr'=>hz _ _ ?_⟩;have vr:=vr.same (s9.trans s10);generalize zAR [] 0 rs7=o at vr vr';rcases vr with ⟨rfl,rfl⟩|⟨p,k,i,n,rfl,rfl,e⟩
      ·rcases vr' with ⟨_,rfl⟩|⟨_,_,_,_,z,_⟩
       ·exact ⟨_,rfl,_,rfl,.inl ⟨rfl,_,rfl,zD ⟨_,rfl,_,rfl,zD ⟨_,_,rfl,s9.trans s10⟩⟩⟩⟩
       ·cases z
      ·rcases vr' with ⟨z,_⟩|⟨p',k',i',n',z,rfl,e'⟩
       ·cases z
       ·cases z;have fl: ∀x∈ [V.str (zJt k),.int ((i:Nat):Int),.str n],zFW x=true:=fm rfl (fm rfl (fm rfl fm0));exact ⟨_,rfl,_,rfl,.inr ⟨p',p,_,rfl,rfl,SqT.of e',SqT.of e,fl,_,rfl,zD ⟨_,rfl,_,rfl,zI ⟨_,rfl,p',_,_,_,rfl,rfl,SqT.of e',rfl,_,.ty "bool",_,.type "bool",_,rfl,rfl,.int _,zEw K,_,rfl,zD ⟨_,_,rfl,s9.trans s10⟩⟩⟩⟩⟩
     ·rintro σ H' ⟨o5,o6,rfl,s9⟩;have s09:=s08.trans s9;refine hz _ _ ?_;refine ⟨_,rfl,_,rfl,sA,ns,63,rfl,SqL.sameS sq s09,nsl,by decide,by decide,fun r3 H9 s10 r30 _=>⟨p7,r3,xs7,rs7,k7,d7,rfl,r30,pg7.same (s8.trans (s9.trans s10)),fun v1 H10 s11 pr=>⟨v1,rfl,v1,rfl,.inl ⟨pr,fun H11 dx s12 e1=> .inr ⟨dx,_,rfl,rfl,e1,fun r H12 s13 e2=>⟨bs 2,fun z hz=>?_⟩⟩⟩⟩⟩⟩;exact zOM (zA.upd hz _ _ e2) zE (q _)
    refine ⟨_,rfl,_,_,rfl,rfl,by decide,rfl,_,rfl,zp (fun c=>?_) (fun c=>go H6 p xs' rs' _ _ s06 pg6)⟩;exact ⟨_,rfl,_,rfl,sA,ns,62,rfl,SqL.sameS sq s06,nsl,by decide,by decide,fun r3 H7 s7 r30 _=>⟨p,r3,xs',rs',36,5,rfl,r30,pg6.same s7,by decide,by decide,fun p8 H8 xs8 rs8 s8 pg8=>go H8 p8 xs8 rs8 _ _ (s06.trans (s7.trans s8)) pg8⟩⟩
   ·cases z
  ·cases z
end
def GA(K:zUn)(n:Str)(f:Addr):Prop:=PySem.W.nsIn K mainGlobals n=some (some (.ref f))
def GX(K:zUn)(n:Str)(st:Stmt)(f:Addr)(fd:FuncData):Prop:=PySem.W.nsIn K mainGlobals n=some (some (.ref f))/\Fun K n n st f fd
def MX(K:zUn)(C:Addr)(n q:Str)(st:Stmt)(f:Addr)(fd:FuncData):Prop:=(PySem.W.findIn K (.ref C) n=some (some (.ref f))/\PySem.W.isFn K (.ref f)=true)/\Fun K n q st f fd
def xOk(K:zUn)(C:Addr):Bool:=(PySem.W.clsIn K C).any (fun cd=>PySem.W.excMro cd.mro)&&PySem.W.hasDictIn K C&&
 PySem.W.findIn K (.ref C) "__getattribute__" ==some (some (.builtin "BaseException.__getattribute__"))&&PySem.W.findIn K (.ref C) "__getattr__" ==some none&&PySem.W.findIn K (.ref C) "__setattr__" ==some (some (.builtin "object.__setattr__"))&&
 PySem.W.mroIn K C (.type "BaseException")==some true&&PySem.W.mroIn K C (.type "object")==some true&&PySem.W.findIn K (.ref C) "__class__" ==some (some (.builtin "object.__class__"))
theorem zTY{K:zUn}{C:Addr}(cg:PySem.W.specialIn K (.builtin "object.__class__") "__get__" =some (some (.builtin "getset_descriptor.__get__")))(ct:PySem.W.takesIn K (.builtin "object.__class__")=some true)(h:xOk K C=true):XCls K C:=by
 unfold xOk at h;simp only [zUp,beq_iff_eq] at h;obtain ⟨⟨⟨⟨⟨⟨⟨h4,h5⟩,h6⟩,h7⟩,h8⟩,h9⟩,h10⟩,h11⟩:=h;exact ⟨h6,h7,h8,h9,h10,h4,h5,h11,cg,ct⟩
def zGv(K:zUn)(C f:Addr)(fs:List Str):Bool:=zFC K C f&&PySem.W.isFn K (.ref f)&&PySem.W.keepIn K (.ref C)&&xOk K C&&fs.all fun n=>PySem.W.findIn K (.ref C) n==some none
theorem zFE{K:zUn}{C f:Addr}{fs:List Str}(cg:PySem.W.specialIn K (.builtin "object.__class__") "__get__" =some (some (.builtin "getset_descriptor.__get__")))(ct:PySem.W.takesIn K (.builtin "object.__class__")=some true)(h:zGv K C f fs=true):MkX K C f/\XCls K C/\ ∀n∈fs,yO K C n:=by
 unfold zGv at h;simp only [zUp] at h;obtain ⟨⟨⟨⟨h1,h2⟩,h3⟩,h4⟩,h5⟩:=h;exact ⟨⟨h1,h2,h3⟩,zTY cg ct h4,fun n hn=>beq_iff_eq.mp (List.all_eq_true.mp h5 n hn)⟩
def EXI(K:zUn)(C:Addr)(q:Str)(st:Stmt)(f:Addr)(fd:FuncData)(fs:List Str):Prop:=(PySem.W.findIn K (.ref C) "__init__" =some (some (.ref f))/\zGv K C f fs=true)/\Fun K "__init__" q st f fd
theorem zRm{K:zUn}{f:Addr}{n:Str}{st:Stmt}{oc kV dc pm cd ct:Value}{od an:Option Addr}{sl:Array (Option Value)}(a:PySem.W.nsIn K mainGlobals n=some (some (.ref f)))(l:K.lookup f=some ⟨oc,od,.func (PySem.W.fnOf n n (zAG st) (yT st) (zK st) .none kV dc pm an cd ct),sl⟩)(c:PySem.W.codeIn K cd n=true)(k:PySem.W.keepIn K (.ref f)=true):GX K n st f (PySem.W.fnOf n n (zAG st) (yT st) (zK st) .none kV dc pm an cd ct):=⟨a,zIF l c k⟩
theorem zSD{K:zUn}{C f:Addr}{n q:Str}{st:Stmt}{oc kV dc pm cd ct:Value}{od an:Option Addr}{sl:Array (Option Value)}(a:PySem.W.findIn K (.ref C) n=some (some (.ref f)))(i:PySem.W.isFn K (.ref f)=true)(l:K.lookup f=some ⟨oc,od,.func (PySem.W.fnOf n q (zAG st) (yT st) (zK st) .none kV dc pm an cd ct),sl⟩)(c:PySem.W.codeIn K cd q=true)(k:PySem.W.keepIn K (.ref f)=true):MX K C n q st f (PySem.W.fnOf n q (zAG st) (yT st) (zK st) .none kV dc pm an cd ct):=⟨⟨a,i⟩,zIF l c k⟩
theorem zRr{K:zUn}{C f:Addr}{q:Str}{st:Stmt}{oc kV dc pm cd ct:Value}{od an:Option Addr}{sl:Array (Option Value)}{fs:List Str}(a:PySem.W.findIn K (.ref C) "__init__" =some (some (.ref f)))(i:zGv K C f fs=true)(l:K.lookup f=some ⟨oc,od,.func (PySem.W.fnOf "__init__" q (zAG st) (yT st) (zK st) .none kV dc pm an cd ct),sl⟩)(c:PySem.W.codeIn K cd q=true)(k:PySem.W.keepIn K (.ref f)=true):EXI K C q st f (PySem.W.fnOf "__init__" q (zAG st) (yT st) (zK st) .none kV dc pm an cd ct) fs:=⟨⟨a,i⟩,zIF l c k⟩
def zFm(K:zUn)(C:Addr)(cs:List Addr)(bs:List Bool)(ds:List Addr):Bool:=PySem.W.kitOne K (.ref C) (.type "ValueError")==some true&&(cs.zip bs).all (fun p=>PySem.W.kitOne K (.ref C) (.ref p.1)==some p.2)&&ds.all fun c=>PySem.W.kitOne K (.ref C) (.ref c)==some false
theorem zHD{K:zUn}{c0 c1 c2 c3 C:Addr}{b0 b1 b2 b3:Bool}{ds:List Addr}(x:XCls K C)(h:zFm K C [c0,c1,c2,c3] [b0,b1,b2,b3] ds=true):LK K c0 c1 c2 c3 ds C b0 b1 b2 b3:=by
 unfold zFm at h;simp only [List.zip_cons_cons,List.zip_nil_left,List.all_cons,List.all_nil,Bool.and_true,zUp,beq_iff_eq] at h;obtain ⟨⟨h,k0,k1,k2,k3⟩,h2⟩:=h;exact ⟨x,h,k0,k1,k2,k3,fun c hc=>beq_iff_eq.mp (List.all_eq_true.mp h2 c hc)⟩
theorem zPe{us:List Value}(h:us.length=1): ∃a,us= [a] :=List.length_eq_one_iff.mp h
theorem zQg{us:List Value}(h:us.length=2): ∃a b,us= [a,b] :=by
 cases us with
 | nil=>cases h
 | cons a r=>
  obtain ⟨b,rfl⟩:=zPe (us:=r) (by simpa using h);exact ⟨a,b,rfl⟩
theorem zPU{us:List Value}(h:us.length=3): ∃a b c,us= [a,b,c] :=by
 cases us with
 | nil=>cases h
 | cons a r=>
  obtain ⟨b,c,rfl⟩:=zQg (us:=r) (by simpa using h);exact ⟨a,b,c,rfl⟩
theorem zQX{us:List Value}(h:us.length=4): ∃a b c d,us= [a,b,c,d] :=by
 cases us with
 | nil=>cases h
 | cons a r=>
  obtain ⟨b,c,d,rfl⟩:=zPU (us:=r) (by simpa using h);exact ⟨a,b,c,d,rfl⟩
theorem zTK{us:List Value}(h:us.length=5): ∃a b c d e,us= [a,b,c,d,e] :=by
 cases us with
 | nil=>cases h
 | cons a r=>
  obtain ⟨b,c,d,e,rfl⟩:=zQX (us:=r) (by simpa using h);exact ⟨a,b,c,d,e,rfl⟩
theorem zTf{us:List Value}(h:us.length=6): ∃a b c d e g,us= [a,b,c,d,e,g] :=by
 cases us with
 | nil=>cases h
 | cons a r=>
  obtain ⟨b,c,d,e,g,rfl⟩:=zTK (us:=r) (by simpa using h);exact ⟨a,b,c,d,e,g,rfl⟩
theorem _root_.L2.Fun.bnd{K:zUn}{x q:Str}{st:Stmt}{f:Addr}{fd:FuncData}{ps:List Str}(F:Fun K x q st f fd)
  (h: ∀(kV doc pm:Value) (an:Option Addr) (cdv ct:Value) (us:List Value),us.length=ps.length->bindArgs (PySem.W.fnOf x q (zAG st) (yT st) (zK st) .none kV doc pm an cdv ct) ⟨us,[]⟩=pure (ps.zip us):=by
   intro _ _ _ _ _ _ us hl
   first |(obtain ⟨_,rfl⟩:=zPe hl;rfl)|(obtain ⟨_,_,rfl⟩:=zQg hl;rfl)|(obtain ⟨_,_,_,rfl⟩:=zPU hl;rfl)|(obtain ⟨_,_,_,_,rfl⟩:=zQX hl;rfl)|(obtain ⟨_,_,_,_,_,_,rfl⟩:=zTf hl;rfl)):L2.zO K fd ps [] :=F.binds h
theorem zPj{l:PySem.W.OpenLaw}{w:World}{K:zUn}{h:Heap}{mg:Str->Option Value}{fa:Addr}(ht:l.prog.given.tree=none)(X:K.In h)(G:h.Ns mainGlobals mg)(hfa:mg "law" =some (.ref fa))
  {f0 f1 f2 f3 f4 f5 f6 f7 f8 f9 f10 f11 f12 f13 f14 f15 f16 f17 f18 f19 f20 f21 f22 f23 f24 f25 f26 f27 f28 f29 f30 f31 f32 f33 f34 f35 ftI ftW ftS ftU ftV ftC ftL fEc0 fEc1 fEc2 fEc3 CT ME W O LFa LSa c0 c1 c2 c3 c4 c5 c6 c7 c8 c9 c10 c11 c12:Addr} {d0 d1 d2 d3 d4 d5 d6 d7 d8 d9 d10 d11 d12 d13 d14 d15 d16 d17 d18 d19 d20 d21 d22 d23 d24 d25 d26 d27 d28 d29 d30 d31 d32 d33 d34 d35 dtI dtW dtS dtU dtV dtC dtL dEc0 dEc1 dEc2 dEc3:FuncData} {odW odO:Option Addr} {slW slO:Array (Option Value)} {nW nO nLFa nLSa:Nat} {tO1 tO2 tw0 tw1 tw2 tw3 tw4 tw5 tw6 tw7 tw8 tw9 tw10 g_tL g_tE g_tP g_tR g_tA g_tN g_tD g_tRw g_tUn tkLFa0 tkLFa1 tkLFa2 tkLFa3 tkLFa4 tkLFa5 tkLFa6 tkLFa7 tkLFa8 tkLFa9 tkLFa10 tkLSa0 tkLSa1 tkLSa2 tkLSa3 tkLSa4 tvLFa0 tvLFa1 tvLFa2 tvLFa3 tvLFa4 tvLFa5 tvLFa6 tvLFa7 tvLFa8 tvLFa9 tvLFa10 tvLSa0 tvLSa1 tvLSa2 tvLSa3 tvLSa4:Tok}
  (x0:GX K "is_whole" zDC f0 d0)
  (x1:GX K "is_small_letter" zEN f1 d1)
  (x2:GX K "is_name" zDU f2 d2)
  (x3:GX K "common_divisor" zJm f3 d3)
  (x4:GX K "is_fraction" zJo f4 d4)
  (x5:GX K "is_pair" zGq f5 d5)
  (x6:GX K "is_unit" zKJ f6 d6)
  (x7:GX K "is_within" zDA f7 d7)
  (x8:GX K "is_small_unit" zCw f8 d8)
  (x9:GX K "is_number" zEP f9 d9)
  (x10:GX K "word_of" zFJ f10 d10)
  (x11:GX K "has_form" zGx f11 d11)
  (x12:GX K "kids_of" zFI f12 d12)
  (x13:GX K "is_expression" zHB f13 d13)
  (x14:GX K "are_params" zEL f14 d14)
  (x15:GX K "is_row" zJN f15 d15)
  (x16:GX K "is_program" zGw f16 d16)
  (x17:GX K "scope_of_params" zJc f17 d17)
  (x18:GX K "look_at_row" zFf f18 d18)
  (x19:GX K "need_program" zFc f19 d19)
  (x20:GX K "_law_mixed" zFs f20 d20)
  (x21:GX K "_law_number" zFl f21 d21)
  (x22:GX K "_law_names" zFg f22 d22)
  (x23:GX K "_law_unit" zEz f23 d23)
  (x24:GX K "_law_amount" zJR f24 d24)
  (x25:GX K "_law_leaf" zGs f25 d25)
  (x26:GX K "_law_expression" zJx f26 d26)
  (x27:GX K "_law_kids" zDb f27 d27)
  (x28:GX K "_law_program" zHE f28 d28)
  (x29:GX K "_law_wanted" zES f29 d29)
  (x30:GX K "_law_first" zFB f30 d30)
  (x31:GX K "_law_exchanged" zHJ f31 d31)
  (x32:GX K "_law_bent" zGu f32 d32)
  (x33:GX K "_law_odd" zKM f33 d33)
  (x34:GX K "_law_told" zHL f34 d34)
  (x35:GX K "law" zGI f35 d35)
  (mCT:GA K "Scope" CT)
  (xtI:MX K CT "__init__" "Scope.__init__" (zv (top 50) 0) ftI dtI)
  (xtW:MX K CT "within" "Scope.within" (zv (top 50) 1) ftW dtW)
  (xtS:MX K CT "sort_of" "Scope.sort_of" (zv (top 50) 2) ftS dtS)
  (xtU:MX K CT "look_at_unit" "Scope.look_at_unit" (zv (top 50) 3) ftU dtU)
  (xtV:MX K CT "look_at_value" "Scope.look_at_value" (zv (top 50) 4) ftV dtV)
  (xtC:MX K CT "look_at_call" "Scope.look_at_call" (zv (top 50) 5) ftC dtC)
  (xtL:MX K CT "look_at" "Scope.look_at" (zv (top 50) 6) ftL dtL)
  (pgT:PySem.W.plainGet K CT Str.empty=true)
  (hdT:PySem.W.hasDictIn K CT=true)
  (poT:PySem.W.plainOver K CT=true)
  (saT:PySem.W.findIn K (.ref CT) "__setattr__" =some (some (.builtin "object.__setattr__")))
  (mkT:PySem.W.makesIn K CT=true)
  (kcT:PySem.W.keepIn K (.ref CT)=true)
  (na0:PySem.W.findIn K (.ref CT) "number" =some none)
  (na1:PySem.W.findIn K (.ref CT) "known" =some none)
  (na2:PySem.W.findIn K (.ref CT) "inner" =some none)
  (mc0:GA K "Twice" c0)
  (mc1:GA K "NoName" c1)
  (mc2:GA K "BadCount" c2)
  (mc3:GA K "BadText" c3)
  (mc4:GA K "BadName" c4)
  (mc5:GA K "BadNumber" c5)
  (mc6:GA K "BadRate" c6)
  (mc7:GA K "BadTable" c7)
  (mc8:GA K "BadUnit" c8)
  (mc9:GA K "Clash" c9)
  (mc10:GA K "NoRow" c10)
  (mc11:GA K "Steep" c11)
  (mc12:GA K "Unlike" c12)
  (mME:GA K "MeasureError" ME)
  (xEc0:EXI K c0 "Twice.__init__" (zv (top 10) 0) fEc0 dEc0 ["row","name"])
  (xEc1:EXI K c1 "NoName.__init__" (zv (top 9) 0) fEc1 dEc1 ["row","name"])
  (xEc2:EXI K c2 "BadCount.__init__" (zv (top 11) 0) fEc2 dEc2 ["row","name"])
  (xEc3:EXI K c3 "BadText.__init__" (zv (top 8) 0) fEc3 dEc3 ["at"])
  (exc0:PySem.W.exmOne K (.ref c0) (.ref ME)=some true)
  (kkc0:zFm K c0 [c0,c1,c2,c3] [true,false,false,false] [c4,c5,c6,c7,c8,c9,c10,c11,c12] =true)
  (exc1:PySem.W.exmOne K (.ref c1) (.ref ME)=some true)
  (kkc1:zFm K c1 [c0,c1,c2,c3] [false,true,false,false] [c4,c5,c6,c7,c8,c9,c10,c11,c12] =true)
  (exc2:PySem.W.exmOne K (.ref c2) (.ref ME)=some true)
  (kkc2:zFm K c2 [c0,c1,c2,c3] [false,false,true,false] [c4,c5,c6,c7,c8,c9,c10,c11,c12] =true)
  (exc3:PySem.W.exmOne K (.ref c3) (.ref ME)=some true)
  (kkc3:zFm K c3 [c0,c1,c2,c3] [false,false,false,true] [c4,c5,c6,c7,c8,c9,c10,c11,c12] =true)
  (cg:PySem.W.specialIn K (.builtin "object.__class__") "__get__" =some (some (.builtin "getset_descriptor.__get__")))
  (ct:PySem.W.takesIn K (.builtin "object.__class__")=some true)
  (mW:GA K "WORDS" W)
  (mO:GA K "NOUGHT" O)
  (lW:K.lookup W=some ⟨.type "tuple",odW,.seq #[.str "unit" tw0,.str "take" tw1,.str "let" tw2,.str "fun" tw3,.str "show" tw4,.str "if" tw5,.str "then" tw6,.str "else" tw7,.str "loop" tw8,.str "for" tw9,.str "do" tw10] nW,slW⟩)
  (lO:K.lookup O=some ⟨.type "tuple",odO,.seq #[.int 0 tO1,.int 1 tO2] nO,slO⟩)
  (gtL:PySem.W.nsIn K mainGlobals "MOST_LETTERS" =some (some (.int 8 g_tL)))
  (gtE:PySem.W.nsIn K mainGlobals "MOST_EXPONENT" =some (some (.int 9 g_tE)))
  (gtP:PySem.W.nsIn K mainGlobals "MOST_POWER" =some (some (.int 5 g_tP)))
  (gtR:PySem.W.nsIn K mainGlobals "MOST_ROUNDS" =some (some (.int 12 g_tR)))
  (gtA:PySem.W.nsIn K mainGlobals "MOST_PARAMS" =some (some (.int 3 g_tA)))
  (gtN:PySem.W.nsIn K mainGlobals "MOST_NODES" =some (some (.int 40 g_tN)))
  (gtD:PySem.W.nsIn K mainGlobals "MOST_DEPTH" =some (some (.int 10 g_tD)))
  (gtRw:PySem.W.nsIn K mainGlobals "MOST_ROWS" =some (some (.int 16 g_tRw)))
  (gtUn:PySem.W.nsIn K mainGlobals "MOST_UNITS" =some (some (.int 6 g_tUn)))
  (mLFa:GA K "LENGTHS_forms" LFa)
  (neLFa:(LFa==sysModules)=false)
  (lLFa:K.lookup LFa=some ⟨.type "dict",none,.dict #[⟨PyData.keyHash w.params "number",.str "number" tkLFa0,.int 3 tvLFa0⟩,⟨PyData.keyHash w.params "name",.str "name" tkLFa1,.int 2 tvLFa1⟩,⟨PyData.keyHash w.params "negative",.str "negative" tkLFa2,.int 2 tvLFa2⟩,⟨PyData.keyHash w.params "plus",.str "plus" tkLFa3,.int 3 tvLFa3⟩,⟨PyData.keyHash w.params "minus",.str "minus" tkLFa4,.int 3 tvLFa4⟩,⟨PyData.keyHash w.params "times",.str "times" tkLFa5,.int 3 tvLFa5⟩,⟨PyData.keyHash w.params "over",.str "over" tkLFa6,.int 3 tvLFa6⟩,⟨PyData.keyHash w.params "power",.str "power" tkLFa7,.int 3 tvLFa7⟩,⟨PyData.keyHash w.params "if",.str "if" tkLFa8,.int 5 tvLFa8⟩,⟨PyData.keyHash w.params "loop",.str "loop" tkLFa9,.int 5 tvLFa9⟩,⟨PyData.keyHash w.params "call",.str "call" tkLFa10,.int 3 tvLFa10⟩] nLFa,#[]⟩)
  (mLSa:GA K "LENGTHS_scopes" LSa)
  (neLSa:(LSa==sysModules)=false)
  (lLSa:K.lookup LSa=some ⟨.type "dict",none,.dict #[⟨PyData.keyHash w.params "unit",.str "unit" tkLSa0,.int 2 tvLSa0⟩,⟨PyData.keyHash w.params "take",.str "take" tkLSa1,.int 3 tvLSa1⟩,⟨PyData.keyHash w.params "let",.str "let" tkLSa2,.int 3 tvLSa2⟩,⟨PyData.keyHash w.params "fun",.str "fun" tkLSa3,.int 4 tvLSa3⟩,⟨PyData.keyHash w.params "show",.str "show" tkLSa4,.int 2 tvLSa4⟩] nLSa,#[]⟩)
  (zisi:PySem.W.nsIn K mainGlobals "isinstance" =some none)
  (zint:PySem.W.nsIn K mainGlobals "int" =some none)
  (zbool:PySem.W.nsIn K mainGlobals "bool" =some none)
  (ztuple:PySem.W.nsIn K mainGlobals "tuple" =some none)
  (zlen:PySem.W.nsIn K mainGlobals "len" =some none)
  (zrange:PySem.W.nsIn K mainGlobals "range" =some none)
  (zstr:PySem.W.nsIn K mainGlobals "str" =some none)
  (zabs:PySem.W.nsIn K mainGlobals "abs" =some none)
  (zverr:PySem.W.nsIn K mainGlobals "ValueError" =some none)
  (zlist:PySem.W.nsIn K mainGlobals "list" =some none)
  (zdict:PySem.W.nsIn K mainGlobals "dict" =some none)
  (zall:PySem.W.nsIn K mainGlobals "all" =some none)
  (zsorted:PySem.W.nsIn K mainGlobals "sorted" =some none)
  (zany:PySem.W.nsIn K mainGlobals "any" =some none)
  (zmax:PySem.W.nsIn K mainGlobals "max" =some none)
  (zenumerate:PySem.W.nsIn K mainGlobals "enumerate" =some none):
  ∃fd:FuncData,(∀(s:Shared) (v:Value),BindsTo s fd ⟨[v],[]⟩ [("_law_script",v)])/\ ∀base:Heap,K.In base->base.Ns mainGlobals mg->FnOk l.prog w K mg base CX0 23 fa fd ["_law_script"] (zHG K):=by
 have e:=hfa.symm.trans (zUB X G x35.1);cases e;have B:Bn mg:=⟨zUZ X G zisi,zUZ X G zint,zUZ X G zbool,zUZ X G ztuple,zUZ X G zlen,zUZ X G zrange,zUZ X G zstr,zUZ X G zabs,zUZ X G zverr,zUZ X G zlist,zUZ X G zdict,zUZ X G zall,zUZ X G zsorted,zUZ X G zany,zUZ X G zmax,zUZ X G zenumerate⟩;have V:Gv K mg W:=⟨zUB X G mW,fun H=> .inr ⟨_,_,_,lW,rfl,rfl,by show 11<=sizeLine;decide,(.cons ⟨_,rfl⟩ (.cons ⟨_,rfl⟩ (.cons ⟨_,rfl⟩ (.cons ⟨_,rfl⟩ (.cons ⟨_,rfl⟩ (.cons ⟨_,rfl⟩ (.cons ⟨_,rfl⟩ (.cons ⟨_,rfl⟩ (.cons ⟨_,rfl⟩ (.cons ⟨_,rfl⟩ (.cons ⟨_,rfl⟩ .nil)))))))))))⟩,⟨_,zUB X G gtL⟩⟩;have GNn:Gn K mg O:=⟨⟨_,zUB X G gtE⟩,⟨_,zUB X G gtP⟩,⟨_,zUB X G gtR⟩,⟨_,zUB X G gtA⟩,⟨_,zUB X G gtN⟩,⟨_,zUB X G gtD⟩,⟨_,zUB X G gtRw⟩,⟨_,zUB X G gtUn⟩,zUB X G mO,fun H=> .inr ⟨_,_,_,lO,rfl,rfl,by show 2<=sizeLine;decide,.cons ⟨_,rfl⟩ (.cons ⟨_,rfl⟩ .nil)⟩⟩;have KLFa:KDic w K LFa Fr.LF:=⟨neLFa,by decide+kernel,_,_,lLFa,⟨⟨_,_,rfl,rfl⟩,⟨⟨_,_,rfl,rfl⟩,⟨⟨_,_,rfl,rfl⟩,⟨⟨_,_,rfl,rfl⟩,⟨⟨_,_,rfl,rfl⟩,⟨⟨_,_,rfl,rfl⟩,⟨⟨_,_,rfl,rfl⟩,⟨⟨_,_,rfl,rfl⟩,⟨⟨_,_,rfl,rfl⟩,⟨⟨_,_,rfl,rfl⟩,⟨⟨_,_,rfl,rfl⟩,trivial⟩⟩⟩⟩⟩⟩⟩⟩⟩⟩⟩,(.cons ⟨⟨_,rfl⟩,⟨_,rfl⟩⟩ (.cons ⟨⟨_,rfl⟩,⟨_,rfl⟩⟩ (.cons ⟨⟨_,rfl⟩,⟨_,rfl⟩⟩ (.cons ⟨⟨_,rfl⟩,⟨_,rfl⟩⟩ (.cons ⟨⟨_,rfl⟩,⟨_,rfl⟩⟩ (.cons ⟨⟨_,rfl⟩,⟨_,rfl⟩⟩ (.cons ⟨⟨_,rfl⟩,⟨_,rfl⟩⟩ (.cons ⟨⟨_,rfl⟩,⟨_,rfl⟩⟩ (.cons ⟨⟨_,rfl⟩,⟨_,rfl⟩⟩ (.cons ⟨⟨_,rfl⟩,⟨_,rfl⟩⟩ (.cons ⟨⟨_,rfl⟩,⟨_,rfl⟩⟩ .nil)))))))))))⟩;have KLSa:KDic w K LSa LS:=⟨neLSa,by decide+kernel,_,_,lLSa,⟨⟨_,_,rfl,rfl⟩,⟨⟨_,_,rfl,rfl⟩,⟨⟨_,_,rfl,rfl⟩,⟨⟨_,_,rfl,rfl⟩,⟨⟨_,_,rfl,rfl⟩,trivial⟩⟩⟩⟩⟩,(.cons ⟨⟨_,rfl⟩,⟨_,rfl⟩⟩ (.cons ⟨⟨_,rfl⟩,⟨_,rfl⟩⟩ (.cons ⟨⟨_,rfl⟩,⟨_,rfl⟩⟩ (.cons ⟨⟨_,rfl⟩,⟨_,rfl⟩⟩ (.cons ⟨⟨_,rfl⟩,⟨_,rfl⟩⟩ .nil)))))⟩;have T:SC K CT:=⟨⟨pgT,hdT,poT,saT⟩,na0,na1,na2⟩;have MT:Mk K CT ftI:=⟨mkT,xtI.1.1,xtI.1.2,kcT⟩;have Z:ClsZ mg c0 c1 c2 c3 c4 c5 c6 c7 c8 c9 c10 c11 c12:=⟨zUB X G mc0,zUB X G mc1,zUB X G mc2,zUB X G mc3,zUB X G mc4,zUB X G mc5,zUB X G mc6,zUB X G mc7,zUB X G mc8,zUB X G mc9,zUB X G mc10,zUB X G mc11,zUB X G mc12⟩;obtain ⟨MKEc0,XCEc0,NAEc0⟩:=zFE cg ct xEc0.1.2;have N0Ec0:=NAEc0 "row" (by simp);have N1Ec0:=NAEc0 "name" (by simp);have REc0:RX K mg "Twice" c0 fEc0 "row" "name" :=⟨MKEc0,XCEc0,N0Ec0,N1Ec0,zUB X G mc0⟩;obtain ⟨MKEc1,XCEc1,NAEc1⟩:=zFE cg ct xEc1.1.2;have N0Ec1:=NAEc1 "row" (by simp);have N1Ec1:=NAEc1 "name" (by simp);have REc1:RX K mg "NoName" c1 fEc1 "row" "name" :=⟨MKEc1,XCEc1,N0Ec1,N1Ec1,zUB X G mc1⟩;obtain ⟨MKEc2,XCEc2,NAEc2⟩:=zFE cg ct xEc2.1.2;have N0Ec2:=NAEc2 "row" (by simp);have N1Ec2:=NAEc2 "name" (by simp);have REc2:RX K mg "BadCount" c2 fEc2 "row" "name" :=⟨MKEc2,XCEc2,N0Ec2,N1Ec2,zUB X G mc2⟩;obtain ⟨MKEc3,XCEc3,NAEc3⟩:=zFE cg ct xEc3.1.2;have N0Ec3:=NAEc3 "at" (by simp);have REc3:RX1 K mg "BadText" c3 fEc3 "at" :=⟨MKEc3,XCEc3,N0Ec3,zUB X G mc3⟩;have R:Rfs K c0 c1 c2 c3 [c4,c5,c6,c7,c8,c9,c10,c11,c12] ME:=⟨zHD XCEc0 kkc0,zHD XCEc1 kkc1,zHD XCEc2 kkc2,zHD XCEc3 kkc3,exc0,exc1,exc2,exc3,⟨N0Ec0,N1Ec0⟩,⟨N0Ec1,N1Ec1⟩,⟨N0Ec2,N1Ec2⟩,N0Ec3⟩;have Q: ∀{n q:Str} {st:Stmt} {f:Addr} {fd:FuncData},MX K CT n q st f fd->Meth K CT n f:=fun x=>⟨x.1.1,x.1.2,x.2.kp⟩;have M: ∀{n:Str} {st:Stmt} {f:Addr} {fd:FuncData},GX K n st f fd->mg n=some (.ref f):=fun x=>zUB X G x.1;obtain ⟨_,_,kV,dc,pm,an,cd,ct',_,rfl,_,_⟩:=x35.2.ex;refine ⟨PySem.W.fnOf "law" "law" (zAG zGI) (yT zGI) (zK zGI) .none kV dc pm an cd ct',fun s v=> .of_eq rfl,fun base _ _=>?_⟩;have I: ∀{CX:CXT} {n:Nat} {f:Addr} {fd:FuncData} {ps:List Str} {sp:Sp},FnOk l.prog w K mg base CX n f fd ps sp->FnOk l.prog w K mg base CX n f fd ps sp:=fun h=>h;have gWh:=I (zEs x0.2 B);have gNm:=I (zPA x2.2 B V x1.2 x1.2.bnd (M x1));have gIF:=I (zRM x4.2 B x0.2 x0.2.bnd (M x0) x3.2 x3.2.bnd (M x3));have gPr:=I (zPF x5.2 B x2.2 x2.2.bnd (M x2) gNm x0.2 x0.2.bnd (M x0));have gIU:=I (zPu x6.2 B x5.2 x5.2.bnd (M x5) gPr);have gWi:=I (zSr x7.2 x0.2 x0.2.bnd (M x0) gWh);have gSU:=I (zRg x8.2 B GNn x6.2 x6.2.bnd (M x6) gIU x7.2 x7.2.bnd (M x7) gWi);have gNr:=I (zSk x9.2 B GNn x4.2 x4.2.bnd (M x4) gIF x8.2 x8.2.bnd (M x8) gSU);have gWo:=I (zRy x10.2 B);have gFo:=I (zSW x11.2 B GNn KLFa (zUB X G mLFa) x10.2 x10.2.bnd (M x10) gWo x9.2 x9.2.bnd (M x9) gNr x2.2 x2.2.bnd (M x2) gNm x7.2 x7.2.bnd (M x7) gWi);have gKi:=I (zSi x12.2 B);have gEx:=I (zRt x13.2 B GNn x11.2 x11.2.bnd (M x11) gFo x12.2 x12.2.bnd (M x12) gKi);have gPa:=I (zSn x14.2 B GNn x2.2 x2.2.bnd (M x2) gNm);have gRo:=I (zSR x15.2 B KLSa (zUB X G mLSa) x10.2 x10.2.bnd (M x10) gWo x13.2 x13.2.bnd (M x13) gEx x2.2 x2.2.bnd (M x2) gNm x8.2 x8.2.bnd (M x8) gSU x14.2 x14.2.bnd (M x14) gPa);have gPg:=I (zRq x16.2 B GNn x15.2 x15.2.bnd (M x15) gRo);have gTW:=I (zSb xEc0.2 REc0);have gNN:=I (zRo xEc1.2 REc1);have gBC:=I (zSh xEc2.2 REc2);have gBT:=I (zSH xEc3.2 REc3);have gSi:=I (zRw xtI.2 T);have gSw:=I (zSg xtW.2 B T MT (zUB X G mCT) xtI.2.bnd gSi);have gSo:=I (zRz xtS.2 T);have gLu:=I (zRi (BC:=c2) xtU.2 T (Q xtS) xtS.2.bnd gSo REc1 xEc1.2.bnd gNN);have gLv:=I (zSq (BC:=c2) xtV.2 T (Q xtS) xtS.2.bnd gSo REc1 xEc1.2.bnd gNN);have gLc:=I (zSs xtC.2 B T (Q xtS) xtS.2.bnd gSo REc1 xEc1.2.bnd gNN REc2 xEc2.2.bnd gBC);have gLa:=I (zRk xtL.2 B T (Q xtU) xtU.2.bnd gLu (Q xtV) xtV.2.bnd gLv (Q xtC) xtC.2.bnd gLc (Q xtW) xtW.2.bnd gSw (Q xtL) xtL.2.bnd x12.2 x12.2.bnd (M x12) gKi 10);have gSp:=I (zRf x17.2 T (Q xtW) xtW.2.bnd gSw REc0 xEc0.2.bnd gTW);have gLr:=I (zSL x18.2 T MT (zUB X G mCT) xtI.2.bnd gSi (Q xtU) xtU.2.bnd gLu (Q xtL) xtL.2.bnd gLa x17.2 x17.2.bnd (M x17) gSp REc0 xEc0.2.bnd gTW);have gNp:=I (zSI x19.2 B x16.2 x16.2.bnd (M x16) gPg x18.2 x18.2.bnd (M x18) gLr REc3 xEc3.2.bnd gBT);have gMi:=I (zKe x20.2);have gNu:=I (zRE x21.2 B x20.2 x20.2.bnd (M x20));have gUt:=I (zSE x23.2 B x20.2 x20.2.bnd (M x20) gMi);have gAm:=I (zSf x24.2 B);have gLf:=I (zSV x25.2 B x23.2 x23.2.bnd (M x23) gUt x24.2 x24.2.bnd (M x24) gAm);have gXp:=I (zSB x26.2 B x21.2 x21.2.bnd (M x21) gNu x25.2 x25.2.bnd (M x25) gLf x26.2.bnd (M x26) 4);have gLk:=I (zRp x27.2 B);have gNs:=I (zSO x22.2 B x20.2 x20.2.bnd (M x20) gMi);have gLp:=I (zSM x28.2 B x22.2 x22.2.bnd (M x22) gNs x21.2 x21.2.bnd (M x21) gNu x23.2 x23.2.bnd (M x23) gUt x26.2 x26.2.bnd (M x26) gXp);have gWa:=I (zSP x29.2 B x27.2 x27.2.bnd (M x27) gLk x29.2.bnd (M x29) 10);have gFi:=I (zSl x30.2 B x29.2 x29.2.bnd (M x29) gWa);have gXc:=I (zRu x31.2 B x27.2 x27.2.bnd (M x27) gLk x31.2.bnd (M x31) 10);have gBe:=I (zSc x32.2 B x31.2 x31.2.bnd (M x31) gXc);have gOd:=I (zSK x33.2 B);have gTo:=I (zRs x34.2 B Z (zUB X G mME) R x19.2 x19.2.bnd (M x19) gNp);exact zQK x35.2 B x28.2 x28.2.bnd (M x28) gLp x21.2 x21.2.bnd (M x21) gNu x34.2 x34.2.bnd (M x34) gTo x30.2 x30.2.bnd (M x30) gFi x32.2 x32.2.bnd (M x32) gBe x33.2 x33.2.bnd (M x33) gOd
theorem zTN{l:PySem.W.OpenLaw}{q:Program}{loose:List Str}{XP:(Str->Option Value)->Heap->Prop}{YP:World->Heap->Prop}{d:DefRec}{K:Params->zUn}(hn:l.most=some 63)(hdf:d.params.defaults= [])(hI:importsNone q=true)
  (hY: ∀(w:World) (h:Heap),YP w h->(K w.params).In h)
  (F: ∀(w:World) (mg:Str->Option Value) (fa:Addr) (h:Heap),(K w.params).In h->h.Ns mainGlobals mg->mg d.name=some (.ref fa)->
   ∃fd:FuncData,(∀(s:Shared) (u:Value),BindsTo s fd ⟨[u],[]⟩ [("_law_script",u)])/\ ∀base:Heap,(K w.params).In base->base.Ns mainGlobals mg->FnOk l.prog w (K w.params) mg base CX0 23 fa fd ["_law_script"] (zHG (K w.params))):
  PySem.W.WalkO q loose XP YP l.row.toRowW d [] (fun f vs=>PySem.call f vs):=
 L2.zOW (n:=63) (k:=23) (x:= "_law_script") (CX:=fun _=>CX0) (sp:=fun w=>zHG (K w.params)) hn (by decide) hdf hI ⟨rfl,by decide,by decide,rfl⟩ hY F (fun _ _ a ns hl _ hS=>⟨a,ns,rfl,hS,hl,fun _=>rfl⟩) fun _ _ _ _ _ z=>z
end Fr
open PySem PySem.W PyProof.Rows
namespace PySem.W.Fast
def tw6910740446801609880:=0
def tw15170545365981728179:=0
def tw5706554965904017586:=0
def tw12035612629625388494:=0
def tw3592027675754053643:=0
def tw11684880429693165160:=0
def tw15930920971683899202:=0
def tw14642063875525541618:=0
def tw17775724242818565713:=0
def tw10091769749079404987:=0
def tw5999011741813939099:=0
def tw18217963699792421340:=0
def tw5192151511023363840:=0
def tw11943213147473304361:=0
def tw5700166147834917572:=0
def tw14296766601637778389:=0
def tw10002791479031506129:=0
def tw5214280194734528652:=0
def tw14158902152001694175:=0
def tw16414430498413243377:=0
def tw12671946113603695419:=0
def tw15942208306039861645:=0
def tw2252387342020564808:=0
def tw7905916238544151385:=0
def tw8043424916459369469:=0
def tw103068101324250284:=0
def tw9051593515461752683:=0
def tw2871363732224198504:=0
def tw3032180445540048970:=0
def tw883716007803018712:=0
def tw11086892321960043986:=0
def tw6787429304866994281:=0
def tw17764173499792417876:=0
def tw5161212214854660881:=0
def tw7696448432052282918:=0
def tw3868744823046359977:=0
def tw16963512264819817685:=0
def tw7838925676487478650:=0
def tw7705230176210330297:=0
def tw5417783713842972022:=0
def tw5726839297446572837:=0
def tw9995099311937885724:=0
def tw12277450970510863669:=0
def tw2774944457576953379:=0
def tw1803562972685625325:=0
def tw17719164555235593271:=0
def tw6889474268438434129:=0
def tw12625055444719509032:=0
def tw5494894588332599168:=0
def tw9569063128886387839:=0
def tw9565166528803683231:=0
def tw9614904266601279132:=0
def tw2829353999916399383:=0
def tw17348337205590195771:=0
def tw13570252828470859819:=0
def tw9843829872439042664:=0
def tw6490527604328005573:=0
def tw7329723039941109869:=0
def tw11395622551160396326:=0
def tw7037743372357174399:=0
def tw9270222116341096606:=0
def tw12031099599776473812:=0
def tw3234375163291791193:=0
def tw4696230366908214079:=0
def tw4546967623036493015:=0
def tw11668269099318509910:=0
def tw1065645521749989145:=0
def tw7577480334204124475:=0
def tw4674783696781154726:=0
def tw6602244335693392556:=0
def tw1265993663538377321:=0
def tw3857510483052280470:=0
def tw11046412406436149581:=0
def tw5208813015302800684:=0
def tw5834374686242370600:=0
def tw14966976005774157776:=0
def tw7964098499955854488:=0
def tw4118773768134093906:=0
def tw18010463904102544609:=0
def tw2798492177573409626:=0
def tw9841059220727250533:=0
def tw17565485592715752404:=0
def tw12516851351605776470:=0
def tw7031093334524497777:=0
def tw11425819540144855262:=0
def tw370082680464834636:=0
def tw4631478132194458065:=0
def tw10970556345291188677:=0
def tw6783095186361380896:=0
def tw12593460193122250006:=0
def tw4138260977146079815:=0
def tw2011338130051253569:=0
def tw11963390148390495510:=0
def tw2139908834430053815:=0
def tw13684614409440714958:=0
def tw85086581538073068:=0
def tw6520377571096768473:=0
def tw13148199887879901285:=0
def tw9164539710261378502:=0
def tw8790635837509041222:=0
def tw86918602198653231:=0
def tw17190323980768801064:=0
def tw14879406934227674214:=0
def tw8359642868168926571:=0
def tw14053854431426239929:=0
def tw9481967925563424796:=0
def tw11471640282569763632:=0
def tw1334947871374792615:=0
def tw11985184966428740056:=0
def tw6528653321265391882:=0
def tw2458677493926259900:=0
def tw336710781400350645:=0
def tw4429745174837832464:=0
def tw1900136478321278508:=0
def tw17296253408657324016:=0
def tw8318926728842137536:=0
def tw14772425089996378288:=0
def tw339039808036312529:=0
def tw8314150729630273698:=0
def tw13523125783670001775:=0
def tw10650030424521253935:=0
def tw7145945655699933858:=0
def tw5632103674963830837:=0
def tw9723450051408775119:=0
def tw2631273173439484295:=0
def tw10890515576920286752:=0
def tw15271980968191633121:=0
def tw10974085585154314834:=0
def tw8970393531298020472:=0
def tw4051714093249217022:=0
def tw13579465560141295554:=0
def tw13216044150218537108:=0
def tw5376273009256172301:=0
def tw1537863422846991009:=0
def tw906040111904683573:=0
def tw1557066859553127715:=0
def tw8197296632373939008:=0
def tw6943554206021323253:=0
def tw14844536168402980660:=0
def tw17846040303557976598:=0
def tw12314302796730759888:=0
def tw17017409073216281134:=0
def tw13933365806323605077:=0
def tw3901291743913721112:=0
def tw5474861032698576134:=0
def tw2208240072363918973:=0
def tw15127965703569662945:=0
def tw10514439142952953374:=0
def tw8877359273228458562:=0
def tw15564624991313984304:=0
def tw3269468431803595257:=0
def tw3089678678437494377:=0
def tw11334919731184359478:=0
def tw735244523456264436:=0
def tw17429919971953186690:=0
def tw13263895640023994903:=0
def tw2376053588242146721:=0
def tw269079975254975261:=0
def tw18183456250760213652:=0
def tw8631680739067281588:=0
def tw6838232516842737520:=0
def tw9283679810092926405:=0
def tw3339853734367636358:=0
def tw14872994075959799007:=0
def tw4154205743381354605:=0
def tw7440634353446095861:=0
def tw905866095651783869:=0
def tw1730853771932653706:=0
def tw14469261976533565513:=0
def tw6046954609243318942:=0
def tw10492883947336823669:=0
def tw928422879223575059:=0
def tw16291151128881239055:=0
def tw12093790404568340251:=0
def tw641909767076062883:=0
def tw7504168596419150301:=0
def tw15516902428276398988:=0
def tw8755150401234307311:=0
def tw9184342790860138220:=0
def tw17823871093347429215:=0
def tw4175255688942433053:=0
def tw1485070913470804543:=0
def tw3139262932291417919:=0
def tw9310388252123573478:=0
def tw16209260780887468400:=0
def tw9227705029611986055:=0
def tw6137124218396492336:=0
def tw17428423134427044195:=0
def tw552583521598592967:=0
def tw17773213024406217918:=0
def tw8185276751371745258:=0
def tw1126783000570238736:=0
def tw16064370463684108226:=0
def tw51925880480685688:=0
def tw8573483552476696438:=0
def tw18045894514224164164:=0
def tw9973403055230923614:=0
def tw7868424657730569105:=0
def tw5692639413713290544:=0
def tw13231882253851819541:=0
def tw5277356306709750002:=0
def tw5848411081297701557:=0
def tw1595041134216628226:=0
def tw5954623023877978650:=0
def tw8776116035307826542:=0
def tw8914619253521268414:=0
def tw8969257997311845088:=0
def tw3754213258586824126:=0
def tw4141781321221569155:=0
def tw15420140318599101592:=0
def tw3772162553549085566:=0
def tw565209465820800455:=0
def tw15999205646669449797:=0
def tw553815931713025867:=0
def tw12468563557477615933:=0
def tw15880582972780492580:=0
def tw17550948147825232200:=0
def tw4189963262468218732:=0
def tw3556812798289777392:=0
def tw7989028827636059239:=0
def tw5481642297357434570:=0
def tw17224516951478924286:=0
def tw5122334120165185998:=0
def tw13427360265731883802:=0
def tw1560539358276585060:=0
def tw13939550379386082725:=0
def tw17832507106225742224:=0
def tw1468882039343668882:=0
def tw11321515760227260613:=0
def tw17829409854755559978:=0
def tw13093889764052126325:=0
def tw3365591484198594788:=0
def tw1582504997835539964:=0
def tw17744381110482434753:=0
def tw16217444903569491978:=0
def tw11741384401986917268:=0
def tw4428069150940712158:=0
def tw10370664880250736234:=0
def tw8593527646753664403:=0
def tw9270900597951814924:=0
def tw15478060001330979852:=0
def tw3549858141005634674:=0
def tw3565175434863311327:=0
def tw5309210672287556148:=0
def tw6365465684302095288:=0
def tw6309814560224762046:=0
def tw14728480369742949514:=0
def tw13572506315302563089:=0
def tw11604875058264306597:=0
def tw5526142948455860128:=0
def tw2448795828257246116:=0
def tw17365319186174894189:=0
def tw11041675848656165042:=0
def tw6660933679325703190:=0
def tw7796850870948836298:=0
def tw15701547077660320310:=0
def tw8291229418478622831:=0
def tw2934578523521661902:=0
def tw8450773686330850230:=0
def tw6909562132836630582:=0
def tw5157434819353553595:=0
def tw13373175294025742558:=0
def tw3927538427004327391:=0
def tw15811218472425757012:=0
def tw9636175260189547272:=0
def tw13506677670641912120:=0
def tw18343677016978012173:=0
def tw13986770250920029492:=0
def tw4359990990476989546:=0
def tw15263838414635675059:=0
def tw5723306557956449430:=0
def tw5305795512902094415:=0
def tw9772789172290210460:=0
def tw12801002509863532290:=0
def tw8643490732751872213:=0
def tw5990954488117726924:=0
def tw11169931369088634233:=0
def tw761066414917019836:=0
def tw15943166039037275651:=0
def tw3771035776923915564:=0
def tw2565532723282655948:=0
def tw16500811154609890048:=0
def tw8033039724659087606:=0
def tw651875455080336125:=0
def tw2819968830271884263:=0
def tw9455804040783490238:=0
def tw1519248206902216075:=0
def tw6595785769629203018:=0
def tw7138024200183443122:=0
def tw10656884944819962781:=0
def tw10157788771234798793:=0
def tw1805152902695343245:=0
def tw3908172130112917119:=0
def tw6673309205655584211:=0
def tw11970278816100120892:=0
def tw16501912127835152870:=0
def tw96278698159920083:=0
def tw17170865079647742857:=0
def tw15439082707960866434:=0
def tw12701346176597067043:=0
def tw12627778753031685974:=0
def tw490574884319385352:=0
def tw11171312149566994832:=0
def tw9868996346892051843:=0
def tw14956841460920839915:=0
def tw11487560652676638110:=0
def tw2312395994981904032:=0
def tw17503062329188164422:=0
def tw10548053159533183278:=0
def tw9499934852159453732:=0
def tw12194997891991154534:=0
def tw3957154491482027879:=0
def tw1287109908384711215:=0
def tw4141803967895879776:=0
def tw801060043447567817:=0
def tw6098358505754925509:=0
def tw8155298848985601694:=0
def tw8214945638650704328:=0
def tw12961045909062143643:=0
def tw5138995657045836246:=0
def tw10736395314780487991:=0
def tw16875535664398434581:=0
def tw13688044849170757726:=0
def tw6570699783050427575:=0
def tw6229720803274697368:=0
def tw5182133354269981661:=0
def tw9920824135085605443:=0
def tw16718169259182952743:=0
def tw11949546305817483380:=0
def tw1852278633654499697:=0
def tw17442329402756552535:=0
def tw5143188160135099461:=0
def tw11027116870294971855:=0
def tw4140677195174008914:=0
def tw4408887545908335335:=0
def tw1661731925033401939:=0
def tw12386251849942341235:=0
def tw2761368100632694457:=0
def tw9284338681036339885:=0
def tw12437464989743643923:=0
def tw12526630661035793667:=0
def tw8032053476051581576:=0
def tw3150260946018812417:=0
def tw7449578799649513915:=0
def tw3250806248415257882:=0
def tw8932335095308452618:=0
def tw14515331014390710223:=0
def tw11460024794322133646:=0
def tw14651707659248862131:=0
def tw3372274565194128297:=0
def tw8879592691462138500:=0
def tw6267910996423404595:=0
def tw17907401801103716558:=0
def tw13293971617746121199:=0
def tw17449845958167359637:=0
def tw5549116273866095953:=0
def tw12720845734830694688:=0
def tw16411282316888722749:=0
def tw11469195102122215261:=0
def tw17837012079462646481:=0
def tw17620600965041747717:=0
def tw5240015820812575649:=0
def tw17579062777667477348:=0
def tw14244787112167152895:=0
def tw15042716595100108889:=0
def tw4327240564894099438:=0
def tw11097980046488098431:=0
def tw15545623590709961255:=0
def tw14134074382212904561:=0
def tw8328469269938715999:=0
def tw7327881438842411429:=0
def tw6458071184844736746:=0
def tw2666110809978441829:=0
def tw6879684155942178413:=0
def tw16402010019060437136:=0
def tw2217462366651808646:=0
def tw17012129091474021375:=0
def tw7151052110706155361:=0
def tw702600500807774771:=0
def tw12539888530875430928:=0
def tw4975473403568240737:=0
def tw15762850983367128887:=0
def tw1151147009081498935:=0
def tw11911913197839708569:=0
def tw14923377231497641833:=0
def tw16669574006713632254:=0
def tw2967937835252425515:=0
def tw2861761315704993856:=0
def tw12761534633418320928:=0
def tw1932795710285545915:=0
def tw17573048035520227186:=0
def tw15170369531581163270:=0
def tw8481198711880493398:=0
def tw7731419666492537239:=0
def tw829263946490701523:=0
def tw5318829844926646668:=0
def tw11706312268977315584:=0
def tw11269311526155970070:=0
def tw12662918428887620650:=0
def tw10315258752809732479:=0
end PySem.W.Fast
set_option maxRecDepth 100000 in
set_option maxHeartbeats 0 in
theorem PySem.Challenge.cw_measurewise_k07_what_names_stand_for_holds : PySem.Challenge.rw_measurewise_k07_what_names_stand_for.Holds := by
 w_on;o_law;k_head;(case hw=>w_witness2)
 k_fill
 refine Fr.zTN (l:=PySem.Challenge.rw_measurewise_k07_what_names_stand_for) rfl rfl ?hI (fun w h Y=>PySem.W.kIn_of Y) ?F
 case hI=>first | rfl | kernel_rfl | decide+kernel
 case F=>
  intro w mg fa h KX G hmg;apply Fr.zPj (w:=w) rfl KX G hmg
  all_goals first |(apply Fr.zRm<;>k_is)|(apply Fr.zSD<;>k_is)|(apply Fr.zRr<;>first | k_is | kernel_rfl)|(unfold Fr.GA;k_is)| k_is | kernel_rfl
