import PyProof.Rows.All
import Wide.All
import OpenK.AllK
import Wide.FinOn
import Lean
import PyProof.EqAt
import PyProof.EqKinds
import PyProof.TupleCall
import OpenK.KMore
import PyProof.ExcInit
import PyProof.ExcClass2
import PyProof.InstStoreFacts
import PyProof.ExcArgsOwn
import PyProof.ExcAttrAll.ValueError
import KE.KRevIter
import PyProof.Rows.ZipGen
import PyProof.ListMulRoad
import PyProof.AutoListH
import KE.IntBitsLaws
import PyProof.Rows.MinMaxN
import PySem.Challenge.RW_measurewise_k04_expressions_told
set_option Elab.async false
set_option linter.all false
set_option maxRecDepth 100000
set_option maxHeartbeats 4000000
section
open PySem PySem.Spec PyProof PyProof.Rows
def zRc:=@List.getElem?_eq_getElem
def zRd:=@wpAny_bind
def zRe:=@Heap.get?_push_of_some
def zRf:=@PySem.W.mg_of
def zRg:=@Nat.le_refl
def zRh:=@List.getElem?_map
def zRi:=@wpAny_pure
def zRj:=@List.length_map
def zRk:=@Nat.ne_of_lt
def zRl:=@Nat.lt_of_lt_of_le
def zRm:=@Heap.lt_size
def zRn:=@sizeLine_eq
def zRo:=@Int.emod_lt_of_pos
def zRp:=@Bool.false_ne_true
def zRq:=@Nat.le_trans
def zRr:=@Nat.zero_le
def zRs:=@List.mem_append_right
def zRt:=@Int.emod_nonneg
def zRu:=@Heap.get?_push_size
def zRv:=@List.size_toArray
def zRw:=@wpAny_mono
def zRx:=@List.map_append
def zRy:=@List.take_add_one
def zRz:=@decide_eq_true
def zSA:=@decide_eq_false
def zSB:=@List.append_nil
def zSC:=@List.length_append
def zSD:=@PySem.W.mg_none_of
def zSE:=@List.mem_of_getElem?
def zSF:=@List.getElem_mem
def zSG:=@of_decide_eq_true
def zSH:=@PySem.W.hideAll_get
def zSI:=@List.mem_cons_of_mem
def zSJ:=@Heap.get?_update_other
def zSK:=@Heap.get?_update_self
def zSL:=@Nat.ne_of_gt
def zSM:=@PySem.W.kia_one
def zSN:=@wpAny_holding
def zSO:=@wpAny_truthy_bool
def zSP:=@wpAny_Call_Name_kw
def zSQ:=@codeAny_mono
def zSR:=@PySem.W.of_hideAll
abbrev zSS:=@PySem.W.Frag
def zST:=@List.mem_cons
def zSU:=@Bool.and_eq_true
def zSV:=@List.length_eq_one_iff
def zSW:=@List.mem_append
def zSX:=@List.map_cons
def zSY:=@List.mem_singleton
def zSZ:=@List.mem_map
def zSa:=@List.length_cons
def zSb:=@Bool.eq_iff_iff
def zSc:=@List.not_mem_nil
def zSd:=@List.getElem?_eq_some_iff
def zSe:=@Bool.not_eq_true'
end
namespace L2
open PySem PySem.Spec PyProof.Rows
abbrev Key:=Sum Int Str
def zKs:Key->Value->Bool
 | .inl k,v=>Value.isInt k v
 | .inr x,v=>Value.isStrOf x v
def zQr(w:World):Key->Int
 | .inl k=>hashInt k
 | .inr x=>hashStr w x
theorem yb: ∀{k:Key} {v:Value},zKs k v=true->(∃i t,k=Sum.inl i/\v=Value.int i t)\/(∃x t,k=Sum.inr x/\v=Value.str x t)
 | .inl i,v,h=>by
  obtain ⟨t,e⟩:=Value.isInt_shape (k:=i) (v:=v) h;exact .inl ⟨i,t,rfl,e⟩
 | .inr x,v,h=>by
  obtain ⟨t,e⟩:=Value.isStrOf_shape (x:=x) (v:=v) h;exact .inr ⟨x,t,rfl,e⟩
theorem zOV(a b:Int):decide ((Sum.inl a:Key)=Sum.inl b)=(a==b):=by
 by_cases e:a=b
 ·subst e;simp
 ·have h: ¬(Sum.inl a:Key)=Sum.inl b:=fun q=>e (Sum.inl.inj q);rw [zSA h];exact (beq_eq_false_iff_ne.mpr e).symm
theorem zNd(a b:Str):decide ((Sum.inr a:Key)=Sum.inr b)=decide (a=b):=by
 by_cases e:a=b
 ·subst e;simp
 ·have h: ¬(Sum.inr a:Key)=Sum.inr b:=fun q=>e (Sum.inr.inj q);rw [zSA h,zSA e]
theorem zOA(a:Int)(b:Str):decide ((Sum.inl a:Key)=Sum.inr b)=false:=zSA (fun q=>nomatch q)
theorem zOn(a:Str)(b:Int):decide ((Sum.inr a:Key)=Sum.inl b)=false:=zSA (fun q=>nomatch q)
def zGu(prog:Program)(w:World):PySem.KeyKind prog w Key where
 is:=zKs
 hash:=zQr w
 inj:=fun v a b ha hb=>by
  rcases yb ha with ⟨i,t,rfl,rfl⟩|⟨x,t,rfl,rfl⟩
  ·rcases yb hb with ⟨j,u,rfl,e⟩|⟨y,u,rfl,e⟩
   ·injection e with e1 _;rw [e1]
   ·exact nomatch e
  ·rcases yb hb with ⟨j,u,rfl,e⟩|⟨y,u,rfl,e⟩
   ·exact nomatch e
   ·injection e with e1 _;rw [e1]
 byValue:=fun k v h=>by
  rcases yb h with ⟨i,t,rfl,rfl⟩|⟨x,t,rfl,rfl⟩<;>rfl
 pyHash:=fun hv h=>by
  rcases yb hv with ⟨i,t,rfl,rfl⟩|⟨x,t,rfl,rfl⟩
  ·exact wpAny_pyHash_int h
  ·exact wpAny_pyHash_str h
 eqBool:=fun hu hv h=>by
  rcases yb hu with ⟨i,t,rfl,rfl⟩|⟨x,t,rfl,rfl⟩
  ·rcases yb hv with ⟨j,u,rfl,rfl⟩|⟨y,u,rfl,rfl⟩
   ·rw [zOV] at h;exact wpAny_eqBool_int h
   ·rw [zOA] at h;exact SeqAt.EqAt.int_str i t y u _ _ _ _ h
  ·rcases yb hv with ⟨j,u,rfl,rfl⟩|⟨y,u,rfl,rfl⟩
   ·rw [zOn] at h;exact SeqAt.EqAt.str_int x t j u _ _ _ _ h
   ·rw [zNd] at h;exact wpAny_eqBool_str h
 «strs»:=fun k x t v h=>by
  rcases yb h with ⟨i,u,rfl,e⟩|⟨y,u,rfl,e⟩
  ·exact nomatch e
  ·injection e with e1 _;subst e1;cases v<;>rfl
inductive V where
 | non | bl (b:Bool)| int (i:Int)| str (x:Str)| byt (b:Array UInt8)| flt (b:UInt64)| ref (a:Addr)| ty (n:String)
 deriving DecidableEq
def ze:V->Value->Prop
 | .non,u=>u=Value.none
 | .bl b,u=>u=Value.bool b
 | .int i,u=> ∃t,u=Value.int i t
 | .str x,u=> ∃t,u=Value.str x t
 | .byt b,u=> ∃t,u=Value.bytes b t
 | .flt b,u=> ∃t,u=Value.float b t
 | .ref a,u=>u=Value.ref a
 | .ty n,u=>u=Value.type n
abbrev zT:List V->List Value->Prop:=Paired ze
theorem zT.length{xs:List V}{us:List Value}(r:zT xs us):xs.length=us.length:=Paired.length r
theorem zT.get: ∀{xs:List V} {us:List Value} {i:Nat} {x:V},zT xs us->xs[i]?=some x-> ∃u,us[i]?=some u/\ze x u
 | _,_,_,_,.nil,e=>by simp at e
 | _,_,0,_,.cons r _,e=>by simp at e;subst e;exact ⟨_,rfl,r⟩
 | _,_,i+1,x,.cons _ t,e=>by
  obtain ⟨u,h1,h2⟩:=zT.get (i:=i) (x:=x) t (by simpa using e);exact ⟨u,by simpa using h1,h2⟩
theorem zT.set{x:V}{u:Value}(r:ze x u): ∀{xs:List V} {us:List Value} (i:Nat),zT xs us->zT (xs.set i x) (us.set i u)
 | _,_,_,.nil=> .nil
 | _,_,0,.cons _ t=> .cons r t
 | _,_,i+1,.cons q t=> .cons q (zT.set r i t)
theorem zT.append: ∀{xs ys:List V} {us ws:List Value},zT xs us->zT ys ws->zT (xs++ys) (us++ws)
 | _,_,_,_,.nil,s=>s
 | _,_,_,_,.cons r t,s=> .cons r (zT.append t s)
theorem zT.take: ∀{xs:List V} {us:List Value} (n:Nat),zT xs us->zT (xs.take n) (us.take n)
 | _,_,0,_=> .nil
 | _,_,_+1,.nil=> .nil
 | _,_,n+1,.cons r t=> .cons r (zT.take n t)
theorem zT.drop: ∀{xs:List V} {us:List Value} (n:Nat),zT xs us->zT (xs.drop n) (us.drop n)
 | _,_,0,r=>r
 | _,_,_+1,.nil=> .nil
 | _,_,n+1,.cons _ t=>zT.drop n t
def zBA:Option V->Option Value->Prop
 | some v,some u=>ze v u
 | none,none=>True
 | _,_=>False
def KV{κ:Type}:List (κ×V)->List (κ×Value)->Prop:=Paired fun (p:κ×V) (q:κ×Value)=>p.1=q.1/\ze p.2 q.2
def kV:Key->V
 | .inl i=> .int i
 | .inr x=> .str x
inductive HO where
 | lst (xs:List V)
 | tup (xs:List V)
 | dK (kvs:List (Key×V))| dT (kvs:List (List Key×V))
 | set (S:Int->Bool) (n:Nat)
 | ins (C dx:Addr) (fs:List (Str×V))
 | own (x:Addr)
 | xd (fs:List (Str×V))
 | met (f x:Addr)
 | rng (lo hi:Int)
 | frz (o:Obj) (u:HO)
 | tbl (ps:Array Value)
 | ext (φ:Heap->Prop)
abbrev Hp:=Addr->Option HO
def upd(H:Hp)(a:Addr)(o:HO):Hp:=fun b=>if b=a then some o else H b
theorem zD{H:Hp}{a:Addr}{o:HO}:upd H a o a=some o:=by unfold upd;rw [if_pos rfl]
theorem zQ{H:Hp}{a b:Addr}{o:HO}(h:b≠a):upd H a o b=H b:=by unfold upd;rw [if_neg h]
theorem zCu{H:Hp}{a:Addr}{o u:HO}:upd (upd H a o) a u=upd H a u:=by
 funext b;unfold upd;split<;>rfl
theorem zEE{H:Hp}{a b:Addr}{o u:HO}(h:H a=some o)(h':H b=some u)(d:o≠u):a≠b:=by
 intro e;subst e;rw [h] at h';exact d (Option.some.inj h')
theorem zm{H:Hp}{a b:Addr}{o:HO}(h:H a=some o)(h':H b=none):a≠b:=by
 intro e;subst e;rw [h] at h';cases h'
def zCG(h:Heap)(a:Addr)(items:Array Value):Prop:= ∃o,h.get? a=some o/\o.cls= .type "tuple" /\(∃n,o.data= .seq items n)/\o.dict=none
theorem zCG.new(h:Heap)(items:Array Value):zCG (h.push {cls:= .type "tuple",data:= .seq items}) h.objs.size items:=⟨_,zRu _ rfl,rfl,⟨_,rfl⟩,rfl⟩
section
variable (P:Program)(w:World)
def zx(H:Hp)(h:Heap)(a:Addr):HO->Prop
 | .lst xs=>xs.length<=sizeLine/\ ∃(its:List Value) (n:Nat),zT xs its/\h.get? a=some {cls:= .type "list",data:= .seq its.toArray n}
 | .tup xs=>xs.length<=sizeLine/\ ∃its:List Value,zT xs its/\zCG h a its.toArray
 | .dK kvs=>kvs.length<=sizeLine/\(a==sysModules)=false/\ ∃vs,KV kvs vs/\h.DictOf (zGu P w) a vs
 | .dT kvs=>kvs.length<=sizeLine/\(a==sysModules)=false/\ ∃xs:List (List Key×Addr×Value),
   Paired (fun (p:List Key×V) (q:List Key×Addr×Value)=>p.1=q.1/\H q.2.1=some (.tup (p.1.map kV))/\ze p.2 q.2.2) kvs xs/\
   ∃o es ep,h.get? a=some o/\o.ExactDict/\o.data= .dict es ep/\es.toList=xs.map (entryOfKey (tupleKind (zGu P w)))/\(xs.map (·.1)).Nodup
 | .set S n=>h.SetOf (intKind P w) a S n
 | .ins C dx fs=>H dx=some (.own a)/\fs.length<=1000/\dx≠a/\h.get? a=some (PySem.W.instObj C dx)/\
   ∃mA,h.Ns1 dx mA/\(∀f,zBA (fs.lookup f) (mA f))/\PySem.Within mA (fs.map (·.1))
 | .own _=> ∃o,h.get? a=some o
 | .xd fs=> ∃mA,h.Ns1 a mA/\ ∀f,zBA (fs.lookup f) (mA f)
 | .rng lo hi=> ∃t u v,h.get? a=some {cls:= .type "range",data:= .fields #[.int lo t,.int hi u,.int 1 v]}
 | .frz o u=>h.get? a=some o/\zx H h a u
 | .tbl ps=>h.get? a=some {cls:= .none,data:= .fields ps}
 | .met f x=>h.get? a=some (PySem.W.methodObj (.ref f) (.ref x))
 | .ext φ=>φ h/\(∃o,h.get? a=some o)/\ ∀h1 h2:Heap,φ h1->(∀o,h1.get? a=some o->h2.get? a=some o)->φ h2
def HOk(H:Hp)(h:Heap):Prop:= ∀a o,H a=some o->zx P w H h a o
end
section
variable {P:Program}{w:World}{H H':Hp}{h h':Heap}{a:Addr}{o:HO}
theorem zx.lt(x:zx P w H h a o):a<h.objs.size:=by
 cases o with
 | lst xs=>obtain ⟨_,_,_,_,e⟩:=x;exact zRm e
 | tup xs=>obtain ⟨_,_,_,_,e,_⟩:=x;exact zRm e
 | dK kvs=>obtain ⟨_,_,_,_,o,_,_,e,_⟩:=x;exact zRm e
 | dT kvs=>obtain ⟨_,_,_,_,o,_,_,e,_⟩:=x;exact zRm e
 | set S n=>obtain ⟨o,_,_,_,e,_⟩:=x;exact zRm e
 | ins C dx fs=>obtain ⟨_,_,_,e,_⟩:=x;exact zRm e
 | own y=>obtain ⟨_,e⟩:=x;exact zRm e
 | xd fs=>obtain ⟨_,⟨_,_,_,e,_⟩,_⟩:=x;exact zRm e
 | rng lo hi=>obtain ⟨_,_,_,e⟩:=x;exact zRm e
 | frz ob u=>obtain ⟨e,_⟩:=x;exact zRm e
 | tbl ps=>exact zRm (show h.get? a=some _ from x)
 | met f y=>exact zRm (show h.get? a=some _ from x)
 | ext φ=>obtain ⟨_,⟨_,e⟩,_⟩:=x;exact zRm e
theorem Paired.mapP{α β:Type}{F G:α->β->Prop}: ∀{l₁:List α} {l₂:List β},Paired F l₁ l₂->(∀a b,F a b->G a b)->Paired G l₁ l₂
 | _,_,.nil,_=> .nil
 | _,_,.cons r t,f=> .cons (f _ _ r) (Paired.mapP t f)
theorem zx.stay(x:zx P w H h a o)(k: ∀b u,(b=a\/H b=some (.own a))->h.get? b=some u->h'.get? b=some u)
  (ho: ∀b,H b=some (.own a)->H' b=some (.own a)) (ht: ∀b xs,H b=some (.tup xs)->H' b=some (.tup xs)):zx P w H' h' a o:=by
 induction o with
 | lst xs=>obtain ⟨z,its,n,r,e⟩:=x;exact ⟨z,its,n,r,k _ _ (.inl rfl) e⟩
 | tup xs=>obtain ⟨z,its,r,ob,e,c⟩:=x;exact ⟨z,its,r,ob,k _ _ (.inl rfl) e,c⟩
 | dK kvs=>obtain ⟨z,y,vs,r,ob,es,ep,e,c⟩:=x;exact ⟨z,y,vs,r,ob,es,ep,k _ _ (.inl rfl) e,c⟩
 | dT kvs=>
  obtain ⟨z,y,xs,r,ob,es,ep,e,c⟩:=x;exact ⟨z,y,xs,Paired.mapP r fun p q z=>⟨z.1,ht _ _ z.2.1,z.2.2⟩,ob,es,ep,k _ _ (.inl rfl) e,c⟩
 | set S n=>obtain ⟨ob,es,ep,t,e,c⟩:=x;exact ⟨ob,es,ep,t,k _ _ (.inl rfl) e,c⟩
 | ins C dx fs=>
  obtain ⟨d,z,ne,e,mA,⟨od,es,ep,e2,c⟩,r⟩:=x;exact ⟨ho _ d,z,ne,k _ _ (.inl rfl) e,mA,⟨od,es,ep,k _ _ (.inr d) e2,c⟩,r⟩
 | own y=>obtain ⟨ob,e⟩:=x;exact ⟨ob,k _ _ (.inl rfl) e⟩
 | xd fs=>obtain ⟨mA,⟨od,es,ep,e,c⟩,r⟩:=x;exact ⟨mA,⟨od,es,ep,k _ _ (.inl rfl) e,c⟩,r⟩
 | rng lo hi=>obtain ⟨t,u,v,e⟩:=x;exact ⟨t,u,v,k _ _ (.inl rfl) e⟩
 | frz ob u ih=>obtain ⟨e,q⟩:=x;exact ⟨k _ _ (.inl rfl) e,ih q⟩
 | tbl ps=>
  have e:h.get? a=some {cls:= .none,data:= .fields ps}:=x;show h'.get? a=some {cls:= .none,data:= .fields ps};exact k a _ (.inl rfl) e
 | met f y=>
  have e:h.get? a=some (PySem.W.methodObj (.ref f) (.ref y)):=x;show h'.get? a=some (PySem.W.methodObj (.ref f) (.ref y));exact k a _ (.inl rfl) e
 | ext φ=>obtain ⟨p,⟨o,e⟩,st⟩:=x;exact ⟨st _ _ p fun o q=>k _ _ (.inl rfl) q,⟨o,k _ _ (.inl rfl) e⟩,st⟩
theorem HOk.lt(x:HOk P w H h)(e:H a=some o):a<h.objs.size:=(x a o e).lt
theorem HOk.fresh(x:HOk P w H h)(e:h.objs.size<=a):H a=none:=by
 cases q:H a with
 | none=>rfl
 | some u=>exact absurd (zRl (x.lt q) e) (Nat.lt_irrefl _)
theorem HOk.kept(x:HOk P w H h)(k: ∀b u,h.get? b=some u->h'.get? b=some u):HOk P w H h':=fun a o e=>
 (x a o e).stay (fun b u _ q=>k b u q) (fun _ q=>q) fun _ _ q=>q
theorem HOk.laid(x:HOk P w H h)(k: ∀b u,h.get? b=some u->h'.get? b=some u)(hp:h.objs.size<=a)(new:zx P w (upd H a o) h' a o):HOk P w (upd H a o) h':=fun b u e=>by
 have hn:=x.fresh hp;by_cases hb:b=a
 ·subst hb;rw [zD] at e;cases e;exact new
 ·rw [zQ hb] at e;exact (x b u e).stay (fun c v _ q=>k c v q) (fun c q=>by rw [zQ (zm q hn)];exact q) fun c xs q=>by rw [zQ (zm q hn)];exact q
end
def Rd(H:Hp)(a:Addr)(u:HO):Prop:=H a=some u\/ ∃o,H a=some (.frz o u)
theorem Rd.ok{P:Program}{w:World}{H:Hp}{h:Heap}{a:Addr}{u:HO}(r:Rd H a u)(x:HOk P w H h):zx P w H h a u:=by
 rcases r with r |⟨o,r⟩
 ·exact x a u r
 ·obtain ⟨_,q⟩:=x a _ r;exact q
def Mut:Option HO->Prop
 | some (.lst _)=>True
 | some (.dK _)=>True
 | some (.dT _)=>True
 | some (.set _ _)=>True
 | some (.ins _ _ _)=>True
 | some (.ext _)=>True
 | _=>False
section
variable {P:Program}{w:World}{H:Hp}{h h':Heap}{x e:Addr}{o':HO}
theorem HOk.write(ok:HOk P w H h)(mu:Mut (H x))(he:e=x\/H e=some (.own x))(k: ∀b u,b≠e->h.get? b=some u->h'.get? b=some u)(heo: ∃u,h'.get? e=some u)
  (new:zx P w (upd H x o') h' x o'):HOk P w (upd H x o') h':=fun b u q=>by
 have nown: ∀c y,H c=some (.own y)->c≠x:=fun c y r z=>by subst z;rw [r] at mu;exact mu
 have ntup: ∀c xs,H c=some (.tup xs)->c≠x:=fun c xs r z=>by subst z;rw [r] at mu;exact mu
 by_cases hb:b=x
 ·subst hb;rw [zD] at q;cases q;exact new
 ·rw [zQ hb] at q;by_cases hbe:b=e
  ·have q':H b=some (.own x):=by
    rcases he with z | z
    ·exact absurd (hbe.trans z) hb
    ·rw [hbe];exact z
   rw [q] at q';cases q';obtain ⟨v,hv⟩:=heo;exact ⟨v,by rw [hbe];exact hv⟩
  ·refine (ok b u q).stay (fun c v hc r=>k c v ?_ r) (fun c r=>by rw [zQ (nown c b r)];exact r) fun c xs r=>by rw [zQ (ntup c xs r)];exact r
   rcases hc with rfl | hc
   ·exact hbe
   ·rintro rfl;rcases he with z | z
    ·exact nown c b hc z
    ·rw [hc] at z;cases z;exact hb rfl
end
structure Un(fs ex:List Addr)(H H':Hp)(h h':Heap):Prop where
 keep: ∀b o,h.get? b=some o->H b=none->b∉fs->b∉ex->h'.get? b=some o
 slot: ∀b o,h.get? b=some o->H b=none->b∈fs->b∉ex-> ∃sl,h'.get? b=some {o with slots:=sl}
 free: ∀b o,h.get? b=some o->H b=none->b∉ex->H' b=none
 there: ∀b o,h.get? b=some o->b∉ex-> ∃o',h'.get? b=some o'
 tups: ∀b xs,H b=some (.tup xs)->H' b=some (.tup xs)
 frzs: ∀b o u,H b=some (.frz o u)->H' b=some (.frz o u)
 tbls: ∀b ps,H b=some (.tbl ps)-> ∃more,H' b=some (.tbl (ps++more))
section
variable {fs fs' ex ex':List Addr}{H H1 H2:Hp}{h h1 h2 h':Heap}{a x e:Addr}{o:HO}
theorem Un.any(u:Un fs ex H H1 h h1){b:Addr}{ob:Obj}(q:h.get? b=some ob)(n:H b=none)(hx:b∉ex): ∃sl,h1.get? b=some {ob with slots:=sl}:=by
 by_cases hb:b∈fs
 ·exact u.slot b ob q n hb hx
 ·exact ⟨ob.slots,u.keep b ob q n hb hx⟩
theorem Un.kept(k: ∀b u,h.get? b=some u->h'.get? b=some u):Un fs ex H H h h':=
 ⟨fun b ob q _ _ _=>k b ob q,fun b ob q _ _ _=>⟨ob.slots,k b ob q⟩,fun _ _ _ n _=>n,fun b ob q _=>⟨ob,k b ob q⟩,fun _ _ q=>q,fun _ _ _ q=>q,fun _ ps q=>⟨#[],by rw [q];simp⟩⟩
theorem Un.refl:Un fs ex H H h h:=Un.kept fun _ _ q=>q
theorem Un.laid(k: ∀b u,h.get? b=some u->h'.get? b=some u)(hp:h.objs.size<=a)(hn:H a=none):Un fs ex H (upd H a o) h h' where
 keep:=fun b u q _ _ _=>k b u q
 slot:=fun b u q _ _ _=>⟨u.slots,k b u q⟩
 free:=fun b u q n _=>by rw [zQ (zRk (zRl (zRm q) hp))];exact n
 there:=fun b u q _=>⟨u,k b u q⟩
 tups:=fun b xs q=>by rw [zQ (zm q hn)];exact q
 frzs:=fun b u xs q=>by rw [zQ (zm q hn)];exact q
 tbls:=fun b ps q=>⟨#[],by rw [zQ (zm q hn),q];simp⟩
theorem Un.write(mu:Mut (H x))(he:e=x\/H e=some (.own x))(k: ∀b u,b≠e->h.get? b=some u->h'.get? b=some u)(heo: ∃u,h'.get? e=some u):Un fs ex H (upd H x o) h h':=by
 have hx: ∀b,H b=none->b≠x:=fun b n z=>by subst z;rw [n] at mu;exact mu
 have hb: ∀b,H b=none->b≠e:=fun b n z=>by
  subst z;rcases he with r | r
  ·exact hx b n r
  ·rw [n] at r;cases r
 have hm: ∀b u,H b=some u-> ¬Mut (some u)->b≠x:=fun b u q nm z=>by subst z;rw [q] at mu;exact nm mu
 refine ⟨fun b u q n _ _=>k b u (hb b n) q,fun b u q n _ _=>⟨u.slots,k b u (hb b n) q⟩,fun b u q n _=>by rw [zQ (hx b n)];exact n,fun b u q _=>?_,
  fun b xs q=>by rw [zQ (hm b _ q fun z=>z)];exact q,fun b u xs q=>by rw [zQ (hm b _ q fun z=>z)];exact q,fun b ps q=>⟨#[],by rw [zQ (hm b _ q fun z=>z),q];simp⟩⟩
 by_cases hbe:b=e
 ·subst hbe;exact heo
 ·exact ⟨u,k b u hbe q⟩
end
def trk(h:Heap)(H:Hp):List Addr:=(List.range h.objs.size).filter fun a=>(H a).isSome
def zBx(h:Heap)(H:Hp):Heap:=PySem.W.hideAll h (trk h H)
theorem zJK(h:Heap)(H:Hp):(zBx h H).objs.size=h.objs.size:=PySem.W.hideAll_size _ _
theorem zJh{h:Heap}{H:Hp}{b:Addr}{o:Obj}(e:h.get? b=some o)(n:H b=none):(zBx h H).get? b=some o:=
 zSH _ e fun hm=>by
  have q:(H b).isSome=true:=(List.mem_filter.mp hm).2;rw [n] at q;simp at q
theorem zLS{h:Heap}{H:Hp}{b:Addr}{o:Obj}(e:(zBx h H).get? b=some o):h.get? b=some o/\H b=none:=by
 have e':h.get? b=some o:=zSR (trk h H) e;refine ⟨e',?_⟩;cases q:H b with
 | none=>rfl
 | some x=>
  have hm:b∈trk h H:=List.mem_filter.mpr ⟨List.mem_range.mpr (zRm e'),by simp [q]⟩;have z:(zBx h H).get? b=none:=PySem.W.hideAll_none (trk h H) hm;rw [z] at e;cases e
structure Mod(K:zSS)(mg:Str->Option Value)(base:Heap):Prop where
 kin:K.In base
 glob:base.Ns mainGlobals mg
 blt: ∃mb,base.Ns builtinsNs mb/\ ∀x:Str,x≠ "__name__" ->mb x=bootBuiltins x
 nolimit:base.NoLimit
 seer:base.NoSeer
structure Cx where
 prog:Program
 w:World
 K:zSS
 mg:Str->Option Value
 base:Heap
 A:Around
 N:List Str
 s₀:Shared
 H₀:Hp
 env:Env
 outer:List Env
 stack:List Env
 ex:List Addr
 fn:Str->Bool
 calm:Bool
 pn:List (Addr×Obj)
 xe:Value->Shared->Prop
def yi(l:List Env):List Addr:=l.filterMap (·.frame)
abbrev Cx.fs(X:Cx):List Addr:=yi X.outer
def Vis(sc:Scope)(x:Str):Prop:=sc.names.lookup x=some .local\/sc.names.lookup x=some .cell\/sc.names.lookup x=some .free
def Loc(sc:Scope)(x:Str):Prop:=sc.names.lookup x=some .local\/sc.names.lookup x=some .cell
def zQv(env:Env)(h:Heap)(m:Str->Option Value)(x:Str)(u:Value):Prop:=
 (env.kindOf x=some .local/\m x=some u)\/((env.kindOf x=some .cell\/env.kindOf x=some .free)/\ ∃c,env.cells.lookup x=some c/\h.IsCell c (some u))
structure Cx.Ok(X:Cx):Prop where
 mod:Mod X.K X.mg X.base
 kind:X.env.scope.kind= .function
 glob:X.env.globals=mainGlobals
 blt:X.env.builtins=builtinsNs
 above:X.s₀.heap.objs.size<=X.env.locals
 inj: ∀x y c,X.env.cells.lookup x=some c->X.env.cells.lookup y=some c->x=y
 has: ∀x,(X.env.kindOf x=some .cell\/X.env.kindOf x=some .free)-> ∃c,X.env.cells.lookup x=some c
 cab: ∀x c,X.fn x=true->X.env.cells.lookup x=some c->X.s₀.heap.objs.size<=c
 hd:X.calm=true->X.A.handled=none
 frames:X.A.frames=some X.stack
 stk:X.stack=X.outer\/(X.stack=X.env::X.outer/\X.env.frame=some X.env.locals)
 exf: ∀b∈X.ex,b≠X.env.locals/\ ∀x c,X.env.cells.lookup x=some c->c≠b
 bs: ∀b o,X.base.get? b=some o->X.s₀.heap.get? b=some o/\X.H₀ b=none
 bsz:X.base.objs.size<=X.s₀.heap.objs.size
 noex: ∀b o,X.base.get? b=some o->b∉X.ex
 exfs: ∀b∈X.ex,b∉X.fs
 funs:X.s₀.heap.FunFrames X.base X.outer
 frf: ∀b∈X.fs,X.H₀ b=none
structure Inv(X:Cx)(pins:List (Addr×Obj))(σ:List (Option V))(H:Hp)(s:Shared):Prop where
 ok:X.Ok
 os:s.os=X.s₀.os
 bare:AllBare s.gens
 base:Un X.fs X.ex X.H₀ H X.s₀.heap s.heap
 loc: ∃m,s.heap.Ns X.env.locals m/\ ∀(i:Nat) (x:Str) (v:V),X.N[i]?=some x->σ[i]?=some (some v)->Vis X.env.scope x-> ∃u,ze v u/\zQv X.env s.heap m x u
 cell: ∀x c,X.env.cells.lookup x=some c-> ∃v,s.heap.IsCell c v
 free:H X.env.locals=none
 freeC: ∀x c,X.env.cells.lookup x=some c->H c=none
 pin: ∀p∈X.pn++pins,s.heap.get? p.1=some p.2/\H p.1=none/\p.1≠X.env.locals/\p.1∉X.fs/\ ∀v,p.2.data≠ .cell v
 hok:HOk X.prog X.w H s.heap
 len:σ.length=X.N.length
section
variable {X:Cx}{pins:List (Addr×Obj)}{σ:List (Option V)}{H H':Hp}{s:Shared}{h':Heap}
theorem Cx.Ok.nofr(ok:X.Ok){b:Addr}{o:Obj}(e:X.base.get? b=some o):b∉X.fs:=fun hb=>by
 have:=(ok.funs.mem hb).1;rw [e] at this;cases this
theorem Inv.bs(I:Inv X pins σ H s): ∀b o,X.base.get? b=some o->s.heap.get? b=some o/\H b=none:=fun b o e=>
 ⟨I.base.keep b o (I.ok.bs b o e).1 (I.ok.bs b o e).2 (I.ok.nofr e) (I.ok.noex b o e),I.base.free b o (I.ok.bs b o e).1 (I.ok.bs b o e).2 (I.ok.noex b o e)⟩
theorem Inv.bk(I:Inv X pins σ H s): ∀b o,X.base.get? b=some o->s.heap.get? b=some o:=fun b o e=>(I.bs b o e).1
theorem Inv.mod(I:Inv X pins σ H s):Mod X.K X.mg X.base:=I.ok.mod
theorem Inv.kIn(I:Inv X pins σ H s):X.K.In s.heap:=I.ok.mod.kin.keeps I.bk
theorem Inv.lt(I:Inv X pins σ H s):X.env.locals<s.heap.objs.size:=let ⟨_,hn,_⟩:=I.loc;hn.lt
theorem Inv.sz(I:Inv X pins σ H s):X.s₀.heap.objs.size<=s.heap.objs.size:=zRq I.ok.above (Nat.le_of_lt I.lt)
theorem Inv.nofs(I:Inv X pins σ H s){a:Addr}(h:s.heap.objs.size<=a):a∉X.fs:=fun hb=>by
 obtain ⟨_,o,ho,_⟩:=I.ok.funs.mem hb;exact absurd (zRl (zRm ho) (zRq I.sz h)) (Nat.lt_irrefl _)
theorem Inv.cne(I:Inv X pins σ H s): ∀x c,X.env.cells.lookup x=some c->c≠X.env.locals:=fun x c e z=>by
 obtain ⟨v,o,ho,hd⟩:=I.cell x c e;obtain ⟨m,⟨o',es,ep,ho',hd',_⟩,_⟩:=I.loc;rw [z,ho'] at ho;cases ho;rw [hd'] at hd;cases hd
theorem Inv.funs(I:Inv X pins σ H s):s.heap.FunFrames X.base X.outer:=by
 have all: ∀(l:List Env),(∀b∈yi l,b∈X.fs)->X.s₀.heap.FunFrames X.base l->s.heap.FunFrames X.base l:=by
  intro l
  induction l with
  | nil=>intro _ _;trivial
  | cons env r ih=>
   intro hs hl;obtain ⟨hk,⟨L,o,hf,hn,ho,hd⟩,hr⟩:=hl;have hL:L∈X.fs:=hs L (by unfold yi;rw [List.filterMap_cons,hf];exact List.mem_cons_self);obtain ⟨sl,e⟩:=I.base.slot L o ho (I.ok.frf L hL) hL fun z=>I.ok.exfs L z hL;exact ⟨hk,⟨L,_,hf,hn,e,hd⟩,ih (fun b hb=>hs b (by unfold yi;rw [List.filterMap_cons,hf];exact zSI _ hb)) hr⟩
 exact all X.outer (fun _ hb=>hb) I.ok.funs
theorem Inv.stack(I:Inv X pins σ H s):s.heap.FunFrames X.base X.stack:=by
 rcases I.ok.stk with e |⟨e,hf⟩
 ·rw [e];exact I.funs
 ·rw [e];obtain ⟨m,hn,_⟩:=I.loc;refine .cons (by rw [I.ok.kind];decide) hf hn ?_ I.funs;exact Heap.get?_none_of_le (zRq I.ok.bsz I.ok.above)
theorem Inv.stkSub(I:Inv X pins σ H s): ∀b∈yi X.stack,b∈X.env.locals::X.fs:=fun b hb=>by
 rcases I.ok.stk with e |⟨e,hf⟩
 ·rw [e] at hb;exact zSI _ hb
 ·rw [e] at hb;unfold yi at hb;rw [List.filterMap_cons,hf] at hb;exact hb
theorem Inv.stkFree(I:Inv X pins σ H s): ∀b∈yi X.stack,H b=none:=fun b hb=>by
 rcases zST.mp (I.stkSub b hb) with e | hb
 ·rw [e];exact I.free
 ·obtain ⟨_,o,ho,_⟩:=I.ok.funs.mem hb;exact I.base.free b o ho (I.ok.frf b hb) fun z=>I.ok.exfs b z hb
theorem Inv.step{g':Array GenState}{t':Nat}{d':Drawn}{ch:List Addr}(I:Inv X pins σ H s)
  (hch: ∀b∈ch,(b∈X.ex\/X.s₀.heap.objs.size<=b)/\b≠X.env.locals/\(∀x c,X.env.cells.lookup x=some c->c≠b)/\ ∀p∈X.pn++pins,p.1≠b)
  (keep: ∀b o,b≠X.env.locals->b∉X.fs->b∉ch->s.heap.get? b=some o->H b=none->h'.get? b=some o)
  (slot: ∀b o,b≠X.env.locals->b∈X.fs->b∉ch->s.heap.get? b=some o->H b=none-> ∃sl,h'.get? b=some {o with slots:=sl}) (free: ∀b o,b∉ch->s.heap.get? b=some o->H b=none->H' b=none)
  (there: ∀b o,b∉ch->s.heap.get? b=some o-> ∃o',h'.get? b=some o')
  (tups: ∀b xs,H b=some (.tup xs)->H' b=some (.tup xs)) (frzs: ∀b o u,H b=some (.frz o u)->H' b=some (.frz o u)) (tbls: ∀b ps,H b=some (.tbl ps)-> ∃more,H' b=some (.tbl (ps++more)))
  (ns: ∀m,s.heap.Ns X.env.locals m->h'.Ns X.env.locals m) (hok:HOk X.prog X.w H' h') (hg:AllBare g'):
  Inv X pins σ H' {s with heap:=h',gens:=g',drawn:=d',toks:=t'}:=by
 have neL: ∀b o,X.s₀.heap.get? b=some o->b≠X.env.locals:=fun b o e=>zRk (zRl (zRm e) I.ok.above);have neC: ∀b o,X.s₀.heap.get? b=some o->b∉X.ex->b∉ch:=fun b o e hx hb=>by
  rcases (hch b hb).1 with z | z
  ·exact hx z
  ·exact absurd (zRl (zRm e) z) (Nat.lt_irrefl _)
 have cellK: ∀x c,X.env.cells.lookup x=some c-> ∀v,s.heap.IsCell c v->h'.IsCell c v:=fun x c e v ⟨o,ho,hd⟩=>by
  have nch:c∉ch:=fun z=>(hch c z).2.2.1 x c e rfl;by_cases hc:c∈X.fs
  ·obtain ⟨sl,q⟩:=slot c o (I.cne x c e) hc nch ho (I.freeC x c e);exact ⟨_,q,hd⟩
  ·exact ⟨o,keep c o (I.cne x c e) hc nch ho (I.freeC x c e),hd⟩
 refine ⟨I.ok,I.os,hg,⟨fun b o e n hb hx=>?_,fun b o e n hb hx=>?_,fun b o e n hx=>?_,fun b o e hx=>?_,fun b xs e=>tups b xs (I.base.tups b xs e),fun b o xs e=>frzs b o xs (I.base.frzs b o xs e),fun b ps e=>?_⟩,?_,fun x c e=>?_,?_,fun x c e=>?_,fun p hp=>?_,hok,I.len⟩
 ·exact keep b o (neL b o e) hb (neC b o e hx) (I.base.keep b o e n hb hx) (I.base.free b o e n hx)
 ·obtain ⟨sl,e1⟩:=I.base.slot b o e n hb hx;obtain ⟨sl',e2⟩:=slot b _ (neL b o e) hb (neC b o e hx) e1 (I.base.free b o e n hx);exact ⟨sl',e2⟩
 ·obtain ⟨o',e1⟩:=I.base.there b o e hx;exact free b o' (neC b o e hx) e1 (I.base.free b o e n hx)
 ·obtain ⟨o',e1⟩:=I.base.there b o e hx;exact there b o' (neC b o e hx) e1
 ·obtain ⟨m1,e1⟩:=I.base.tbls b ps e;obtain ⟨m2,e2⟩:=tbls b _ e1;exact ⟨m1++m2,by rw [e2,Array.append_assoc]⟩
 ·obtain ⟨m,hn,hl⟩:=I.loc;refine ⟨m,ns m hn,fun i x v e1 e2 e3=>?_⟩;obtain ⟨u,r,l⟩:=hl i x v e1 e2 e3;refine ⟨u,r,?_⟩;rcases l with l |⟨k,c,e,z⟩
  ·exact .inl l
  ·exact .inr ⟨k,c,e,cellK x c e _ z⟩
 ·obtain ⟨v,z⟩:=I.cell x c e;exact ⟨v,cellK x c e v z⟩
 ·obtain ⟨m,⟨o,_,_,ho,_⟩,_⟩:=I.loc;exact free _ o (fun z=>(hch _ z).2.1 rfl) ho I.free
 ·obtain ⟨v,o,ho,hd⟩:=I.cell x c e;exact free c o (fun z=>(hch c z).2.2.1 x c e rfl) ho (I.freeC x c e)
 ·obtain ⟨e,n,ne,nf,d⟩:=I.pin p hp;have nch:p.1∉ch:=fun z=>(hch p.1 z).2.2.2 p hp rfl;exact ⟨keep p.1 p.2 ne nf nch e n,free p.1 p.2 nch e n,ne,nf,d⟩
theorem Inv.un{t':Nat}(I:Inv X pins σ H s)(u:Un X.fs [] H H' s.heap h')(hok:HOk X.prog X.w H' h'):Inv X pins σ H' {s with heap:=h',toks:=t'}:=by
 obtain ⟨m,⟨o,es,ep,ho,r⟩,_⟩:=id I.loc;obtain ⟨sl,hL⟩:=u.any ho I.free (by simp);exact I.step (g':=s.gens) (d':=s.drawn) (ch:= []) (fun _ z=>nomatch z) (fun b o _ hb _ e n=>u.keep b o e n hb (by simp)) (fun b o _ hb _ e n=>u.slot b o e n hb (by simp)) (fun b o _ e n=>u.free b o e n (by simp)) (fun b o _ e=>u.there b o e (by simp)) u.tups u.frzs u.tbls (fun m' hm=>by
  obtain ⟨o',es',ep',ho',r'⟩:=hm;rw [ho] at ho';cases ho';exact ⟨_,es',ep',hL,r'⟩) hok I.bare
theorem Inv.call{g':Array GenState}{t':Nat}{d':Drawn}{ch:List Addr}(I:Inv X pins σ H s)(u:Un (yi X.stack) ch H H' s.heap h')(hok:HOk X.prog X.w H' h')(hg:AllBare g')
  (hch: ∀b∈ch,(b∈X.ex\/X.s₀.heap.objs.size<=b)/\b≠X.env.locals/\(∀x c,X.env.cells.lookup x=some c->c≠b)/\ ∀p∈X.pn++pins,p.1≠b):
  Inv X pins σ H' {s with heap:=h',gens:=g',drawn:=d',toks:=t'}:=by
 obtain ⟨m,⟨o,es,ep,ho,r⟩,_⟩:=id I.loc;obtain ⟨sl,hL⟩:=u.any ho I.free fun z=>(hch _ z).2.1 rfl;exact I.step (ch:=ch) hch (fun b o hL hb hc e n=>u.keep b o e n (fun z=>(zST.mp (I.stkSub b z)).elim hL hb) hc) (fun b o _ _ hc e n=>u.any e n hc) (fun b o hc e n=>u.free b o e n hc) (fun b o hc e=>u.there b o e hc) u.tups u.frzs u.tbls (fun m' hm=>by
  obtain ⟨o',es',ep',ho',r'⟩:=hm;rw [ho] at ho';cases ho';exact ⟨_,es',ep',hL,r'⟩) hok hg
theorem Inv.turned{t':Nat}{it:Addr}(I:Inv X pins σ H s)(k: ∀b o,b≠it->s.heap.get? b=some o->h'.get? b=some o)(hn:H it=none)(hL:it≠X.env.locals)
  (h1:it∈X.ex\/X.s₀.heap.objs.size<=it) (h2: ∀x c,X.env.cells.lookup x=some c->c≠it) (h3: ∀p∈X.pn++pins,p.1≠it):Inv X pins σ H {s with heap:=h',toks:=t'}:=by
 have nit: ∀b u,H b=some u->b≠it:=fun b u e z=>by rw [z,hn] at e;cases e
 refine I.step (g':=s.gens) (d':=s.drawn) (ch:= [it]) (fun b hb=>?_) (fun b o _ _ hc e _=>k b o (fun z=>hc (by simp [z])) e) (fun b o _ _ hc e _=>⟨o.slots,k b o (fun z=>hc (by simp [z])) e⟩) (fun _ _ _ _ n=>n)
  (fun b o hc e=>⟨o,k b o (fun z=>hc (by simp [z])) e⟩) (fun _ _ e=>e) (fun _ _ _ e=>e) (fun b ps e=>⟨#[],by rw [e];simp⟩) (fun m hm=>?_) (fun b u e=>?_) I.bare
 ·have e:b=it:=by simpa using hb
  subst e;exact ⟨h1,hL,h2,h3⟩
 ·obtain ⟨o,es,ep,ho,r⟩:=hm;exact ⟨o,es,ep,k _ o (Ne.symm hL) ho,r⟩
 ·refine (I.hok b u e).stay (fun c v hc q=>k c v ?_ q) (fun _ q=>q) fun _ _ q=>q;rcases hc with z | z
  ·rw [z];exact nit b u e
  ·exact nit c _ z
theorem Inv.tok(I:Inv X pins σ H s)(t:Nat):Inv X pins σ H {s with toks:=t}:=I.un (h':=s.heap) (t':=t) Un.refl I.hok
theorem Inv.kept{t':Nat}(I:Inv X pins σ H s)(k: ∀b u,s.heap.get? b=some u->h'.get? b=some u):Inv X pins σ H {s with heap:=h',toks:=t'}:=I.un (Un.kept k) (I.hok.kept k)
theorem Inv.laid{a:Addr}{o:HO}{t':Nat}(I:Inv X pins σ H s)(k: ∀b u,s.heap.get? b=some u->h'.get? b=some u)(hp:s.heap.objs.size<=a)(new:zx X.prog X.w (upd H a o) h' a o):
  Inv X pins σ (upd H a o) {s with heap:=h',toks:=t'}:=I.un (Un.laid k hp (I.hok.fresh hp)) (I.hok.laid k hp new)
theorem Inv.write{x e:Addr}{o:HO}{t':Nat}(I:Inv X pins σ H s)(mu:Mut (H x))(he:e=x\/H e=some (.own x))(k: ∀b u,b≠e->s.heap.get? b=some u->h'.get? b=some u)(heo: ∃u,h'.get? e=some u)
  (new:zx X.prog X.w (upd H x o) h' x o):Inv X pins σ (upd H x o) {s with heap:=h',toks:=t'}:=I.un (Un.write mu he k heo) (I.hok.write mu he k heo new)
theorem Inv.pins_of{pins':List (Addr×Obj)}(I:Inv X pins σ H s)(h: ∀p∈pins',s.heap.get? p.1=some p.2/\H p.1=none/\p.1≠X.env.locals/\p.1∉X.fs/\ ∀v,p.2.data≠ .cell v):Inv X pins' σ H s:=
 ⟨I.ok,I.os,I.bare,I.base,I.loc,I.cell,I.free,I.freeC,fun p hp=>(zSW.mp hp).elim (fun z=>I.pin p (List.mem_append_left _ z)) (h p),I.hok,I.len⟩
theorem zDn{N:List Str}(hN:N.Nodup){i j:Nat}{x:Str}(a:N[i]?=some x)(b:N[j]?=some x):i=j:=by
 obtain ⟨h1,e1⟩:=zSd.mp a;obtain ⟨h2,e2⟩:=zSd.mp b;exact (List.getElem_inj hN).mp (e1.trans e2.symm)
theorem zEv{M:Model}{A:Around}{E:Value->Shared->Prop}{i:Nat}{x:Str}{v:V}{u:Value}{Q:Unit->Shared->Prop}(I:Inv X pins σ H s)(hN:X.N.Nodup)(hi:X.N[i]?=some x)(hx:Loc X.env.scope x)(r:ze v u)
  (h: ∀s',Inv X pins (σ.set i (some v)) H s'->(∃a,Heap.SameBut a s.heap s'.heap/\(a=X.env.locals\/X.env.cells.lookup x=some a))->Q () s') (hf:X.fn x=true\/X.env.scope.names.lookup x=some .local:=by first | exact .inl rfl | exact .inr rfl | assumption):wpAny M A (storeName X.env x u) Q E s:=by
 obtain ⟨m,hn,hl⟩:=id I.loc;have hcls:(X.env.scope.kind== .class ||(X.env.scope.kind== .module&&X.env.locals !=X.env.globals))=false:=by rw [I.ok.kind];rfl
 have hiσ:i<σ.length:=by rw [I.len];exact (zSd.mp hi).1
 have cne:=I.cne;have tracked: ∀{a:Addr} {h':Heap},(∃o,s.heap.get? a=some o/\H a=none)->Heap.SameBut a s.heap h'->HOk X.prog X.w H h':=fun {a h'} ha hs b ob e=>by
  obtain ⟨_,_,hfree⟩:=ha;refine (I.hok b ob e).stay (fun c w' hc q=>(hs.2 c ?_).trans q) (fun _ q=>q) fun _ _ q=>q;rintro rfl;rcases hc with rfl | hc
  ·rw [hfree] at e;cases e
  ·rw [hfree] at hc;cases hc
 rcases hx with hk | hk
 ·refine wpAny_storeName_local hk hn (fun h' hn' hs=>?_) hcls;obtain ⟨oL,_,_,hoL,_⟩:=id hn;refine h _ ⟨I.ok,I.os,I.bare,⟨fun b o e n hb hx=>?_,fun b o e n hb hx=>?_,I.base.free,fun b o e hx=>?_,I.base.tups,I.base.frzs,I.base.tbls⟩,⟨_,hn',fun j y v' e1 e2 e3=>?_⟩,fun y c e=>?_,I.free,I.freeC,fun p hp=>?_,tracked ⟨oL,hoL,I.free⟩ hs,by simpa using I.len⟩ ⟨_,hs,.inl rfl⟩
  ·exact (hs.2 b (zRk (zRl (zRm e) I.ok.above))).trans (I.base.keep b o e n hb hx)
  ·obtain ⟨sl,e1⟩:=I.base.slot b o e n hb hx;exact ⟨sl,(hs.2 b (zRk (zRl (zRm e) I.ok.above))).trans e1⟩
  ·obtain ⟨o',e1⟩:=I.base.there b o e hx;exact ⟨o',(hs.2 b (zRk (zRl (zRm e) I.ok.above))).trans e1⟩
  ·by_cases hj:j=i
   ·subst hj;rw [hi] at e1;cases e1;rw [List.getElem?_set_self hiσ] at e2;cases e2;exact ⟨u,r,.inl ⟨hk,by simp⟩⟩
   ·rw [List.getElem?_set_ne (Ne.symm hj)] at e2;obtain ⟨u',r',q⟩:=hl j y v' e1 e2 e3;refine ⟨u',r',?_⟩;rcases q with ⟨k,e⟩|⟨k,c,e,z⟩
    ·refine .inl ⟨k,?_⟩;have:y≠x:=fun e=>hj (zDn hN e1 (e▸hi));simp [this,e]
    ·exact .inr ⟨k,c,e,z.sameBut hs (cne y c e)⟩
  ·obtain ⟨w',z⟩:=I.cell y c e;exact ⟨w',z.sameBut hs (cne y c e)⟩
  ·obtain ⟨e,n,ne,nf,d⟩:=I.pin p hp;exact ⟨(hs.2 p.1 ne).trans e,n,ne,nf,d⟩
 ·have hfn:X.fn x=true:=by
   rcases hf with z | z
   ·exact z
   ·rw [z] at hk;cases hk
  obtain ⟨c,hc⟩:=I.ok.has x (.inl hk);obtain ⟨w',z⟩:=I.cell x c hc;refine wpAny_storeName_cell I.ok.kind hk hc z (fun h' hc' hs=>?_);obtain ⟨oc,hoc,hocd⟩:=id z;refine h {s with heap:=h'} ⟨I.ok,I.os,I.bare,⟨fun b o e n hb hx=>?_,fun b o e n hb hx=>?_,I.base.free,fun b o e hx=>?_,I.base.tups,I.base.frzs,I.base.tbls⟩,⟨m,hn.sameBut hs (Ne.symm (cne x c hc)),fun j y v' e1 e2 e3=>?_⟩,fun y c' e=>?_,I.free,I.freeC,fun p hp=>?_,tracked ⟨oc,hoc,I.freeC x c hc⟩ hs,by simpa using I.len⟩ ⟨c,hs,.inr hc⟩
  ·exact (hs.2 b (zRk (zRl (zRm e) (I.ok.cab x c hfn hc)))).trans (I.base.keep b o e n hb hx)
  ·obtain ⟨sl,e1⟩:=I.base.slot b o e n hb hx;exact ⟨sl,(hs.2 b (zRk (zRl (zRm e) (I.ok.cab x c hfn hc)))).trans e1⟩
  ·obtain ⟨o',e1⟩:=I.base.there b o e hx;exact ⟨o',(hs.2 b (zRk (zRl (zRm e) (I.ok.cab x c hfn hc)))).trans e1⟩
  ·by_cases hj:j=i
   ·subst hj;rw [hi] at e1;cases e1;rw [List.getElem?_set_self hiσ] at e2;cases e2;exact ⟨u,r,.inr ⟨.inl hk,c,hc,hc'⟩⟩
   ·rw [List.getElem?_set_ne (Ne.symm hj)] at e2;obtain ⟨u',r',q⟩:=hl j y v' e1 e2 e3;refine ⟨u',r',?_⟩;rcases q with q |⟨k,c',e,z'⟩
    ·exact .inl q
    ·refine .inr ⟨k,c',e,z'.sameBut hs ?_⟩;rintro rfl;exact hj (zDn hN e1 (I.ok.inj _ _ _ e hc▸hi))
  ·by_cases hcc:c'=c
   ·subst hcc;exact ⟨_,hc'⟩
   ·obtain ⟨w2,z2⟩:=I.cell y c' e;exact ⟨w2,z2.sameBut hs hcc⟩
  ·obtain ⟨e,n,ne,nf,d⟩:=I.pin p hp;refine ⟨(hs.2 p.1 ?_).trans e,n,ne,nf,d⟩;intro q;rw [q,hoc] at e;have q':oc=p.2:=Option.some.inj e;exact d w' (by rw [<-q'];exact hocd)
theorem zAQ{M:Model}{A:Around}{E:Value->Shared->Prop}{i:Nat}{x:Str}{v:V}{u:Value}{Q:Unit->Shared->Prop}(I:Inv X pins σ H s)(hN:X.N.Nodup)(hi:X.N[i]?=some x)(hx:Loc X.env.scope x)(r:ze v u)
  (h: ∀s',Inv X pins (σ.set i (some v)) H s'->Q () s') (hf:X.fn x=true\/X.env.scope.names.lookup x=some .local:=by first | exact .inl rfl | exact .inr rfl | assumption):wpAny M A (storeName X.env x u) Q E s:=
 zEv I hN hi hx r (fun s' I' _=>h s' I') hf
theorem Inv.call'{s':Shared}{ch:List Addr}(I:Inv X pins σ H s)(ho:s'.os=s.os)(u:Un (yi X.stack) ch H H' s.heap s'.heap)(hok:HOk X.prog X.w H' s'.heap)(hg:AllBare s'.gens)
  (hch: ∀b∈ch,(b∈X.ex\/X.s₀.heap.objs.size<=b)/\b≠X.env.locals/\(∀x c,X.env.cells.lookup x=some c->c≠b)/\ ∀p∈X.pn++pins,p.1≠b):Inv X pins σ H' s':=by
 obtain ⟨h',g',d',t',o'⟩:=s';have e:o'=s.os:=ho;subst e;exact I.call (g':=g') (t':=t') (d':=d') u hok hg hch
end
abbrev XK:=Value->Option Addr->Hp->Prop
abbrev St:=List (Option V)
abbrev VK:=V->Hp->Prop
abbrev TE:=St->Hp->VK->Prop
abbrev TT:=St->Hp->(Bool->Hp->Prop)->Prop
abbrev TA:=St->Hp->(List V->Hp->Prop)->Prop
structure Ends where
 nx:St->Hp->Prop
 rt:VK
 bk:St->Hp->Prop:=fun _ _=>False
 ct:St->Hp->Prop:=fun _ _=>False
abbrev TS:=Ends->St->Hp->Prop
def EP(X:Cx)(pins:List (Addr×Obj))(σ:St)(Q:VK)(u:Value)(s':Shared):Prop:= ∃v H',Inv X pins σ H' s'/\ze v u/\Q v H'
def TP(X:Cx)(pins:List (Addr×Obj))(σ:St)(Q:Bool->Hp->Prop)(b:Bool)(s':Shared):Prop:= ∃H',Inv X pins σ H' s'/\Q b H'
def AP(X:Cx)(pins:List (Addr×Obj))(σ:St)(Q:List V->Hp->Prop)(us:List Value)(s':Shared):Prop:= ∃vs H',Inv X pins σ H' s'/\zT vs us/\Q vs H'
def SP(X:Cx)(pins:List (Addr×Obj))(D:Ends)(f:Flow)(s':Shared):Prop:=
 match f with
 | .next=> ∃σ' H',Inv X pins σ' H' s'/\D.nx σ' H'
 | .brk=> ∃σ' H',Inv X pins σ' H' s'/\D.bk σ' H'
 | .cont=> ∃σ' H',Inv X pins σ' H' s'/\D.ct σ' H'
 | .ret u=> ∃v σ' H',Inv X pins σ' H' s'/\ze v u/\D.rt v H'
def PE(X:Cx)(e:Expr)(t:TE):Prop:=
 ∀(pins:List (Addr×Obj)) (s:Shared) (σ:St) (H:Hp) (Q:VK),Inv X pins σ H s->t σ H Q->wpAny (model X.prog X.w) X.A (eval e X.env) (EP X pins σ Q) X.xe s
def PT(X:Cx)(e:Expr)(t:TT):Prop:=
 ∀(pins:List (Addr×Obj)) (s:Shared) (σ:St) (H:Hp) (Q:Bool->Hp->Prop),Inv X pins σ H s->t σ H Q->wpAny (model X.prog X.w) X.A (isTrue e X.env (eval e X.env)) (TP X pins σ Q) X.xe s
def PW(X:Cx)(e:Expr)(t:TT):Prop:=
 ∀(whole:Sem Value) (pins:List (Addr×Obj)) (s:Shared) (σ:St) (H:Hp) (Q:Bool->Hp->Prop),Inv X pins σ H s->t σ H Q->wpAny (model X.prog X.w) X.A (isTrue e X.env whole) (TP X pins σ Q) X.xe s
theorem PW.pt{X:Cx}{e:Expr}{t:TT}(h:PW X e t):PT X e t:=h _
def PA(X:Cx)(es:List Expr)(t:TA):Prop:=
 ∀(pos:Pos) (pins:List (Addr×Obj)) (s:Shared) (σ:St) (H:Hp) (Q:List V->Hp->Prop),Inv X pins σ H s->t σ H Q->wpAny (model X.prog X.w) X.A (spliced (backTo pos (starEach es X.env))) (AP X pins σ Q) X.xe s
def PS(X:Cx)(st:Stmt)(t:TS):Prop:=
 ∀(pins:List (Addr×Obj)) (s:Shared) (σ:St) (H:Hp) (D:Ends),Inv X pins σ H s->t D σ H->wpAny (model X.prog X.w) X.A (exec st X.env) (SP X pins D) X.xe s
def PSs(X:Cx)(st:List Stmt)(t:TS):Prop:=
 ∀(pins:List (Addr×Obj)) (s:Shared) (σ:St) (H:Hp) (D:Ends),Inv X pins σ H s->t D σ H->wpAny (model X.prog X.w) X.A (execs st X.env) (SP X pins D) X.xe s
theorem zb{α:Type}{t:Sem α}{Q Q':α->Shared->Prop}{M:Model}{A:Around}{E:Value->Shared->Prop}{s:Shared}(h:wpAny M A t Q E s)(hQ: ∀a s,Q a s->Q' a s):wpAny M A t Q' E s:=zRw h hQ fun _ _ x=>x
section
variable {X:Cx}
inductive XVar (i:Nat) (σ:St) (H:Hp) (Q:VK):Prop
 | mk (v:V) (h:σ[i]?=some (some v)) (q:Q v H)
def zGY(i:Nat):TE:=fun σ H Q=>XVar i σ H Q
def tC(v:V):TE:=fun _ H Q=>Q v H
theorem zGI{i:Nat}{x:Str}{pos:Pos}(hN:X.N[i]?=some x)(hv:Vis X.env.scope x)(hd:(x==("__debug__" :Str))=false:=by decide)(hcd:(x==("__classdict__" :Str))=false:=by decide):PE X (.Name x pos) (zGY i):=by
 intro pins s σ H Q I h;obtain ⟨v,e,h⟩:=h;obtain ⟨m,hn,hl⟩:=I.loc;obtain ⟨u,r,l⟩:=hl i x v hN e hv;have fin:EP X pins σ Q u s:=⟨v,H,I,r,h⟩;rcases l with ⟨hk,hm⟩|⟨hk,c,hc,hcell⟩
 ·exact wpAny_Name (wpAny_loadName_local I.ok.kind hk hn hm fin) hd
 ·rcases hk with hk | hk
  ·exact wpAny_Name (wpAny_loadName_cell I.ok.kind hk hc hcell fin) hd
  ·exact wpAny_Name (wpAny_loadName_free I.ok.kind hk hc hcell fin hcd) hd
theorem yS{i j pos}:PE X (.Constant (.int i) j pos) (tC (.int i)):=fun _ _ _ H _ I h=>wpAny_Constant_int ⟨.int i,H,I.tok _,⟨_,rfl⟩,h⟩
theorem zHe{b j pos}:PE X (.Constant (.bool b) j pos) (tC (.bl b)):=fun _ _ _ H _ I h=>Constant_bool ⟨.bl b,H,I,rfl,h⟩
theorem zNm{j pos}:PE X (.Constant .none j pos) (tC .non):=fun _ _ _ H _ I h=>Constant_none ⟨.non,H,I,rfl,h⟩
theorem zOZ{x j pos}:PE X (.Constant (.str x) j pos) (tC (.str x)):=fun _ _ _ H _ I h=>Calls.Constant_str ⟨.str x,H,I.tok _,⟨_,rfl⟩,h⟩
def Gl(X:Cx)(x:Str):Prop:=X.env.kindOf x=some .globalImplicit
theorem zBT{E:Value->Shared->Prop}{pins:List (Addr×Obj)}{s:Shared}{σ:St}{H:Hp}{x:Str}{u:Value}{pos:Pos}{Q:Value->Shared->Prop}(I:Inv X pins σ H s)(hg:Gl X x)(hm:X.mg x=some u)(h:Q u s)
  (hd:(x==("__debug__" :Str))=false:=by decide):wpAny (model X.prog X.w) X.A (eval (.Name x pos) X.env) Q E s:=
 Calls.Name_function_global I.ok.kind hg (Calls.loadGlobal_global (by rw [I.ok.glob];exact I.mod.glob.keeps I.bk) hm h) hd
theorem zBG{E:Value->Shared->Prop}{pins:List (Addr×Obj)}{s:Shared}{σ:St}{H:Hp}{x:Str}{u:Value}{pos:Pos}{Q:Value->Shared->Prop}(I:Inv X pins σ H s)(hg:Gl X x)(hm:X.mg x=none)(hv:bootBuiltins x=some u)(h:Q u s)
  (hn:x≠ "__name__" :=by decide) (hd:(x==("__debug__" :Str))=false:=by decide):wpAny (model X.prog X.w) X.A (eval (.Name x pos) X.env) Q E s:=by
 obtain ⟨mb,h1,h2⟩:=I.mod.blt;exact Calls.Name_function_global I.ok.kind hg (Calls.loadGlobal_builtin (by rw [I.ok.glob];exact I.mod.glob.keeps I.bk) hm (by rw [I.ok.blt];exact h1.keeps I.bk) ((h2 x hn).trans hv) h) hd
theorem zLV{x:Str}{v:V}{u:Value}{pos:Pos}(hg:Gl X x)(hm:X.mg x=some u)(r:ze v u)(hd:(x==("__debug__" :Str))=false:=by decide):PE X (.Name x pos) (tC v):=
 fun _ _ _ H _ I h=>zBT I hg hm ⟨v,H,I,r,h⟩ hd
theorem zDL{x:Str}{v:V}{u:Value}{pos:Pos}(hg:Gl X x)(hm:X.mg x=none)(hv:bootBuiltins x=some u)(r:ze v u)(hn:x≠ "__name__" :=by decide)(hd:(x==("__debug__" :Str))=false:=by decide):PE X (.Name x pos) (tC v):=
 fun _ _ _ H _ I h=>zBG I hg hm hv ⟨v,H,I,r,h⟩ hn hd
variable {a b:Expr}{ta tb:TE}{pos:Pos}
def PC(X:Cx)(op:CmpOp)(a b:Expr)(t:TE):Prop:=
 ∀(pins:List (Addr×Obj)) (s:Shared) (σ:St) (H:Hp) (Q:VK),Inv X pins σ H s->t σ H Q->
  wpAny (model X.prog X.w) X.A (eval a X.env) (fun v s₁=>wpAny (model X.prog X.w) X.A (eval b X.env) (fun u s₂=>wpAny (model X.prog X.w) X.A (compareOp op v u) (EP X pins σ Q) X.xe s₂) X.xe s₁) X.xe s
def zKQ(ta:TE):TE:=fun σ H Q=>ta σ H fun x H1=>Q (.bl (decide (x= .non))) H1
theorem ze.none_iff{x:V}{v:Value}(r:ze x v):(v==Value.none)=decide (x= .non):=by
 cases x with
 | non=>cases r;rfl
 | bl _=>cases r;rfl
 | int _=>obtain ⟨t,rfl⟩:=r;rfl
 | str _=>obtain ⟨t,rfl⟩:=r;rfl
 | byt _=>obtain ⟨t,rfl⟩:=r;rfl
 | flt _=>obtain ⟨t,rfl⟩:=r;rfl
 | ref _=>cases r;rfl
 | ty _=>cases r;rfl
theorem zJO{j pos'}(ha:PE X a ta):PC X .Is a (.Constant .none j pos') (zKQ ta):=by
 intro pins s σ H Q I h;refine zb (ha pins s σ H _ I h) fun v s1 ⟨x,H1,I1,r1,q1⟩=>?_;exact Constant_none (is_none_gen ⟨.bl _,H1,I1,by rw [r1.none_iff];rfl,q1⟩)
inductive XB (x:V) (H:Hp) (Q:Bool->Hp->Prop):Prop
 | mk (c:Bool) (h:x= .bl c) (q:Q c H)
def tB(t:TE):TT:=fun σ H Q=>t σ H fun x H1=>XB x H1 Q
theorem zNi{op:CmpOp}{t:TE}(h:PC X op a b t)(h1:behindInMarks op b=false:=by first | exact nobehind _ (by decide) (by decide)| rfl):PE X (.Compare a [op] [b] pos) t:=fun pins s σ H Q I hw=>wpAny_Compare1 (h pins s σ H Q I hw) h1
theorem zJV{op:CmpOp}{t:TE}(h:PC X op a b t)(h1:behindInMarks op b=false:=by first | exact nobehind _ (by decide) (by decide)| rfl):PT X (.Compare a [op] [b] pos) (tB t):=by
 intro pins s σ H Q I hw;refine wpAny_isTrue_Compare1 (zb (h pins s σ H _ I hw) fun v s1 h1=>zb h1 fun u s2 h2=>zb h2 fun c s3 ⟨x,H1,I1,r1,q1⟩=>?_) h1;obtain ⟨d,rfl,q⟩:=q1;cases r1;exact zSO ⟨H1,I1,q⟩
theorem zEF{e:Expr}{t:TE}(h:PE X e t)(he: ∀whole,isTrue e X.env whole=(do let v<-whole;standAt e.pos;holding [v] (truthy v)):=by intro _;rfl):PT X e (tB t):=by
 intro pins s σ H Q I hw;refine isTrue_plain (zb (h pins s σ H _ I hw) fun v s1 ⟨x,H1,I1,r1,q1⟩=>?_) (he _);obtain ⟨d,rfl,q⟩:=q1;cases r1;exact zSO ⟨H1,I1,q⟩
variable {tA tB':TT}{rest:List Expr}
def zNu(t u:TT):TT:=fun σ H Q=>t σ H fun c H1=>if c=true then u σ H1 Q else Q false H1
def tOr(t u:TT):TT:=fun σ H Q=>t σ H fun c H1=>if c=true then Q true H1 else u σ H1 Q
def zNF(t:TT):TT:=fun σ H Q=>t σ H fun c H1=>Q (!c) H1
theorem zLM(ha:PT X a tA):PW X (.BoolOp .And [a] pos) tA:=by
 intro wh pins s σ H Q I h;refine isTrue_and (zb (ha pins s σ H Q I h) fun c s1 e=>?_);cases c with
 | true=>exact isTrue_and_nil e
 | false=>exact e
theorem zFm(ha:PT X a tA):PW X (.BoolOp .Or [a] pos) tA:=by
 intro wh pins s σ H Q I h;refine isTrue_or (zb (ha pins s σ H Q I h) fun c s1 e=>?_);cases c with
 | false=>exact isTrue_or_nil e
 | true=>exact e
theorem zOQ(ha:PT X a tA)(hb:PW X (.BoolOp .And (b::rest) pos) tB'):PW X (.BoolOp .And (a::b::rest) pos) (zNu tA tB'):=by
 intro wh pins s σ H Q I h;refine isTrue_and (zb (ha pins s σ H _ I h) fun c s1 ⟨H1,I1,q1⟩=>?_);cases c with
 | true=>exact hb wh pins s1 σ H1 Q I1 q1
 | false=>exact ⟨H1,I1,q1⟩
theorem zFS(ha:PT X a tA)(hb:PW X (.BoolOp .Or (b::rest) pos) tB'):PW X (.BoolOp .Or (a::b::rest) pos) (tOr tA tB'):=by
 intro wh pins s σ H Q I h;refine isTrue_or (zb (ha pins s σ H _ I h) fun c s1 ⟨H1,I1,q1⟩=>?_);cases c with
 | true=>exact ⟨H1,I1,q1⟩
 | false=>exact hb wh pins s1 σ H1 Q I1 q1
theorem zEM(ha:PT X a tA):PT X (.UnaryOp .Not a pos) (zNF tA):=by
 intro pins s σ H Q I h;exact isTrue_not (ha pins s σ H (fun c H1=>Q (!c) H1) I h)
inductive XAnd (tb:TE) (x:V) (σ:St) (H:Hp) (Q:VK):Prop
 | mk (c:Bool) (h:x= .bl c) (q:if c=true then tb σ H Q else Q (.bl false) H)
def zKt(ta tb:TE):TE:=fun σ H Q=>ta σ H fun x H1=>XAnd tb x σ H1 Q
inductive XOr (tb:TE) (x:V) (σ:St) (H:Hp) (Q:VK):Prop
 | mk (c:Bool) (h:x= .bl c) (q:if c=true then Q (.bl true) H else tb σ H Q)
def zMZ(ta tb:TE):TE:=fun σ H Q=>ta σ H fun x H1=>XOr tb x σ H1 Q
inductive XNot (x:V) (H:Hp) (Q:VK):Prop
 | mk (c:Bool) (h:x= .bl c) (q:Q (.bl (!c)) H)
def zLB(ta:TE):TE:=fun σ H Q=>ta σ H fun x H1=>XNot x H1 Q
theorem zIo{op}{t:TE}(h:PE X a t):PE X (.BoolOp op [a] pos) t:=fun pins s σ H Q I hw=>BoolOp_one (h pins s σ H Q I hw)
theorem zJA(ha:PE X a ta)(hb:PE X (.BoolOp .And (b::rest) pos) tb):PE X (.BoolOp .And (a::b::rest) pos) (zKt ta tb):=by
 intro pins s σ H Q I h;refine BoolOp_and (zb (ha pins s σ H _ I h) fun v s1 ⟨x,H1,I1,r1,q1⟩=>?_);obtain ⟨c,rfl,q1⟩:=q1;cases r1;refine zSO ?_;cases c with
 | true=>exact hb pins s1 σ H1 Q I1 q1
 | false=>exact ⟨.bl false,H1,I1,rfl,q1⟩
theorem zPv(ha:PE X a ta)(hb:PE X (.BoolOp .Or (b::rest) pos) tb):PE X (.BoolOp .Or (a::b::rest) pos) (zMZ ta tb):=by
 intro pins s σ H Q I h;refine BoolOp_or (zb (ha pins s σ H _ I h) fun v s1 ⟨x,H1,I1,r1,q1⟩=>?_);obtain ⟨c,rfl,q1⟩:=q1;cases r1;refine zSO ?_;cases c with
 | false=>exact hb pins s1 σ H1 Q I1 q1
 | true=>exact ⟨.bl true,H1,I1,rfl,q1⟩
theorem zIy(ha:PE X a ta):PE X (.UnaryOp .Not a pos) (zLB ta):=by
 intro pins s σ H Q I h;refine UnaryOp_ (zb (ha pins s σ H _ I h) fun v s1 ⟨x,H1,I1,r1,q1⟩=>?_);obtain ⟨c,rfl,q1⟩:=q1;cases r1;exact not_of (zSO ⟨.bl (!c),H1,I1,rfl,q1⟩)
def tIf(t:TT)(ta tb:TE):TE:=fun σ H Q=>t σ H fun c H1=>if c=true then ta σ H1 Q else tb σ H1 Q
theorem zJq{c:Expr}(hc:PT X c tA)(ha:PE X a ta)(hb:PE X b tb):PE X (.IfExp c a b pos) (tIf tA ta tb):=by
 intro pins s σ H Q I h;refine wpAny_IfExp (zb (hc pins s σ H _ I h) fun d s1 ⟨H1,I1,q1⟩=>?_);cases d with
 | true=>exact ha pins s1 σ H1 Q I1 q1
 | false=>exact hb pins s1 σ H1 Q I1 q1
end
def SqL(K:zSS)(H:Hp)(a:Addr)(xs:List V):Prop:=
 Rd H a (.lst xs)\/
  ∃(o:Obj) (its:Array Value) (n:Nat),K.lookup a=some o/\o.cls= .type "list" /\o.dict=none/\o.data= .seq its n/\its.size<=sizeLine/\zT xs its.toList
def SqT(K:zSS)(H:Hp)(a:Addr)(xs:List V):Prop:=
 Rd H a (.tup xs)\/
  ∃(o:Obj) (its:Array Value) (n:Nat),K.lookup a=some o/\o.cls= .type "tuple" /\o.data= .seq its n/\its.size<=sizeLine/\zT xs its.toList
def zQq:Value->Option V
 | .none=>some .non
 | .bool b=>some (.bl b)
 | .int i _=>some (.int i)
 | .str x _=>some (.str x)
 | .bytes b _=>some (.byt b)
 | .float b _=>some (.flt b)
 | .ref a=>some (.ref a)
 | .type n=>some (.ty n)
 | _=>none
theorem ze.abs{x:V}{u:Value}(r:ze x u):zQq u=some x:=by
 cases x with
 | non=>cases r;rfl
 | bl _=>cases r;rfl
 | int _=>obtain ⟨t,rfl⟩:=r;rfl
 | str _=>obtain ⟨t,rfl⟩:=r;rfl
 | byt _=>obtain ⟨t,rfl⟩:=r;rfl
 | flt _=>obtain ⟨t,rfl⟩:=r;rfl
 | ref _=>cases r;rfl
 | ty _=>cases r;rfl
theorem ze.inj{x y:V}{u:Value}(r:ze x u)(q:ze y u):x=y:=Option.some.inj (r.abs.symm.trans q.abs)
theorem zT.inj: ∀{xs ys:List V} {us:List Value},zT xs us->zT ys us->xs=ys
 | _,_,_,.nil,.nil=>rfl
 | _,_,_,.cons r t,.cons r' t'=>by rw [r.inj r',zT.inj t t']
section
variable {X:Cx}{pins:List (Addr×Obj)}{σ:St}{H:Hp}{s:Shared}{a:Addr}{xs ys:List V}
theorem SqL.of{K:zSS}(h:H a=some (.lst xs)):SqL K H a xs:= .inl (.inl h)
theorem SqT.of{K:zSS}(h:H a=some (.tup xs)):SqT K H a xs:= .inl (.inl h)
theorem Inv.list(I:Inv X pins σ H s)(h:SqL X.K H a xs): ∃its:List Value,zT xs its/\PlainL s.heap a its.toArray/\xs.length<=sizeLine:=by
 rcases h with h |⟨o,its,n,hk,hc,hd,hs,hz,r⟩
 ·obtain ⟨z,its,n,r,e⟩:=h.ok I.hok;exact ⟨its,r,⟨_,n,e,rfl,rfl,rfl⟩,z⟩
 ·refine ⟨its.toList,r,⟨o,n,I.kIn a o hk,hc,hd,by simpa using hs⟩,?_⟩;have e:=r.length;simp only [Array.length_toList] at e;omega
theorem Inv.tuple(I:Inv X pins σ H s)(h:SqT X.K H a xs): ∃its:List Value,zT xs its/\IsTup s.heap a its.toArray/\xs.length<=sizeLine:=by
 rcases h with h |⟨o,its,n,hk,hc,hs,hz,r⟩
 ·obtain ⟨z,its,r,o,e,c,⟨n,d⟩,_⟩:=h.ok I.hok;exact ⟨its,r,⟨o,e,c,n,d⟩,z⟩
 ·refine ⟨its.toList,r,⟨o,I.kIn a o hk,hc,n,by simpa using hs⟩,?_⟩;have e:=r.length;simp only [Array.length_toList] at e;omega
theorem Inv.list_inj(I:Inv X pins σ H s)(h:SqL X.K H a xs)(h':SqL X.K H a ys):xs=ys:=by
 obtain ⟨its,r,⟨o,n,e,_,_,d⟩,_⟩:=I.list h;obtain ⟨its',r',⟨o',n',e',_,_,d'⟩,_⟩:=I.list h';rw [e] at e';cases e';rw [d] at d';injection d' with d1 _;have:its=its':=by simpa using congrArg Array.toList d1
 subst this;exact r.inj r'
theorem Inv.tuple_inj(I:Inv X pins σ H s)(h:SqT X.K H a xs)(h':SqT X.K H a ys):xs=ys:=by
 obtain ⟨its,r,⟨o,e,_,n,d⟩,_⟩:=I.tuple h;obtain ⟨its',r',⟨o',e',_,n',d'⟩,_⟩:=I.tuple h';rw [e] at e';cases e';rw [d] at d';injection d' with d1 _;have:its=its':=by simpa using congrArg Array.toList d1
 subst this;exact r.inj r'
end
abbrev Cx.wish(X:Cx)(E:Value->Shared->Prop):Cx:={X with xe:=E}
abbrev Cx.nox(X:Cx):Cx:=X.wish fun _ _=>False
theorem Cx.Ok.wish{X:Cx}(ok:X.Ok)(E:Value->Shared->Prop):(X.wish E).Ok:=
 ⟨ok.mod,ok.kind,ok.glob,ok.blt,ok.above,ok.inj,ok.has,ok.cab,ok.hd,ok.frames,ok.stk,ok.exf,ok.bs,ok.bsz,ok.noex,ok.exfs,ok.funs,ok.frf⟩
theorem Cx.Ok.unwish{X:Cx}{E:Value->Shared->Prop}(ok:(X.wish E).Ok):X.Ok:=
 ⟨ok.mod,ok.kind,ok.glob,ok.blt,ok.above,ok.inj,ok.has,ok.cab,ok.hd,ok.frames,ok.stk,ok.exf,ok.bs,ok.bsz,ok.noex,ok.exfs,ok.funs,ok.frf⟩
section
variable {X:Cx}{pins:List (Addr×Obj)}{σ:St}{H:Hp}{s:Shared}{E:Value->Shared->Prop}
theorem Inv.wish(I:Inv X pins σ H s)(E:Value->Shared->Prop):Inv (X.wish E) pins σ H s:=⟨I.ok.wish E,I.os,I.bare,I.base,I.loc,I.cell,I.free,I.freeC,I.pin,I.hok,I.len⟩
theorem Inv.unwish(I:Inv (X.wish E) pins σ H s):Inv X pins σ H s:=⟨I.ok.unwish,I.os,I.bare,I.base,I.loc,I.cell,I.free,I.freeC,I.pin,I.hok,I.len⟩
theorem SP.unwish{D:Ends}{f:Flow}{s':Shared}(h:SP (X.wish E) pins D f s'):SP X pins D f s':=by
 cases f with
 | next=>obtain ⟨σ',H',I,q⟩:=h;exact ⟨σ',H',I.unwish,q⟩
 | brk=>obtain ⟨σ',H',I,q⟩:=h;exact ⟨σ',H',I.unwish,q⟩
 | cont=>obtain ⟨σ',H',I,q⟩:=h;exact ⟨σ',H',I.unwish,q⟩
 | ret u=>obtain ⟨v,σ',H',I,r,q⟩:=h;exact ⟨v,σ',H',I.unwish,r,q⟩
theorem PSs.nox{st:List Stmt}{t:TS}(h:PSs X.nox st t):PSs X st t:=fun pins s σ H D I hw=>
 zRw (h pins s σ H D (I.wish _) hw) (fun _ _ q=>q.unwish) fun _ _ z=>False.elim z
end
section
variable {X:Cx}{st:Stmt}{rest:List Stmt}{t u:TS}{e:Expr}{te:TE}{pos:Pos}
def zKr:TS:=fun D σ H=>D.nx σ H
def zHh(t u:TS):TS:=fun D σ H=>t {D with nx:=u D} σ H
theorem zDC:PSs X [] zKr:=fun _ _ σ H _ I h=>wpAny_execs_nil ⟨σ,H,I,h⟩
theorem zAC(h1:PS X st t)(h2:PSs X rest u):PSs X (st::rest) (zHh t u):=by
 intro pins s σ H D I h;refine wpAny_execs_cons (zb (h1 pins s σ H {D with nx:=u D} I h) fun f s1 q=>?_);cases f with
 | next=>
  obtain ⟨σ',H',I',q⟩:=q;exact h2 pins s1 σ' H' D I' q
 | ret v=>exact q
 | brk=>exact q
 | cont=>exact q
theorem zAE(h1:PS X st t):PSs X [st] t:=by
 intro pins s σ H D I h;refine wpAny_execs_cons (zb (h1 pins s σ H D I h) fun f s1 q=>?_);cases f with
 | next=>exact wpAny_execs_nil q
 | ret v=>exact q
 | brk=>exact q
 | cont=>exact q
theorem Inv.quiet{pins:List (Addr×Obj)}{σ:St}{H:Hp}{s:Shared}(I:Inv X pins σ H s):interactive X.env=false:=by simp [interactive,I.ok.kind]
def zKf(te:TE):TS:=fun D σ H=>te σ H fun _ H1=>D.nx σ H1
theorem zMA(he:PE X e te)(hs:swapsWith e none pos.line X.env=pure false:=by rfl):PS X (.Expr e pos) (zKf te):=by
 intro pins s σ H D I h;exact wpAny_Expr_any (zb (he pins s σ H _ I h) fun v s1 ⟨x,H1,I1,r1,q1⟩=>⟨σ,H1,I1,q1⟩) I.quiet hs
def zNw(te:TE):TS:=fun D σ H=>te σ H D.rt
theorem zAi(he:PE X e te):PS X (.Return (some e) pos) (zNw te):=by
 intro pins s σ H D I h;exact wpAny_Return_some (zb (he pins s σ H _ I h) fun v s1 ⟨x,H1,I1,r1,q1⟩=>⟨x,σ,H1,I1,r1,q1⟩)
def zNK(c:TT)(t u:TS):TS:=fun D σ H=>c σ H fun b H1=>if b=true then t D σ H1 else u D σ H1
theorem zFM{c:Expr}{a b:List Stmt}{tc:TT}(hc:PT X c tc)(ha:PSs X a t)(hb:PSs X b u):PS X (.If c a b pos) (zNK tc t u):=by
 intro pins s σ H D I h;refine wpAny_If (zb (hc pins s σ H _ I h) fun d s1 ⟨H1,I1,q1⟩=>?_);cases d with
 | true=>exact ha pins s1 σ H1 D I1 q1
 | false=>exact hb pins s1 σ H1 D I1 q1
end
abbrev TG:=V->St->Hp->(St->Hp->Prop)->Prop
abbrev TGs:=List V->St->Hp->(St->Hp->Prop)->Prop
def PG(X:Cx)(target:Expr)(t:TG):Prop:=
 ∀(pins:List (Addr×Obj)) (s:Shared) (σ:St) (H:Hp) (v:V) (u:Value) (Q:St->Hp->Prop),Inv X pins σ H s->ze v u->t v σ H Q->
  wpAny (model X.prog X.w) X.A (assign target X.env u) (fun _ s'=> ∃σ' H',Inv X pins σ' H' s'/\Q σ' H') X.xe s
def PGs(X:Cx)(ts:List Expr)(t:TGs):Prop:=
 ∀(pins:List (Addr×Obj)) (s:Shared) (σ:St) (H:Hp) (vs:List V) (us:List Value) (Q:St->Hp->Prop),Inv X pins σ H s->zT vs us->t vs σ H Q->
  wpAny (model X.prog X.w) X.A (assignInOrder ((assignEach ts X.env).map (·.2)) us) (fun _ s'=> ∃σ' H',Inv X pins σ' H' s'/\Q σ' H') X.xe s
abbrev zRB:=V->V->V->Hp->(Hp->Prop)->Prop
def zRG(X:Cx)(t:zRB):Prop:=
 ∀(pins:List (Addr×Obj)) (s:Shared) (σ:St) (H:Hp) (o i v:V) (ov iv u:Value) (Q:Hp->Prop),Inv X pins σ H s->ze o ov->ze i iv->ze v u->t o i v H Q->
  wpAny (model X.prog X.w) X.A (setItem ov iv u) (fun _ s'=> ∃H',Inv X pins σ H' s'/\Q H') X.xe s
section
variable {X:Cx}{pos:Pos}
def zBH(i:Nat):TG:=fun v σ H Q=>Q (σ.set i (some v)) H
theorem zLv{i:Nat}{x:Str}(hN:X.N.Nodup)(hi:X.N[i]?=some x)(hx:Loc X.env.scope x)(hf:X.fn x=true\/X.env.scope.names.lookup x=some .local:=by first | exact .inl rfl | exact .inr rfl | assumption):PG X (.Name x pos) (zBH i):=by
 intro pins s σ H v u Q I r h;exact wpAny_assign_Name (zAQ I hN hi hx r (fun s' I'=>⟨_,H,I',h⟩) hf)
def zOv:TGs:=fun vs σ H Q=>vs= [] /\Q σ H
inductive XCons (t:TG) (u:TGs) (vs:List V) (σ:St) (H:Hp) (Q:St->Hp->Prop):Prop
 | mk (v:V) (r:List V) (h:vs=v::r) (q:t v σ H fun σ' H'=>u r σ' H' Q)
def zLK(t:TG)(u:TGs):TGs:=fun vs σ H Q=>XCons t u vs σ H Q
theorem zLX:PGs X [] zOv:=by
 intro pins s σ H vs us Q I r h;obtain ⟨e,h⟩:=h;subst e;cases r;exact assignInOrder_nil ⟨σ,H,I,h⟩
theorem zJf{e:Expr}{es:List Expr}{t:TG}{u:TGs}(h1:PG X e t)(h2:PGs X es u)
  (hs:(assignEach (e::es) X.env).map (·.2)=assign e X.env::(assignEach es X.env).map (·.2):=by rfl):PGs X (e::es) (zLK t u):=by
 intro pins s σ H vs us Q I r h;obtain ⟨v,vr,e1,h⟩:=h;subst e1;cases r with
 | cons r rr=>
  rw [hs];refine assignInOrder_cons (zb (h1 pins s σ H _ _ _ I r h) fun _ s1 ⟨σ1,H1,I1,q1⟩=>?_);exact h2 pins s1 σ1 H1 _ _ Q I1 rr q1
inductive XTup (K:zSS) (n:Nat) (t:TGs) (v:V) (σ:St) (H:Hp) (Q:St->Hp->Prop):Prop
 | mk (a:Addr) (xs:List V) (h:v= .ref a) (h2:SqT K H a xs) (h3:xs.length=n) (q:t xs σ H Q)
def zMX(K:zSS)(n:Nat)(t:TGs):TG:=fun v σ H Q=>XTup K n t v σ H Q
theorem zOE{es:List Expr}{k:Nat}{t:TGs}{n:Nat}(hc:X.calm=true)(h:PGs X es t)
  (hn:(assignEach es X.env).length=n:=by rfl) (hst:(assignEach es X.env).findIdx? (·.1)=none:=by rfl):PG X (.Tuple es k pos) (zMX X.K n t):=by
 intro pins s σ H v u Q I r hw;obtain ⟨a,xs,e1,hq,hl,hw⟩:=hw;subst e1;cases r;obtain ⟨its,rv,ht,hz⟩:=I.tuple hq;refine assign_Tuple_tuple (I.ok.hd hc) ht (by simp [hn,<-hl,rv.length]) hst fun h' hx=>?_;have I1:Inv X pins σ H {s with heap:=h'}:=I.kept (t':=s.toks) fun b o e=>hx b o (zRk (zRm e)) e;exact h pins _ σ H xs _ Q I1 (by simpa using rv) hw
def zDj(te:TE)(g:TG):TS:=fun D σ H=>te σ H fun x H1=>g x σ H1 D.nx
theorem zNU{tg e:Expr}{te:TE}{g:TG}(he:PE X e te)(hg:PG X tg g)(hs:swapsWithSole [tg] e pos.line X.env=pure false:=by rfl)(hw:swappedStores [tg] e X.env=pure none:=by rfl)
  (h1:(assignEach [tg] X.env).map (·.2)= [assign tg X.env] :=by rfl):PS X (.Assign [tg] e pos) (zDj te g):=by
 intro pins s σ H D I h;refine wpAny_Assign_stores (zb (he pins s σ H _ I h) fun v s1 ⟨x,H1,I1,r1,q1⟩=>?_) hs hw;rw [h1];exact zb (hg pins s1 σ H1 x v _ I1 r1 q1) fun _ s2 q=>q
theorem zBb{i:Nat}{x:Str}{e:Expr}{te:TE}{pos':Pos}(hN:X.N.Nodup)(hi:X.N[i]?=some x)(hx:Loc X.env.scope x)(he:PE X e te)(hs:swapsWith e (some (.Name x pos')) pos.line X.env=pure false:=by rfl)(hf:X.fn x=true\/X.env.scope.names.lookup x=some .local:=by first | exact .inl rfl | exact .inr rfl | assumption):
  PS X (.Assign [.Name x pos'] e pos) (zDj te (zBH i)):=by
 intro pins s σ H D I h;refine wpAny_Assign_Name (zb (he pins s σ H _ I h) fun v s1 ⟨y,H1,I1,r1,q1⟩=>?_) hs;exact zAQ I1 hN hi hx r1 (fun s2 I2=>⟨_,H1,I2,q1⟩) hf
def zOq(i j:Nat)(ta:TA):TS:=fun D σ H=>ta σ H fun vs H1=> ∃v w,vs= [v,w] /\D.nx ((σ.set i (some v)).set j (some w)) H1
theorem zNr{i j:Nat}{x y:Str}{a b:Expr}{ta:TA}{px py pt:Pos}{kt k2 pt2}(hc:X.calm=true)(hN:X.N.Nodup)(hi:X.N[i]?=some x)(hj:X.N[j]?=some y)(hij:i≠j)
  (hx:X.env.scope.names.lookup x=some .local) (hy:X.env.scope.names.lookup y=some .local) (ha:PA X [a,b] ta)
  (hw:swappedStores [.Tuple [.Name x px,.Name y py] kt pt] (.Tuple [a,b] k2 pt2) X.env=pure (some [x,y]))
  (hs:swapsWithSole [.Tuple [.Name x px,.Name y py] kt pt] (.Tuple [a,b] k2 pt2) pos.line X.env=pure false:=by rfl):
  PS X (.Assign [.Tuple [.Name x px,.Name y py] kt pt] (.Tuple [a,b] k2 pt2) pos) (zOq i j ta):=by
 intro pins s σ H D I h;rw [exec_Assign_arm];refine zRd (wpAny_standAt ?_);rw [hs];refine zRd (zRi ?_);rw [if_neg (by decide)];refine zRd (Tuple_ (zb (ha _ pins s σ H _ I h) fun us s1 ⟨vs,H1,I1,r1,q1⟩=>?_));obtain ⟨v,w,e1,q1⟩:=q1;subst e1;obtain ⟨u1,u2,rfl,rv,rw'⟩: ∃u1 u2,us= [u1,u2] /\ze v u1/\ze w u2:=by
  cases r1 with
  | cons p q=>
   cases q with
   | cons p' q'=>
    cases q';exact ⟨_,_,rfl,p,p'⟩
 refine wpAny_newObj_type ?_ (by show 2<=sizeLine;decide);have I2:Inv X pins σ H1 {s1 with heap:=s1.heap.push {cls:= .type "tuple",data:= .seq [u1,u2].toArray}}:=I1.kept (t':=s1.toks) fun b o e=>zRe _ e;rw [hw];refine zRd (zRi ?_);show wpAny (model X.prog X.w) X.A (do rule "assign.swapped-stores";let items<-unpackItems (.ref s1.heap.objs.size) 2 none;assignInOrder [fun v=>bindName X.env y v,fun v=>bindName X.env x v] items.reverse;pure Flow.next) _ _ _;refine zRd (wpAny_rule (zRd (unpackItems_tuple (items:= #[u1,u2]) (I.ok.hd hc) (IsTup.new s1.heap _) fun h' hx'=>?_)));have I3:=I2.kept (h':=h') (t':=s1.toks) fun b o e=>hx' b o (zRk (zRm e)) e;show wpAny _ _ (assignInOrder [fun v=>bindName X.env y v,fun v=>bindName X.env x v] [u2,u1] >>=fun _=>pure Flow.next) _ _ _;refine zRd (assignInOrder_cons (wpAny_bindName (zAQ I3 hN hj (.inl hy) rw' (fun s2 I4=>?_) (.inr hy))));refine assignInOrder_cons (wpAny_bindName (zAQ I4 hN hi (.inl hx) rv (fun s3 I5=>assignInOrder_nil (zRi ?_)) (.inr hx)));rw [List.set_comm _ _ (Ne.symm hij)] at I5;exact ⟨_,H1,I5,q1⟩
def zGC(c:TT)(tb:TS):TS:=fun D σ H=> ∃W:Nat->St->Hp->Prop,(∃m,W m σ H)/\ ∀m σ H,W m σ H->
 c σ H fun b H1=>if b=true then∃N:St->Hp->Prop,(∀σ' H',N σ' H'-> ∃m',m'<m/\W m' σ' H')/\tb {D with nx:=N,ct:=N,bk:=D.nx} σ H1 else D.nx σ H1
theorem zGX{c:Expr}{body:List Stmt}{tc:TT}{tb:TS}(hp:PassesOwn (model X.prog X.w) X.A X.env X.xe)(hc:PT X c tc)(hb:PSs X body tb):PS X (.While c body [] pos) (zGC tc tb):=by
 intro pins s σ H D I h;obtain ⟨W,⟨m0,w0⟩,turn⟩:=h;refine wpAny_While (codeAny_whileLoop (fun n s'=> ∃σ' H',Inv X pins σ' H' s'/\W n σ' H') ?_ m0 ⟨σ,H,I,w0⟩);rintro n s1 ⟨σ1,H1,I1,w1⟩;refine wpAny_passesOwn hp (zb (hc pins s1 σ1 H1 _ I1 (turn n σ1 H1 w1)) fun b s2 ⟨H2,I2,q2⟩=>?_);cases b with
 | true=>
  obtain ⟨N,hN,q2⟩:=q2;rw [if_pos rfl];refine wpAny_passesOwn hp (zb (hb pins s2 σ1 H2 _ I2 q2) fun f s3 q3=>?_);cases f with
  | next=>
   obtain ⟨σ3,H3,I3,n3⟩:=q3;obtain ⟨m',hm,w3⟩:=hN σ3 H3 n3;exact ⟨m',hm,σ3,H3,I3,w3⟩
  | cont=>
   obtain ⟨σ3,H3,I3,n3⟩:=q3;obtain ⟨m',hm,w3⟩:=hN σ3 H3 n3;exact ⟨m',hm,σ3,H3,I3,w3⟩
  | brk=>exact q3
  | ret v=>exact q3
 | false=>
  rw [if_neg zRp];exact wpAny_execs_nil ⟨σ1,H2,I2,q2⟩
end
structure It where
 go:Nat->Hp->Prop
 yld:Nat->Hp->V->Hp->Prop
 stop:Nat->Hp->Prop
def zAc(X:Cx)(pins:List (Addr×Obj))(H:Hp)(b:Addr):Prop:=
 H b=none/\b≠X.env.locals/\b∉X.fs/\(b∈X.ex\/X.s₀.heap.objs.size<=b)/\(∀x c,X.env.cells.lookup x=some c->c≠b)/\ ∀p∈X.pn++pins,p.1≠b
theorem Inv.fpOk{X:Cx}{pins:List (Addr×Obj)}{σ:St}{H H':Hp}{s:Shared}{b:Addr}(I:Inv X pins σ H s)(hb:s.heap.objs.size<=b)(hn:H' b=none):zAc X pins H' b:=by
 refine ⟨hn,zSL (zRl I.lt hb),I.nofs hb,.inr (zRq I.sz hb),fun x c e z=>?_,fun p hp z=>?_⟩
 ·obtain ⟨v,q⟩:=I.cell x c e;exact absurd (zRl q.lt (by rw [z];exact hb)) (Nat.lt_irrefl _)
 ·exact absurd (zRl (zRm (I.pin p hp).1) (by rw [z];exact hb)) (Nat.lt_irrefl _)
structure Turn(P:Program)(w:World)(K:zSS)(tg:Expr)(J:It)(fp:List Addr)(it:Addr)(tn:Nat->Heap->Prop):Prop where
 mem:it∈fp
 obj: ∀i h,tn i h-> ∀b∈fp,∃o,h.get? b=some o/\ ∀v,o.data≠ .cell v
 keep: ∀i h h',tn i h->(∀b∈fp,∀o,h.get? b=some o->h'.get? b=some o)->tn i h'
 item: ∀(X:Cx),X.prog=P->X.w=w->X.K=K->X.calm=true-> ∀(i:Nat) (pins:List (Addr×Obj)) (s:Shared) (σ:St) (H:Hp) (E:Value->Shared->Prop),Inv X pins σ H s->(∀b∈fp,zAc X pins H b)->tn i s.heap->J.go i H->
  wpAny (model P w) X.A (pyNext (.ref it)) (fun r s1=> ∃u,r=some u/\
   wpAny (model P w) X.A (letOwnedTupleGo tg (.ref it) u) (fun _ s2=> ∃x H',Inv X pins σ H' s2/\ze x u/\J.yld i H x H'/\tn (i+1) s2.heap/\ ∀b∈fp,H' b=none) E s1) E s
 done: ∀(X:Cx),X.prog=P->X.w=w->X.K=K->X.calm=true-> ∀(i:Nat) (pins:List (Addr×Obj)) (s:Shared) (σ:St) (H:Hp) (E:Value->Shared->Prop),Inv X pins σ H s->(∀b∈fp,zAc X pins H b)->tn i s.heap->J.stop i H->
  wpAny (model P w) X.A (pyNext (.ref it)) (fun r s1=>r=none/\Inv X pins σ H s1) E s
 self: ∀(A:Around) (i:Nat) (s:Shared) (Q:Value->Shared->Prop) (E:Value->Shared->Prop),tn i s.heap->Q (.ref it) s->wpAny (model P w) A (pyIter (.ref it)) Q E s
abbrev TI:=St->Hp->(It->Hp->Prop)->Prop
def PIE(X:Cx)(pins:List (Addr×Obj))(σ:St)(tg:Expr)(R:It->Hp->Prop)(itv:Value)(s2:Shared):Prop:=
 ∃(it:Addr) (fp:List Addr) (tn:Nat->Heap->Prop) (J:It) (H':Hp),itv= .ref it/\Inv X pins σ H' s2/\Turn X.prog X.w X.K tg J fp it tn/\tn 0 s2.heap/\(∀b∈fp,zAc X pins H' b)/\R J H'
def PI(X:Cx)(tg iter:Expr)(wi:TI):Prop:=
 ∀(pins:List (Addr×Obj)) (s:Shared) (σ:St) (H:Hp) (R:It->Hp->Prop),Inv X pins σ H s->wi σ H R->
  wpAny (model X.prog X.w) X.A (eval iter X.env) (fun v s1=>wpAny (model X.prog X.w) X.A (pyIter v) (PIE X pins σ tg R) X.xe s1) X.xe s
theorem zES{M:Model}{A:Around}{E:Value->Shared->Prop}{s:Shared}{tg:Expr}{it:Addr}{u:Value}{o:Obj}{n:String}{vs:Array Value}{Q:Unit->Shared->Prop}(ho:s.heap.get? it=some o)(hc:o.cls= .type n)(hd:o.data= .fields vs)
  (hn: ["enumerate","zip","dict_itemiterator","dict_reverseitemiterator","odict_iterator","itertools.zip_longest","itertools.pairwise"].contains n=false) (hQ:Q () s):wpAny M A (letOwnedTupleGo tg (.ref it) u) Q E s:=by
 unfold letOwnedTupleGo;cases tg<;>first
  | exact zRi hQ
  |(cases u<;>first
    | exact zRi hQ
    |(refine zRd (wpAny_load ho ?_)
      rw [hc,hd];show wpAny M A (if (["enumerate","zip","dict_itemiterator","dict_reverseitemiterator","odict_iterator","itertools.zip_longest","itertools.pairwise"].contains n&&vs[0]?==some (rawInt _))=true then _ else _) Q E s;rw [if_neg (by intro h;rw [hn,Bool.false_and] at h;cases h)];exact zRi hQ))
def Itl(K:zSS)(a:Addr):It:=
 ⟨fun i H=> ∃xs x,SqL K H a xs/\xs[i]?=some x,fun i H x H'=>H'=H/\ ∀xs,SqL K H a xs->xs[i]?=some x,fun i H=> ∃xs,SqL K H a xs/\xs.length<=i⟩
def Itt(K:zSS)(a:Addr):It:=
 ⟨fun i H=> ∃xs x,SqT K H a xs/\xs[i]?=some x,fun i H x H'=>H'=H/\ ∀xs,SqT K H a xs->xs[i]?=some x,fun i H=> ∃xs,SqT K H a xs/\xs.length<=i⟩
def Itr(lo:Int)(n:Nat):It:=⟨fun i _=>i<n,fun i H x H'=>H'=H/\x= .int (lo+i),fun i _=>n<=i⟩
theorem zIi{P:Program}{w:World}{K:zSS}{tg:Expr}(a it:Addr):Turn P w K tg (Itl K a) [it] it (fun i h=>h.IsListIter it a i) where
 mem:=by simp
 obj:=fun i h st b hb=>by
  have e:b=it:=by simpa using hb
  subst e;obtain ⟨o,e,c,d⟩:=st;exact ⟨o,e,fun v z=>by rw [d] at z;cases z⟩
 keep:=fun i h h' st k=>st.at fun o e=>k it (by simp) o e
 item:=by
  intro X hP hw hK hc i pins s σ H E I hf st hg;subst hP hw hK;obtain ⟨xs,x,hq,hx⟩:=hg;obtain ⟨its,rv,p,hz⟩:=I.list hq;obtain ⟨u,hu,ru⟩:=rv.get hx;obtain ⟨f0,f1,f2,f3,f4,f5⟩:=hf it (by simp);refine wpAny_pyNext_list_item st p.isList (x:=u) (by simpa using hu) fun h' st' sb=>?_;have I1:Inv X pins σ H {s with heap:=h'}:=I.turned (t':=s.toks) (fun b o hb e=>(sb.2 b hb).trans e) f0 f1 f3 f4 f5;obtain ⟨o,e,c,d⟩:=id st';exact ⟨u,rfl,zES (s:={s with heap:=h'}) e c d (by decide) ⟨x,H,I1,ru,⟨rfl,fun ys hy=>by rw [I.list_inj hy hq];exact hx⟩,st',fun b hb=>(hf b hb).1⟩⟩
 done:=by
  intro X hP hw hK hc i pins s σ H E I hf st hg;subst hP hw hK;obtain ⟨xs,hq,hx⟩:=hg;obtain ⟨its,rv,p,hz⟩:=I.list hq;obtain ⟨f0,f1,f2,f3,f4,f5⟩:=hf it (by simp);have hl:=rv.length;exact wpAny_pyNext_list_end (I.ok.hd hc) st p.isList (by simp;omega) fun h' eb=>⟨rfl,I.turned (t':=s.toks) (fun b o hb e=>eb b o hb e) f0 f1 f3 f4 f5⟩
 self:=fun _ _ _ _ _ st h=>wpAny_pyIter_listiter st h
theorem zHy{P:Program}{w:World}{K:zSS}{tg:Expr}(a it:Addr):Turn P w K tg (Itt K a) [it] it (fun i h=>h.IsTupleIter it a i) where
 mem:=by simp
 obj:=fun i h st b hb=>by
  have e:b=it:=by simpa using hb
  subst e;obtain ⟨o,e,c,d⟩:=st;exact ⟨o,e,fun v z=>by rw [d] at z;cases z⟩
 keep:=fun i h h' st k=>st.at fun o e=>k it (by simp) o e
 item:=by
  intro X hP hw hK hc i pins s σ H E I hf st hg;subst hP hw hK;obtain ⟨xs,x,hq,hx⟩:=hg;obtain ⟨its,rv,p,hz⟩:=I.tuple hq;obtain ⟨u,hu,ru⟩:=rv.get hx;obtain ⟨f0,f1,f2,f3,f4,f5⟩:=hf it (by simp);refine wpAny_pyNext_tuple_item st (show s.heap.IsTuple a its.toArray from p) (x:=u) (by simpa using hu) fun h' st' sb=>?_;have I1:Inv X pins σ H {s with heap:=h'}:=I.turned (t':=s.toks) (fun b o hb e=>(sb.2 b hb).trans e) f0 f1 f3 f4 f5;obtain ⟨o,e,c,d⟩:=id st';exact ⟨u,rfl,zES (s:={s with heap:=h'}) e c d (by decide) ⟨x,H,I1,ru,⟨rfl,fun ys hy=>by rw [I.tuple_inj hy hq];exact hx⟩,st',fun b hb=>(hf b hb).1⟩⟩
 done:=by
  intro X hP hw hK hc i pins s σ H E I hf st hg;subst hP hw hK;obtain ⟨xs,hq,hx⟩:=hg;obtain ⟨its,rv,p,hz⟩:=I.tuple hq;obtain ⟨f0,f1,f2,f3,f4,f5⟩:=hf it (by simp);have hl:=rv.length;exact wpAny_pyNext_tuple_end (I.ok.hd hc) st (show s.heap.IsTuple a its.toArray from p) (by simp;omega) fun h' eb=>⟨rfl,I.turned (t':=s.toks) (fun b o hb e=>eb b o hb e) f0 f1 f3 f4 f5⟩
 self:=fun _ _ _ _ _ st h=>wpAny_pyIter_tupleiter st h
theorem zHp{P:Program}{w:World}{K:zSS}{tg:Expr}(it:Addr)(lo:Int)(n:Nat):Turn P w K tg (Itr lo n) [it] it (fun i h=>IsRangeIter h it (lo+(i:Nat)*1) ((n:Int) -(i:Nat)) 1) where
 mem:=by simp
 obj:=fun i h st b hb=>by
  have e:b=it:=by simpa using hb
  subst e;exact ⟨_,st,fun v z=>by
   have z':Data.fields _=Data.cell v:=z;cases z'⟩
 keep:=fun i h h' st k=>k it (by simp) _ st
 item:=by
  intro X hP hw hK hc i pins s σ H E I hf st hg;subst hP hw hK;obtain ⟨f0,f1,f2,f3,f4,f5⟩:=hf it (by simp);have W:=Walks.range (prog:=X.prog) (w:=X.w) (I.ok.hd hc) it lo 1 n;refine W.item i s _ _ hg st fun v h' tk hv st' kk=>?_;obtain ⟨t,rfl⟩:=hv;have I1:Inv X pins σ H {s with heap:=h',toks:=tk}:=I.turned (fun b o hb e=>kk b o (by simpa using hb) e) f0 f1 f3 f4 f5;refine ⟨_,rfl,zES (s:={s with heap:=h',toks:=tk}) (n:= "range_iterator") st' rfl rfl (by decide) ⟨.int (lo+i),H,I1,⟨t,?_⟩,⟨rfl,rfl⟩,st',fun b hb=>(hf b hb).1⟩⟩;rw [Int.mul_one]
 done:=by
  intro X hP hw hK hc i pins s σ H E I hf st hg;subst hP hw hK;obtain ⟨f0,f1,f2,f3,f4,f5⟩:=hf it (by simp);exact wpAny_pyNext_range_end (I.ok.hd hc) st (by have:n<=i:=hg;omega) fun h' eb=>⟨rfl,I.turned (t':=s.toks) (fun b o hb e=>eb b o hb e) f0 f1 f3 f4 f5⟩
 self:=fun _ _ _ _ _ st h=>wpAny_pyIter_rangeiter st h
section
variable {X:Cx}{tg:Expr}
inductive XIl (K:zSS) (x:V) (H:Hp) (R:It->Hp->Prop):Prop
 | mk (a:Addr) (h:x= .ref a) (h2: ∃xs,SqL K H a xs) (q:R (Itl K a) H)
def zKg(K:zSS)(tl:TE):TI:=fun σ H R=>tl σ H fun x H1=>XIl K x H1 R
inductive XIt (K:zSS) (x:V) (H:Hp) (R:It->Hp->Prop):Prop
 | mk (a:Addr) (h:x= .ref a) (h2: ∃xs,SqT K H a xs) (q:R (Itt K a) H)
def zMY(K:zSS)(tl:TE):TI:=fun σ H R=>tl σ H fun x H1=>XIt K x H1 R
theorem zGs{l:Expr}{tl:TE}(hl:PE X l tl):PI X tg l (zKg X.K tl):=by
 intro pins s σ H R I h;refine zb (hl pins s σ H _ I h) fun v s1 ⟨x,H1,I1,r1,q1⟩=>?_;obtain ⟨a,e,⟨xs,hq⟩,q⟩:=q1;subst e;cases r1;obtain ⟨its,rv,p,hz⟩:=I1.list hq;refine wpAny_pyIter_list p.isList ?_;refine ⟨s1.heap.objs.size,[s1.heap.objs.size],_,_,H1,rfl,I1.kept (t':=s1.toks) fun b o e=>zRe _ e,zIi a _,⟨_,zRu _ rfl,rfl,rfl⟩,fun b hb=>?_,q⟩;have e:b=s1.heap.objs.size:=by simpa using hb
 subst e;exact I1.fpOk (zRg _) (I1.hok.fresh (zRg _))
theorem zIX{l:Expr}{tl:TE}(hl:PE X l tl):PI X tg l (zMY X.K tl):=by
 intro pins s σ H R I h;refine zb (hl pins s σ H _ I h) fun v s1 ⟨x,H1,I1,r1,q1⟩=>?_;obtain ⟨a,e,⟨xs,hq⟩,q⟩:=q1;subst e;cases r1;obtain ⟨its,rv,p,hz⟩:=I1.tuple hq;refine wpAny_pyIter_tuple (show s1.heap.IsTuple a its.toArray from p) ?_;refine ⟨s1.heap.objs.size,[s1.heap.objs.size],_,_,H1,rfl,I1.kept (t':=s1.toks) fun b o e=>zRe _ e,zHy a _,⟨_,zRu _ rfl,rfl,rfl⟩,fun b hb=>?_,q⟩;have e:b=s1.heap.objs.size:=by simpa using hb
 subst e;exact I1.fpOk (zRg _) (I1.hok.fresh (zRg _))
theorem zJm{pins:List (Addr×Obj)}{σ:St}{H:Hp}{s:Shared}{R:It->Hp->Prop}{E:Value->Shared->Prop}{lo hi:Int}{t u v:Tok}{tk:Nat}(I:Inv X pins σ H s)(h1: -(2^62)<=lo)(h2:lo<2^62)(h3: -(2^62)<=hi)(h4:hi<2^62)
  (q:R (Itr lo (hi - lo).toNat) H):wpAny (model X.prog X.w) X.A (pyIter (.ref s.heap.objs.size)) (PIE X pins σ tg R) E {s with heap:=s.heap.push {cls:= .type "range",data:= .fields #[.int lo t,.int hi u,.int 1 v]},toks:=tk}:=by
 refine wpAny_pyIter_range (IsRange.new ..) (small_one h1 h2 h3 h4) ?_;have I1:Inv X pins σ H {s with heap:=s.heap.push {cls:= .type "range",data:= .fields #[.int lo t,.int hi u,.int 1 v]},toks:=tk}:=I.kept fun b o e=>zRe _ e;refine ⟨(s.heap.push {cls:= .type "range",data:= .fields #[.int lo t,.int hi u,.int 1 v]}).objs.size,[(s.heap.push {cls:= .type "range",data:= .fields #[.int lo t,.int hi u,.int 1 v]}).objs.size],_,_,H,rfl,
  I1.kept (t':=tk) fun b o e=>zRe _ e,zHp _ lo (hi - lo).toNat,?_,fun b hb=>?_,q⟩
 ·have e1:lo+((0:Nat):Int)*1=lo:=by simp
  have e2:(((hi - lo).toNat:Nat):Int) -((0:Nat):Int)=Builtin.Range.rangeSize lo hi 1:=by rw [rangeSize_one];split<;>omega
  show IsRangeIter _ _ (lo+((0:Nat):Int)*1) ((((hi - lo).toNat:Nat):Int) -((0:Nat):Int)) 1;rw [e1,e2];exact zRu _ rfl
 ·have e:b=(s.heap.push {cls:= .type "range",data:= .fields #[.int lo t,.int hi u,.int 1 v]}).objs.size:=by simpa using hb
  subst e;exact I1.fpOk (zRg _) (I1.hok.fresh (zRg _))
def zLF(ta:TA):TI:=fun σ H R=>ta σ H fun vs H1=> ∃j:Int,vs= [.int j] /\ -(2^62)<=j/\j<2^62/\R (Itr 0 j.toNat) H1
theorem zJN{a:Expr}{ta:TA}{p pos:Pos}(hg:Gl X "range")(hm:X.mg "range" =none)(ha:PA X [a] ta)(hs:starEach [a] X.env= [(false,eval a X.env)] :=by rfl):PI X tg (.Call (.Name "range" p) [a] [] pos) (zLF ta):=by
 intro pins s σ H R I h;refine Call_ (zBG I hg hm boot_range (PyProof.Rows.callWith_type1 (zb (ha pos pins s σ H _ I h) fun us s1 ⟨vs,H1,I1,r1,q1⟩=>?_) hs rfl));obtain ⟨j,e,q1,q2,q⟩:=q1;subst e;cases r1 with
 | cons r rr=>
  cases rr;obtain ⟨t,rfl⟩:=r;exact call_range_1 (zJm I1 (by omega) (by omega) q1 q2 (by simpa using q))
def zNX(wi:TI)(g:TG)(tb:TS):TS:=fun D σ H=>wi σ H fun J H1=> ∃W:Nat->Nat->St->Hp->Prop,(∃m,W 0 m σ H1)/\ ∀i m σ H,W i m σ H->
 (J.stop i H/\D.nx σ H)\/(J.go i H/\ ∃N:St->Hp->Prop,(∀σ' H',N σ' H'-> ∃m',m'<m/\W (i+1) m' σ' H')/\ ∀x H',J.yld i H x H'->g x σ H' fun σ2 H2=>tb {D with nx:=N,ct:=N,bk:=D.nx} σ2 H2)
def zDw(fp:List Addr)(h:Heap):List (Addr×Obj):=fp.filterMap fun b=>(h.get? b).map fun o=>(b,o)
theorem zAB{fp:List Addr}{h:Heap}{b:Addr}{o:Obj}(hb:b∈fp)(e:h.get? b=some o):(b,o)∈zDw fp h:=List.mem_filterMap.mpr ⟨b,hb,by rw [e];rfl⟩
theorem zIu{fp:List Addr}{h:Heap}{p:Addr×Obj}(hp:p∈zDw fp h):p.1∈fp/\h.get? p.1=some p.2:=by
 obtain ⟨b,hb,e⟩:=List.mem_filterMap.mp hp;cases q:h.get? b with
 | none=>rw [q] at e;cases e
 | some o=>
  rw [q] at e;have e':(b,o)=p:=Option.some.inj e;subst e';exact ⟨hb,q⟩
theorem Inv.pinned{pins:List (Addr×Obj)}{σ:St}{H:Hp}{s:Shared}{fp:List Addr}(I:Inv X pins σ H s)(hf: ∀b∈fp,zAc X pins H b)(ho: ∀b∈fp,∃o,s.heap.get? b=some o/\ ∀v,o.data≠ .cell v):Inv X (pins++zDw fp s.heap) σ H s:=
 I.pins_of fun p hp=>(zSW.mp hp).elim (fun z=>I.pin p (zRs _ z)) fun z=>by
  obtain ⟨hb,e⟩:=zIu z;obtain ⟨f0,f1,f2,_⟩:=hf p.1 hb;obtain ⟨o,e',d⟩:=ho p.1 hb;rw [e] at e';cases e';exact ⟨e,f0,f1,f2,d⟩
theorem Inv.unpinned{pins pl:List (Addr×Obj)}{σ:St}{H:Hp}{s:Shared}(I:Inv X (pins++pl) σ H s):Inv X pins σ H s:=I.pins_of fun p hp=>I.pin p (zRs _ (List.mem_append_left _ hp))
theorem zMe{iter:Expr}{body:List Stmt}{wi:TI}{g:TG}{tb:TS}{pos:Pos}(hp:PassesOwn (model X.prog X.w) X.A X.env X.xe)(hc:X.calm=true)(hi:PI X tg iter wi)(hg:PG X tg g)(hb:PSs X body tb)
  (hs: ∀x,foldedSetIterable iter X.env x=pure x:=by intro _;rfl):PS X (.For tg iter body [] pos) (zNX wi g tb):=by
 intro pins s σ H D I h;refine wpAny_For (zb (hi pins s σ H _ I h) fun v s1 h1=>zb h1 fun itv s2 h2=>?_) hs;obtain ⟨it,fp,tn,J,H2,e,I2,T,st2,f2,W,⟨m0,w0⟩,turn⟩:=h2;subst e;have stat: ∀{H':Hp},(∀b∈fp,H' b=none)-> ∀b∈fp,zAc X pins H' b:=fun hn b hb=>⟨hn b hb,(f2 b hb).2⟩;refine codeAny_forLoop_any (fun n s'=> ∃i σ' H',Inv X pins σ' H' s'/\tn i s'.heap/\(∀b∈fp,H' b=none)/\W i n σ' H') ?_ m0 ⟨0,σ,H2,I2,st2,fun b hb=>(f2 b hb).1,w0⟩;rintro n s3 ⟨i,σ3,H3,I3,st3,fr3,w3⟩;rcases turn i n σ3 H3 w3 with ⟨stop,qn⟩|⟨go,N,hN,step⟩
 ·refine wpAny_passesOwn hp (zb (T.done X rfl rfl rfl hc i pins s3 σ3 H3 X.xe I3 (stat fr3) st3 stop) fun r s4 ⟨hr,I4⟩=>?_);subst hr;exact wpAny_execs_nil ⟨σ3,H3,I4,qn⟩
 ·refine wpAny_passesOwn hp (zb (T.item X rfl rfl rfl hc i pins s3 σ3 H3 X.xe I3 (stat fr3) st3 go) fun r s4 ⟨u,hr,h4⟩=>?_);subst hr;refine wpAny_passesOwn hp (zb h4 fun _ s5 ⟨x,H5,I5,r5,y5,st5,fr5⟩=>?_);have I5':=I5.pinned (stat fr5) (T.obj _ _ st5);refine wpAny_passesOwn hp (zb (hg _ s5 σ3 H5 x u _ I5' r5 (step x H5 y5)) fun _ s6 ⟨σ6,H6,I6,q6⟩=>?_);refine wpAny_passesOwn hp (zb (hb _ s6 σ6 H6 _ I6 q6) fun f s7 q7=>?_);have again: ∀{σ7:St} {H7:Hp},Inv X (pins++zDw fp s5.heap) σ7 H7 s7->N σ7 H7-> ∃m,m<n/\ ∃i σ' H',Inv X pins σ' H' s7/\tn i s7.heap/\(∀b∈fp,H' b=none)/\W i m σ' H':=fun {σ7 H7} I7 n7=>by
   obtain ⟨m',hm,w7⟩:=hN σ7 H7 n7;refine ⟨m',hm,i+1,σ7,H7,I7.unpinned,T.keep _ _ _ st5 fun b hb o e=>(I7.pin (b,o) (zRs _ (zRs _ (zAB hb e)))).1,fun b hb=>?_,w7⟩;obtain ⟨o,e,d⟩:=T.obj _ _ st5 b hb;exact (I7.pin (b,o) (zRs _ (zRs _ (zAB hb e)))).2.1
  cases f with
  | next=>obtain ⟨σ7,H7,I7,n7⟩:=q7;exact again I7 n7
  | cont=>obtain ⟨σ7,H7,I7,n7⟩:=q7;exact again I7 n7
  | brk=>obtain ⟨σ7,H7,I7,q7⟩:=q7;exact ⟨σ7,H7,I7.unpinned,q7⟩
  | ret v=>obtain ⟨x7,σ7,H7,I7,r7,q7⟩:=q7;exact ⟨x7,σ7,H7,I7.unpinned,r7,q7⟩
end
theorem zJn{c:TT}{tb:TS}{D:Ends}{σ:St}{H:Hp}(Pv:St->Hp->Prop)(μ:St->Hp->Nat)(h0:Pv σ H)
  (hs: ∀σ H,Pv σ H->c σ H fun b H1=>if b=true then tb {D with nx:=fun σ' H'=>Pv σ' H'/\μ σ' H'<μ σ H,ct:=fun σ' H'=>Pv σ' H'/\μ σ' H'<μ σ H,bk:=D.nx} σ H1 else D.nx σ H1)
  (mono: ∀σ H Q Q',(∀b H1,Q b H1->Q' b H1)->c σ H Q->c σ H Q'):zGC c tb D σ H:=by
 refine ⟨fun m σ H=>m=μ σ H/\Pv σ H,⟨_,rfl,h0⟩,?_⟩;rintro m σ H ⟨rfl,p⟩;refine mono σ H _ _ (fun b H1 q=>?_) (hs σ H p);cases b with
 | true=>exact ⟨_,fun σ' H' ⟨p',l⟩=>⟨_,l,rfl,p'⟩,q⟩
 | false=>exact q
abbrev R2:=V->V->Hp->VK->Prop
def OpR(X:Cx)(f:Value->Value->Sem Value)(r:R2):Prop:=
 ∀(pins:List (Addr×Obj)) (s:Shared) (σ:St) (H:Hp) (x y:V) (v u:Value) (Q:VK),Inv X pins σ H s->ze x v->ze y u->r x y H Q->
  wpAny (model X.prog X.w) X.A (f v u) (EP X pins σ Q) X.xe s
def UnR(X:Cx)(f:Value->Sem Value)(r:V->Hp->VK->Prop):Prop:=
 ∀(pins:List (Addr×Obj)) (s:Shared) (σ:St) (H:Hp) (x:V) (v:Value) (Q:VK),Inv X pins σ H s->ze x v->r x H Q->
  wpAny (model X.prog X.w) X.A (f v) (EP X pins σ Q) X.xe s
def yV(X:Cx)(f:Value)(r:List V->Hp->VK->Prop):Prop:=
 ∀(pins:List (Addr×Obj)) (s:Shared) (σ:St) (H:Hp) (xs:List V) (us:List Value) (Q:VK),Inv X pins σ H s->zT xs us->r xs H Q->
  wpAny (model X.prog X.w) X.A (call f us) (EP X pins σ Q) X.xe s
def tOp(r:R2)(ta tb:TE):TE:=fun σ H Q=>ta σ H fun x H1=>tb σ H1 fun y H2=>r x y H2 Q
def tUn(r:V->Hp->VK->Prop)(ta:TE):TE:=fun σ H Q=>ta σ H fun x H1=>r x H1 Q
inductive XI (C:Int->Int->Prop) (g:Int->Int->V) (x y:V) (H:Hp) (Q:VK):Prop
 | mk (i j:Int) (h1:x= .int i) (h2:y= .int j) (h:C i j) (q:Q (g i j) H)
def rI(C:Int->Int->Prop)(g:Int->Int->V):R2:=fun x y H Q=>XI C g x y H Q
inductive XI0 (g:Int->Int->V) (x y:V) (H:Hp) (Q:VK):Prop
 | mk (i j:Int) (h1:x= .int i) (h2:y= .int j) (q:Q (g i j) H)
def rI0(g:Int->Int->V):R2:=fun x y H Q=>XI0 g x y H Q
inductive XU (g:Int->V) (x:V) (H:Hp) (Q:VK):Prop
 | mk (i:Int) (h1:x= .int i) (q:Q (g i) H)
def rU(g:Int->V):V->Hp->VK->Prop:=fun x H Q=>XU g x H Q
section
variable {X:Cx}{a b c:Expr}{ta tb tc:TE}{pos:Pos}
theorem zKL(ha:PE X a ta)(hb:PE X b tb){pins:List (Addr×Obj)}{s:Shared}{σ:St}{H:Hp}{R:V->V->Hp->Prop}(I:Inv X pins σ H s)
  (h:ta σ H fun x H1=>tb σ H1 fun y H2=>R x y H2) {Q:Value->Shared->Prop} {f:Value->Value->Sem Value}
  (hf: ∀v u s2 x y H2,Inv X pins σ H2 s2->ze x v->ze y u->R x y H2->wpAny (model X.prog X.w) X.A (f v u) Q X.xe s2):
  wpAny (model X.prog X.w) X.A (eval a X.env) (fun v s₁=>wpAny (model X.prog X.w) X.A (eval b X.env) (fun u s₂=>wpAny (model X.prog X.w) X.A (f v u) Q X.xe s₂) X.xe s₁) X.xe s:=by
 refine zb (ha pins s σ H _ I h) fun v s1 ⟨x,H1,I1,r1,q1⟩=>?_;refine zb (hb pins s1 σ H1 _ I1 q1) fun u s2 ⟨y,H2,I2,r2,q2⟩=>?_;exact hf v u s2 x y H2 I2 r1 r2 q2
theorem zAD{op:Operator}{r:R2}(ho:OpR X (binaryOp op) r)(ha:PE X a ta)(hb:PE X b tb):PE X (.BinOp a op b pos) (tOp r ta tb):=by
 intro pins s σ H Q I h;exact wpAny_BinOp (zKL ha hb I h fun v u s2 x y H2 I2 rx ry q=>ho pins s2 σ H2 x y v u Q I2 rx ry q)
theorem zQP{op:UnaryOp}{r:V->Hp->VK->Prop}(ho:UnR X (unaryOp op) r)(ha:PE X a ta):PE X (.UnaryOp op a pos) (tUn r ta):=by
 intro pins s σ H Q I h;exact UnaryOp_ (zb (ha pins s σ H _ I h) fun v s1 ⟨x,H1,I1,r1,q1⟩=>ho pins s1 σ H1 x v Q I1 r1 q1)
theorem opI{f:Value->Value->Sem Value}{C:Int->Int->Prop}{g:Int->Int->Int}
  (rule: ∀(i j:Int) (t u:Tok) (s:Shared) (Q:Value->Shared->Prop) (E:Value->Shared->Prop),C i j->Q (.int (g i j) s.toks) {s with toks:=s.toks+1}->wpAny (model X.prog X.w) X.A (f (.int i t) (.int j u)) Q E s):
  OpR X f (rI C fun i j=> .int (g i j)):=by
 intro pins s σ H x y v u Q I rx ry h;obtain ⟨i,j,rfl,rfl,hc,q⟩:=h;obtain ⟨t,rfl⟩:=rx;obtain ⟨t',rfl⟩:=ry;exact rule i j t t' s _ _ hc ⟨.int (g i j),H,I.tok _,⟨_,rfl⟩,q⟩
theorem zOT{f:Value->Value->Sem Value}{g:Int->Int->Int}
  (rule: ∀(i j:Int) (t u:Tok) (s:Shared) (Q:Value->Shared->Prop) (E:Value->Shared->Prop),Q (.int (g i j) s.toks) {s with toks:=s.toks+1}->wpAny (model X.prog X.w) X.A (f (.int i t) (.int j u)) Q E s):
  OpR X f (rI0 fun i j=> .int (g i j)):=by
 intro pins s σ H x y v u Q I rx ry h;obtain ⟨i,j,rfl,rfl,q⟩:=h;obtain ⟨t,rfl⟩:=rx;obtain ⟨t',rfl⟩:=ry;exact rule i j t t' s _ _ ⟨.int (g i j),H,I.tok _,⟨_,rfl⟩,q⟩
theorem zJv{f:Value->Value->Sem Value}{g:Int->Int->Bool}
  (rule: ∀(i j:Int) (t u:Tok) (s:Shared) (Q:Value->Shared->Prop) (E:Value->Shared->Prop),Q (.bool (g i j)) s->wpAny (model X.prog X.w) X.A (f (.int i t) (.int j u)) Q E s):
  OpR X f (rI0 fun i j=> .bl (g i j)):=by
 intro pins s σ H x y v u Q I rx ry h;obtain ⟨i,j,rfl,rfl,q⟩:=h;obtain ⟨t,rfl⟩:=rx;obtain ⟨t',rfl⟩:=ry;exact rule i j t t' s _ _ ⟨.bl (g i j),H,I,rfl,q⟩
def zOg(i j:Int):Prop:=0<j/\j<1073741824
def zDb(i j:Int):Prop:=0<=j/\j<=1000000/\i.natAbs<2^64
def zHY(i j:Int):Prop:=(-(2^64)<i/\i<2^64)\/(-(2^64)<j/\j<2^64)
theorem zHY.ok{i j:Int}(h:zHY i j):IntMulOk i j:=by
 rcases h with ⟨h1,h2⟩|⟨h1,h2⟩
 ·exact .of_left (intBits_le_64 h1 h2)
 ·exact .of_right (intBits_le_64 h1 h2)
theorem zDq:OpR X (binaryOp .Add) (rI0 fun i j=> .int (i+j)):=zOT fun _ _ _ _ _ _ _ q=>add_int q
theorem zNq:OpR X (binaryOp .Sub) (rI0 fun i j=> .int (i - j)):=zOT fun _ _ _ _ _ _ _ q=>sub_int q
theorem zBc:OpR X (binaryOp .Mult) (rI zHY fun i j=> .int (i*j)):=opI fun _ _ _ _ _ _ _ hc q=>mul_int q hc.ok
theorem zMI:OpR X (binaryOp .FloorDiv) (rI zOg fun i j=> .int (i/j)):=opI fun i j _ _ _ _ _ hc q=>by
 have h1:(0:Int)<j:=hc.1;have h2:j<1073741824:=hc.2;exact floordiv_int (by omega) (by rw [Int.fdiv_eq_ediv_of_nonneg i (by omega)];exact q) (.inl (PyProof.noPylong_small (by omega)))
theorem zBW:OpR X (binaryOp .Mod) (rI (fun _ j=>0<j) fun i j=> .int (i % j)):=opI fun i j _ _ _ _ _ hc q=>by
 have h1:(0:Int)<j:=hc;exact mod_int' (by omega) (by rw [Int.fmod_eq_emod_of_nonneg i (by omega)];exact q)
theorem zPA:OpR X (binaryOp .Pow) (rI zDb fun i j=> .int (i^j.toNat)):=opI fun _ _ _ _ _ _ _ hc q=>pow_int_small hc.1 hc.2.1 hc.2.2 q
theorem unI{f:Value->Sem Value}{g:Int->Int}
  (rule: ∀(i:Int) (t:Tok) (s:Shared) (Q:Value->Shared->Prop) (E:Value->Shared->Prop),Q (.int (g i) s.toks) {s with toks:=s.toks+1}->wpAny (model X.prog X.w) X.A (f (.int i t)) Q E s):
  UnR X f (rU fun i=> .int (g i)):=by
 intro pins s σ H x v Q I rx h;obtain ⟨i,rfl,q⟩:=h;obtain ⟨t,rfl⟩:=rx;exact rule i t s _ _ ⟨.int (g i),H,I.tok _,⟨_,rfl⟩,q⟩
theorem zOR:UnR X (unaryOp .USub) (rU fun i=> .int (-i)):=unI fun _ _ _ _ _ q=>neg_int q
def zND:V->V->Bool
 | .non,.non=>true | .non,.int _=>true | .int _,.non=>true | .non,.bl _=>true | .bl _,.non=>true | .non,.str _=>true | .str _,.non=>true
 | .int _,.int _=>true | .bl _,.bl _=>true | .str _,.str _=>true | .byt _,.byt _=>true
 | .int _,.str _=>true | .str _,.int _=>true | .bl _,.str _=>true | .str _,.bl _=>true
 | _,_=>false
def rEq:R2:=fun x y H Q=>zND x y=true/\Q (.bl (decide (x=y))) H
def rNe:R2:=fun x y H Q=>zND x y=true/\Q (.bl (!decide (x=y))) H
theorem zGv{i j:Int}:decide (V.int i=V.int j)=(i==j):=by
 rw [zSb];simp
theorem zIm{i j:Bool}:decide (V.bl i=V.bl j)=(i==j):=by
 rw [zSb];simp
theorem zHO{i j:Str}:decide (V.str i=V.str j)=(i==j):=by
 rw [zSb];simp
theorem zHF{i j:Array UInt8}:decide (V.byt i=V.byt j)=(i.toList==j.toList):=by
 rw [zSb];cases i;cases j;simp
theorem zp{pins:List (Addr×Obj)}{σ:St}{H:Hp}{s:Shared}{Q:VK}{k k':Bool}(I:Inv X pins σ H s)(q:Q (.bl k) H)(e:k=k'):EP X pins σ Q (.bool k') s:=by
 subst e;exact ⟨.bl k,H,I,rfl,q⟩
theorem zh:OpR X (compareOp .Eq) rEq:=by
 intro pins s σ H x y v u Q I rx ry h;obtain ⟨hs,q⟩:=h;cases x with
 | non=>
  cases rx;cases y with
  | non=>cases ry;exact PySem.EqNone.eq_none_none (zp I q (by simp))
  | bl j=>cases ry;exact PySem.EqNone.eq_none_bool (zp I q (by simp))
  | int j=>obtain ⟨t',rfl⟩:=ry;exact PySem.EqNone.eq_none_int (zp I q (by simp))
  | str j=>obtain ⟨t',rfl⟩:=ry;exact PySem.EqNone.eq_none_str (zp I q (by simp))
  | _=>exact absurd (show false=true from hs) zRp
 | bl i=>
  cases rx;cases y with
  | non=>cases ry;exact PySem.EqNone.eq_bool_none (zp I q (by simp))
  | bl j=>cases ry;exact eq_bool (zp I q zIm)
  | str j=>obtain ⟨t',rfl⟩:=ry;exact PySem.EqMixed.eq_bool_str (zp I q (by simp))
  | _=>exact absurd (show false=true from hs) zRp
 | int i=>
  obtain ⟨t,rfl⟩:=rx;cases y with
  | non=>cases ry;exact PySem.EqNone.eq_int_none (zp I q (by simp))
  | int j=>obtain ⟨t',rfl⟩:=ry;exact eq_int (zp I q zGv)
  | str j=>obtain ⟨t',rfl⟩:=ry;exact PySem.EqMixed.eq_int_str (zp I q (by simp))
  | _=>exact absurd (show false=true from hs) zRp
 | str i=>
  obtain ⟨t,rfl⟩:=rx;cases y with
  | non=>cases ry;exact PySem.EqNone.eq_str_none (zp I q (by simp))
  | bl j=>cases ry;exact PySem.EqMixed.eq_str_bool (zp I q (by simp))
  | int j=>obtain ⟨t',rfl⟩:=ry;exact PySem.EqMixed.eq_str_int (zp I q (by simp))
  | str j=>obtain ⟨t',rfl⟩:=ry;exact eq_str (zp I q zHO)
  | _=>exact absurd (show false=true from hs) zRp
 | byt i=>
  obtain ⟨t,rfl⟩:=rx;cases y with
  | byt j=>obtain ⟨t',rfl⟩:=ry;exact PySem.W.eq_bytes (zp I q zHF)
  | _=>exact absurd (show false=true from hs) zRp
 | _=>cases y<;>exact absurd (show false=true from hs) zRp
theorem zCX:OpR X (compareOp .NotEq) rNe:=by
 intro pins s σ H x y v u Q I rx ry h;obtain ⟨hs,q⟩:=h;cases x with
 | non=>
  cases rx;cases y with
  | non=>cases ry;exact PySem.EqNone.ne_none_none (zp I q (by simp))
  | bl j=>cases ry;exact PySem.EqNone.ne_none_bool (zp I q (by simp))
  | int j=>obtain ⟨t',rfl⟩:=ry;exact PySem.EqNone.ne_none_int (zp I q (by simp))
  | str j=>obtain ⟨t',rfl⟩:=ry;exact PySem.EqNone.ne_none_str (zp I q (by simp))
  | _=>exact absurd (show false=true from hs) zRp
 | bl i=>
  cases rx;cases y with
  | non=>cases ry;exact PySem.EqNone.ne_bool_none (zp I q (by simp))
  | bl j=>cases ry;exact ne_bool (zp I q (congrArg not zIm))
  | str j=>obtain ⟨t',rfl⟩:=ry;exact PySem.EqMixed.ne_bool_str (zp I q (by simp))
  | _=>exact absurd (show false=true from hs) zRp
 | int i=>
  obtain ⟨t,rfl⟩:=rx;cases y with
  | non=>cases ry;exact PySem.EqNone.ne_int_none (zp I q (by simp))
  | int j=>obtain ⟨t',rfl⟩:=ry;exact ne_int (zp I q (congrArg not zGv))
  | str j=>obtain ⟨t',rfl⟩:=ry;exact PySem.EqMixed.ne_int_str (zp I q (by simp))
  | _=>exact absurd (show false=true from hs) zRp
 | str i=>
  obtain ⟨t,rfl⟩:=rx;cases y with
  | non=>cases ry;exact PySem.EqNone.ne_str_none (zp I q (by simp))
  | bl j=>cases ry;exact PySem.EqMixed.ne_str_bool (zp I q (by simp))
  | int j=>obtain ⟨t',rfl⟩:=ry;exact PySem.EqMixed.ne_str_int (zp I q (by simp))
  | str j=>obtain ⟨t',rfl⟩:=ry;exact ne_str (zp I q (congrArg not zHO))
  | _=>exact absurd (show false=true from hs) zRp
 | byt i=>
  obtain ⟨t,rfl⟩:=rx;cases y with
  | byt j=>obtain ⟨t',rfl⟩:=ry;exact PySem.W.ne_bytes (zp I q (congrArg not zHF))
  | _=>exact absurd (show false=true from hs) zRp
 | _=>cases y<;>exact absurd (show false=true from hs) zRp
theorem zDG:OpR X (compareOp .Lt) (rI0 fun i j=> .bl (decide (i<j))):=zJv fun _ _ _ _ _ _ _ q=>lt_int q
theorem zCx:OpR X (compareOp .LtE) (rI0 fun i j=> .bl (decide (i<=j))):=zJv fun _ _ _ _ _ _ _ q=>le_int q
theorem zBt:OpR X (compareOp .Gt) (rI0 fun i j=> .bl (decide (j<i))):=zJv fun _ _ _ _ _ _ _ q=>gt_int q
theorem zCp(b:Expr){op:CmpOp}(h:op≠ .In:=by decide)(h2:op≠ .NotIn:=by decide):behindInMarks op b=false:=by
 have e1:(op==CmpOp.In)=false:=by cases op<;>first | rfl | exact absurd rfl h
 have e2:(op==CmpOp.NotIn)=false:=by cases op<;>first | rfl | exact absurd rfl h2
 cases b<;>simp [behindInMarks,e1,e2]
theorem zHG{op:CmpOp}{r:R2}(ho:OpR X (compareOp op) r)(ha:PE X a ta)(hb:PE X b tb)(hm:behindInMarks op b=false):PE X (.Compare a [op] [b] pos) (tOp r ta tb):=by
 intro pins s σ H Q I h;exact wpAny_Compare1 (zKL ha hb I h fun v u s2 x y H2 I2 rx ry q=>ho pins s2 σ H2 x y v u Q I2 rx ry q) hm
def zFN(t:TE):TT:=fun σ H Q=>t σ H fun x H'=>XB x H' Q
theorem zCJ{op:CmpOp}{r:R2}(ho:OpR X (compareOp op) r)(ha:PE X a ta)(hb:PE X b tb)(hm:behindInMarks op b=false):PT X (.Compare a [op] [b] pos) (zFN (tOp r ta tb)):=by
 intro pins s σ H Q I h;refine wpAny_isTrue_Compare1 (zb (ha pins s σ H _ I h) fun v s1 ⟨x,H1,I1,r1,q1⟩=>zb (hb pins s1 σ H1 _ I1 q1) fun u s2 ⟨y,H2,I2,r2,q2⟩=>
  zb (ho pins s2 σ H2 x y v u _ I2 r1 r2 q2) fun c s3 ⟨z,H3,I3,r3,k,e,q3⟩=>?_) hm
 subst e;cases r3;exact zSO ⟨H3,I3,q3⟩
def zEH(r r':R2)(ta tb tc:TE):TE:=fun σ H Q=>ta σ H fun x H1=>tb σ H1 fun y H2=>r x y H2 fun z H3=> ∃k,z= .bl k/\
 (if k=true then tc σ H3 fun w' H4=>r' y w' H4 Q else Q (.bl false) H3)
theorem zJs{op op':CmpOp}{r r':R2}(ho:OpR X (compareOp op) r)(ho':OpR X (compareOp op') r')(ha:PE X a ta)(hb:PE X b tb)(hc:PE X c tc)
  (hm:lastMarks [op,op'] [b,c] =false:=by with_unfolding_all rfl):PE X (.Compare a [op,op'] [b,c] pos) (zEH r r' ta tb tc):=by
 intro pins s σ H Q I h;refine Compare_chain (zb (ha pins s σ H _ I h) fun v s1 ⟨x,H1,I1,r1,q1⟩=>chain_link (zb (hb pins s1 σ H1 _ I1 q1) fun u s2 ⟨y,H2,I2,r2,q2⟩=>
  zb (ho pins s2 σ H2 x y v u _ I2 r1 r2 q2) fun d s3 ⟨z,H3,I3,r3,k,e,q3⟩=>?_)) hm
 subst e;cases r3;refine zSO ?_;cases k with
 | false=>exact ite_ff ⟨.bl false,H3,I3,rfl,q3⟩
 | true=>exact ite_tt (chain_last (zb (hc pins s3 σ H3 _ I3 q3) fun w' s4 ⟨z',H4,I4,r4,q4⟩=>ho' pins s4 σ H4 y z' u w' Q I4 r2 r4 q4))
theorem zKM{op op':CmpOp}{r r':R2}(ho:OpR X (compareOp op) r)(ho':OpR X (compareOp op') r')(ha:PE X a ta)(hb:PE X b tb)(hc:PE X c tc)
  (hm:lastMarks [op,op'] [b,c] =false:=by with_unfolding_all rfl):PT X (.Compare a [op,op'] [b,c] pos) (zFN (zEH r r' ta tb tc)):=by
 intro pins s σ H Q I h;refine isTrue_chain (zb (ha pins s σ H _ I h) fun v s1 ⟨x,H1,I1,r1,q1⟩=>test_link (zb (hb pins s1 σ H1 _ I1 q1) fun u s2 ⟨y,H2,I2,r2,q2⟩=>
  zb (ho pins s2 σ H2 x y v u _ I2 r1 r2 q2) fun d s3 ⟨z,H3,I3,r3,k,e,q3⟩=>?_)) hm
 subst e;cases r3;refine zSO ?_;cases k with
 | false=>
  obtain ⟨k',e',q'⟩:=q3;cases e';exact ite_ff ⟨H3,I3,q'⟩
 | true=>
  refine ite_tt (test_last (zb (hc pins s3 σ H3 _ I3 q3) fun w' s4 ⟨z',H4,I4,r4,q4⟩=>zb (ho' pins s4 σ H4 y z' u w' _ I4 r2 r4 q4) fun d' s5 ⟨z2,H5,I5,r5,k2,e2,q5⟩=>?_));subst e2;cases r5;exact zSO ⟨H5,I5,q5⟩
theorem zCH:(sizeLine:Nat)<2^63:=by rw [zRn];decide
theorem zDu:OpR X (binaryOp .Add) (fun x y H Q=> ∃i j,x= .str i/\y= .str j/\i.length+j.length<=sizeLine/\Q (.str (i++j)) H):=by
 intro pins s σ H x y v u Q I rx ry h;obtain ⟨i,j,rfl,rfl,hz,q⟩:=h;obtain ⟨t,rfl⟩:=rx;obtain ⟨t',rfl⟩:=ry;exact add_str (fun t' tk=>⟨.str (i++j),H,I.tok _,⟨_,rfl⟩,q⟩) hz
theorem zBP{x:V}{us:List Value}(r:zT [x] us): ∃u,us= [u] /\ze x u:=by
 cases r with
 | cons r1 r2=>cases r2;exact ⟨_,rfl,r1⟩
theorem zPz{x y:V}{us:List Value}(r:zT [x,y] us): ∃u w',us= [u,w'] /\ze x u/\ze y w':=by
 cases r with
 | cons r1 r2=>
  cases r2 with
  | cons r3 r4=>cases r4;exact ⟨_,_,rfl,r1,r3⟩
theorem zEi(hc:X.calm=true):yV X (.builtin "max") (fun xs H Q=> ∃i j,xs= [.int i,.int j] /\Q (.int (if j>i then j else i)) H):=by
 intro pins s σ H xs us Q I r h;obtain ⟨i,j,rfl,q⟩:=h;obtain ⟨u,w',rfl,⟨t,rfl⟩,⟨t',rfl⟩⟩:=zPz r;refine max_two_ints (I.ok.hd hc) fun h' tk k=>⟨_,H,I.kept k,?_,q⟩;by_cases hj:j>i
 ·rw [if_pos hj,if_pos hj];exact ⟨_,rfl⟩
 ·rw [if_neg hj,if_neg hj];exact ⟨_,rfl⟩
end
structure ObjM(h:Heap)(x dx C:Addr)(mA:Str->Option Value):Prop where
 obj:h.get? x=some (PySem.W.instObj C dx)
 ns:h.Ns1 dx mA
 ne:dx≠x
theorem zEu{h:Heap}{dx:Addr}{mA:Str->Option Value}(n:h.Ns1 dx mA): ∃od,h.get? dx=some od/\ ∀name,PySem.W.lookIn name od=some (mA name):=by
 obtain ⟨o,es,ep,ho,hd,hk,_,hm⟩:=n;refine ⟨o,ho,fun name=>?_⟩;have e:=hm name;unfold nsFind findBy at e;rw [<-Array.find?_toList] at e;unfold PySem.W.lookIn;rw [hd];dsimp only;split
 ·rename_i y q
  rw [q] at e;exact congrArg some e
 ·rename_i q
  rw [q] at e;have a:es.toList.any (·.refKey)=false:=by
   rw [List.any_eq_false];intro y hy;obtain ⟨z,t,hkey⟩:=hk y (Array.mem_toList_iff.mp hy);simp [DictEntry.refKey,hkey]
  have a': ¬es.toList.any (·.refKey)=true:=by rw [a];exact zRp
  rw [if_neg a'];exact congrArg some e
theorem ObjM.look{h:Heap}{x dx C:Addr}{mA:Str->Option Value}(I:ObjM h x dx C mA): ∃od,PySem.W.InstAt h x (PySem.W.instObj C dx) C (some od)/\ ∀name,PySem.W.lookIn name od=some (mA name):=
 let ⟨od,ho,hl⟩:=zEu I.ns
 ⟨od,⟨I.obj,rfl,rfl,ho⟩,hl⟩
section
variable {prog:Program}{w:World}{A:Around}{E:Value->Shared->Prop}{s:Shared}{K:zSS}{x dx C f:Addr}{mA:Str->Option Value}{name:Str}{v:Value}
theorem zLd{expr:Bool}{Q:Value->Shared->Prop}(X:K.In s.heap)(I:ObjM s.heap x dx C mA)(hg:PySem.W.plainGet K C name=true)(hh:PySem.W.hasDictIn K C=true)
  (ha:PySem.W.findIn K (.ref C) name=some none) (hv:mA name=some v) (hv':PySem.W.handedIn v=true) (h:Q v {s with toks:=s.toks+1}):
  wpAny (model prog w) A (getAttr (.ref x) name expr) Q E s:=by
 obtain ⟨od,J,hl⟩:=I.look;exact PySem.W.get_value X J (PySem.W.plainGet_of hg).1 (PySem.W.findObj_own hh ha rfl (by rw [hl,hv])) hv' h
theorem zJu{pl:Sem Bool}{Q:Value×List Value->Shared->Prop}(X:K.In s.heap)(I:ObjM s.heap x dx C mA)(hg:PySem.W.plainGet K C name=true)
  (hf:PySem.W.findIn K (.ref C) name=some (some (.ref f))) (ht:PySem.W.isFn K (.ref f)=true) (hv:mA name=none) (h:Q (.ref f,[.ref x]) s):
  wpAny (model prog w) A (getMethod (.ref x) name pl) Q E s:=by
 obtain ⟨od,J,hl⟩:=I.look;exact PySem.W.method_fn X J (PySem.W.plainGet_of hg).1 (PySem.W.plainGet_of hg).2 hf (beq_iff_eq.mp ht) (by show (PySem.W.lookIn name od).map (·.isSome)=some false;rw [hl,hv];rfl) h
theorem zLi{ns:List Str}{Q:Unit->Shared->Prop}(X:K.In s.heap)(I:ObjM s.heap x dx C mA)
  (hs:PySem.W.findIn K (.ref C) "__setattr__" =some (some (.builtin "object.__setattr__"))) (hp:PySem.W.plainOver K C=true) (ht:PySem.W.takerIn K C name=some none) (hh:PySem.W.hasDictIn K C=true)
  (hw:PySem.Within mA ns) (hsz:ns.length<=sizeLine)
  (h: ∀h',ObjM h' x dx C (fun y=>if y=name then some v else mA y)->Heap.SameBut dx s.heap h'->Q () {s with heap:=h',toks:=s.toks+2}):
  wpAny (model prog w) A (setAttr (.ref x) name v) Q E s:=by
 obtain ⟨od,J,hl⟩:=I.look;refine PySem.W.set_plain X J hs (PySem.W.osa_open (s:={s with toks:=s.toks+1}) (r:=none) X J hp ht fun b=>?_);obtain ⟨cd,hc,hd'⟩:=PySem.W.any_some hh;have hx:s.heap.get? x=some ⟨.ref C,some dx,.plain,#[]⟩:=I.obj;refine zRd (zRi (zRd (zRd (wpAny_loadPart hx (zRd (PySem.W.Looks.here (s:={s with toks:=s.toks+1}) (PySem.W.looks_clsIn X hc) ?_))))));rw [hd'];refine zRi (a:=some dx) (zRd (zRi (zRd ?_)));refine wpAny_nsSet1 (s:={s with toks:=s.toks+1}) I.ns fun h' hn2 hs2=>?_;obtain ⟨oD,esD,epD,hoD,hdD,hcD⟩:=hn2.count (PySem.Within.cons name v hw);refine zRd (wpAny_lookBehind hoD (by rw [hdD];exact pastItsLine_dict (zRq hcD (by rw [zSa];omega))) ?_);exact zRi (h _ ⟨(hs2.2 _ (Ne.symm I.ne)).trans I.obj,hn2,I.ne⟩ hs2)
theorem zJw{R:Result->Shared->Prop}{vs:List Value}{kw:List (Str×Value)}(X:K.In s.heap)(hm:PySem.W.makesIn K C=true)
  (hi:PySem.W.findIn K (.ref C) "__init__" =some (some (.ref f))) (hf:PySem.W.typeIn K (.ref f)=some (.type "function"))
  (h:codeAny (model prog w) (A.under (.builtin "type.__call__" ⟨.ref C::vs,kw⟩)) (.call (.ref f) ⟨.ref (s.heap.objs.size+1)::vs,kw⟩) (PySem.W.InitBack (s.heap.objs.size+1) R)
   {s with heap:=(s.heap.push PySem.W.emptyDict).push (PySem.W.instObj C s.heap.objs.size)}):
  codeAny (model prog w) A (.call (.ref C) ⟨vs,kw⟩) R s:=by
 obtain ⟨hh,g,d,t,os⟩:=s;exact PySem.W.make_core (PySem.W.makes_of X hm) (PySem.W.looks_findIn X hi) (fun self=>PySem.W.bind_fn X self hf) (.inl rfl) h
end
def zAM(f:Str)(v:V):List (Str×V)->List (Str×V)
 | [] => [(f,v)]
 |(g,x)::r=>if g=f then (g,v)::r else (g,x)::zAM f v r
theorem zDS(f g:Str)(v:V): ∀fs:List (Str×V),(zAM f v fs).lookup g=if g=f then some v else fs.lookup g
 | [] =>by
  show List.lookup g [(f,v)] =_;by_cases h:g=f
  ·have hb:(g==f)=true:=beq_iff_eq.mpr h;simp only [List.lookup,hb,if_pos h]
  ·have hb:(g==f)=false:=beq_eq_false_iff_ne.mpr h;simp only [List.lookup,hb,if_neg h]
 |(k,x)::r=>by
  have ih:=zDS f g v r;rw [show zAM f v ((k,x)::r)=(if k=f then (k,v)::r else (k,x)::zAM f v r) from rfl];by_cases hk:k=f
  ·rw [if_pos hk];by_cases h:g=k
   ·have hb:(g==k)=true:=beq_iff_eq.mpr h;simp only [List.lookup,hb,if_pos (h.trans hk)]
   ·have hb:(g==k)=false:=beq_eq_false_iff_ne.mpr h;simp only [List.lookup,hb,if_neg (fun e:g=f=>h (e.trans hk.symm))]
  ·rw [if_neg hk];by_cases h:g=k
   ·have hb:(g==k)=true:=beq_iff_eq.mpr h;simp only [List.lookup,hb,if_neg (fun e:g=f=>hk (h.symm.trans e))]
   ·have hb:(g==k)=false:=beq_eq_false_iff_ne.mpr h;simp only [List.lookup,hb];exact ih
theorem zCd(f:Str)(v:V): ∀fs:List (Str×V),f∈(zAM f v fs).map (·.1)/\ ∀g,g∈fs.map (·.1)->g∈(zAM f v fs).map (·.1)
 | [] =>⟨by simp [zAM],fun g h=>by simp at h⟩
 |(k,x)::r=>by
  obtain ⟨i1,i2⟩:=zCd f v r;rw [show zAM f v ((k,x)::r)=(if k=f then (k,v)::r else (k,x)::zAM f v r) from rfl];by_cases hk:k=f
  ·rw [if_pos hk];subst hk;exact ⟨by simp,fun g h=>by simpa using h⟩
  ·rw [if_neg hk];refine ⟨?_,fun g h=>?_⟩
   ·rw [zSX];exact zSI _ i1
   ·rw [zSX] at h⊢;rcases zST.mp h with e | e
    ·exact zST.mpr (.inl e)
    ·exact zSI _ (i2 g e)
theorem zDP(f:Str)(v:V): ∀fs:List (Str×V),(zAM f v fs).length<=fs.length+1
 | [] =>by simp [zAM]
 |(k,x)::r=>by
  have ih:=zDP f v r;rw [show zAM f v ((k,x)::r)=(if k=f then (k,v)::r else (k,x)::zAM f v r) from rfl];by_cases hk:k=f
  ·rw [if_pos hk,zSa,zSa];omega
  ·rw [if_neg hk,zSa,zSa];omega
theorem zBA.some_of{v:V}{o:Option Value}(r:zBA (some v) o): ∃u,o=some u/\ze v u:=by
 cases o with
 | none=>exact (show False from r).elim
 | some u=>exact ⟨u,rfl,r⟩
theorem zBA.none_of{o:Option Value}(r:zBA none o):o=none:=by
 cases o with
 | none=>rfl
 | some u=>exact (show False from r).elim
theorem zEt{v:V}{u:Value}(r:ze v u):PySem.W.handedIn u=true:=by
 cases v with
 | non=>cases (show u=Value.none from r);rfl
 | bl b=>cases (show u=Value.bool b from r);rfl
 | int i=>obtain ⟨t,e⟩:=(show∃t,u=Value.int i t from r);cases e;rfl
 | str x=>obtain ⟨t,e⟩:=(show∃t,u=Value.str x t from r);cases e;rfl
 | byt b=>obtain ⟨t,e⟩:=(show∃t,u=Value.bytes b t from r);cases e;rfl
 | flt b=>obtain ⟨t,e⟩:=(show∃t,u=Value.float b t from r);cases e;rfl
 | ref a=>cases (show u=Value.ref a from r);rfl
 | ty n=>cases (show u=Value.type n from r);rfl
section
variable {P:Program}{w:World}{H H':Hp}{h h':Heap}{a C dx:Addr}{fs fs':List (Str×V)}
theorem zDJ(hok:HOk P w H h)(e:H a=some (.ins C dx fs)): ∃mA,ObjM h a dx C mA/\(∀f,zBA (fs.lookup f) (mA f))/\PySem.Within mA (fs.map (·.1))/\fs.length<=1000/\H dx=some (.own a):=by
 obtain ⟨d,z,ne,ob,mA,n,r,q⟩:=(show zx P w H h a (.ins C dx fs) from hok a _ e);exact ⟨mA,⟨ob,n,ne⟩,r,q,z,d⟩
end
structure Cls(K:zSS)(C:Addr):Prop where
 pg:PySem.W.plainGet K C Str.empty=true
 hd:PySem.W.hasDictIn K C=true
 po:PySem.W.plainOver K C=true
 sa:PySem.W.findIn K (.ref C) "__setattr__" =some (some (.builtin "object.__setattr__"))
theorem Cls.get{K:zSS}{C:Addr}(c:Cls K C)(f:Str):PySem.W.plainGet K C f=true:=c.pg
def ye(K:zSS)(C:Addr)(f:Str):Prop:=PySem.W.findIn K (.ref C) f=some none
theorem ye.taker{K:zSS}{C:Addr}{f:Str}(n:ye K C f):PySem.W.takerIn K C f=some none:=by
 unfold PySem.W.takerIn;rw [show PySem.W.findIn K (.ref C) f=some none from n];rfl
structure Meth(K:zSS)(C:Addr)(m:Str)(f:Addr):Prop where
 at_:PySem.W.findIn K (.ref C) m=some (some (.ref f))
 fn:PySem.W.isFn K (.ref f)=true
 kp:PySem.W.keepIn K (.ref f)=true
section
variable {X:Cx}{pins:List (Addr×Obj)}{σ:St}{H:Hp}{s:Shared}{a C dx:Addr}{fs:List (Str×V)}{f:Str}{v:V}{A:Around}{E:Value->Shared->Prop}
theorem zHt{b:Bool}{Q:Value->Shared->Prop}(I:Inv X pins σ H s)(e:H a=some (.ins C dx fs))(c:Cls X.K C)(n:ye X.K C f)(l:fs.lookup f=some v)
  (h: ∀u s',Inv X pins σ H s'->ze v u->Q u s'):wpAny (model X.prog X.w) A (getAttr (.ref a) f b) Q E s:=by
 obtain ⟨mA,O,r,_,_,_⟩:=zDJ I.hok e;obtain ⟨u,hu,ru⟩:=zBA.some_of (v:=v) (o:=mA f) (by rw [<-l];exact r f);exact zLd I.kIn O (c.get f) c.hd n hu (zEt ru) (h u _ (I.tok _) ru)
theorem zHj{m:Str}{g:Addr}{pl:Sem Bool}{Q:Value×List Value->Shared->Prop}(I:Inv X pins σ H s)(e:H a=some (.ins C dx fs))(c:Cls X.K C)(k:Meth X.K C m g)(l:fs.lookup m=none)
  (h:Q (.ref g,[.ref a]) s):wpAny (model X.prog X.w) A (getMethod (.ref a) m pl) Q E s:=by
 obtain ⟨mA,O,r,_,_,_⟩:=zDJ I.hok e;have hn:mA m=none:=zBA.none_of (by rw [<-l];exact r m);exact zJu I.kIn O (c.get m) k.at_ k.fn hn h
theorem zHk{y:V}{u:Value}{Q:Unit->Shared->Prop}(I:Inv X pins σ H s)(e:H a=some (.ins C dx fs))(c:Cls X.K C)(n:ye X.K C f)(hl:fs.length<1000)(ry:ze y u)
  (h: ∀s',Inv X pins σ (upd H a (.ins C dx (zAM f y fs))) s'->Q () s'):wpAny (model X.prog X.w) A (setAttr (.ref a) f u) Q E s:=by
 obtain ⟨mA,O,r,wi,_,ho⟩:=zDJ I.hok e;have hz:(fs.map (·.1)).length<=sizeLine:=by rw [zRj,zRn];omega
 refine zLi I.kIn O c.sa c.po n.taker c.hd wi hz fun h' O' sb=>h _ ?_;have hd: ∃o,h'.get? dx=some o:=let ⟨o,_,_,e',_⟩:=O'.ns;⟨o,e'⟩;refine I.write (x:=a) (e:=dx) (by rw [e];exact True.intro) (.inr ho) (fun b q hb z=>(sb.2 b hb).trans z) hd ?_;refine ⟨by rw [zQ O.ne];exact ho,?_,O.ne,O'.obj,_,O'.ns,fun g=>?_,fun g hg=>?_⟩
 ·have:=zDP f y fs;omega
 ·show zBA ((zAM f y fs).lookup g) (if g=f then some u else mA g);rw [zDS];by_cases q:g=f
  ·rw [if_pos q,if_pos q];exact ry
  ·rw [if_neg q,if_neg q];exact r g
 ·by_cases q:g=f
  ·rw [q];exact (zCd f y fs).1
  ·refine (zCd f y fs).2 g (wi g fun z=>hg ?_);show (if g=f then some u else mA g)=none;rw [if_neg q];exact z
theorem Inv.made(I:Inv X pins σ H s):Inv X pins σ (upd (upd H s.heap.objs.size (.own (s.heap.objs.size+1))) (s.heap.objs.size+1) (.ins C s.heap.objs.size []))
  {s with heap:=(s.heap.push PySem.W.emptyDict).push (PySem.W.instObj C s.heap.objs.size)}:=by
 have e1:(s.heap.push PySem.W.emptyDict).get? s.heap.objs.size=some PySem.W.emptyDict:=zRu s.heap rfl;have e2:((s.heap.push PySem.W.emptyDict).push (PySem.W.instObj C s.heap.objs.size)).get? (s.heap.objs.size+1)=some (PySem.W.instObj C s.heap.objs.size):=by
  have:=zRu (s.heap.push PySem.W.emptyDict) (o:=PySem.W.instObj C s.heap.objs.size) rfl
  rwa [Heap.size_push] at this
 have e3:(s.heap.push PySem.W.emptyDict).Ns s.heap.objs.size (fun _=>none):=⟨PySem.W.emptyDict,#[],_,e1,rfl,(fun e he=>absurd he (by simp)),fun _=>rfl⟩;have I1:=I.laid (a:=s.heap.objs.size) (o:= .own (s.heap.objs.size+1)) (h':=s.heap.push PySem.W.emptyDict) (t':=s.toks) (fun b u q=>zRe _ q) (zRg _) ⟨_,e1⟩;refine I1.laid (a:=s.heap.objs.size+1) (o:= .ins C s.heap.objs.size []) (t':=s.toks) (fun b u q=>zRe _ q) (Nat.le_of_eq (Heap.size_push _ _)) ?_;have ne:s.heap.objs.size≠s.heap.objs.size+1:=zRk (Nat.lt_succ_self _);refine ⟨by rw [zQ ne,zD],zRr _,ne,e2,fun _=>none,(Heap.Ns1.of_empty e3).at fun o q=>zRe _ q,fun _=>True.intro,fun y hy=>absurd rfl hy⟩
theorem zHM{prog:Program}{w:World}{env:Env}{e:Expr}{f:Str}{pos:Pos}{s:Shared}{Q:Value->Shared->Prop}(hb:attributeBase e f env (eval e env)=eval e env)
  (h:wpAny (model prog w) A (eval e env) (fun o s₁=>wpAny (model prog w) A (getAttr o f true) Q E s₁) E s):wpAny (model prog w) A (eval (.Attribute e f pos) env) Q E s:=
 Attribute_any_ h (by rw [arm_eval_Attribute,hb])
end
inductive XFld (K:zSS) (f:Str) (x:V) (H1:Hp) (Q:VK):Prop
 | mk (a C dx:Addr) (fs:List (Str×V)) (v:V) (h1:x= .ref a) (h2:H1 a=some (.ins C dx fs)) (h3:Cls K C) (h4:ye K C f) (h5:fs.lookup f=some v) (q:Q v H1)
def zOP(K:zSS)(ta:TE)(f:Str):TE:=fun σ H Q=>ta σ H fun x H1=>XFld K f x H1 Q
inductive XSf (K:zSS) (f:Str) (x y:V) (H2:Hp) (Q:Hp->Prop):Prop
 | mk (a C dx:Addr) (fs:List (Str×V)) (h1:x= .ref a) (h2:H2 a=some (.ins C dx fs)) (h3:Cls K C) (h4:ye K C f) (h5:fs.length<1000) (q:Q (upd H2 a (.ins C dx (zAM f y fs))))
def zMs(K:zSS)(ta tv:TE)(f:Str):TS:=fun D σ H=>tv σ H fun y H1=>ta σ H1 fun x H2=>XSf K f x y H2 fun H3=>D.nx σ H3
section
variable {X:Cx}{o e value:Expr}{f:Str}{pos pos' tpos:Pos}{ta tv:TE}
theorem zNY(he:PE X e ta)(hb:attributeBase e f X.env (eval e X.env)=eval e X.env):PE X (.Attribute e f pos) (zOP X.K ta f):=by
 intro pins s σ H Q I h;refine zHM hb (zb (he pins s σ H _ I h) fun u s1 ⟨x,H1,I1,rx,a,C,dx,fs,v,ex,ea,c,n,l,q⟩=>?_);subst ex;obtain rfl:u=Value.ref a:=rx;exact zHt I1 ea c n l fun u' s2 I2 ru=>⟨v,H1,I2,ru,q⟩
theorem zOu(ha:PE X o ta)(hv:PE X value tv)(hs:swapsWith value (some (.Attribute o f pos')) pos.line X.env=pure false):PS X (.Assign [.Attribute o f pos'] value pos) (zMs X.K ta tv f):=by
 intro pins s σ H D I h;refine plainObj_wpAny_Assign_Attribute (zb (hv pins s σ H _ I h) fun u s1 ⟨y,H1,I1,ry,q⟩=>zb (ha pins s1 σ H1 _ I1 q) fun ov s2 ⟨x,H2,I2,rx,a,C,dx,fs,ex,ea,c,n,l,q2⟩=>?_) hs;subst ex;obtain rfl:ov=Value.ref a:=rx;exact zHk I2 ea c n l ry fun s3 I3=>⟨σ,_,I3,q2⟩
end
section
variable {X:Cx}{pins:List (Addr×Obj)}{σ:St}{H:Hp}{s:Shared}{A:Around}{E:Value->Shared->Prop}{Q:Value->Shared->Prop}{c:Value}{b:Bool}
inductive TyOf (K:zSS) (H:Hp):V->Value->Prop where
 | non:TyOf K H .non (.type "NoneType")
 | bl (x:Bool):TyOf K H (.bl x) (.type "bool")
 | int (i:Int):TyOf K H (.int i) (.type "int")
 | str (x:Str):TyOf K H (.str x) (.type "str")
 | flt (x:UInt64):TyOf K H (.flt x) (.type "float")
 | lst {a:Addr} {xs:List V} (e:H a=some (.lst xs)):TyOf K H (.ref a) (.type "list")
 | frz {a:Addr} {o:Obj} {xs:List V} (e:H a=some (.frz o (.lst xs))):TyOf K H (.ref a) (.type "list")
 | tup {a:Addr} {xs:List V} (e:H a=some (.tup xs)):TyOf K H (.ref a) (.type "tuple")
 | dK {a:Addr} {kvs:List (Key×V)} (e:H a=some (.dK kvs)):TyOf K H (.ref a) (.type "dict")
 | dT {a:Addr} {kvs:List (List Key×V)} (e:H a=some (.dT kvs)):TyOf K H (.ref a) (.type "dict")
 | ins {a C dx:Addr} {fs:List (Str×V)} (e:H a=some (.ins C dx fs)) (cl:Cls K C) (ha:PySem.W.findIn K (.ref C) "__class__" =some (some (.builtin "object.__class__")))
   (hn:PySem.W.specialIn K (.builtin "object.__class__") "__get__" =some (some (.builtin "getset_descriptor.__get__"))) (htk:PySem.W.takesIn K (.builtin "object.__class__")=some true)
   (hm:PySem.W.mroIn K C (.type "object")=some true):TyOf K H (.ref a) (.ref C)
theorem zJP{x:V}{u t:Value}(I:Inv X pins σ H s)(rx:ze x u)(ty:TyOf X.K H x t)(e:PySem.W.kitOne X.K t c=some b)(h: ∀tk,Q (.bool b) {s with toks:=tk}):
  wpAny (model X.prog X.w) A (call (.builtin "isinstance") [u,c]) Q E s:=by
 cases ty with
 | non=>cases (show u=Value.none from rx);exact zSM PySem.W.kitx_none I.kIn True.intro e (fun z=>nomatch z) h
 | bl y=>cases (show u=Value.bool y from rx);exact zSM PySem.W.kitx_bool I.kIn True.intro e (fun z=>nomatch z) h
 | int i=>obtain ⟨t,q⟩:=(show∃t,u=Value.int i t from rx);cases q;exact zSM PySem.W.kitx_int I.kIn True.intro e (fun z=>nomatch z) h
 | str y=>obtain ⟨t,q⟩:=(show∃t,u=Value.str y t from rx);cases q;exact zSM PySem.W.kitx_str I.kIn True.intro e (fun z=>nomatch z) h
 | flt y=>obtain ⟨t,q⟩:=(show∃t,u=Value.float y t from rx);cases q;exact zSM PySem.W.kitx_float I.kIn True.intro e (fun z=>nomatch z) h
 | @lst a xs ea=>
  cases (show u=Value.ref a from rx);obtain ⟨_,_,n,_,h1⟩:=(show zx X.prog X.w H s.heap a (.lst xs) from I.hok a _ ea);exact zSM PySem.W.kitx_list I.kIn ⟨_,h1,rfl⟩ e (fun z=>nomatch z) h
 | @frz a ob xs ea=>
  cases (show u=Value.ref a from rx);obtain ⟨_,_,_,n,_,h1⟩:=(show zx X.prog X.w H s.heap a (.frz ob (.lst xs)) from I.hok a _ ea);exact zSM PySem.W.kitx_list I.kIn ⟨_,h1,rfl⟩ e (fun z=>nomatch z) h
 | @tup a xs ea=>
  cases (show u=Value.ref a from rx);obtain ⟨_,_,_,p⟩:=(show zx X.prog X.w H s.heap a (.tup xs) from I.hok a _ ea);obtain ⟨o,h1,h2,_⟩:=p;exact zSM PySem.W.kitx_tuple I.kIn ⟨o,h1,h2⟩ e (fun z=>nomatch z) h
 | @dK a kvs ea=>
  cases (show u=Value.ref a from rx);obtain ⟨_,_,vs,_,p⟩:=(show zx X.prog X.w H s.heap a (.dK kvs) from I.hok a _ ea);obtain ⟨o,es,ep,h1,h2,_⟩:=p;exact zSM PySem.W.kitx_dict I.kIn ⟨o,h1,h2.1⟩ e (fun z=>nomatch z) h
 | @dT a kvs ea=>
  cases (show u=Value.ref a from rx);obtain ⟨_,_,xs,_,o,es,ep,h1,h2,_⟩:=(show zx X.prog X.w H s.heap a (.dT kvs) from I.hok a _ ea);exact zSM PySem.W.kitx_dict I.kIn ⟨o,h1,h2.1⟩ e (fun z=>nomatch z) h
 | @ins a C dx fs ea cl ha hn htk hm=>
  cases (show u=Value.ref a from rx);obtain ⟨mA,O,_⟩:=zDJ I.hok ea;obtain ⟨od,J,_⟩:=O.look;exact zSM (PySem.W.kitx_own (cl.get _) cl.hd ha hn htk hm) I.kIn J e (fun z=>nomatch z) h
end
structure Room(k:Nat)(A:Around):Prop where
 hd:A.handled=none
 dp:A.depth+3*k+5<recursionLimit
 un:A.units+16*k+200<cLine
 gd:A.guards=some []
theorem Room.mono{j k:Nat}{A:Around}(r:Room k A)(h:j<=k):Room j A:=⟨r.hd,by have:=r.dp;omega,by have:=r.un;omega,r.gd⟩
theorem Room.deeper{k:Nat}{A:Around}(r:Room (k+1) A)(env:Env):Room k (A.deeper env):=
 ⟨r.hd,by have:=r.dp;show A.depth+1+3*k+5<_;omega,by have:=r.un;show A.units+3+16*k+200<_;omega,r.gd⟩
theorem zIP{A:Around}{C:Addr}{us:List Value}{kw:List (Str×Value)}:(A.under (.builtin "type.__call__" ⟨.ref C::us,kw⟩)).depth=A.depth+1:=by
 first | rfl | simp [Around.under,Code.weight,Code.isCreation,Code.isGuard,Code.isCaller,Code.frames,Code.isFrame,guardIds]
theorem zHi{A:Around}{C:Addr}{us:List Value}{kw:List (Str×Value)}:(A.under (.builtin "type.__call__" ⟨.ref C::us,kw⟩)).units=A.units+1:=by
 first | rfl | simp [Around.under,Code.cUnits,Code.frames,Code.isFrame]
theorem zGo{A:Around}{C:Addr}{us:List Value}{kw:List (Str×Value)}:(A.under (.builtin "type.__call__" ⟨.ref C::us,kw⟩)).guards=A.guards:=by
 show pushGuards [] A.guards=A.guards;cases A.guards<;>rfl
theorem Room.make{k:Nat}{A:Around}(r:Room (k+1) A)(C:Addr)(us:List Value)(kw:List (Str×Value)):Room k (A.under (.builtin "type.__call__" ⟨.ref C::us,kw⟩)):=
 ⟨r.hd,by have:=r.dp;rw [zIP];omega,by have:=r.un;rw [zHi];omega,zGo.trans r.gd⟩
theorem Room.depth{k:Nat}{A:Around}(r:Room k A):A.depth<recursionLimit:=by have:=r.dp;omega
theorem Room.units{k:Nat}{A:Around}(r:Room k A):A.units+64<cLine:=by have:=r.un;omega
def zHv:TA:=fun _ H Q=>Q [] H
def zFP(ta:TE)(tr:TA):TA:=fun σ H Q=>ta σ H fun x H1=>tr σ H1 fun xs H2=>Q (x::xs) H2
section
variable {X:Cx}{e:Expr}{es:List Expr}{te:TE}{t:TA}{pos:Pos}
theorem zAA:PA X [] zHv:=fun _ _ _ _ H Q I h=>Calls.spliced_nil ⟨[],H,I,.nil,h⟩
theorem yL(ha:PE X e te)(hr:PA X es t)(hs:starEach (e::es) X.env=(false,eval e X.env)::starEach es X.env:=by rfl):PA X (e::es) (zFP te t):=by
 intro pos pins s σ H Q I h;rw [hs];show wpAny _ _ (spliced ((false,eval e X.env)::backTo pos (starEach es X.env))) _ _ s;refine Calls.spliced_cons (zb (ha pins s σ H _ I h) fun u s1 ⟨x,H1,I1,r1,q1⟩=>?_);exact zb (hr pos pins s1 σ H1 _ I1 q1) fun us s2 ⟨xs,H2,I2,r2,q2⟩=>⟨x::xs,H2,I2,.cons r1 r2,q2⟩
inductive XMk (o:HO) (n:Nat) (H:Hp) (Q:VK):Prop
 | mk (h:n<=sizeLine) (q: ∀p,H p=none->Q (.ref p) (upd H p o))
def zNZ(t:TA):TE:=fun σ H Q=>t σ H fun xs H1=>XMk (.tup xs) xs.length H1 Q
def zOW(t:TA):TE:=fun σ H Q=>t σ H fun xs H1=>XMk (.lst xs) xs.length H1 Q
theorem zOa{x1}(h:PA X es t):PE X (.Tuple es x1 pos) (zNZ t):=by
 intro pins s σ H Q I hq;refine wpAny_Tuple_spliced (zb (h pos pins s σ H _ I hq) fun us s1 ⟨xs,H1,I1,r,z,q⟩=>⟨by rw [<-r.length];exact z,?_⟩);have hf:H1 s1.heap.objs.size=none:=I1.hok.fresh (zRg _);refine ⟨.ref s1.heap.objs.size,upd H1 s1.heap.objs.size (.tup xs),I1.laid (t':=s1.toks) (fun b u e=>zRe _ e) (zRg _) ?_,rfl,q _ hf⟩;exact ⟨z,us,r,⟨_,zRu _ rfl,rfl,⟨_,rfl⟩,rfl⟩⟩
theorem zIx(h:PA X es t):PE X (.List es pos) (zOW t):=by
 intro pins s σ H Q I hq;refine wpAny_List_spliced (zb (h pos pins s σ H _ I hq) fun us s1 ⟨xs,H1,I1,r,z,q⟩=>⟨by rw [<-r.length];exact z,?_⟩);have hf:H1 s1.heap.objs.size=none:=I1.hok.fresh (zRg _);refine ⟨.ref s1.heap.objs.size,upd H1 s1.heap.objs.size (.lst xs),I1.laid (t':=s1.toks) (fun b u e=>zRe _ e) (zRg _) ?_,rfl,q _ hf⟩;exact ⟨z,us,0,r,zRu _ rfl⟩
end
abbrev Sp:=List V->Hp->VK->XK->Prop
abbrev CXT:=List Env->Hp->Shared->XK->Value->Shared->Prop
structure Env0(P:Program)(w:World)(K:zSS)(mg:Str->Option Value)(base:Heap)(A:Around)(outer:List Env)(s:Shared)(H:Hp):Prop where
 frames:A.frames=some outer
 mod:Mod K mg base
 bs: ∀b o,base.get? b=some o->s.heap.get? b=some o/\H b=none
 bsz:base.objs.size<=s.heap.objs.size
 funs:s.heap.FunFrames base outer
 frf: ∀b∈yi outer,H b=none
 hok:HOk P w H s.heap
 bare:AllBare s.gens
def CE(outer:List Env)(P:Program)(w:World)(H:Hp)(s:Shared)(Q:VK)(u:Value)(s':Shared):Prop:=
 ∃v H',s'.os=s.os/\AllBare s'.gens/\Un (yi outer) [] H H' s.heap s'.heap/\HOk P w H' s'.heap/\ze v u/\Q v H'
def CR(CX:CXT)(outer:List Env)(P:Program)(w:World)(H:Hp)(s:Shared)(Q:VK)(E:XK)(r:Result)(s':Shared):Prop:=
 match r with
 | .ok (.ret u)=>CE outer P w H s Q u s'
 | .ok _=>False
 | .error e=>CX outer H s E e s'
structure FnOk(P:Program)(w:World)(K:zSS)(mg:Str->Option Value)(base:Heap)(CX:CXT)(k:Nat)(f:Addr)(fd:FuncData)(ps:List Str)(sp:Sp):Prop where
 len: ∀vs H Q E,sp vs H Q E->vs.length=ps.length
 run: ∀(A:Around) (outer:List Env) (s:Shared) (H:Hp) (args:Args) (us:List Value) (vs:List V) (Q:VK) (E:XK),Room k A->Env0 P w K mg base A outer s H->BindsTo s fd args (ps.zip us)->zT vs us->sp vs H Q E->
  codeAny (model P w) A (.call (.ref f) args) (CR CX outer P w H s Q E) s
theorem Env0.make{P:Program}{w:World}{K:zSS}{mg:Str->Option Value}{base:Heap}{A:Around}{outer:List Env}{s:Shared}{H:Hp}(e:Env0 P w K mg base A outer s H)(C:Addr)(us:List Value)(kw:List (Str×Value)):
  Env0 P w K mg base (A.under (.builtin "type.__call__" ⟨.ref C::us,kw⟩)) outer s H:=⟨by first | exact e.frames |(simpa [Around.under,Code.envs,Code.isFrame,pushEnvs] using e.frames),e.mod,e.bs,e.bsz,e.funs,e.frf,e.hok,e.bare⟩
section
variable {X:Cx}{pins:List (Addr×Obj)}{σ:St}{H:Hp}{s s':Shared}
theorem Inv.env0(I:Inv X pins σ H s):Env0 X.prog X.w X.K X.mg X.base X.A X.stack s H:=
 ⟨I.ok.frames,I.ok.mod,I.bs,zRq I.ok.bsz I.sz,I.stack,I.stkFree,I.hok,I.bare⟩
theorem Inv.after{Q:VK}{u:Value}(I:Inv X pins σ H s)(h:CE X.stack X.prog X.w H s Q u s'):EP X pins σ Q u s':=by
 obtain ⟨v,H',os,bare,un,hok,r,q⟩:=h;obtain ⟨hh,g,d,t,os'⟩:=s';obtain rfl:os'=s.os:=os;exact ⟨v,H',I.call (h':=hh) (g':=g) (d':=d) (t':=t) (ch:= []) un hok bare (fun b z=>absurd z (by simp)),r,q⟩
end
def zEO(sp:Sp)(dvs:List V)(E:XK)(t:TA):TE:=fun σ H Q=>t σ H fun vs H1=>sp (vs++dvs) H1 Q E
def zKl(C:Addr)(sp:Sp)(dvs:List V)(E:XK)(t:TA):TE:=fun σ H Q=>t σ H fun vs H1=> ∀x dx,H1 x=none->H1 dx=none->dx≠x->
 sp (.ref x::(vs++dvs)) (upd (upd H1 dx (.own x)) x (.ins C dx [])) (fun v H2=>v= .non/\Q (.ref x) H2) E
def zL(K:zSS)(fd:FuncData)(ps:List Str)(ds:List Value):Prop:=
 ∀(s:Shared) (us:List Value),K.In s.heap->(us++ds).length=ps.length->BindsTo s fd ⟨us,[]⟩ (ps.zip (us++ds))
theorem zL.all{K:zSS}{fd:FuncData}{ps:List Str}(h: ∀us:List Value,us.length=ps.length->bindArgs fd ⟨us,[]⟩=pure (ps.zip us)):zL K fd ps [] :=fun s us _ hl=>by
 rw [zSB] at hl⊢;exact .of_eq (h us hl)
def yw(CX:CXT)(X:Cx)(E:XK):Prop:= ∀(pins:List (Addr×Obj)) (σ:St) (H:Hp) (s:Shared) (e:Value) (s':Shared),Inv X pins σ H s->CX X.stack H s E e s'->X.xe e s'
section
variable {X:Cx}{CX:CXT}{k:Nat}{f C:Addr}{fd:FuncData}{ps:List Str}{sp:Sp}{dvs:List V}{ds:List Value}{E:XK}{x m:Str}{p pos apos:Pos}{e o:Expr}{es:List Expr}{ta:TE}{t:TA}
theorem zGW{pins:List (Addr×Obj)}{σ:St}{H:Hp}{s:Shared}{Q:VK}{us:List Value}{vs:List V}(F:FnOk X.prog X.w X.K X.mg X.base CX k f fd ps sp)(hr:Room k X.A)(hb:zL X.K fd ps ds)(hd:zT dvs ds)(hx:yw CX X E)
  (I:Inv X pins σ H s) (r:zT vs us) (h:sp (vs++dvs) H Q E):wpAny (model X.prog X.w) X.A (call (.ref f) us) (EP X pins σ Q) X.xe s:=by
 have r2:zT (vs++dvs) (us++ds):=r.append hd;have hl:(us++ds).length=ps.length:=by rw [<-r2.length];exact F.len _ _ _ _ h
 refine wpAny_call (zSQ (F.run X.A X.stack s H ⟨us,[]⟩ (us++ds) (vs++dvs) Q E hr I.env0 (hb s us I.kIn hl) r2 h) fun r s' hq=>?_);cases r with
 | error e=>exact hx pins σ H s e s' I hq
 | ok fl=>
  cases fl with
  | ret u=>exact I.after hq
  | next=>exact False.elim hq
  | brk=>exact False.elim hq
  | cont=>exact False.elim hq
theorem zBU(F:FnOk X.prog X.w X.K X.mg X.base CX k f fd ps sp)(hr:Room k X.A)(hg:Gl X x)(hm:X.mg x=some (.ref f))(hk:PySem.W.keepIn X.K (.ref f)=true)(hb:zL X.K fd ps ds)(hd:zT dvs ds)(hx:yw CX X E)
  (ha:PA X (e::es) t) (hdb:(x==("__debug__" :Str))=false:=by decide) (he:starEach (e::es) X.env=(false,eval e X.env)::starEach es X.env:=by rfl) (hpl:(backTo pos (starEach es X.env)).any (·.1)=false:=by rfl):
  PE X (.Call (.Name x p) (e::es) [] pos) (zEO sp dvs E t):=by
 intro pins s σ H Q I h;refine zSP (zBT I hg hm ?_ hdb);refine PySem.W.callWith_K (h₀:=X.base) I.ok.mod.kin hk (zb (ha pos pins s σ H _ I h) fun us s1 ⟨vs,H1,I1,r,q⟩=>⟨I1.kIn,?_⟩) he hpl;exact zGW F hr hb hd hx I1 r q
structure Mk(K:zSS)(C f:Addr):Prop where
 makes:PySem.W.makesIn K C=true
 init:PySem.W.findIn K (.ref C) "__init__" =some (some (.ref f))
 fn:PySem.W.isFn K (.ref f)=true
 kp:PySem.W.keepIn K (.ref C)=true
theorem zKU{pins:List (Addr×Obj)}{σ:St}{H:Hp}{s:Shared}{Q:VK}{us:List Value}{vs:List V}(M:Mk X.K C f)(F:FnOk X.prog X.w X.K X.mg X.base CX k f fd ps sp)(hr:Room (k+1) X.A)(hb:zL X.K fd ps ds)(hd:zT dvs ds)
  (hx:yw CX X E) (I:Inv X pins σ H s) (r:zT vs us)
  (h: ∀x dx,H x=none->H dx=none->dx≠x->sp (.ref x::(vs++dvs)) (upd (upd H dx (.own x)) x (.ins C dx [])) (fun v H2=>v= .non/\Q (.ref x) H2) E):
  wpAny (model X.prog X.w) X.A (call (.ref C) us) (EP X pins σ Q) X.xe s:=by
 have hq:=h (s.heap.objs.size+1) s.heap.objs.size (I.hok.fresh (Nat.le_succ _)) (I.hok.fresh (zRg _)) (zRk (Nat.lt_succ_self _));have I2:=Inv.made (C:=C) I;have r2:zT (V.ref (s.heap.objs.size+1)::(vs++dvs)) (Value.ref (s.heap.objs.size+1)::(us++ds)):= .cons rfl (r.append hd);have hl:(Value.ref (s.heap.objs.size+1)::us++ds).length=ps.length:=by
  have e:=r2.length;rw [F.len _ _ _ _ hq] at e;exact e.symm
 refine wpAny_call (zJw (f:=f) I.kIn M.makes M.init (beq_iff_eq.mp M.fn) (zSQ (F.run _ X.stack _ _ ⟨Value.ref (s.heap.objs.size+1)::us,[]⟩ (Value.ref (s.heap.objs.size+1)::(us++ds)) _ _ E (hr.make C us [])
  (I2.env0.make C us []) (hb _ (Value.ref (s.heap.objs.size+1)::us) I2.kIn hl) r2 hq) fun r s' hq'=>?_))
 cases r with
 | error e=>exact hx pins σ _ _ e s' I2 hq'
 | ok fl=>
  cases fl with
  | ret u=>
   obtain ⟨v,H',I3,rv,ev,q3⟩:=I2.after hq';subst ev;exact ⟨rv,⟨V.ref (s.heap.objs.size+1),H',I3,rfl,q3⟩⟩
  | next=>exact False.elim hq'
  | brk=>exact False.elim hq'
  | cont=>exact False.elim hq'
theorem zLN(M:Mk X.K C f)(F:FnOk X.prog X.w X.K X.mg X.base CX k f fd ps sp)(hr:Room (k+1) X.A)(hg:Gl X x)(hm:X.mg x=some (.ref C))(hb:zL X.K fd ps ds)(hd:zT dvs ds)(hx:yw CX X E)
  (ha:PA X (e::es) t) (hdb:(x==("__debug__" :Str))=false:=by decide) (he:starEach (e::es) X.env=(false,eval e X.env)::starEach es X.env:=by rfl) (hpl:(backTo pos (starEach es X.env)).any (·.1)=false:=by rfl):
  PE X (.Call (.Name x p) (e::es) [] pos) (zKl C sp dvs E t):=by
 intro pins s σ H Q I h;refine zSP (zBT I hg hm ?_ hdb);refine PySem.W.callWith_K (h₀:=X.base) I.ok.mod.kin M.kp (zb (ha pos pins s σ H _ I h) fun us s1 ⟨vs,H1,I1,r,q⟩=>⟨I1.kIn,?_⟩) he hpl;exact zKU M F hr hb hd hx I1 r q
end
section
variable {X:Cx}{CX:CXT}{k:Nat}{f C:Addr}{fd:FuncData}{ps ks:List Str}{sp:Sp}{E:XK}{x m:Str}{p pos apos kpos:Pos}{e o:Expr}{es:List Expr}{kws:List Keyword}{te ta:TE}{t tk:TA}{nm:Option Str}
variable {g:List Value->List Value->List Value}{gV:List V->List V->List V}
end
structure FnScope(N P:List Str)(sc:Scope):Prop where
 kind:sc.kind= .function
 co:sc.isCoroutine=false
 gen:sc.isGenerator=false
 nd:N.Nodup
 pre:N.take P.length=P
 par: ∀x∈P,sc.names.lookup x=some .local\/sc.names.lookup x=some .cell
 nofree: ∀y∈sc.names,y.2≠ .free
theorem zEp{kindOf:Str->Option NameKind}{x:Str}: ∀{binds:List (Str×Value)} {m:Str->Option Value},(∀v,(x,v)∉binds)->bindL kindOf binds m x=m x
 | [],_,_=>rfl
 |(n,v)::r,m,h=>by
  unfold bindL;rw [zEp fun w hw=>h w (zSI _ hw)];split
  ·have:x≠n:=by rintro rfl;exact h v List.mem_cons_self
   simp [this]
  ·rfl
theorem zEz{kindOf:Str->Option NameKind}{x:Str}: ∀{binds:List (Str×Value)} {m:Str->Option Value},(∀v,(x,v)∉binds)->bindC kindOf binds m x=m x
 | [],_,_=>rfl
 |(n,v)::r,m,h=>by
  unfold bindC;rw [zEz fun w hw=>h w (zSI _ hw)];split
  ·rfl
  ·have:x≠n:=by rintro rfl;exact h v List.mem_cons_self
   simp [this]
theorem zEr{kindOf:Str->Option NameKind}{x:Str}{v:Value}: ∀{P:List Str} {vs:List Value} {i:Nat} {m:Str->Option Value},P.Nodup->P[i]?=some x->vs[i]?=some v->kindOf x=some .local->
  bindL kindOf (P.zip vs) m x=some v
 | [],_,_,_,_,h,_,_=>by simp at h
 | _::_,[],_,_,_,_,h,_=>by simp at h
 | p::P,w::vs,0,m,nd,h1,h2,hk=>by
  simp at h1 h2;subst h1;subst h2;show bindL kindOf ((p,w)::P.zip vs) m p=_;unfold bindL;rw [zEp fun v hv=>(List.nodup_cons.mp nd).1 (List.of_mem_zip hv).1,if_pos hk];simp
 | p::P,w::vs,i+1,m,nd,h1,h2,hk=>by
  show bindL kindOf ((p,w)::P.zip vs) m x=_;unfold bindL;exact zEr (i:=i) (List.nodup_cons.mp nd).2 (by simpa using h1) (by simpa using h2) hk
theorem zEk{kindOf:Str->Option NameKind}{x:Str}{v:Value}: ∀{P:List Str} {vs:List Value} {i:Nat} {m:Str->Option Value},P.Nodup->P[i]?=some x->vs[i]?=some v->kindOf x≠some .local->
  bindC kindOf (P.zip vs) m x=some v
 | [],_,_,_,_,h,_,_=>by simp at h
 | _::_,[],_,_,_,_,h,_=>by simp at h
 | p::P,w::vs,0,m,nd,h1,h2,hk=>by
  simp at h1 h2;subst h1;subst h2;show bindC kindOf ((p,w)::P.zip vs) m p=_;unfold bindC;rw [zEz fun v hv=>(List.nodup_cons.mp nd).1 (List.of_mem_zip hv).1,if_neg hk];simp
 | p::P,w::vs,i+1,m,nd,h1,h2,hk=>by
  show bindC kindOf ((p,w)::P.zip vs) m x=_;unfold bindC;exact zEk (i:=i) (List.nodup_cons.mp nd).2 (by simpa using h1) (by simpa using h2) hk
def zAT(N:List Str)(vs:List V):St:=vs.map some++List.replicate (N.length - vs.length) none
def zBy(CX:CXT)(P:Program)(w:World)(K:zSS)(mg:Str->Option Value)(base:Heap)(N:List Str)(qual:Str)(scope:Scope)(f:Addr)(cd:Value)(A:Around)(outer:List Env)(s:Shared)(H:Hp)(E:XK):Cx where
 prog:=P
 w:=w
 K:=K
 mg:=mg
 base:=base
 A:=A.deeper (envOfC qual scope s.heap.objs.size f cd)
 N:=N
 s₀:=s
 H₀:=H
 env:=envOfC qual scope s.heap.objs.size f cd
 outer:=outer
 stack:=envOfC qual scope s.heap.objs.size f cd::outer
 ex:= []
 calm:=true
 fn:=fun _=>true
 pn:= []
 xe:=fun e s'=>wpAny (model P w) (A.deeper (envOfC qual scope s.heap.objs.size f cd)) (leaving (envOfC qual scope s.heap.objs.size f cd) e) (fun _ s''=>CX outer H s E e s'') (fun e' s''=>CX outer H s E e' s'') s'
theorem zFo{sc:Scope}{n:Nat}{x:Str}(h:sc.names.lookup x=some .cell): ∃c,(cellsFrom n sc.names []).lookup x=some c:=by
 have q:=PySem.W.cellsFrom_some sc.names n [] (.inl h);exact Option.isSome_iff_exists.mp q
theorem zJI{CX:CXT}{P:Program}{w:World}{K:zSS}{mg:Str->Option Value}{base:Heap}{N ps:List Str}{qual:Str}{scope:Scope}{f:Addr}{cd:Value}{A:Around}{outer:List Env}{s s1:Shared}{H:Hp}{E:XK}{us:List Value}{vs:List V}
  (S:FnScope N ps scope) (hd:A.handled=none) (e0:Env0 P w K mg base A outer s H) (hl:vs.length=ps.length) (r:zT vs us)
  (x:InCallC s s.heap.objs.size (bindL (envOfC qual scope s.heap.objs.size f cd).kindOf (ps.zip us) fun _=>none) (cellsFrom (s.heap.objs.size+1) scope.names []) (bindC (envOfC qual scope s.heap.objs.size f cd).kindOf (ps.zip us) fun _=>none) s1):
  Inv (zBy CX P w K mg base N qual scope f cd A outer s H E) [] (zAT N vs) H s1:=by
 have hpl:ps.length<=N.length:=by have:=congrArg List.length S.pre;rw [List.length_take] at this;omega
 obtain ⟨h1,tk,rfl,hk⟩:=x.done;have noA: ∀b:Addr,b∉(zBy CX P w K mg base N qual scope f cd A outer s H E).ex:=fun b z=>absurd (show b∈([] :List Addr) from z) (by simp);refine ⟨⟨e0.mod,S.kind,rfl,rfl,zRg _,fun y z c h1 h2=>?_,fun y hy=>?_,fun y c _ h=>?_,fun _=>hd,Around.frames_deeper e0.frames,.inr ⟨rfl,rfl⟩,fun b z=>absurd z (noA b),e0.bs,e0.bsz,fun b _ _=>noA b,fun b z=>absurd z (noA b),e0.funs,e0.frf⟩,
  rfl,e0.bare,Un.kept hk,⟨_,x.toInCall.ns,fun i y v h1 h2 h3=>?_⟩,fun y c h=>⟨_,x.cell y c h⟩,e0.hok.fresh (zRg _),fun y c h=>?_,fun p hp=>absurd (show p∈([] :List (Addr×Obj)) from hp) (by simp),e0.hok.kept hk,?_⟩
 ·exact name_of_addr x.apart (PySem.mem_of_lookup h1) (PySem.mem_of_lookup h2)
 ·have hy:scope.names.lookup y=some .cell\/scope.names.lookup y=some .free:=hy;rcases hy with hy | hy
  ·exact zFo hy
  ·exact absurd rfl (S.nofree _ (PySem.mem_of_lookup hy))
 ·exact Nat.le_of_lt (x.above y c (PySem.mem_of_lookup h))
 ·have hi:i<vs.length:=by
   unfold zAT at h2;by_cases hi:i<vs.length
   ·exact hi
   ·rw [List.getElem?_append_right (by simpa using hi)] at h2;rw [List.getElem?_replicate] at h2;split at h2<;>cases h2
  have ha:vs[i]?=some v:=by
   unfold zAT at h2;rw [List.getElem?_append_left (by simpa using hi),zRh] at h2;cases e:vs[i]? with
   | none=>rw [e] at h2;cases h2
   | some a=>rw [e] at h2;cases h2;rfl
  obtain ⟨u,hu,rv⟩:=r.get ha;have hp:ps[i]?=some y:=by
   rw [<-S.pre,List.getElem?_take_of_lt (by omega)];exact h1
  have ndP:ps.Nodup:=by rw [<-S.pre];exact S.nd.sublist (List.take_sublist _ _)
  refine ⟨u,rv,?_⟩;rcases S.par y (zSE hp) with k | k
  ·exact .inl ⟨k,zEr ndP hp hu k⟩
  ·obtain ⟨c,e⟩:=zFo (n:=s.heap.objs.size+1) k;refine .inr ⟨.inl k,c,e,?_⟩;have q:=x.cell y c e;rw [zEk ndP hp hu (by show scope.names.lookup y≠_;rw [k];decide)] at q;exact q
 ·exact e0.hok.fresh (Nat.le_of_lt (x.above y c (PySem.mem_of_lookup h)))
 ·unfold zAT;show _=N.length;rw [zSC,zRj,List.length_replicate];omega
theorem zKm{CX:CXT}{P:Program}{w:World}{K:zSS}{mg:Str->Option Value}{base:Heap}{k:Nat}{f:Addr}{name qual:Str}{params:Arguments}{body:List Stmt}{scope:Scope}{dV kV doc pm cdv ct oc:Value}{an od:Option Addr}
  {osl:Array (Option Value)} {N ps:List Str} {sp:Sp} (lk:K.lookup f=some ⟨oc,od,.func (PySem.W.fnOf name qual params body scope dV kV doc pm an cdv ct),osl⟩) (hcd:PySem.W.codeIn K cdv qual=true) (S:FnScope N ps scope)
  (len: ∀vs H Q E,sp vs H Q E->vs.length=ps.length)
  (hbody: ∀(A:Around) (outer:List Env) (s:Shared) (H:Hp) (vs:List V) (Q:VK) (E:XK),Room k (A.deeper (envOfC qual scope s.heap.objs.size f cdv))->sp vs H Q E->
   ∃t,PSs (zBy CX P w K mg base N qual scope f cdv A outer s H E) body t/\t {nx:=fun _ H'=>Q .non H',rt:=Q} (zAT N vs) H):
  FnOk P w K mg base CX (k+1) f (PySem.W.fnOf name qual params body scope dV kV doc pm an cdv ct) ps sp:=by
 refine ⟨len,fun A outer s H args us vs Q E hr e0 hb r hsp=>?_⟩;have hl:=len _ _ _ _ hsp;have KX:K.In s.heap:=e0.mod.kin.keeps fun b o e=>(e0.bs b o e).1;have lim:s.heap.NoLimit:=e0.mod.nolimit.keeps fun b o e=>(e0.bs b o e).1;have hkind: ∀y∈ps.zip us,scope.names.lookup y.1=some .local\/(scope.names.lookup y.1=some .cell/\((cellsFrom (s.heap.objs.size+1) scope.names []).lookup y.1).isSome=true):=fun ⟨n,v⟩ hy=>by
  rcases S.par n (List.of_mem_zip hy).1 with q | q
  ·exact .inl q
  ·exact .inr ⟨q,PySem.W.cellsFrom_some _ _ _ (.inl q)⟩
 refine codeAny_call_function hr.depth (KX _ _ lk) rfl S.co S.gen rfl (PySem.W.codeRec_of KX hcd) (hb _ _ _ _ ?_);refine wpAny_newFunctionEnv_cells S.kind hkind fun env he s1 x=>?_;subst he;refine ⟨lim.keeps x.toInCall.keep,codeAny_func ?_⟩;obtain ⟨t,ht,hq⟩:=hbody A outer s H vs Q E (hr.deeper _) hsp;have I:Inv (zBy CX P w K mg base N qual scope f cdv A outer s H E) [] (zAT N vs) H s1:=zJI S hr.hd e0 hl r x;refine zRw (ht [] s1 (zAT N vs) H _ I hq) (fun fl s' hs=>?_) fun e s' hs=>hs;have fin: ∀{σ':St} {H':Hp} {v:V} {u:Value},Inv (zBy CX P w K mg base N qual scope f cdv A outer s H E) [] σ' H' s'->ze v u->Q v H'->CE outer P w H s Q u s':=
  fun {σ' H' v u} J rv q=>⟨v,H',J.os,J.bare,J.base,J.hok,rv,q⟩
 cases fl with
 | ret u=>
  obtain ⟨v,σ',H',J,rv,q⟩:=hs;exact fin J rv q
 | next=>
  obtain ⟨σ',H',J,q⟩:=hs;exact fin (v:=V.non) (u:=Value.none) J rfl q
 | brk=>
  obtain ⟨_,_,_,q⟩:=hs;exact False.elim q
 | cont=>
  obtain ⟨_,_,_,q⟩:=hs;exact False.elim q
section
variable {X:Cx}{x:Str}{p pos:Pos}{e:Expr}{es:List Expr}{t:TA}{id T:String}{r:List V->Hp->VK->Prop}
def tCB(r:List V->Hp->VK->Prop)(t:TA):TE:=fun σ H Q=>t σ H fun vs H1=>r vs H1 Q
theorem zAx(hc:yV X (.builtin id) r)(hg:Gl X x)(hm:X.mg x=none)(hv:bootBuiltins x=some (.builtin id))(ha:PA X (e::es) t)(hn:x≠ "__name__" :=by decide)(hdb:(x==("__debug__" :Str))=false:=by decide)
  (he:starEach (e::es) X.env=(false,eval e X.env)::starEach es X.env:=by rfl) (hpl:(backTo pos (starEach es X.env)).any (·.1)=false:=by rfl):PE X (.Call (.Name x p) (e::es) [] pos) (tCB r t):=by
 intro pins s σ H Q I h;refine zSP (zBG I hg hm hv ?_ hn hdb);exact PyProof.Rows.callWith_builtin1 (zb (ha pos pins s σ H _ I h) fun us s1 ⟨vs,H1,I1,r1,q1⟩=>hc pins s1 σ H1 vs us Q I1 r1 q1) he hpl
theorem zIY(hc:yV X (.type T) r)(hg:Gl X x)(hm:X.mg x=none)(hv:bootBuiltins x=some (.type T))(ha:PA X (e::es) t)(hn:x≠ "__name__" :=by decide)(hdb:(x==("__debug__" :Str))=false:=by decide)
  (he:starEach (e::es) X.env=(false,eval e X.env)::starEach es X.env:=by rfl) (hpl:(backTo pos (starEach es X.env)).any (·.1)=false:=by rfl):PE X (.Call (.Name x p) (e::es) [] pos) (tCB r t):=by
 intro pins s σ H Q I h;refine zSP (zBG I hg hm hv ?_ hn hdb);exact PyProof.Rows.callWith_type1 (zb (ha pos pins s σ H _ I h) fun us s1 ⟨vs,H1,I1,r1,q1⟩=>hc pins s1 σ H1 vs us Q I1 r1 q1) he hpl
end
end L2
namespace HT
open PySem PyProof.Rows
section
open PySem.SeqAt
open PySem.AutoSeq1 (wpAny_loadPart')
open PySem.MeetsSeq PySem.MeetsSeq2 PySem.MeetsSeq3
end
section
variable {prog:Program}{w:World}{A:Around}{E:Value->Shared->Prop}{s:Shared}
theorem cat_tup{t b:Addr}{vs ws:List Value}{Q:Value->Shared->Prop}(ht:IsTup s.heap t vs.toArray)(hb:IsTup s.heap b ws.toArray)(hv:vs≠ [])
  (h1:ws= [] ->Q (.ref t) s) (h2:ws≠ [] ->Q (.ref s.heap.objs.size) {s with heap:=s.heap.push {cls:= .type "tuple",data:= .seq (vs++ws).toArray}})
  (hsz:vs.length+ws.length<=sizeLine):wpAny (model prog w) A (binaryOp .Add (.ref t) (.ref b)) Q E s:=by
 obtain ⟨⟨cls,dd,data,sl⟩,ho,hc,n,hd⟩:=id ht;obtain ⟨⟨cls2,dd2,data2,sl2⟩,ho2,hc2,n2,hd2⟩:=id hb;simp only at hc hd hc2 hd2;subst hc hd hc2 hd2;have e:vs.toArray++ws.toArray=(vs++ws).toArray:=by simp
 by_cases hw:ws= []
 ·exact concat_meets ⟨_,ho,rfl⟩ ⟨_,ho2,rfl⟩ noFill_tuple_add seq_tuple_add PySem.F.slot_tuple_add PySem.F.entry_tuple_add (PySem.F.args_tuple_add_2 _ _)
   (tuple_addW1 t b vs.toArray ws.toArray n n2 dd dd2 sl sl2 (by simpa using hv) (by simp [hw])) ⟨ho,ho2,h1 hw⟩
 ·refine concat_meets ⟨_,ho,rfl⟩ ⟨_,ho2,rfl⟩ noFill_tuple_add seq_tuple_add PySem.F.slot_tuple_add PySem.F.entry_tuple_add (PySem.F.args_tuple_add_2 _ _)
   (tuple_addW2 t b vs.toArray ws.toArray n n2 dd dd2 sl sl2 (by simpa using hv) (by simpa using hw) (by rw [zRv,zRv];exact hsz)) ⟨ho,ho2,?_⟩
  rw [e];exact h2 hw
def sIx(n d:Nat):Option Int->Nat
 | none=>d
 | some v=>if v<0 then (v+(n:Int)).toNat else min v.toNat n
theorem sIx_none(n d:Nat):sIx n d none=d:=rfl
theorem sIx_nat(n d k:Nat):sIx n d (some (k:Int))=min k n:=by
 show (if (k:Int)<0 then ((k:Int)+(n:Int)).toNat else min (k:Int).toNat n)=min k n;rw [if_neg (by omega),Int.toNat_natCast]
theorem zOJ(n d:Nat)(hd:d<=n)(o:Option Int):sIx n d o<=n:=by
 cases o with
 | none=>exact hd
 | some v=>
  show (if v<0 then (v+(n:Int)).toNat else min v.toNat n)<=n;by_cases hv:v<0
  ·rw [if_pos hv];omega
  ·rw [if_neg hv];exact Nat.min_le_right _ _
theorem zHC(v:Int)(n d:Nat):(if v<0 then max (v+(n:Int)) 0 else min v (n:Int))=((sIx n d (some v):Nat):Int):=by
 show (if v<0 then max (v+(n:Int)) 0 else min v (n:Int))=(((if v<0 then (v+(n:Int)).toNat else min v.toNat n):Nat):Int);by_cases hv:v<0
 ·simp only [if_pos hv];omega
 ·simp only [if_neg hv];omega
theorem zII(lo hi:Option Int)(n:Nat):Builtin.Slice.sliceAdjust lo hi 1 (n:Int)=(((sIx n 0 lo:Nat):Int),((sIx n n hi:Nat):Int)):=by
 have h1: ¬((1:Int)<0):=by omega
 unfold Builtin.Slice.sliceAdjust;simp only [h1,if_false];refine Prod.ext ?_ ?_
 ·cases lo with
  | none=>rfl
  | some v=>exact zHC v n 0
 ·cases hi with
  | none=>rfl
  | some v=>exact zHC v n n
theorem zIO(i j:Nat):Builtin.Slice.slicePlaces (i:Int) (j:Int) 1=j - i:=by
 unfold Builtin.Slice.slicePlaces;have h1:(1:Int)>0:=by omega
 simp only [h1,if_true,Int.ediv_one];split<;>omega
theorem zED{v:Value}{o:Option Int}{Q:Option Int->Shared->Prop}(p:IsPart v o)(h:Q o s):wpAny (model prog w) A (Builtin.Slice.slicePartIndex v) Q E s:=by
 cases p with
 | none=>exact slicePart_none h
 | int i t=>exact slicePart_int h
theorem zDa{sl:Addr}{vl vu:Value}{lo hi:Option Int}{n:Nat}{Q:Int×Int×Nat->Shared->Prop}(hs:s.heap.IsSliceOf sl vl vu .none)(pl:IsPart vl lo)(pu:IsPart vu hi)
  (h:Q (((sIx n 0 lo:Nat):Int),1,sIx n n hi - sIx n 0 lo) s):wpAny (model prog w) A (Builtin.Slice.sliceApplied (.ref sl) (pure (n:Int))) Q E s:=by
 obtain ⟨os,hos,hcs,hds⟩:=id hs;unfold Builtin.Slice.sliceApplied Builtin.Slice.sliceFields;refine zRd (zRd (wpAny_field hos hds (x:=vl) rfl (zRd (wpAny_field hos hds (x:=vu) rfl (zRd (wpAny_field hos hds (x:= .none) rfl (zRi ?_)))))));refine zRd (slicePart_none ?_);show wpAny _ _ (if ((1:Int)==0)=true then _ else _) _ _ s;rw [if_neg (by decide)];refine zRd (zED pl (zRd (zED pu (zRd (zRi ?_)))));show wpAny _ _ (match Builtin.Slice.sliceAdjust lo hi 1 (n:Int) with |(lo,hi)=>pure (lo,(1:Int),Builtin.Slice.slicePlaces lo hi 1)) _ _ s;rw [zII lo hi n];show wpAny _ _ (pure (((sIx n 0 lo:Nat):Int),(1:Int),Builtin.Slice.slicePlaces ((sIx n 0 lo:Nat):Int) ((sIx n n hi:Nat):Int) 1)) _ _ s;rw [zIO];exact zRi h
theorem zKS(xs:Array Value)(i k:Nat):((List.range k).filterMap fun (m:Nat)=>xs[((i:Int)+(m:Int)*1).toNat]?).toArray=((xs.toList.drop i).take k).toArray:=by
 have e:(fun (m:Nat)=>xs[((i:Int)+(m:Int)*1).toNat]?)=fun m=>xs[i+m]?:=by
  funext m
  have:((i:Int)+(m:Int)*1).toNat=i+m:=by omega
  rw [this]
 rw [e];have:=pick_run xs i k;rw [List.filterMap_map] at this;have e2:((fun x=>xs[x]?)∘fun x=>i+x)=fun m=>xs[i+m]?:=rfl;rw [e2] at this;rw [this]
theorem getItem_tuple_cut{t sl:Addr}{items:Array Value}{vl vu:Value}{lo hi:Option Int}{Q:Value->Shared->Prop}(ht:IsTup s.heap t items)(hs:s.heap.IsSliceOf sl vl vu .none)(pl:IsPart vl lo)(pu:IsPart vu hi)
  (hw: ¬(sIx items.size 0 lo=0/\sIx items.size items.size hi=items.size))
  (h:Q (.ref s.heap.objs.size) {s with heap:=s.heap.push {cls:= .type "tuple",data:= .seq ((items.toList.drop (sIx items.size 0 lo)).take (sIx items.size items.size hi - sIx items.size 0 lo)).toArray}})
  (hsz:items.size<=sizeLine):wpAny (model prog w) A (getItem (.ref t) (.ref sl)) Q E s:=by
 have htake:sizeOk (.seq ((items.toList.drop (sIx items.size 0 lo)).take (sIx items.size items.size hi - sIx items.size 0 lo)).toArray):=by
  show ((items.toList.drop (sIx items.size 0 lo)).take (sIx items.size items.size hi - sIx items.size 0 lo)).toArray.size<=sizeLine;rw [zRv,List.length_take,List.length_drop,Array.length_toList];omega
 have hj:sIx items.size items.size hi<=items.size:=zOJ _ _ (zRg _) hi;obtain ⟨os,hos,hcs,hds⟩:=id hs;have hTs:s.TypeIs (.ref sl) "slice" :=⟨os,hos,hcs⟩;unfold getItem
 try with_reducible refine zSN ?_
 first | refine zRd (zRi ?_)| skip
 refine zRd (wpAny_sequenceKey ht.typeIs (by decide) ?_);refine zRd (wpAny_callSpecial?_slot (name:=Str.ofString "__getitem__") ht.typeIs PyProof.Rows.slot_tuple_getitem
  (wpAny_call_entry PyProof.Rows.slot_tuple_getitem ht.typeIs entry_tuple_getitem ?_ (args_tuple_getitem _ _)))
 show wpAny _ _ (Builtin.Tuple.tupleItemsOf (.ref t)>>=_) _ _ s;refine zRd (tupleItemsOf_ ht ?_);refine zRd (wpAny_typeOf hTs ?_);rw [if_pos (by decide)];refine zRd (zDa hs pl pu ?_);have hno: ¬((((sIx items.size 0 lo:Nat):Int)==0&&(1:Int)==1&&(sIx items.size items.size hi - sIx items.size 0 lo)==items.size)=true):=by
  intro q;rw [zSU,zSU] at q;have q1:((sIx items.size 0 lo:Nat):Int)=0:=eq_of_beq q.1.1;have q2:sIx items.size items.size hi - sIx items.size 0 lo=items.size:=eq_of_beq q.2;exact hw ⟨by omega,by omega⟩
 show wpAny _ _ (if (((sIx items.size 0 lo:Nat):Int)==0&&(1:Int)==1&&(sIx items.size items.size hi - sIx items.size 0 lo)==items.size)=true then _ else _) _ _ s;rw [if_neg hno,zKS]
 first
  | exact zRd (m:=Builtin.Tuple.tupleExact _) (wpAny_newObj_type (zRi ⟨_,rfl,zRi h⟩) htake)
  | exact zRd (m:=Builtin.Tuple.tupleExact _) (wpAny_newObj_type (zRd (zRi (zRi ⟨_,rfl,zRi h⟩))) htake)
  | exact zRd (zRd (m:=Builtin.Tuple.tupleExact _) (wpAny_newObj_type (zRi (zRi ⟨_,rfl,zRi h⟩)) htake))
  | exact zRd (zRd (m:=Builtin.Tuple.tupleExact _) (wpAny_newObj_type (zRi ⟨_,rfl,zRi h⟩) htake))
end
end HT
namespace L2
open PySem PySem.Spec PyProof.Rows
abbrev TO:=St->Hp->(Option Int->Hp->Prop)->Prop
def PO(X:Cx)(e:Option Expr)(t:TO):Prop:=
 ∀(pins:List (Addr×Obj)) (s:Shared) (σ:St) (H:Hp) (Q:Option Int->Hp->Prop),Inv X pins σ H s->t σ H Q->
  wpAny (model X.prog X.w) X.A (evalPart e X.env) (fun u s'=> ∃o H',Inv X pins σ H' s'/\IsPart u o/\Q o H') X.xe s
def zGx:TO:=fun _ H Q=>Q none H
inductive XPart (x:V) (H1:Hp) (Q:Option Int->Hp->Prop):Prop
 | mk (i:Int) (h:x= .int i) (q:Q (some i) H1)
def zLJ(t:TE):TO:=fun σ H Q=>t σ H fun x H1=>XPart x H1 Q
theorem zIG{ns:List Int}: ∀{us:List Value},zT (ns.map V.int) us->IntsAre us ns:=by
 induction ns with
 | nil=>intro us r;rw [List.map_nil] at r;cases r;exact .nil
 | cons n ns ih=>
  intro us r;rw [zSX] at r;cases r with
  | cons r1 r2=>
   obtain ⟨t,e⟩:=r1;subst e;exact .cons n t (ih r2)
section
variable {X:Cx}{e:Expr}{te:TE}{lo hi:Option Expr}{tl th:TO}{pos p2:Pos}
theorem zLW:PO X none zGx:=by
 intro pins s σ H Q I h;rw [evalPart_none];exact zRi ⟨none,H,I,.none,h⟩
theorem zLc(h:PE X e te):PO X (some e) (zLJ te):=by
 intro pins s σ H Q I hw;rw [evalPart_some];refine zb (h pins s σ H _ I hw) fun u s1 ⟨x,H1,I1,r1,q1⟩=>?_;obtain ⟨i,rfl,q⟩:=q1;obtain ⟨t,rfl⟩:=r1;exact ⟨some i,H1,I1,.int i t,q⟩
def SlR(X:Cx)(r:V->Option Int->Option Int->Hp->VK->Prop):Prop:=
 ∀(pins:List (Addr×Obj)) (s:Shared) (σ:St) (H:Hp) (x:V) (v vl vu:Value) (lo hi:Option Int) (sl:Addr) (Q:VK),Inv X pins σ H s->ze x v->s.heap.IsSliceOf sl vl vu .none->IsPart vl lo->IsPart vu hi->r x lo hi H Q->
  ∃T id,typeLookup (.type T) "__getitem__" =pure (some (.builtin id))/\s.TypeIs v T/\wpAny (model X.prog X.w) X.A (getItem v (.ref sl)) (EP X pins σ Q) X.xe s
def tSl(r:V->Option Int->Option Int->Hp->VK->Prop)(te:TE)(tl th:TO):TE:=fun σ H Q=>te σ H fun x H1=>tl σ H1 fun l H2=>th σ H2 fun u H3=>r x l u H3 Q
theorem zGA{r:V->Option Int->Option Int->Hp->VK->Prop}(hr:SlR X r)(he:PE X e te)(hl:PO X lo tl)(hu:PO X hi th):PE X (.Subscript e (.Slice lo hi none p2) pos) (tSl r te tl th):=by
 intro pins s σ H Q I h;refine Subscript_ (zb (he pins s σ H _ I h) fun v s1 ⟨x,H1,I1,r1,q1⟩=>?_);refine wpAny_Slice (zb (hl pins s1 σ H1 _ I1 q1) fun vl s2 ⟨l,H2,I2,pl,q2⟩=>zb (hu pins s2 σ H2 _ I2 q2) fun vu s3 ⟨u,H3,I3,pu,q3⟩=>?_);rw [evalPart_none];refine zRi ?_;have I4:Inv X pins σ H3 {s3 with heap:=s3.heap.push {cls:= .type "slice",data:= .fields #[vl,vu,.none]}}:=I3.kept (t':=s3.toks) fun b ob q=>zRe _ q;obtain ⟨T,id,hT,ht,hg⟩:=hr pins {s3 with heap:=s3.heap.push {cls:= .type "slice",data:= .fields #[vl,vu,.none]}} σ H3 x v vl vu l u s3.heap.objs.size Q I4 r1 (Heap.IsSliceOf.new ..) pl pu q3;show wpAny (model X.prog X.w) X.A (subscriptTail e (.Slice lo hi none p2) v (.ref s3.heap.objs.size)) (EP X pins σ Q) X.xe {s3 with heap:=s3.heap.push {cls:= .type "slice",data:= .fields #[vl,vu,.none]}};exact tail_any (ops:= [.ref s3.heap.objs.size,v]) ht hT hg (by with_unfolding_all rfl)
def zAV(xs:List V)(lo hi:Option Int):List V:=(xs.drop (HT.sIx xs.length 0 lo)).take (HT.sIx xs.length xs.length hi - HT.sIx xs.length 0 lo)
theorem zDW(xs:List V)(lo hi:Option Int):(zAV xs lo hi).length<=xs.length:=by
 unfold zAV;rw [List.length_take,List.length_drop];omega
inductive XSlT (K:zSS) (x:V) (lo hi:Option Int) (H:Hp) (Q:VK):Prop
 | mk (a:Addr) (xs:List V) (h1:x= .ref a) (h2:SqT K H a xs) (h3: ¬(HT.sIx xs.length 0 lo=0/\HT.sIx xs.length xs.length hi=xs.length)) (q: ∀p,H p=none->Q (.ref p) (upd H p (.tup (zAV xs lo hi))))
def zOh(K:zSS):V->Option Int->Option Int->Hp->VK->Prop:=fun x lo hi H Q=>XSlT K x lo hi H Q
theorem zNP:SlR X (zOh X.K):=by
 intro pins s σ H x v vl vu lo hi sl Q I rx hs pl pu h;obtain ⟨a,xs,rfl,hx,hw,q⟩:=h;cases rx;obtain ⟨its,r,ht,hz⟩:=I.tuple hx;have hlen:its.toArray.size=xs.length:=by rw [zRv];exact r.length.symm
 refine ⟨"tuple",_,PyProof.Rows.slot_tuple_getitem.lookup,ht.typeIs,?_⟩;refine HT.getItem_tuple_cut ht hs pl pu (by rw [hlen];exact hw) ?_ (by rw [hlen];exact hz);rw [hlen];refine ⟨.ref s.heap.objs.size,_,I.laid (t':=s.toks) (o:= .tup (zAV xs lo hi)) (fun b ob q=>zRe _ q) (zRg _) ?_,rfl,q _ (I.hok.fresh (zRg _))⟩;exact ⟨zRq (zDW xs lo hi) hz,_,(r.drop (HT.sIx xs.length 0 lo)).take (HT.sIx xs.length xs.length hi - HT.sIx xs.length 0 lo),zCG.new _ _⟩
def zPq(K:zSS):R2:=fun x y H Q=> ∃a b xs ys,x= .ref a/\y= .ref b/\SqT K H a xs/\SqT K H b ys/\xs≠ [] /\xs.length+ys.length<=sizeLine/\
 (ys= [] ->Q (.ref a) H)/\(ys≠ [] -> ∀p,H p=none->Q (.ref p) (upd H p (.tup (xs++ys))))
theorem zT.nil_iff{xs:List V}{us:List Value}(r:zT xs us):us= [] ↔xs= [] :=by
 cases r with
 | nil=>simp
 | cons _ _=>simp
theorem zLR:OpR X (binaryOp .Add) (zPq X.K):=by
 intro pins s σ H x y v u Q I rx ry h;obtain ⟨a,b,xs,ys,rfl,rfl,ha,hb,hx,hz,q1,q2⟩:=h;cases rx;cases ry;obtain ⟨its,r1,p1,_⟩:=I.tuple ha;obtain ⟨its2,r2,p2,_⟩:=I.tuple hb;refine HT.cat_tup p1 p2 (fun z=>hx (r1.nil_iff.mp z)) (fun z=>⟨.ref a,H,I,rfl,q1 (r2.nil_iff.mp z)⟩) (fun z=>?_) (by rw [<-r1.length,<-r2.length];exact hz);refine ⟨.ref s.heap.objs.size,_,I.laid (t':=s.toks) (o:= .tup (xs++ys)) (fun b ob q=>zRe _ q) (zRg _) ?_,rfl,q2 (fun w=>z (r2.nil_iff.mpr w)) _ (I.hok.fresh (zRg _))⟩;exact ⟨by rw [zSC];exact hz,_,r1.append r2,zCG.new _ _⟩
end
def ixN(n:Nat)(i:Int):Option Nat:=if 0<=i then (if i<n then some i.toNat else none) else if -(n:Int)<=i then some (i+n).toNat else none
def atI{α:Type}(xs:List α)(i:Int):Option α:=(ixN xs.length i).bind fun j=>xs[j]?
theorem zGt{n:Nat}{i:Int}{j:Nat}(h:ixN n i=some j):seqIndex? i n=some j/\j<n/\ -(n:Int)<=i/\i<n:=by
 unfold ixN at h;by_cases h0:0<=i
 ·rw [if_pos h0] at h;by_cases h1:i<n
  ·rw [if_pos h1] at h;have e:i.toNat=j:=Option.some.inj h;exact ⟨by rw [seqIndex_of h0 h1,e],by omega,by omega,h1⟩
  ·rw [if_neg h1] at h;cases h
 ·rw [if_neg h0] at h;by_cases h1: -(n:Int)<=i
  ·rw [if_pos h1] at h;have e:(i+n).toNat=j:=Option.some.inj h;exact ⟨by rw [seqIndex_neg (by omega) h1,e],by omega,h1,by omega⟩
  ·rw [if_neg h1] at h;cases h
theorem zEV{α:Type}{xs:List α}{i:Int}{v:α}(h:atI xs i=some v): ∃j,seqIndex? i xs.length=some j/\xs[j]?=some v/\j<xs.length/\ -(xs.length:Int)<=i/\i<xs.length:=by
 unfold atI at h;cases e:ixN xs.length i with
 | none=>rw [e] at h;cases h
 | some j=>
  rw [e] at h;obtain ⟨h1,h2,h3,h4⟩:=zGt e;exact ⟨j,h1,h,h2,h3,h4⟩
theorem ym{α:Type}{xs:List α}{j:Nat}{v:α}(h:xs[j]?=some v):atI xs (j:Int)=some v:=by
 have hj:j<xs.length:=(zSd.mp h).1;have e:ixN xs.length (j:Int)=some j:=by
  unfold ixN;rw [if_pos (by omega),if_pos (by omega)];simp
 unfold atI;rw [e];exact h
def zDE(b:Expr):Prop:= ∀o i,subscripted b false o i=operate [o,i] (getItem o i)
def IxR(X:Cx)(r:R2):Prop:=
 ∀(value slice:Expr) (pins:List (Addr×Obj)) (s:Shared) (σ:St) (H:Hp) (x y:V) (v u:Value) (Q:VK),Inv X pins σ H s->ze x v->ze y u->r x y H Q->
  subscripted slice false v u=operate [v,u] (getItem v u)->wpAny (model X.prog X.w) X.A (subscriptTail value slice v u) (EP X pins σ Q) X.xe s
def MtR(X:Cx)(id:String)(r:V->List V->Hp->VK->Prop):Prop:=
 ∀(pins:List (Addr×Obj)) (s:Shared) (σ:St) (H:Hp) (x:V) (xs:List V) (v:Value) (us:List Value) (Q:VK),Inv X pins σ H s->ze x v->zT xs us->r x xs H Q->
  wpAny (model X.prog X.w) X.A (call (.builtin id) (v::us)) (EP X pins σ Q) X.xe s
section
variable {X:Cx}{a b:Expr}{ta tb:TE}{pos:Pos}
theorem zBN{r:R2}(hr:IxR X r)(ha:PE X a ta)(hb:PE X b tb)(hs:zDE b):PE X (.Subscript a b pos) (tOp r ta tb):=by
 intro pins s σ H Q I h;exact Subscript_ (zKL ha hb I h fun v u s2 x y H2 I2 rx ry q=>hr a b pins s2 σ H2 x y v u Q I2 rx ry q (hs _ _))
inductive XIxL (K:zSS) (x y:V) (H:Hp) (Q:VK):Prop
 | mk (p:Addr) (xs:List V) (i:Int) (v:V) (h1:x= .ref p) (h2:y= .int i) (h3:SqL K H p xs) (h4:atI xs i=some v) (q:Q v H)
def zOB(K:zSS):R2:=fun x y H Q=>XIxL K x y H Q
inductive XIxT (K:zSS) (x y:V) (H:Hp) (Q:VK):Prop
 | mk (p:Addr) (xs:List V) (i:Int) (v:V) (h1:x= .ref p) (h2:y= .int i) (h3:SqT K H p xs) (h4:atI xs i=some v) (q:Q v H)
def zNy(K:zSS):R2:=fun x y H Q=>XIxT K x y H Q
def zMn:R2:=fun x y H Q=> ∃z i c,x= .str z/\y= .int i/\z.length<=sizeLine/\atI z.cps.toList i=some c/\Q (.str ⟨#[c]⟩) H
theorem zHS:IxR X (zOB X.K):=by
 intro value slice pins s σ H x y v u Q I rx ry h hs;obtain ⟨p,xs,i,z,rfl,rfl,hq,he,q⟩:=h;cases rx;obtain ⟨t,rfl⟩:=ry;obtain ⟨its,r,pl,hz⟩:=I.list hq;obtain ⟨j,h1,h2,h3,h4,h5⟩:=zEV he;obtain ⟨w,ew,rw'⟩:=r.get h2;have hl:=r.length;have hn:=zCH;have fin:EP X pins σ Q w s:=⟨z,H,I,rw',q⟩;by_cases h0:0<=i
 ·have hj:i.toNat=j:=by
   rw [seqIndex_of h0 h5] at h1;exact Option.some.inj h1
  exact item_listR pl.isList h0 (by omega) (by rw [hj];simpa using ew) fin hs
 ·have hj:(i+(its.toArray.size:Int)).toNat=j:=by
   rw [seqIndex_neg (by omega) h4] at h1;rw [zRv,<-hl];exact Option.some.inj h1
  exact subscriptTail_builtinR (x:=w) pl.isList.typeIs slot_list_getitem.lookup
   (wpAny_getItem_list_neg (Q:=fun r s'=>r=w/\EP X pins σ Q r s') pl.isList (by omega) (by rw [zRv] <;>omega) (by omega) (by rw [hj];simpa using ew) ⟨rfl,fin⟩) hs
theorem zCD:IxR X (zNy X.K):=by
 intro value slice pins s σ H x y v u Q I rx ry h hs;obtain ⟨p,xs,i,z,rfl,rfl,hq,he,q⟩:=h;cases rx;obtain ⟨t,rfl⟩:=ry;obtain ⟨its,r,pl,hz⟩:=I.tuple hq;obtain ⟨j,h1,h2,h3,h4,h5⟩:=zEV he;obtain ⟨w,ew,rw'⟩:=r.get h2;have hl:=r.length;have hn:=zCH;have fin:EP X pins σ Q w s:=⟨z,H,I,rw',q⟩;exact subscriptTail_builtinR (x:=w) pl.typeIs slot_tuple_getitem.lookup
  (getItem_tuple (j:=j) (Q:=fun r s'=>r=w/\EP X pins σ Q r s') pl (by omega) (by omega) (by rw [zRv,<-hl];exact h1) (by simpa using ew) ⟨rfl,fin⟩) hs
theorem zMq:IxR X zMn:=by
 intro value slice pins s σ H x y v u Q I rx ry h hs;obtain ⟨z,i,c,rfl,rfl,hz,he,q⟩:=h;obtain ⟨t,rfl⟩:=rx;obtain ⟨t',rfl⟩:=ry;obtain ⟨j,h1,h2,h3,h4,h5⟩:=zEV he;have hl:z.cps.toList.length=z.length:=by simp [Str.length]
 rw [hl] at h1 h4 h5;have hn:=zCH;exact tail_any (typeIs_str s z t) slot_str_getitem.lookup (getItem_str (c:=c) (by
  have e1:decide (i< -(2^63:Int))=false:=zSA (by omega);have e2:decide (i≥2^63)=false:=zSA (by omega);rw [e1,e2,Bool.or_false]) (by rw [h1];simpa using h2) ⟨.str ⟨#[c]⟩,H,I.tok _,⟨_,rfl⟩,q⟩) hs
theorem zHm(its:List Value)(n j:Nat)(u:Value):Obj.mapSeq (·.setIfInBounds j u) {cls:= .type "list",data:= .seq its.toArray n}={cls:= .type "list",data:= .seq (its.set j u).toArray n}:=by
 simp [Obj.mapSeq]
theorem Inv.lst{pins:List (Addr×Obj)}{σ:St}{H:Hp}{s:Shared}{p:Addr}{xs:List V}(I:Inv X pins σ H s)(h:H p=some (.lst xs)):
  ∃(its:List Value) (n:Nat),zT xs its/\s.heap.get? p=some {cls:= .type "list",data:= .seq its.toArray n}/\xs.length<=sizeLine:=by
 obtain ⟨z,its,n,r,e⟩:=I.hok p _ h;exact ⟨its,n,r,e,z⟩
theorem Inv.lstUpd{pins:List (Addr×Obj)}{σ:St}{H:Hp}{s:Shared}{p:Addr}{xs ys:List V}{its its':List Value}{n n':Nat}{f:Obj->Obj}(I:Inv X pins σ H s)(h:H p=some (.lst xs))
  (ho:s.heap.get? p=some {cls:= .type "list",data:= .seq its.toArray n}) (hf:f {cls:= .type "list",data:= .seq its.toArray n}={cls:= .type "list",data:= .seq its'.toArray n'}) (r:zT ys its') (hz:ys.length<=sizeLine) (t:Nat):
  Inv X pins σ (upd H p (.lst ys)) {s with heap:=s.heap.update p f,toks:=t}:=by
 have e:(s.heap.update p f).get? p=some {cls:= .type "list",data:= .seq its'.toArray n'}:=by
  rw [zSK f ho (by rw [hf] <;>rfl),hf]
 refine I.write (x:=p) (e:=p) (by rw [h];trivial) (.inl rfl) (fun b u hb q=>(zSJ _ _ (Ne.symm hb)).trans q) ⟨_,e⟩ ?_;exact ⟨hz,its',n',r,e⟩
def zLI:V->V->V->Hp->(Hp->Prop)->Prop:=fun o i v H Q=> ∃p xs k j,o= .ref p/\i= .int k/\H p=some (.lst xs)/\ixN xs.length k=some j/\Q (upd H p (.lst (xs.set j v)))
theorem zKA:zRG X zLI:=by
 intro pins s σ H o i v ov iv u Q I ro ri rv h;obtain ⟨p,xs,k,j,rfl,rfl,hp,hj,q⟩:=h;cases ro;obtain ⟨t,rfl⟩:=ri;obtain ⟨its,n,r,ho,hz⟩:=I.lst hp;obtain ⟨h1,h2,h3,h4⟩:=zGt hj;have hl:=r.length;have hn:=zCH;have I':Inv X pins σ (upd H p (.lst (xs.set j v))) {s with heap:=s.heap.update p (Obj.mapSeq (·.setIfInBounds j u))}:=
  I.lstUpd hp ho (zHm its n j u) (r.set rv j) (by rw [List.length_set];exact hz) s.toks
 by_cases h0:0<=k
 ·have hk:k.toNat=j:=by
   rw [seqIndex_of h0 h4] at h1;exact Option.some.inj h1
  exact PySem.W.ki_setAt ho h0 (by omega) (by rw [zRv,<-hl];exact h4) (by rw [hk];exact ⟨_,I',q⟩)
 ·have hk:(k+(its.toArray.size:Int)).toNat=j:=by
   rw [seqIndex_neg (by omega) h3] at h1;rw [zRv,<-hl];exact Option.some.inj h1
  exact PySem.W.ki_setBack ho (by omega) (by rw [zRv,<-hl];exact h3) (by omega) (by rw [hk];exact ⟨_,I',q⟩)
theorem zFq(lo hi:Option Int)(n:Nat):(sliceBounds lo hi none n).1=((HT.sIx n 0 lo:Nat):Int)/\(sliceBounds lo hi none n).2.1=((HT.sIx n n hi:Nat):Int)/\(sliceBounds lo hi none n).2.2=1:=by
 refine ⟨?_,?_,rfl⟩
 ·cases lo with
  | none=>simp [sliceBounds,HT.sIx]
  | some i=>
   simp only [sliceBounds,HT.sIx,Option.getD_none,show (1:Int)>0 by decide,if_true];by_cases h:i<0
   ·simp only [h,if_true] <;>omega
   ·simp only [h,if_false] <;>omega
 ·cases hi with
  | none=>simp [sliceBounds,HT.sIx]
  | some i=>
   simp only [sliceBounds,HT.sIx,Option.getD_none,show (1:Int)>0 by decide,if_true];by_cases h:i<0
   ·simp only [h,if_true] <;>omega
   ·simp only [h,if_false] <;>omega
theorem zFD(its:List Value)(lo hi:Option Int):slicePick its.toArray lo hi none=((its.drop (HT.sIx its.length 0 lo)).take (HT.sIx its.length its.length hi - HT.sIx its.length 0 lo)).toArray:=by
 obtain ⟨h1,h2,h3⟩:=zFq lo hi its.toArray.size;unfold slicePick;rw [h1,h2,h3];simp only [sliceRange_one,pick_run,zRv] <;>rfl
inductive XSlL (K:zSS) (x:V) (lo hi:Option Int) (H:Hp) (Q:VK):Prop
 | mk (a:Addr) (xs:List V) (h1:x= .ref a) (h2:SqL K H a xs) (q: ∀p,H p=none->Q (.ref p) (upd H p (.lst (zAV xs lo hi))))
def zOF(K:zSS):V->Option Int->Option Int->Hp->VK->Prop:=fun x lo hi H Q=>XSlL K x lo hi H Q
theorem zLt:SlR X (zOF X.K):=by
 intro pins s σ H x v vl vu lo hi sl Q I rx hs pl pu h;obtain ⟨a,xs,rfl,hx,q⟩:=h;cases rx;obtain ⟨its,r,ht,hz⟩:=I.list hx;have hlen:=r.length;refine ⟨"list",_,slot_list_getitem.lookup,ht.isList.typeIs,?_⟩;refine wpAny_getItem_list_slice ht.isList hs pl pu .none (by simp) ?_ (by rw [zRv] <;>omega);rw [zFD,<-hlen];refine ⟨.ref s.heap.objs.size,_,I.laid (t':=s.toks) (o:= .lst (zAV xs lo hi)) (fun b ob q=>zRe _ q) (zRg _) ?_,rfl,q _ (I.hok.fresh (zRg _))⟩;exact ⟨zRq (zDW xs lo hi) hz,_,0,(r.drop (HT.sIx xs.length 0 lo)).take (HT.sIx xs.length xs.length hi - HT.sIx xs.length 0 lo),zRu _ rfl⟩
def zBC:V->Bool
 | .non=>true
 | .bl _=>true
 | .int _=>true
 | .str _=>true
 | _=>false
def eqV:V->V->Bool
 | .non,.non=>true
 | .bl a,.bl b=>a==b
 | .bl a,.int b=>(if a then 1 else 0)==b
 | .int a,.bl b=>a==(if b then 1 else 0)
 | .int a,.int b=>a==b
 | .str a,.str b=>a==b
 | _,_=>false
theorem zPB{A:Around}{s:Shared}{y x:V}{u v:Value}(ry:ze y u)(rx:ze x v)(fy:zBC y=true)(fx:zBC x=true):SeqAt.EqAt A s u v (eqV y x):=by
 cases y with
 | non=>
  cases ry;cases x with
  | non=>cases rx;exact SeqAt.EqAt.same _
  | bl b=>cases rx;exact SeqAt.EqAt.none_bool b
  | int b=>obtain ⟨t,rfl⟩:=rx;exact SeqAt.EqAt.none_int b t
  | str b=>obtain ⟨t,rfl⟩:=rx;exact SeqAt.EqAt.none_str b t
  | _=>exact absurd (show false=true from fx) zRp
 | bl a=>
  cases ry;cases x with
  | non=>cases rx;exact SeqAt.EqAt.bool_none a
  | bl b=>cases rx;exact SeqAt.EqAt.bool_bool a b
  | int b=>obtain ⟨t,rfl⟩:=rx;exact SeqAt.EqAt.bool_int a b t
  | str b=>obtain ⟨t,rfl⟩:=rx;exact SeqAt.EqAt.bool_str a b t
  | _=>exact absurd (show false=true from fx) zRp
 | int a=>
  obtain ⟨t',rfl⟩:=ry;cases x with
  | non=>cases rx;exact SeqAt.EqAt.int_none a t'
  | bl b=>cases rx;exact SeqAt.EqAt.int_bool a t' b
  | int b=>obtain ⟨t,rfl⟩:=rx;exact SeqAt.EqAt.int_int a t' b t
  | str b=>obtain ⟨t,rfl⟩:=rx;exact SeqAt.EqAt.int_str a t' b t
  | _=>exact absurd (show false=true from fx) zRp
 | str a=>
  obtain ⟨t',rfl⟩:=ry;cases x with
  | non=>cases rx;exact SeqAt.EqAt.str_none a t'
  | bl b=>cases rx;exact SeqAt.EqAt.str_bool a t' b
  | int b=>obtain ⟨t,rfl⟩:=rx;exact SeqAt.EqAt.str_int a t' b t
  | str b=>obtain ⟨t,rfl⟩:=rx;exact SeqAt.EqAt.str_str a t' b t
  | _=>exact absurd (show false=true from fx) zRp
 | _=>exact absurd (show false=true from fy) zRp
def eqU(x:V)(u:Value):Bool:=match u with
 | .none=>eqV .non x
 | .bool b=>eqV (.bl b) x
 | .int i _=>eqV (.int i) x
 | .str z _=>eqV (.str z) x
 | _=>false
theorem zIw{x y:V}{u:Value}(r:ze y u)(f:zBC y=true):eqU x u=eqV y x:=by
 cases y with
 | non=>cases r;rfl
 | bl b=>cases r;rfl
 | int i=>obtain ⟨t,rfl⟩:=r;rfl
 | str z=>obtain ⟨t,rfl⟩:=r;rfl
 | _=>exact absurd (show false=true from f) zRp
theorem zBz{x:V}: ∀{xs:List V} {us:List Value},zT xs us->xs.all zBC=true->us.any (eqU x)=xs.any fun y=>eqV y x
 | _,_,.nil,_=>rfl
 | y::xs,u::us,.cons r t,f=>by
  rw [List.all_cons,zSU] at f;rw [List.any_cons,List.any_cons,zIw r f.1,zBz t f.2]
theorem zBl{A:Around}{s:Shared}{x:V}{v:Value}(rx:ze x v)(fx:zBC x=true): ∀{xs:List V} {us:List Value},zT xs us->xs.all zBC=true-> ∀u∈us,SeqAt.EqAt A s u v (eqU x u)
 | _,_,.nil,_=>fun u hu=>by cases hu
 | y::xs,u::us,.cons r t,f=>fun u' hu=>by
  rw [List.all_cons,zSU] at f;rcases zST.mp hu with rfl | hu
  ·rw [zIw r f.1];exact zPB r rx f.1 fx
  ·exact zBl rx fx t f.2 u' hu
def inV(x:V)(xs:List V):Bool:=xs.any fun y=>eqV y x
def rIn(K:zSS)(neg:Bool):R2:=fun x y H Q=> ∃p xs,y= .ref p/\(SqL K H p xs\/SqT K H p xs)/\zBC x=true/\xs.all zBC=true/\Q (.bl (if neg then !inV x xs else inV x xs)) H
theorem zIW:OpR X (compareOp .In) (rIn X.K false):=by
 intro pins s σ H x y v u Q I rx ry h;obtain ⟨p,xs,rfl,hq,fx,fs,q⟩:=h;cases ry;rcases hq with hq | hq
 ·obtain ⟨its,r,pl,hz⟩:=I.list hq;refine SeqAt.in_listAt (eqU x) pl.isList (fun w hw=>zBl rx fx r fs w (by simpa using hw)) ⟨.bl _,H,I,rfl,?_⟩;rw [show its.toArray.any (eqU x)=its.any (eqU x) by simp,zBz r fs];exact q
 ·obtain ⟨its,r,pl,hz⟩:=I.tuple hq;refine SeqAt.in_tupleAt (eqU x) pl (fun w hw=>zBl rx fx r fs w (by simpa using hw)) ⟨.bl _,H,I,rfl,?_⟩;rw [show its.toArray.any (eqU x)=its.any (eqU x) by simp,zBz r fs];exact q
theorem zFw:OpR X (compareOp .NotIn) (rIn X.K true):=by
 intro pins s σ H x y v u Q I rx ry h;obtain ⟨p,xs,rfl,hq,fx,fs,q⟩:=h;cases ry;rcases hq with hq | hq
 ·obtain ⟨its,r,pl,hz⟩:=I.list hq;refine SeqAt.notIn_listAt (eqU x) pl.isList (fun w hw=>zBl rx fx r fs w (by simpa using hw)) ⟨.bl _,H,I,rfl,?_⟩;rw [show its.toArray.any (eqU x)=its.any (eqU x) by simp,zBz r fs];exact q
 ·obtain ⟨its,r,pl,hz⟩:=I.tuple hq;refine SeqAt.notIn_tupleAt (eqU x) pl (fun w hw=>zBl rx fx r fs w (by simpa using hw)) ⟨.bl _,H,I,rfl,?_⟩;rw [show its.toArray.any (eqU x)=its.any (eqU x) by simp,zBz r fs];exact q
theorem zBe:yV X (.builtin "len") (fun xs H Q=> ∃p ys,xs= [.ref p] /\(SqL X.K H p ys\/SqT X.K H p ys)/\Q (.int ys.length) H):=by
 intro pins s σ H xs us Q I r h;obtain ⟨p,ys,rfl,hq,q⟩:=h;obtain ⟨u,rfl,rx⟩:=zBP r;cases rx;have hn:=zCH;rcases hq with hq | hq
 ·obtain ⟨its,r',pl,hz⟩:=I.list hq;have hlen:=r'.length;exact Calls.call_len_list pl.isList (by simp only [zRv] <;>omega) ⟨.int ys.length,H,I.tok _,⟨s.toks+1,by rw [zRv,hlen]⟩,q⟩
 ·obtain ⟨its,r',pl,hz⟩:=I.tuple hq;have hlen:=r'.length;exact len_tuple pl (by simp only [zRv] <;>omega) ⟨.int ys.length,H,I.tok _,⟨s.toks+1,by rw [zRv,hlen]⟩,q⟩
theorem zGe:yV X (.builtin "len") (fun xs H Q=> ∃z,xs= [.str z] /\z.length<=sizeLine/\Q (.int z.length) H):=by
 intro pins s σ H xs us Q I r h;obtain ⟨z,rfl,hz,q⟩:=h;obtain ⟨u,rfl,t,rfl⟩:=zBP r;have hn:=zCH;exact len_str (by omega) ⟨.int z.length,H,I.tok _,⟨_,rfl⟩,q⟩
theorem zFp:yV X (.type "list") (fun xs H Q=> ∃p ys,xs= [.ref p] /\(SqL X.K H p ys\/SqT X.K H p ys)/\ ∀l,H l=none->Q (.ref l) (upd H l (.lst ys))):=by
 intro pins s σ H xs us Q I r h;obtain ⟨p,ys,rfl,hq,q⟩:=h;obtain ⟨u,rfl,rx⟩:=zBP r;cases rx;have fin: ∀(its:List Value),zT ys its->ys.length<=sizeLine-> ∀(h':Heap) (c':Nat),(∀b o',s.heap.get? b=some o'->h'.get? b=some o')->
   h'.get? s.heap.objs.size=some {cls:= .type "list",dict:=none,data:= .seq its.toArray c',slots:= #[]}->EP X pins σ Q (.ref s.heap.objs.size) {s with heap:=h'}:=fun its r' hz h' c' kp e=>
  ⟨.ref s.heap.objs.size,_,I.laid (t':=s.toks) kp (zRg _) (show zx X.prog X.w _ h' _ (.lst ys) from ⟨hz,its,c',r',e⟩),rfl,q _ (I.hok.fresh (zRg _))⟩
 rcases hq with hq | hq
 ·obtain ⟨its,r',pl,hz⟩:=I.list hq;have hlen:=r'.length;obtain ⟨o,ho,hc,n,hd⟩:=pl.isList;exact call_list_seq p (.inl rfl) ho hc hd (fun h' c' kp e=>fin its r' hz h' c' kp e) (by simp only [zRv] <;>omega)
 ·obtain ⟨its,r',pl,hz⟩:=I.tuple hq;have hlen:=r'.length;obtain ⟨o,ho,hc,n,hd⟩:=pl;exact call_list_seq p (.inr rfl) ho hc hd (fun h' c' kp e=>fin its r' hz h' c' kp e) (by simp only [zRv] <;>omega)
theorem zFC:yV X (.type "tuple") (fun xs H Q=> ∃p ys,xs= [.ref p] /\((SqL X.K H p ys/\ ∀l,H l=none->Q (.ref l) (upd H l (.tup ys)))\/(SqT X.K H p ys/\Q (.ref p) H))):=by
 intro pins s σ H xs us Q I r h;obtain ⟨p,ys,rfl,h⟩:=h;obtain ⟨u,rfl,rx⟩:=zBP r;cases rx;rcases h with ⟨hq,q⟩|⟨hq,q⟩
 ·obtain ⟨its,r',pl,hz⟩:=I.list hq;have hlen:=r'.length;refine call_tuple_list pl.isList (fun h' kp=>?_) (by simp only [zRv] <;>omega);have I1:Inv X pins σ H {s with heap:=h'}:=I.kept (t':=s.toks) kp;have I2:Inv X pins σ (upd H h'.objs.size (.tup ys)) {s with heap:=h'.push {cls:= .type "tuple",data:= .seq its.toArray}}:=
   I1.laid (t':=s.toks) (fun b o e=>zRe _ e) (zRg _) (show zx X.prog X.w _ _ _ (.tup ys) from ⟨hz,its,r',zCG.new _ _⟩)
  exact ⟨.ref h'.objs.size,_,I2,rfl,q _ (I1.hok.fresh (zRg _))⟩
 ·obtain ⟨its,r',pl,hz⟩:=I.tuple hq;exact call_tuple_same pl ⟨.ref p,H,I,rfl,q⟩
def tyV(K:zSS)(T:String)(x:V)(H:Hp):Prop:=match x with
 | .str _=>T= "str"
 | .int _=>T= "int"
 | .ref p=>(T= "list" /\ ∃xs,SqL K H p xs)\/(T= "tuple" /\ ∃o,K.lookup p=some o/\o.cls= .type "tuple" /\o.dict=none)\/
   (T= "dict" /\((∃kvs,H p=some (.dK kvs))\/ ∃kvs,H p=some (.dT kvs)))\/(T= "set" /\ ∃S n,H p=some (.set S n))
 | _=>False
theorem zIf{pins:List (Addr×Obj)}{σ:St}{H:Hp}{s:Shared}{T:String}{x:V}{v:Value}(I:Inv X pins σ H s)(r:ze x v)(ty:tyV X.K T x H):
  s.TypeIs v T/\ ∀a,v= .ref a-> ∃ob,s.heap.get? a=some ob/\ob.dict=none:=by
 cases x with
 | str z=>
  obtain ⟨t,rfl⟩:=r;cases (show T= "str" from ty);exact ⟨typeIs_str s z t,fun _ e=>nomatch e⟩
 | int i=>
  obtain ⟨t,rfl⟩:=r;cases (show T= "int" from ty);exact ⟨typeIs_int s i t,fun _ e=>nomatch e⟩
 | ref p=>
  cases r;rcases ty with ⟨rfl,xs,hq⟩|⟨rfl,o,hk,hc,hd⟩|⟨rfl,hk⟩|⟨rfl,S,n,hk⟩
  ·obtain ⟨its,_,pl,_⟩:=I.list hq;refine ⟨pl.isList.typeIs,fun a e=>?_⟩;cases e;obtain ⟨o,n,e,c,hd,_⟩:=pl;exact ⟨o,e,hd⟩
  ·refine ⟨⟨o,I.kIn p o hk,hc⟩,fun a e=>?_⟩;cases e;exact ⟨o,I.kIn _ o hk,hd⟩
  ·have z: ∃o,s.heap.get? p=some o/\o.ExactDict:=by
    rcases hk with ⟨kvs,hk⟩|⟨kvs,hk⟩
    ·obtain ⟨_,_,_,_,o,_,_,e,ex,_⟩:=I.hok p _ hk;exact ⟨o,e,ex⟩
    ·obtain ⟨_,_,_,_,o,_,_,e,ex,_⟩:=I.hok p _ hk;exact ⟨o,e,ex⟩
   obtain ⟨o,e,ex⟩:=z;refine ⟨⟨o,e,ex.1⟩,fun a e2=>?_⟩;cases e2;exact ⟨o,e,ex.2.1⟩
  ·obtain ⟨o,_,_,_,e,ex,_⟩:=I.hok p _ hk;refine ⟨⟨o,e,ex.1⟩,fun a e2=>?_⟩;cases e2;exact ⟨o,e,ex.2.1⟩
 | _=>exact False.elim ty
def zOl(K:zSS)(T:String)(r:V->List V->Hp->VK->Prop)(to:TE):TE:=fun σ H Q=>to σ H fun x H1=>tyV K T x H1/\r x [] H1 Q
def tBM(K:zSS)(T:String)(r:V->List V->Hp->VK->Prop)(to:TE)(t:TA):TE:=fun σ H Q=>to σ H fun x H1=>tyV K T x H1/\t σ H1 fun xs H2=>r x xs H2 Q
variable {o e:Expr}{es:List Expr}{to:TE}{t:TA}{name:Str}{apos cpos:Pos}{T id:String}{r:V->List V->Hp->VK->Prop}
theorem zNB(pa:PlainAttrs T)(slot:Slot T name id)(hty:typeOf (.builtin id)=pure (.type "method_descriptor"))(hm:MtR X id r)(ho:PE X o to)
  (hbase:attributeBase o name X.env (eval o X.env)=eval o X.env:=by rfl) (hline:(apos.endLine==cpos.line)=true:=by rfl):PE X (.Call (.Attribute o name apos) [] [] cpos) (zOl X.K T r to):=by
 intro pins s σ H Q I h;refine wpAny_Call_method0_late hbase hline (zb (ho pins s σ H _ I h) fun v s1 ⟨x,H1,I1,r1,ty,q1⟩=>?_);obtain ⟨h1,h2⟩:=zIf I1 r1 ty;exact ⟨T,id,pa,slot,hty,h1,h2,Calls.callWith_builtin rfl (PySem.evalArgs_none (hm pins s1 σ H1 x [] v [] Q I1 r1 .nil q1))⟩
theorem zLC(pa:PlainAttrs T)(slot:Slot T name id)(hty:typeOf (.builtin id)=pure (.type "method_descriptor"))(hm:MtR X id r)(ho:PE X o to)(ha:PA X (e::es) t)
  (hbase:attributeBase o name X.env (eval o X.env)=eval o X.env:=by rfl)
  (hfew:((backTo cpos (starEach (e::es) X.env)).all (fun x=>!x.1)&&(backToKw cpos (keywordEach [] X.env)).all (fun x=>x.1.isSome)
   &&decide ((e::es).length+([] :List Keyword).length+(if ([] :List Keyword).isEmpty then 0 else 1)<30))=true:=by rfl)
  (hline:(apos.endLine==cpos.line)=true:=by rfl) (hs:starEach (e::es) X.env=(false,eval e X.env)::starEach es X.env:=by rfl) (hplain:(backTo cpos (starEach es X.env)).any (·.1)=false:=by rfl):
  PE X (.Call (.Attribute o name apos) (e::es) [] cpos) (tBM X.K T r to t):=by
 intro pins s σ H Q I h;refine wpAny_Call_method_late hbase hfew hline rfl (zb (ho pins s σ H _ I h) fun v s1 ⟨x,H1,I1,r1,ty,q1⟩=>?_);obtain ⟨h1,h2⟩:=zIf I1 r1 ty;refine ⟨T,id,pa,slot,hty,h1,h2,?_⟩;have hA:=ha cpos pins s1 σ H1 _ I1 q1;rw [hs] at hA⊢;refine Calls.callWith_builtin (by show (false ||(backTo cpos (starEach es X.env)).any (·.1))=false;rw [hplain] <;>rfl) (Calls.evalArgs_plain ?_);exact zb hA fun us s2 ⟨vs,H2,I2,r2,q2⟩=>hm pins s2 σ H2 x vs v us Q I2 r1 r2 q2
end
def MtM(X:Cx)(id:String)(r:V->List V->Hp->VK->Prop):Prop:=
 ∀(pins:List (Addr×Obj)) (s:Shared) (σ:St) (H:Hp) (x:V) (xs:List V) (v:Value) (us:List Value) (Q:VK),Inv X pins σ H s->ze x v->zT xs us->r x xs H Q->
  wpAny (model X.prog X.w) X.A (call (.builtin id) (v::us)) (EP X pins σ Q) X.xe s
theorem zT.one: ∀{x:V} {us:List Value},zT [x] us-> ∃u,us= [u] /\ze x u
 | _,_,.cons r .nil=>⟨_,rfl,r⟩
theorem zT.two: ∀{x y:V} {us:List Value},zT [x,y] us-> ∃u v,us= [u,v] /\ze x u/\ze y v
 | _,_,_,.cons r (.cons q .nil)=>⟨_,_,rfl,r,q⟩
theorem zT.zero: ∀{us:List Value},zT [] us->us= []
 | _,.nil=>rfl
theorem zT.dropLast{xs:List V}{us:List Value}(h:zT xs us):zT xs.dropLast us.dropLast:=by
 induction h with
 | nil=>exact .nil
 | cons r t ih=>
  cases t with
  | nil=>exact .nil
  | cons q t'=>exact .cons r ih
theorem zHV{α:Type}(l:List α):l.eraseIdx (l.length - 1)=l.dropLast:=by
 induction l with
 | nil=>rfl
 | cons a r ih=>
  cases r with
  | nil=>rfl
  | cons b r=>
   have e:(a::b::r).length - 1=((b::r).length - 1)+1:=by
    have h1:(a::b::r).length=r.length+2:=rfl;have h2:(b::r).length=r.length+1:=rfl;omega
   rw [e,List.eraseIdx_cons_succ,ih]
   all_goals rfl
theorem zCj(its:List Value): ∀(k:Nat) (acc:List Value),
  List.foldl (fun x1 x2=>x1++x2) acc.toArray (List.replicate k its.toArray)=(acc++(List.replicate k its).flatten).toArray
 | 0,acc=>by simp
 | k+1,acc=>by
  have e:acc.toArray++its.toArray=(acc++its).toArray:=by simp
  have e2:(acc++its)++(List.replicate k its).flatten=acc++(List.replicate (k+1) its).flatten:=by
   rw [List.replicate_succ,List.flatten_cons,List.append_assoc]
  rw [<-e2,<-zCj its k (acc++its),<-e,List.replicate_succ,List.foldl_cons]
section
variable {X:Cx}{pins:List (Addr×Obj)}{σ:St}{H:Hp}{s:Shared}{l b:Addr}{xs ys zs:List V}
theorem Inv.lset{its its':List Value}{n:Nat}{f:Array Value->Array Value}{t':Nat}(I:Inv X pins σ H s)(hH:H l=some (.lst xs))
  (e:s.heap.get? l=some {cls:= .type "list",data:= .seq its.toArray n}) (hf:f its.toArray=its'.toArray) (hv:zT ys its') (hz:ys.length<=sizeLine):
  Inv X pins σ (upd H l (.lst ys)) {s with heap:=s.heap.update l (Obj.mapSeq f),toks:=t'}:=by
 have q:=PySem.IsL.update e f;rw [hf] at q;refine I.write (x:=l) (e:=l) (by rw [hH];exact trivial) (.inl rfl) (fun b' u hb hu=>(zSJ s.heap (Obj.mapSeq f) (Ne.symm hb)).trans hu) ⟨_,q⟩ ?_;exact ⟨hz,its',_,hv,q⟩
theorem Inv.lnew{its:List Value}{t':Nat}(I:Inv X pins σ H s)(hv:zT ys its)(hz:ys.length<=sizeLine):
  Inv X pins σ (upd H s.heap.objs.size (.lst ys)) {s with heap:=s.heap.push {cls:= .type "list",data:= .seq its.toArray},toks:=t'}:=
 I.laid (fun _ _ q=>zRe _ q) (zRg _) ⟨hz,its,0,hv,zRu _ rfl⟩
theorem Inv.fresh(I:Inv X pins σ H s):H s.heap.objs.size=none:=I.hok.fresh (zRg _)
theorem Inv.lstM(I:Inv X pins σ H s)(hH:H l=some (.lst xs)):xs.length<=sizeLine/\ ∃(its:List Value) (n:Nat),zT xs its/\xs.length=its.length/\s.heap.get? l=some {cls:= .type "list",data:= .seq its.toArray n}:=by
 obtain ⟨z,its,n,r,e⟩:=I.hok l _ hH;exact ⟨z,its,n,r,r.length,e⟩
end
section
variable {X:Cx}
inductive XApp (x:V) (vs:List V) (H:Hp) (Q:VK):Prop
 | mk (l:Addr) (xs:List V) (y:V) (h1:x= .ref l) (h2:vs= [y]) (h3:H l=some (.lst xs)) (h4:xs.length<sizeLine) (q:Q .non (upd H l (.lst (xs++ [y]))))
def zGw:V->List V->Hp->VK->Prop:=fun x vs H Q=>XApp x vs H Q
theorem zCh:MtM X "list.append" zGw:=by
 intro pins s σ H x vs v us Q I rx rv h;obtain ⟨l,xs,y,rfl,rfl,hH,hz,q⟩:=h;cases rx;obtain ⟨u,rfl,ru⟩:=rv.one;obtain ⟨z,its,n,r,hl,e⟩:=I.lstM hH;refine call_meets F.slot_list_append ⟨_,e,rfl⟩ F.entry_list_append (F.args_list_append_2 _ _) (PySem.list_append l its.toArray n u (by rw [zRv];omega)) ⟨e,?_⟩;refine ⟨.non,_,I.lset (its':=its++ [u]) hH e (by simp) (r.append (.cons ru .nil)) ?_,rfl,q⟩;rw [zSC,List.length_singleton];omega
def zNt:V->List V->Hp->VK->Prop:=fun x vs H Q=> ∃l xs y,x= .ref l/\vs= [] /\H l=some (.lst xs)/\xs[xs.length - 1]?=some y/\Q y (upd H l (.lst xs.dropLast))
theorem zMT:MtM X "list.pop" zNt:=by
 intro pins s σ H x vs v us Q I rx rv h;obtain ⟨l,xs,y,rfl,rfl,hH,hy,q⟩:=h;cases rx;have hus:=rv.zero;subst hus;obtain ⟨z,its,n,r,hl,e⟩:=I.lstM hH;obtain ⟨u,hu,ru⟩:=r.get hy;have hy':its.toArray[its.toArray.size - 1]?=some u:=by
  show its.toArray[its.length - 1]?=some u;rw [<-Array.getElem?_toList,<-hl];exact hu
 refine call_meets F.slot_list_pop ⟨_,e,rfl⟩ F.entry_list_pop (F.args_list_pop_1 _) (MeetsSeq.list_pop_last l its.toArray n u hy' (by rw [zRv];omega)) ⟨e,?_⟩;refine ⟨y,_,I.lset (its':=its.dropLast) hH e ?_ r.dropLast ?_,ru,q⟩
 ·show its.toArray.eraseIdxIfInBounds (its.toArray.size - 1)=its.dropLast.toArray;rw [zRv,List.eraseIdxIfInBounds_toArray,zHV]
 ·rw [List.length_dropLast];omega
inductive XCat (x y:V) (H:Hp) (Q:VK):Prop
 | mk (l b:Addr) (xs zs:List V) (h1:x= .ref l) (h2:y= .ref b) (h3:H l=some (.lst xs)) (h4:H b=some (.lst zs)) (h5:xs.length+zs.length<=sizeLine) (q: ∀p,H p=none->Q (.ref p) (upd H p (.lst (xs++zs))))
def zMx:R2:=fun x y H Q=>XCat x y H Q
theorem zOd:OpR X (binaryOp .Add) zMx:=by
 intro pins s σ H x y v u Q I rx ry h;obtain ⟨l,b,xs,zs,rfl,rfl,hH,hB,hz,q⟩:=h;cases rx;cases ry;obtain ⟨z,its,n,r,hl,e⟩:=I.lstM hH;obtain ⟨z2,its2,n2,r2,hl2,e2⟩:=I.lstM hB;refine PySem.P.add_list e e2 ?_ (by rw [zRv,zRv];omega);have ea:its.toArray++its2.toArray=(its++its2).toArray:=by simp
 rw [ea];exact ⟨.ref _,_,I.lnew (t':=s.toks) (r.append r2) (by rw [zSC];omega),rfl,q _ I.fresh⟩
theorem zLb{α:Type}(xs:List α)(k:Nat):(List.replicate k xs).flatten.length=k*xs.length:=by
 induction k with
 | zero=>simp
 | succ k ih=>rw [List.replicate_succ,List.flatten_cons,zSC,ih,Nat.succ_mul,Nat.add_comm]
end
section
variable {prog:Program}{w:World}{A:Around}{E:Value->Shared->Prop}{s:Shared}
set_option maxRecDepth 100000 in
end
section
variable {X:Cx}
end
end L2
namespace Att
open PySem PySem.W PySem.Calls PyProof.Rows
theorem zEN{P:Params}{h:Heap}: ∀(ns:List Int) (vs:List Value),WellAll P h vs (ns.map WData.int)->IntsAre vs ns:=by
 intro ns
 induction ns with
 | nil=>
  intro vs w;rw [List.map_nil] at w;cases w;exact .nil
 | cons n ns ih=>
  intro vs w;rw [zSX] at w;cases w with
  | cons a b=>
   cases a;exact .cons _ _ (ih _ b)
theorem zJW{l:OpenLaw}{n:Nat}(hn:l.most=some n){P:Params}{h:Heap}{args:List WData}{vals:List Value}
  (hpre:l.row.toRowW.claim.pre args=true) (hwl:WellAll P h vals args):
  ∃a vs ns,vals= [Value.ref a] /\args= [WData.list (ns.map WData.int)] /\h.get? a=some {cls:= .type "list",data:= .seq vs.toArray}/\IntsAre vs ns/\ns.length<=n:=by
 have hsh:WShape.hasAll [] args [.list .int] =true:=(pre_splitW hpre).1;have hc:l.pre.holds [] {args:=args}=true:=(pre_splitW hpre).2;obtain ⟨d,r,rfl,h1,h2⟩:=hasAllW_cons hsh;obtain rfl:=hasAllW_nil h2;obtain ⟨xs,rfl,h3⟩:=hasW_list h1;obtain ⟨ns,rfl⟩:=items_int h3;have hlen:ns.length<=n:=by
  unfold OpenLaw.pre at hc;have h4:(WTm.not (.lt (.lit (.int (n:Int))) (.len (.arg 0)))).holds [] {args:= [.list (ns.map .int)]}=true:=by
   have h4:=(holds_andW hc).1;rw [hn] at h4;exact h4
  have h5:=condW_of h4 (w_not (w_lt w_lit (w_len_list (w_arg rfl))));rw [zRj] at h5;refine Nat.le_of_not_lt fun q=>?_;have q':(n:Int)<((ns.length:Nat):Int):=by omega
  first
   |(rw [zRz q'] at h5;exact absurd h5 (by decide))
   |(simp at h5;omega)
 cases hwl with
 | cons w1 w2=>
  cases w2;cases w1 with
  | list ho hall=>exact ⟨_,_,ns,rfl,rfl,ho,zEN ns _ hall,hlen⟩
theorem zJC(l:OpenLaw)(args:List WData):l.row.toRowW.claim.post args (.bool true) args=true:=
 postW_of (r:=l.row.toRowW) (X:=(true==true))
  (show WShape.has [] (.bool true) .bool=true by first | rfl | decide | simp [WShape.has,WShape.arms,WShape.armsAll])
  (show (WTm.eq .res (.lit (.bool true))).value [] {args:=args,res:=some (.bool true),after:=args}=some (.bool (true==true)) from w_eq_bool (w_res rfl) w_lit) rfl
theorem attach_call{l:OpenLaw}{n:Nat}{q:Program}{loose:List Str}{XP:(Str->Option Value)->Heap->Prop}{YP:World->Heap->Prop}{d:DefRec}
  (hn:l.most=some n) (hdf:d.params.defaults= [])
  (call: ∀(w:World) (s₀ s₁:Shared) (mg mb:Str->Option Value) (fa:Addr) (o:Obj) (pm cd doc:Value) (a:Addr) (vs:List Value) (ns:List Int),
   Ground q loose [] XP w s₀ mg mb s₁.heap->YP w s₁.heap->
   s₁.heap.get? fa=some o->o.data= .func (docDef d.name d.params d.body d.scope pm cd doc)->s₁.heap.CodeRec cd d.name->mg d.name=some (.ref fa)->
   s₁.heap.get? a=some {cls:= .type "list",data:= .seq vs.toArray}->IntsAre vs ns->ns.length<=n->s₁.gens= #[] ->
   codeAny (model l.prog w) callerA (.call (.ref fa) ⟨[.ref a],[]⟩) (fun r s'=>r= .ok (.ret (.bool true))/\OldK s₁.heap s'.heap/\s'.os=s₁.os/\AllBare s'.gens) s₁):
  WalkO q loose XP YP l.row.toRowW d [] (fun f vs=>PySem.call f vs):=by
 intro w s₀ s₁ mg mb G Y fa o pm cd doc dV kV ho hd hcd hD hmg hg args vals as hpre hlay hrd hwl hlo;obtain rfl:dV= .none:=Dflts.none hD hdf;obtain rfl:kV= .none:=Dflts.noKw hD;obtain ⟨a,vs,ns,rfl,rfl,hobj,hints,hlen⟩:=zJW hn hpre hwl;refine enter_call (zSQ (call w s₀ s₁ mg mb fa o pm cd doc a vs ns G Y ho (fd_plain hd) hcd hmg hobj hints hlen hg) fun r s' hq=>?_);obtain ⟨rfl,h2,h3,h4⟩:=hq;exact ⟨.inl ⟨.bool true,.bool true,[],rfl,fun _=>rfl,.bool true,zJC l _,fun _=>⟨List.Pairwise.nil,fun _ hm=>(nomatch hm)⟩⟩,h2,h3,h4⟩
section
variable {prog:Program}{w:World}{A:Around}{E:Value->Shared->Prop}{s:Shared}{K:Frag}
end
end Att
namespace L2
open PySem PySem.Spec PyProof.Rows
theorem zEn: ∀{vs:List Value} {ns:List Int},IntsAre vs ns->zT (ns.map V.int) vs
 | _,_,.nil=> .nil
 | _,_,.cons n t h=> .cons ⟨t,rfl⟩ (zEn h)
def zKD(H:Hp):Prop:= ∀b,H b=none\/ ∃o xs,H b=some (.frz o (.lst xs))
theorem zJg{P:Program}{w:World}{K:zSS}{mg mb:Str->Option Value}{CX:CXT}{k:Nat}{fa a:Addr}{fd:FuncData}{x:Str}{sp:Sp}{s₁:Shared}{vs:List Value}{ns:List Int}
  (KX:K.In s₁.heap) (hns:s₁.heap.Ns mainGlobals mg) (hb:s₁.heap.Ns builtinsNs mb) (hbb: ∀x:Str,x≠ "__name__" ->mb x=bootBuiltins x) (hlim:s₁.heap.NoLimit) (hse:s₁.heap.NoSeer) (hg:s₁.gens= #[])
  (ha:s₁.heap.get? a=some {cls:= .type "list",data:= .seq vs.toArray}) (hi:IntsAre vs ns) (hl:ns.length<=sizeLine) (hr:Room k callerA)
  (F: ∀base:Heap,K.In base->base.Ns mainGlobals mg->FnOk P w K mg base CX k fa fd [x] sp) (hbind: ∀(s:Shared) (u:Value),BindsTo s fd ⟨[u],[]⟩ [(x,u)])
  (hsp: ∀H:Hp,zKD H->SqL K H a (ns.map V.int)->sp [.ref a] H (fun v _=>v= .bl true) fun _ _ _=>False)
  (hCX: ∀H e s',CX [] H s₁ (fun _ _ _=>False) e s'->False):
  codeAny (model P w) callerA (.call (.ref fa) ⟨[.ref a],[]⟩) (fun r s'=>r= .ok (.ret (.bool true))/\OldK s₁.heap s'.heap/\s'.os=s₁.os/\AllBare s'.gens) s₁:=by
 have rv:=zEn hi;have lenV:=hi.length;have core: ∀H:Hp,zKD H->SqL K H a (ns.map V.int)->HOk P w H s₁.heap->(∀b,H b≠none->b=a)->(H a≠none->K.lookup a=none)->
   codeAny (model P w) callerA (.call (.ref fa) ⟨[.ref a],[]⟩) (fun r s'=>r= .ok (.ret (.bool true))/\OldK s₁.heap s'.heap/\s'.os=s₁.os/\AllBare s'.gens) s₁:=by
  intro H hO hS hok hA hK;have base_of: ∀{b:Addr} {o:Obj},s₁.heap.get? b=some o->H b=none->(zBx s₁.heap H).get? b=some o:=fun e n=>zJh e n;have noA: ∀{b:Addr} {o:Obj} {es:Array DictEntry} {ep:Nat},s₁.heap.get? b=some o->o.data= .dict es ep->H b=none:=fun {b o es ep} e d=>by
   cases q:H b with
   | none=>rfl
   | some u=>
    have e':b=a:=hA b (by rw [q];simp);subst e';rw [ha] at e;cases e;have d':Data.seq vs.toArray _=Data.dict es ep:=d;cases d'
  have nsK: ∀{b:Addr} {m:Str->Option Value},s₁.heap.Ns b m->(zBx s₁.heap H).Ns b m:=fun {b m} ⟨o,es,ep,e,d,r⟩=>⟨o,es,ep,base_of e (noA e d),d,r⟩;have hKb:K.In (zBx s₁.heap H):=fun b o e=>base_of (KX b o e) (by
   cases q:H b with
   | none=>rfl
   | some u=>
    have e':b=a:=hA b (by rw [q];simp);subst e';rw [hK (by rw [q];simp)] at e;cases e)
  have hsb:(zBx s₁.heap H).NoSeer:=by
   obtain ⟨mg',bm,ob,g1,g2,g3,g4,g5⟩:=hse.main;have nb:H bm=none:=by
    cases q:H bm with
    | none=>rfl
    | some u=>
     have e':bm=a:=hA bm (by rw [q];simp);subst e';rw [ha] at g3;cases g3;have g4':Value.type "list" =Value.type "module" :=g4;exact absurd g4' (by decide)
   exact ⟨let ⟨mc,h1,h2⟩:=hse.statics;⟨mc,nsK h1,h2⟩,let ⟨mc,h1,h2⟩:=hse.mods;⟨mc,nsK h1,h2⟩,let ⟨mc,h1,h2⟩:=hse.imp;⟨mc,nsK h1,h2⟩,⟨mg',bm,ob,nsK g1,g2,base_of g3 nb,g4,g5⟩⟩
  have hM:Mod K mg (zBx s₁.heap H):=⟨hKb,nsK hns,⟨mb,nsK hb,hbb⟩,(let ⟨mc,h1,h2⟩:=hlim;⟨mc,nsK h1,h2⟩),hsb⟩;have e0:Env0 P w K mg (zBx s₁.heap H) callerA [] s₁ H:=⟨rfl,hM,fun b o e=>zLS e,Nat.le_of_eq (zJK _ _),trivial,fun b hb=>absurd (show b∈([] :List Addr) from hb) (by simp),hok,.of_eq hg⟩;refine zSQ ((F _ hKb (nsK hns)).run callerA [] s₁ H ⟨[.ref a],[]⟩ [.ref a] [.ref a] _ _ hr e0 (hbind s₁ (.ref a)) (.cons rfl .nil) (hsp H hO hS)) fun r s' h=>?_;cases r with
  | error e=>exact (hCX H e s' h).elim
  | ok fl=>
   cases fl with
   | next=>exact False.elim h
   | brk=>exact False.elim h
   | cont=>exact False.elim h
   | ret u=>
    obtain ⟨v,H',os,bare,un,hok',r',q⟩:=h;have q':v= .bl true:=q;subst q';obtain rfl:u=Value.bool true:=r';refine ⟨rfl,OldK.of_keep fun b o e=>?_,os,bare⟩;cases q:H b with
    | none=>exact un.keep b o e q (by intro z;exact absurd (show b∈([] :List Addr) from z) (by simp)) (by simp)
    | some u=>
     rcases hO b with z |⟨ob,xs,z⟩
     ·rw [q] at z;cases z
     ·have z2:=un.frzs b ob _ z;obtain ⟨e1,_⟩:=hok b _ z;obtain ⟨e2,_⟩:=hok' b _ z2;rw [e] at e1;cases e1;exact e2
 cases hk:K.lookup a with
 | some o=>
  have e:=KX a o hk;rw [ha] at e;cases e;refine core (fun _=>none) (fun _=> .inl rfl) (.inr ⟨_,vs.toArray,_,hk,rfl,rfl,rfl,by rw [zRv,lenV];exact hl,by simpa using rv⟩) (fun b u z=>by have z':(none:Option HO)=some u:=z;cases z') (fun b z=>absurd rfl z) fun z=>absurd rfl z
 | none=>
  refine core (fun b=>if b=a then some (.frz {cls:= .type "list",data:= .seq vs.toArray} (.lst (ns.map V.int))) else none) (fun b=>?_) (.inl (.inr ⟨{cls:= .type "list",data:= .seq vs.toArray},if_pos rfl⟩)) (fun b u z=>?_) (fun b z=>?_) fun _=>hk
  ·by_cases hb:b=a
   ·exact .inr ⟨_,_,if_pos hb⟩
   ·exact .inl (if_neg hb)
  ·by_cases hb:b=a
   ·have z':=(if_pos hb).symm.trans z;cases z';subst hb;exact ⟨ha,by rw [zRj];exact hl,vs,_,rv,ha⟩
   ·have z':=(if_neg hb).symm.trans z;cases z'
  ·by_cases hb:b=a
   ·exact hb
   ·exact absurd (if_neg hb) z
theorem zLs{l:PySem.W.OpenLaw}{n k:Nat}{q:Program}{loose:List Str}{XP:(Str->Option Value)->Heap->Prop}{YP:World->Heap->Prop}{d:DefRec}{K:Params->zSS}{CX:World->CXT}{sp:World->Sp}{x:Str}
  (hn:l.most=some n) (hn2:n<=sizeLine) (hdf:d.params.defaults= []) (hI:importsNone q=true) (hr:Room k callerA)
  (hY: ∀(w:World) (h:Heap),YP w h->(K w.params).In h)
  (F: ∀(w:World) (mg:Str->Option Value) (fa:Addr) (h:Heap),(K w.params).In h->h.Ns mainGlobals mg->mg d.name=some (.ref fa)->
   ∃fd:FuncData,(∀(s:Shared) (u:Value),BindsTo s fd ⟨[u],[]⟩ [(x,u)])/\
    ∀base:Heap,(K w.params).In base->base.Ns mainGlobals mg->FnOk l.prog w (K w.params) mg base (CX w) k fa fd [x] (sp w))
  (hsp: ∀(w:World) (H:Hp) (a:Addr) (ns:List Int),ns.length<=n->zKD H->SqL (K w.params) H a (ns.map V.int)->sp w [.ref a] H (fun v _=>v= .bl true) fun _ _ _=>False)
  (hCX: ∀(w:World) (H:Hp) (s:Shared) (e:Value) (s':Shared),CX w [] H s (fun _ _ _=>False) e s'->False):
  PySem.W.WalkO q loose XP YP l.row.toRowW d [] (fun f vs=>PySem.call f vs):=by
 refine Att.attach_call hn hdf fun w s₀ s₁ mg mb fa o pm cd doc a vs ns G Y ho hd hcd hmg hobj hints hlen hg=>?_;have KX:=hY w _ Y;obtain ⟨fd,hb,hF⟩:=F w mg fa _ KX G.T.g hmg;exact zJg KX G.T.g G.T.b G.T.builtins G.T.nolimit (G.T.seer hI) hg hobj hints (zRq hlen hn2) hr hF hb (fun H hO hS=>hsp w H a ns hlen hO hS) fun H e s'=>hCX w H s₁ e s'
def za(s:Stmt)(j:Nat):Stmt:=match s with
 | .ClassDef _ _ _ body _ _ _ _ _ _ _=>body.getD j (.Pass ⟨0,0,0,0⟩)
 | _=> .Pass ⟨0,0,0,0⟩
def yY(s:Stmt):Arguments:=match s with
 | .FunctionDef _ a _ _ _ _ _ _ _ _=>a
 | _=>{posonlyargs:= [],args:= [],vararg:=none,kwonlyargs:= [],kw_defaults:= [],kwarg:=none,defaults:= []}
def yN(s:Stmt):List Stmt:=match s with
 | .FunctionDef _ _ b _ _ _ _ _ _ _=>b
 | _=> []
def zM(s:Stmt):Scope:=match s with
 | .FunctionDef _ _ _ _ _ _ sc _ _ _=>sc
 | _=>{kind:= .function,names:= [],isGenerator:=false,isCoroutine:=false}
abbrev CX0:CXT:=fun _ _ _ _ _ _=>False
abbrev E0:XK:=fun _ _ _=>False
theorem zH{X:Cx}:yw CX0 X E0:=fun _ _ _ _ _ _ _ h=>h.elim
structure Fun(K:zSS)(x qual:Str)(st:Stmt)(f:Addr)(fd:FuncData):Prop where
 ex: ∃(oc:Value) (od:Option Addr) (kV doc pm:Value) (an:Option Addr) (cdv ct:Value) (osl:Array (Option Value)),
  fd=PySem.W.fnOf x qual (yY st) (yN st) (zM st) .none kV doc pm an cdv ct/\K.lookup f=some ⟨oc,od,.func fd,osl⟩/\PySem.W.codeIn K cdv qual=true
 kp:PySem.W.keepIn K (.ref f)=true
section
variable {P:Program}{w:World}{K:zSS}{mg:Str->Option Value}{base:Heap}
theorem Fun.ok{x qual:Str}{st:Stmt}{f:Addr}{fd:FuncData}{N ps:List Str}{k:Nat}{sp:Sp}(F:Fun K x qual st f fd)(S:FnScope N ps (zM st))(len: ∀vs H Q E,sp vs H Q E->vs.length=ps.length)
  (hbody: ∀(cdv:Value) (A:Around) (outer:List Env) (s:Shared) (H:Hp) (vs:List V) (Q:VK) (E:XK),Room k (A.deeper (envOfC qual (zM st) s.heap.objs.size f cdv))->sp vs H Q E->
   ∃t,PSs (zBy CX0 P w K mg base N qual (zM st) f cdv A outer s H E).nox (yN st) t/\t {nx:=fun _ H'=>Q .non H',rt:=Q} (zAT N vs) H):FnOk P w K mg base CX0 (k+1) f fd ps sp:=by
 obtain ⟨oc,od,kV,doc,pm,an,cdv,ct,osl,rfl,lk,hcd⟩:=F.ex;refine zKm lk hcd S len fun A outer s H vs Q E hr hsp=>?_;obtain ⟨t,h,q⟩:=hbody cdv A outer s H vs Q E hr hsp;exact ⟨t,h.nox,q⟩
theorem Fun.binds{x qual:Str}{st:Stmt}{f:Addr}{fd:FuncData}{ps:List Str}(F:Fun K x qual st f fd)
  (h: ∀(kV doc pm:Value) (an:Option Addr) (cdv ct:Value) (us:List Value),us.length=ps.length->bindArgs (PySem.W.fnOf x qual (yY st) (yN st) (zM st) .none kV doc pm an cdv ct) ⟨us,[]⟩=pure (ps.zip us)):zL K fd ps [] :=by
 obtain ⟨oc,od,kV,doc,pm,an,cdv,ct,osl,rfl,lk,hcd⟩:=F.ex;exact .all (h kV doc pm an cdv ct)
theorem zEI{x qual:Str}{st:Stmt}{f:Addr}{oc:Value}{od an:Option Addr}{osl:Array (Option Value)}{kV doc pm cdv ct:Value}(l:K.lookup f=some ⟨oc,od,.func (PySem.W.fnOf x qual (yY st) (yN st) (zM st) .none kV doc pm an cdv ct),osl⟩)
  (c:PySem.W.codeIn K cdv qual=true) (k:PySem.W.keepIn K (.ref f)=true):Fun K x qual st f (PySem.W.fnOf x qual (yY st) (yN st) (zM st) .none kV doc pm an cdv ct):=⟨⟨oc,od,kV,doc,pm,an,cdv,ct,osl,rfl,l,c⟩,k⟩
end
theorem zBK{A:Around}{k:Nat}(hr:Room k A):A.units+1<cLine:=Nat.lt_of_le_of_lt (Nat.add_le_add_left (by decide:1<=64) _) hr.units
section
variable {X:Cx}
theorem pv(i:Nat){x:Str}{pos:Pos}(hN:X.N[i]?=some x:=by rfl)(hv:Vis X.env.scope x:=by first | exact Or.inl rfl | exact Or.inr (Or.inl rfl)| exact Or.inr (Or.inr rfl))(hd:(x==("__debug__" :Str))=false:=by decide)
  (hcd:(x==("__classdict__" :Str))=false:=by decide):PE X (.Name x pos) (zGY i):=zGI hN hv hd hcd
end
theorem zE{A B:Prop}(h:B):if false=true then A else B:=by
 rw [if_neg zRp];exact h
theorem zN{A B:Prop}(h:A):if true=true then A else B:=by
 rw [if_pos rfl];exact h
theorem yE{c A B:Prop}[Decidable c](h1:c->A)(h2: ¬c->B):if c then A else B:=by
 by_cases h:c
 ·rw [if_pos h];exact h1 h
 ·rw [if_neg h];exact h2 h
theorem zKw{c A B:Prop}[Decidable c](hc:c)(h:B):if (!decide c)=true then A else B:=by
 rw [zRz hc];exact zE h
def zB(H H':Hp):Prop:= ∀b o,H b=some o->H' b=some o
theorem zB.refl(H:Hp):zB H H:=fun _ _ h=>h
theorem zB.trans{H H1 H2:Hp}(a:zB H H1)(b:zB H1 H2):zB H H2:=fun c o h=>b c o (a c o h)
theorem zB.seq{K:zSS}{H H':Hp}{a:Addr}{xs:List V}(e:zB H H')(h:SqL K H a xs):SqL K H' a xs:=by
 rcases h with (h |⟨o,h⟩)| h
 ·exact .inl (.inl (e _ _ h))
 ·exact .inl (.inr ⟨o,e _ _ h⟩)
 ·exact .inr h
end L2
namespace FrM
theorem zFz(a b:Int)(_hb:0<b):Int.gcd b (a % b)=Int.gcd a b:=by
 rw [Int.gcd_comm,Int.emod_def,Int.gcd_sub_mul_left_left]
theorem zJi(g:Int)(h:0<=g):((Int.gcd g 0:Nat):Int)=g:=by
 rw [Int.gcd_zero_right];omega
end FrM
namespace L2
open PySem PySem.Spec PyProof.Rows
theorem zx.there{P:Program}{w:World}{H:Hp}{h:Heap}{a:Addr}{o:HO}(x:zx P w H h a o): ∃u,h.get? a=some u:=by
 cases o with
 | lst xs=>obtain ⟨_,_,_,_,e⟩:=x;exact ⟨_,e⟩
 | tup xs=>obtain ⟨_,_,_,_,e,_⟩:=x;exact ⟨_,e⟩
 | dK kvs=>obtain ⟨_,_,_,_,_,_,_,e,_⟩:=x;exact ⟨_,e⟩
 | dT kvs=>obtain ⟨_,_,_,_,_,_,_,e,_⟩:=x;exact ⟨_,e⟩
 | set S n=>obtain ⟨_,_,_,_,e,_⟩:=x;exact ⟨_,e⟩
 | ins C dx fs=>obtain ⟨_,_,_,e,_⟩:=x;exact ⟨_,e⟩
 | own y=>obtain ⟨_,e⟩:=x;exact ⟨_,e⟩
 | xd fs=>obtain ⟨_,⟨_,_,_,e,_⟩,_⟩:=x;exact ⟨_,e⟩
 | rng lo hi=>obtain ⟨_,_,_,e⟩:=x;exact ⟨_,e⟩
 | frz ob u=>obtain ⟨e,_⟩:=x;exact ⟨_,e⟩
 | tbl ps=>exact ⟨_,(show h.get? a=some _ from x)⟩
 | met f y=>exact ⟨_,(show h.get? a=some _ from x)⟩
 | ext φ=>obtain ⟨_,⟨_,e⟩,_⟩:=x;exact ⟨_,e⟩
theorem HOk.untracked{P:Program}{w:World}{H:Hp}{h:Heap}{a:Addr}(x:HOk P w H h)(e:h.get? a=none):H a=none:=by
 cases q:H a with
 | none=>rfl
 | some o=>
  obtain ⟨u,z⟩:=(x a o q).there;rw [e] at z;cases z
structure FlyU(fs:List Addr)(H H':Hp)(h B h':Heap):Prop where
 keep: ∀b o,h.get? b=some o->H b=none->b∉fs->B.get? b=some o
 slot: ∀b o,h.get? b=some o->H b=none->b∈fs-> ∃sl,h'.get? b=some {o with slots:=sl}
 inB: ∀b o,h.get? b=some o->b∉fs-> ∃o',B.get? b=some o'
 free: ∀b o,h.get? b=some o->H b=none->H' b=none
 tups: ∀b xs,H b=some (.tup xs)->H' b=some (.tup xs)
 frzs: ∀b o u,H b=some (.frz o u)->H' b=some (.frz o u)
 tbls: ∀b ps,H b=some (.tbl ps)-> ∃more,H' b=some (.tbl (ps++more))
theorem FlyU.un{fs:List Addr}{H H':Hp}{h B h':Heap}(U:FlyU fs H H' h B h')(st:B.StaysIn h')(hf: ∀b∈fs,H b=none):Un fs [] H H' h h' where
 keep:=fun b o e n hb _=>st b o (U.keep b o e n hb)
 slot:=fun b o e n hb _=>U.slot b o e n hb
 free:=fun b o e n _=>U.free b o e n
 there:=fun b o e _=>by
  by_cases hb:b∈fs
  ·obtain ⟨sl,q⟩:=U.slot b o e (hf b hb) hb;exact ⟨_,q⟩
  ·obtain ⟨o',q⟩:=U.inB b o e hb;exact ⟨o',st b o' q⟩
 tups:=U.tups
 frzs:=U.frzs
 tbls:=U.tbls
theorem FlyU.land{l:List Env}{H H':Hp}{h B h1 h2:Heap}(U:FlyU (yi l) H H' h B h1)(ff:h1.FunFrames B l)(up:h1.UpToSlots h2):FlyU (yi l) H H' h B h2:=
 ⟨U.keep,fun b o e n hb=>by
  obtain ⟨sl,q⟩:=U.slot b o e n hb;obtain ⟨_,o',e',hd⟩:=ff.mem hb;rw [q] at e';cases e';obtain ⟨sl3,z3⟩:=up b _ q hd;exact ⟨sl3,z3⟩,U.inB,U.free,U.tups,U.frzs,U.tbls⟩
def Fly(P:Program)(w:World):CXT:=fun outer H s E e s'=>
 ∃(ea:Addr) (cls a0:Value) (H':Hp) (B:Heap),e= .ref ea/\s'.os=s.os/\AllBare s'.gens/\Heap.FlyingW B outer ea cls a0 s'.heap/\HOk P w H' B/\FlyU (yi outer) H H' s.heap B s'.heap/\E cls none H'
def zAv(CX:CXT)(X:Cx)(E:St->XK):Prop:= ∀(pins:List (Addr×Obj)) (σ:St) (H:Hp) (s:Shared) (e:Value) (s':Shared),Inv X pins σ H s->CX X.stack H s (E σ) e s'->X.xe e s'
section
variable {P:Program}{w:World}{K:zSS}{mg:Str->Option Value}{base:Heap}{N:List Str}{qual:Str}{scope:Scope}{f:Addr}{cd:Value}{A:Around}{outer:List Env}{s₀:Shared}{H₀:Hp}{E:XK}
theorem zFa{env:Env}{l:List Env}{b:Addr}(h:b∈yi l):b∈yi (env::l):=by
 obtain ⟨e,he,q⟩:=List.mem_filterMap.mp h;exact List.mem_filterMap.mpr ⟨e,.tail _ he,q⟩
end
section
variable {X:Cx}{CX:CXT}{k:Nat}{f C:Addr}{fd:FuncData}{ps:List Str}{sp:Sp}{dvs:List V}{ds:List Value}{E:St->XK}{x:Str}{p pos:Pos}{e:Expr}{es:List Expr}{t:TA}
def zIg(sp:Sp)(dvs:List V)(E:St->XK)(t:TA):TE:=fun σ H Q=>t σ H fun vs H1=>sp (vs++dvs) H1 Q (E σ)
theorem zMD{pins:List (Addr×Obj)}{σ:St}{H:Hp}{s:Shared}{Q:VK}{us:List Value}{vs:List V}(F:FnOk X.prog X.w X.K X.mg X.base CX k f fd ps sp)(hr:Room k X.A)(hb:zL X.K fd ps ds)(hd:zT dvs ds)(hx:zAv CX X E)
  (I:Inv X pins σ H s) (r:zT vs us) (h:sp (vs++dvs) H Q (E σ)):wpAny (model X.prog X.w) X.A (call (.ref f) us) (EP X pins σ Q) X.xe s:=by
 have r2:zT (vs++dvs) (us++ds):=r.append hd;have hl:(us++ds).length=ps.length:=by rw [<-r2.length];exact F.len _ _ _ _ h
 refine wpAny_call (zSQ (F.run X.A X.stack s H ⟨us,[]⟩ (us++ds) (vs++dvs) Q (E σ) hr I.env0 (hb s us I.kIn hl) r2 h) fun r s' hq=>?_);cases r with
 | error e=>exact hx pins σ H s e s' I hq
 | ok fl=>
  cases fl with
  | ret u=>exact I.after hq
  | next=>exact False.elim hq
  | brk=>exact False.elim hq
  | cont=>exact False.elim hq
theorem zKB(F:FnOk X.prog X.w X.K X.mg X.base CX k f fd ps sp)(hr:Room k X.A)(hg:Gl X x)(hm:X.mg x=some (.ref f))(hk:PySem.W.keepIn X.K (.ref f)=true)(hb:zL X.K fd ps ds)(hd:zT dvs ds)(hx:zAv CX X E)
  (ha:PA X (e::es) t) (hdb:(x==("__debug__" :Str))=false:=by decide) (he:starEach (e::es) X.env=(false,eval e X.env)::starEach es X.env:=by rfl) (hpl:(backTo pos (starEach es X.env)).any (·.1)=false:=by rfl):
  PE X (.Call (.Name x p) (e::es) [] pos) (zIg sp dvs E t):=by
 intro pins s σ H Q I h;refine zSP (zBT I hg hm ?_ hdb);refine PySem.W.callWith_K (h₀:=X.base) I.ok.mod.kin hk (zb (ha pos pins s σ H _ I h) fun us s1 ⟨vs,H1,I1,r,q⟩=>⟨I1.kIn,?_⟩) he hpl;exact zMD F hr hb hd hx I1 r q
end
def KAt(a:Addr)(C:Value)(h:Heap):Prop:= ∃o,h.get? a=some o/\o.cls=C
def zOx(a:Addr)(C:Value):HO:= .ext (KAt a C)
theorem zLa{P:Program}{w:World}{H:Hp}{h:Heap}{a:Addr}{C:Value}(x:KAt a C h):zx P w H h a (zOx a C):=by
 obtain ⟨o,e,c⟩:=x;exact ⟨⟨o,e,c⟩,⟨o,e⟩,fun h1 h2 ⟨o1,e1,c1⟩ k=>⟨o1,k o1 e1,c1⟩⟩
abbrev Cx.inExc(X:Cx)(e:Addr):Cx:={X with A:=X.A.mark (some (.ref e)),calm:=false,xe:=fun _ _=>False}
theorem Cx.Ok.inExc{X:Cx}(ok:X.Ok)(e:Addr):(X.inExc e).Ok:=
 ⟨ok.mod,ok.kind,ok.glob,ok.blt,ok.above,ok.inj,ok.has,ok.cab,(fun z=>Bool.noConfusion z),ok.frames,ok.stk,ok.exf,ok.bs,ok.bsz,ok.noex,ok.exfs,ok.funs,ok.frf⟩
theorem Inv.inExc{X:Cx}{pins:List (Addr×Obj)}{σ:St}{H:Hp}{s:Shared}(I:Inv X pins σ H s)(e:Addr):Inv (X.inExc e) pins σ H s:=⟨I.ok.inExc e,I.os,I.bare,I.base,I.loc,I.cell,I.free,I.freeC,I.pin,I.hok,I.len⟩
theorem Inv.outExc{X:Cx}{pins:List (Addr×Obj)}{σ:St}{H:Hp}{s:Shared}{e:Addr}(ok:X.Ok)(I:Inv (X.inExc e) pins σ H s):Inv X pins σ H s:=⟨ok,I.os,I.bare,I.base,I.loc,I.cell,I.free,I.freeC,I.pin,I.hok,I.len⟩
abbrev Cx.tryB(X:Cx)(pins:List (Addr×Obj))(E:Value->Shared->Prop):Cx:={X with xe:=E,pn:=X.pn++pins}
theorem Cx.Ok.tryB{X:Cx}(ok:X.Ok)(pins:List (Addr×Obj))(E:Value->Shared->Prop):(X.tryB pins E).Ok:=
 ⟨ok.mod,ok.kind,ok.glob,ok.blt,ok.above,ok.inj,ok.has,ok.cab,ok.hd,ok.frames,ok.stk,ok.exf,ok.bs,ok.bsz,ok.noex,ok.exfs,ok.funs,ok.frf⟩
theorem Inv.tryB{X:Cx}{pins:List (Addr×Obj)}{σ:St}{H:Hp}{s:Shared}(I:Inv X pins σ H s)(E:Value->Shared->Prop):Inv (X.tryB pins E) [] σ H s:=
 ⟨I.ok.tryB pins E,I.os,I.bare,I.base,I.loc,I.cell,I.free,I.freeC,fun p hp=>I.pin p (by simpa using hp),I.hok,I.len⟩
theorem Inv.untry{X:Cx}{pins ps:List (Addr×Obj)}{σ:St}{H:Hp}{s:Shared}{E:Value->Shared->Prop}(ok:X.Ok)(I:Inv (X.tryB pins E) ps σ H s):Inv X pins σ H s:=
 ⟨ok,I.os,I.bare,I.base,I.loc,I.cell,I.free,I.freeC,fun p hp=>I.pin p (List.mem_append_left _ hp),I.hok,I.len⟩
theorem SP.untry{X:Cx}{pins ps:List (Addr×Obj)}{E:Value->Shared->Prop}{D:Ends}{f:Flow}{s':Shared}(ok:X.Ok)(h:SP (X.tryB pins E) ps D f s'):SP X pins D f s':=by
 cases f with
 | next=>obtain ⟨σ',H',I,q⟩:=h;exact ⟨σ',H',I.untry ok,q⟩
 | brk=>obtain ⟨σ',H',I,q⟩:=h;exact ⟨σ',H',I.untry ok,q⟩
 | cont=>obtain ⟨σ',H',I,q⟩:=h;exact ⟨σ',H',I.untry ok,q⟩
 | ret u=>obtain ⟨v,σ',H',I,r,q⟩:=h;exact ⟨v,σ',H',I.untry ok,r,q⟩
theorem zBq{X:Cx}{pins:List (Addr×Obj)}{σ:St}{H:Hp}{s:Shared}{E:Value->Shared->Prop}{A:Around}{i:Nat}{n:Str}{pos:Pos}{Q:Unit->Shared->Prop}(I:Inv X pins σ H s)(hN:X.N.Nodup)(hi:X.N[i]?=some n)(hx:X.env.scope.names.lookup n=some .local)
  (h: ∀s',Inv X pins (σ.set i none) H s'->Q () s'):wpAny (model X.prog X.w) A (do bindName X.env n .none;unbindBehindTheSuite X.env n pos) Q E s:=by
 obtain ⟨m,hn,hl⟩:=id I.loc;have hcls:(X.env.scope.kind== .class ||(X.env.scope.kind== .module&&X.env.locals !=X.env.globals))=false:=by rw [I.ok.kind];rfl
 have hiσ:i<σ.length:=by rw [I.len];exact (zSd.mp hi).1
 obtain ⟨oL,_,_,hoL,_⟩:=id hn;refine wpAny_nameGoes_keeps hx hn hcls fun h' v hn' hs=>h _ ?_;refine ⟨I.ok,I.os,I.bare,⟨fun b o e n hb hx=>?_,fun b o e n hb hx=>?_,I.base.free,fun b o e hx=>?_,I.base.tups,I.base.frzs,I.base.tbls⟩,⟨_,hn',fun j y v' e1 e2 e3=>?_⟩,fun y c e=>?_,I.free,I.freeC,fun p hp=>?_,fun b ob e=>?_,by simpa using I.len⟩
 ·exact (hs.2 b (zRk (zRl (zRm e) I.ok.above))).trans (I.base.keep b o e n hb hx)
 ·obtain ⟨sl,e1⟩:=I.base.slot b o e n hb hx;exact ⟨sl,(hs.2 b (zRk (zRl (zRm e) I.ok.above))).trans e1⟩
 ·obtain ⟨o',e1⟩:=I.base.there b o e hx;exact ⟨o',(hs.2 b (zRk (zRl (zRm e) I.ok.above))).trans e1⟩
 ·by_cases hj:j=i
  ·subst hj;rw [List.getElem?_set_self hiσ] at e2;cases e2
  ·rw [List.getElem?_set_ne (Ne.symm hj)] at e2;obtain ⟨u',r',q⟩:=hl j y v' e1 e2 e3;refine ⟨u',r',?_⟩;rcases q with ⟨k,e⟩|⟨k,c,e,z⟩
   ·refine .inl ⟨k,?_⟩;have hne:y≠n:=fun e=>hj (zDn hN e1 (e▸hi));simp [hne,e]
   ·exact .inr ⟨k,c,e,z.sameBut hs (I.cne y c e)⟩
 ·obtain ⟨w',z⟩:=I.cell y c e;exact ⟨w',z.sameBut hs (I.cne y c e)⟩
 ·obtain ⟨e,n,ne,nf,d⟩:=I.pin p hp;exact ⟨(hs.2 p.1 ne).trans e,n,ne,nf,d⟩
 ·refine (I.hok b ob e).stay (fun c w' hc q=>(hs.2 c ?_).trans q) (fun _ q=>q) fun _ _ q=>q;intro z;subst z;rcases hc with y | y
  ·rw [<-y,I.free] at e;cases e
  ·rw [I.free] at y;cases y
open FrM
section
variable {X:Cx}{pos:Pos}
def zHf:V->Value->Prop
 | .ref a,c=>c= .ref a
 | .ty n,c=>c= .type n
 | _,_=>False
theorem zHf.eq{cv:V}{c v:Value}(h:zHf cv c)(r:ze cv v):v=c:=by
 cases cv<;>first | exact h.elim |(cases (show v=_ from r);cases (show c=_ from h);rfl)
def zNT(K:zSS):List V->Hp->VK->Prop:=fun xs H Q=> ∃x cv t c b,xs= [x,cv] /\zHf cv c/\TyOf K H x t/\PySem.W.kitOne K t c=some b/\Q (.bl b) H
theorem zCa:yV X (.builtin "isinstance") (zNT X.K):=by
 intro pins s σ H xs us Q I r h;obtain ⟨x,cv,t,c,b,rfl,rc,ty,e,q⟩:=h;obtain ⟨u,v,rfl,ru,rv⟩:=zT.two r;have ec:v=c:=rc.eq rv;subst ec;exact zJP I ru ty e fun tk=>⟨.bl b,H,I.tok tk,rfl,q⟩
theorem zCM(hu:X.A.units<cLine):OpR X (compareOp .Eq) (fun x y H Q=> ∃a b xs,x= .ref a/\y= .ref b/\SqL X.K H a xs/\SqL X.K H b [] /\Q (.bl xs.isEmpty) H):=by
 intro pins s σ H x y v u Q I rx ry h;obtain ⟨a,b,xs,rfl,rfl,ha,hb,q⟩:=h;cases rx;cases ry;obtain ⟨its,r,pl,_⟩:=I.list ha;obtain ⟨its',r',pl',_⟩:=I.list hb;cases r';cases r with
 | nil=>exact SeqAt.eq_listAt (e:=fun _=>true) pl.isList pl'.isList rfl hu (fun j h1 _=>absurd h1 (by simp)) ⟨.bl true,H,I,rfl,q⟩
 | cons r1 r2=>exact SeqAt.eq_list_lengthsAt pl.isList pl'.isList (by simp) hu ⟨.bl false,H,I,rfl,q⟩
theorem zDh(hu:X.A.units<cLine):OpR X (compareOp .NotEq) (fun x y H Q=> ∃a b xs,x= .ref a/\y= .ref b/\SqL X.K H a xs/\SqL X.K H b [] /\Q (.bl (!xs.isEmpty)) H):=by
 intro pins s σ H x y v u Q I rx ry h;obtain ⟨a,b,xs,rfl,rfl,ha,hb,q⟩:=h;cases rx;cases ry;obtain ⟨its,r,pl,_⟩:=I.list ha;obtain ⟨its',r',pl',_⟩:=I.list hb;cases r';cases r with
 | nil=>exact SeqAt.RcNeAt.lists (e:=fun _=>true) pl.isList pl'.isList rfl hu (fun j h1 _=>absurd h1 (by simp)) _ _ _ _ ⟨.bl false,H,I,rfl,q⟩
 | cons r1 r2=>exact SeqAt.RcNeAt.lists_lengths pl.isList pl'.isList (by simp) hu _ _ _ _ ⟨.bl true,H,I,rfl,q⟩
theorem Inv.tupl{pins:List (Addr×Obj)}{σ:St}{H:Hp}{s:Shared}{p:Addr}{xs:List V}(I:Inv X pins σ H s)(h:H p=some (.tup xs)): ∃its:List Value,zT xs its/\s.heap.IsTuple p its.toArray:=by
 obtain ⟨its,r,pl,_⟩:=I.tuple (SqT.of (K:=X.K) h);exact ⟨its,r,pl⟩
theorem zFt(n:Nat):(List.range n).all (fun _=>true)=true:=by
 rw [List.all_eq_true];intro _ _;rfl
end
theorem yr{h:Heap}{b:Addr}{o:Obj}(e:h.get? b=some o): @LT.lt Nat _ b h.objs.size:=zRm e
abbrev Cx.comp(X:Cx)(scope:Scope)(cl:List (Str×Addr))(C:Addr)(N:List Str)(s₂:Shared)(H₂:Hp)(fp:List Addr):Cx:=
 {X with N:=N,s₀:=s₂,H₀:=H₂,env:=compEnvC scope cl C X.env,outer:=X.stack,ex:=fp,fn:=fun _=>false,pn:= [],xe:=fun _ _=>False}
def yH(fr:List Nat)(σ:St):St:=fr.map fun i=>(σ[i]?).getD none
end L2
namespace PySem
open PySem.Spec
section
variable {prog:Program}{w:World}{A:Around}{E:Value->Shared->Prop}{h:Heap}{g:Array GenState}{d:Drawn}{t:Nat}{os:OsState}
variable {nm q:Str}{C N:Addr}{bs bm bmB:List Value}{hdct:Bool}{sn:List Str}{sub:List Value}{ab:Bool}{col:Option Bool}{dd:Option Addr}{k0 k1 k2 k3 k5:Option Value}{B newId initId:String}
theorem zFy(F:ExcBaseFacts B newId initId bmB)(T:OwnTail h bmB bm){mN:Str->Option Value}{rest:List Value}{fI:Addr}{oI:Obj}{Q:Fin->Shared->Prop}
  (hC:h.get? C=some (excClassObj nm q C N bs bm hdct sn sub ab col dd k0 k1 k2 k3 k5 newId)) (hn:h.Ns N mN) (hi:mN "__init__" =some (.ref fI))
  (hfI:h.get? fI=some oI) (hfc:oI.cls= .type "function")
  (hq: ∀h' e,h.objs.size<=e->Heap.MadeExcOf h h' e (.ref C) rest->
   wpAny (model prog w) A (call (.ref fI) (.ref e::rest)) (fun r s'=>r= .none/\Q (.done (.ret (.ref e))) s') E ⟨h',g,d,t,os⟩) (hrest:rest.length<=sizeLine):
  wpAny (model prog w) A (Builtin.«type.__call__» ⟨.ref C::rest,[]⟩) Q E ⟨h,g,d,t,os⟩:=by
 repeat (first | with_reducible refine wpAny_loadPart_at hC ?_ | with_reducible refine wpAny_madeBy_exc hC ?_ | wp_step)
 refine codeAny_call_builtin_code (Code.quiet_builtin _ F.quiet) (wpAny_check_new_subT F T hC ?_);refine codeAny_exc_new_subT F T hC ?_ hrest;show wpAny _ _ _ _ _ _;have hC₁:=zRe {cls:= .ref C,data:= .fields #[.ref h.objs.size,.none,.none,.none,.bool false,.none]}
  (zRe {cls:= .type "tuple",data:= .seq rest.toArray} hC)
 have hfI₁:=zRe {cls:= .ref C,data:= .fields #[.ref h.objs.size,.none,.none,.none,.bool false,.none]}
  (zRe {cls:= .type "tuple",data:= .seq rest.toArray} hfI)
 have hn₁:((h.push {cls:= .type "tuple",data:= .seq rest.toArray}).push {cls:= .ref C,data:= .fields #[.ref h.objs.size,.none,.none,.none,.bool false,.none]}).Ns N mN:=
  let ⟨o,es,ep,e,r⟩:=hn;⟨o,es,ep,zRe _ (zRe _ e),r⟩
 have hget:((h.push {cls:= .type "tuple",data:= .seq rest.toArray}).push
   {cls:= .ref C,data:= .fields #[.ref h.objs.size,.none,.none,.none,.bool false,.none]}).get? (h.objs.size+1)=some
   {cls:= .ref C,data:= .fields #[.ref h.objs.size,.none,.none,.none,.bool false,.none]}:=by heap_get
 have hcC:(Value.ref C::bm).contains (.ref C)=true:=by simp
 have T₁:=T.keeps (h':=(h.push {cls:= .type "tuple",data:= .seq rest.toArray}).push {cls:= .ref C,data:= .fields #[.ref h.objs.size,.none,.none,.none,.bool false,.none]})
  fun b o e=>zRe _ (zRe _ e)
 unfold isInstance
 repeat (first | with_reducible refine wpAny_loadPart_at hget ?_ |(with_reducible refine wpAny_isSubtype_exc hC₁ ?_;rw [hcC])| wp_step)
 show wpAny _ _ (typeLookup (.ref C) _) _ _ _;refine wpAny_typeLookup_tail hC₁ hn₁ T₁ F.mroIs F.init.lookup ?_;rw [hi];refine zSN (zRd ?_);unfold bindSpecial;refine zRd (wpAny_typeOf (T:= "function") ⟨_,hfI₁,hfc⟩ ?_);rw [if_pos (by decide)];refine zRi (zRd (zRw (hq _ (h.objs.size+1) (Nat.le_succ _) ⟨fun b o hb=>zRe _ (zRe _ hb),Heap.get?_none_of_le (Nat.le_succ _),h.objs.size,hget,Heap.get?_none_of_le (zRg _),?_⟩) (fun r s' hr=>?_) fun _ _ x=>x))
 ·exact zRe _ (Heap.get?_push_at rfl rfl)
 ·obtain ⟨rfl,hQ⟩:=hr
  wp_walk
  exact hQ
theorem zLr(F:ExcBaseFacts B newId initId bmB)(T:OwnTail h bmB bm){mN:Str->Option Value}{rest:List Value}{fI:Addr}{oI:Obj}{Q:Value->Shared->Prop}
  (hC:h.get? C=some (excClassObj nm q C N bs bm hdct sn sub ab col dd k0 k1 k2 k3 k5 newId)) (hn:h.Ns N mN) (hi:mN "__init__" =some (.ref fI))
  (hfI:h.get? fI=some oI) (hfc:oI.cls= .type "function")
  (hq: ∀h' e,h.objs.size<=e->Heap.MadeExcOf h h' e (.ref C) rest->
   wpAny (model prog w) (A.under (.builtin "type.__call__" ⟨.ref C::rest,[]⟩)) (call (.ref fI) (.ref e::rest)) (fun r s'=>r= .none/\Q (.ref e) s') E ⟨h',g,d,t,os⟩) (hrest:rest.length<=sizeLine):
  wpAny (model prog w) A (call (.ref C) rest) Q E ⟨h,g,d,t,os⟩:=by
 have f1:=tc_lookup;have f2:=tc_bind (.ref C);have hT:(⟨h,g,d,t,os⟩:Shared).TypeIs (.ref C) "type" :=⟨_,hC,rfl⟩;refine wpAny_call (codeAny_of_tree ?_);show wpAny _ _ (callAny (.ref C) _) _ _ _
 repeat (any_goals (first | assumption | with_reducible refine wpAny_loadPart_at hC ?_ | wp_step))
 refine ⟨rfl,?_⟩;refine codeAny_call_builtin_at (Code.quiet_builtin _ (by decide+kernel)) entry_typeCall (wpAny_check_type_call_sub hC (zFy (hrest:=hrest) F T hC hn hi hfI hfc fun h' e hl hm=>?_));exact hq h' e hl hm
end
end PySem
namespace PySem.W
open PySem PySem.Calls PyProof.Rows Builtin Builtin.ObjectAttr Builtin.Getset_descriptor
def excMro:List Value->Bool
 | .ref _::r=>excMro r
 | l=>l== [.type "ValueError",.type "Exception",.type "BaseException",.type "object"]
theorem zIH{l:List Value}(h:excMro l=true):(∃c r,l= .ref c::r/\excMro r=true)\/l= [.type "ValueError",.type "Exception",.type "BaseException",.type "object"] :=by
 unfold excMro at h;split at h
 ·exact .inl ⟨_,_,rfl,h⟩
 ·exact .inr (beq_iff_eq.mp h)
theorem zEG(self:Value): ∀{l:List Value},excMro l=true->refuseLoop self "__setattr__" l=pure ()
 | [],e=>by cases e
 | v::r,e=>by
  rcases zIH e with ⟨c,r',z,e'⟩| z
  ·cases z;rw [refuseLoop_ref];exact zEG self e'
  ·rw [z];exact PySem.F.store_ValueError.passes self
section
variable {prog:Program}{w:World}{A:Around}{E:Value->Shared->Prop}{s:Shared}{K:Frag}{x C:Addr}{ox:Obj}{od:Option Obj}{name:Str}{R:Result->Shared->Prop}
theorem zKN{tk:Tok}{v:Value}(X:K.In s.heap)(I:InstAt s.heap x ox C od)(hp:(clsIn K C).any (fun cd=>excMro cd.mro)=true)(hob:mroIn K C (.type "object")=some true)(ht:takerIn K C name=some none)
  (h: ∀b,wpAny (model prog w) A.in1 (storeInOwnDict (.ref x) (.ref C) (.str name tk) name v b)
   (fun fin s'=>match fin with | .done f=>R (.ok f) s' | .again c'=>c'.quiet=true/\codeAny (model prog w) A c' R s') (fun e s'=>R (.error e) s') s):
  codeAny (model prog w) A (.call (.builtin "object.__setattr__") ⟨[.ref x,.str name tk,v],[]⟩) R s:=by
 have SF:=PySem.F.store_object;obtain ⟨cd,hc,ho⟩:=any_some hp;have sub:Looks (model prog w) s.heap (isInstance (.ref x) (.type "object")) true:=I.type.andThen (looks_mroIn X hob);refine codeAny_call_builtin SF.slot.plain SF.entry (@check_slot (model prog w) _ _ s "object.__setattr__" "object" "__setattr__" (.ref x) [.str name tk,v] [] _ SF.kind SF.split sub (SF.args (.ref x) (.str name tk) v) ?_);obtain ⟨attr,ha,hr⟩:=Option.bind_eq_some_iff.mp ht;have hm:Looks (model prog w) s.heap (mroOf (.ref C)) cd.mro:=(looks_clsIn X hc).andThen .now;have L3:Looks (model prog w) s.heap (storeTaker? attr) none:=by
  cases attr with
  | none=>cases hr;exact .now
  | some a=>
   obtain ⟨b,hb,hb2⟩:=Option.map_eq_some_iff.mp hr;refine (looks_takesIn X hb).andThen ?_;cases b with
   | true=>cases hb2
   | false=>exact .now
 rw [osa_eq,refuse_eq];refine zRd (zRd (I.type.here (zRd (hm.here ?_))));rw [zEG _ ho];refine zRi (zRd (I.type.here (zRd ((looks_findIn X ha).here (zRd (L3.here ?_))))));exact h _
theorem zHQ{tk:Tok}{fill expr:Bool}{Q:Value->Shared->Prop}(X:K.In s.heap)(L0:Looks (model prog w) s.heap (typeOf (.ref x)) (.ref C))(hga:findIn K (.ref C) "__getattribute__" =some (some (.builtin "BaseException.__getattribute__")))
  (hgn:findIn K (.ref C) "__getattr__" =some none) (hbe:mroIn K C (.type "BaseException")=some true)
  (h:wpAny (model prog w) A.in1 (Builtin.«object.__getattribute__» ⟨[.ref x,.str name tk],[]⟩) (fun fin s'=>match fin with | .done (.ret v)=>wpAny (model prog w) A (handedOut v) Q E s' | _=>False) (fun _ _=>False) s):
  wpAny (model prog w) A (getAttrBy (.ref x) (.str name tk) fill expr) Q E s:=by
 have L1:=looks_findIn (M:=model prog w) X hga;have L2:=looks_findIn (M:=model prog w) X hgn;have sub:Looks (model prog w) s.heap (isInstance (.ref x) (.type "BaseException")) true:=L0.andThen (looks_mroIn X hbe);have hx2:(Value.builtin "BaseException.__getattribute__" ==Value.builtin "object.__getattribute__")=false:=by decide+kernel
 have FB:=PySem.F.attr_ValueError;unfold getAttrBy;refine zSN (zRd (L0.here (zRd (L1.here ?_))));dsimp only;rw [hx2,Bool.and_false,if_neg (by decide)];unfold getAttrByItsOwn hookBefore;rw [if_pos (show onTheHeap (.ref C)=true from rfl)];refine zRd (L2.here (zRd (wpAny_attempt (zSN ?_))));unfold callGetattribute;rw [if_neg (by cases expr<;>decide)];unfold boundAndCalled;rw [FB.ga.bind (.ref x)];refine zRd (zRi (wpAny_call (codeAny_call_builtin FB.ga.plain PySem.F.entry_bexc_ga (@check_slot (model prog w) _ _ s "BaseException.__getattribute__" "BaseException" "__getattribute__" (.ref x) [.str name tk] [] _ (by decide+kernel) (by decide+kernel) sub (PySem.F.args_bexc_ga (.ref x) (.str name tk)) ?_))));refine zRw h (fun fin s' z=>?_) fun _ _ z=>z.elim;rcases fin with (_ | _ | _ | _)| _<;>first | exact z | exact z.elim
theorem xset0{v:Value}{o:Obj}{Q:Unit->Shared->Prop}(X:K.In s.heap)(hs:findIn K (.ref C) "__setattr__" =some (some (.builtin "object.__setattr__")))(hp:(clsIn K C).any (fun cd=>excMro cd.mro)=true)
  (hob:mroIn K C (.type "object")=some true) (ht:takerIn K C name=some none) (hh:hasDictIn K C=true) (hx:s.heap.get? x=some o) (hc:o.cls= .ref C) (hno:notCls o=true) (hdn:o.dict=none)
  (h: ∀h' tk,h'.get? x=some {o with dict:=some s.heap.objs.size}->h'.Ns1 s.heap.objs.size (fun y=>if y=name then some v else none)->
   (∀b ob,b≠x->s.heap.get? b=some ob->h'.get? b=some ob)->Q () {s with heap:=h',toks:=tk}):wpAny (model prog w) A (setAttr (.ref x) name v) Q E s:=by
 obtain ⟨hp0,g,d,t,os⟩:=s;dsimp only at X hx h;obtain ⟨oc,odi,oda,osl⟩:=o;dsimp only at hc hdn;subst hc hdn;have I:InstAt hp0 x ⟨.ref C,none,oda,osl⟩ C none:=⟨hx,rfl,hno,trivial⟩;refine set_plain (s:=⟨hp0,g,d,t,os⟩) X I hs (zKN (s:=⟨hp0,g,d,t+1,os⟩) X I hp hob ht fun b=>?_);obtain ⟨cd,hc,hd'⟩:=any_some hh;refine zRd (zRi (zRd (zRd (wpAny_loadPart hx (zRd (Looks.here (s:=⟨hp0,g,d,t+1,os⟩) (looks_clsIn X hc) ?_))))));rw [hd'];have hxs:x≠hp0.objs.size:=zRk (zRm hx);have hx₁:(hp0.push {cls:= .type "dict",data:= .dict #[]}).get? x=some ⟨.ref C,none,oda,osl⟩:=zRe _ hx;have hgd:((hp0.push {cls:= .type "dict",data:= .dict #[]}).update x fun o=>{cls:=o.cls,dict:=some hp0.objs.size,data:=o.data,slots:=o.slots}).get? hp0.objs.size
   =some {cls:= .type "dict",data:= .dict #[]}:=
  (Heap.get?_update_ne _ _ _ _ hxs.symm).trans (Heap.get?_push_at rfl rfl)
 have hnd:((hp0.push {cls:= .type "dict",data:= .dict #[]}).update x fun o=>{cls:=o.cls,dict:=some hp0.objs.size,data:=o.data,slots:=o.slots}).Ns hp0.objs.size (fun _=>none):=
  ⟨_,#[],_,hgd,rfl,fun e he=>absurd he (by simp),fun _=>rfl⟩
 have hnc: ∀c,oda≠ .cls c:=fun c z=>by subst z;cases hno
 rw [if_neg (by decide)];dsimp only;rw [if_neg (by simp [typeHasDict])];split
 ·exact absurd (by first | assumption | rfl) (hnc _)
 ·refine zRd (wpAny_alloc' ?_);refine zRd (wpAny_update' hx₁ ?_);refine zRi ?_;show wpAny _ _ (storeInDict hp0.objs.size (.str name _) name v) _ _ _;unfold storeInDict newKeyGuard;refine zRd (zRi (zRd (wpAny_nsSet1 (Heap.Ns1.of_empty hnd) fun h' hn' hs=>?_)));obtain ⟨oD,esD,epD,hoD,hdD,hcD⟩:=hn'.count (PySem.Within.cons name v PySem.Within.nil);refine zRd (wpAny_lookBehind hoD (by rw [hdD];exact pastItsLine_dict (zRq hcD (by rw [zSa,List.length_nil,zRn];omega))) ?_);refine zRi ?_;refine h h' _ ?_ hn' fun b ob hbx hb=>(hs.2 b (zRk (zRm hb))).trans ((Heap.get?_update_ne _ _ _ _ hbx).trans (zRe _ hb));refine (hs.2 x hxs).trans (zSK _ hx₁ ?_);have hfr:=(Heap.get?_some_iff.mp hx).2;cases oda<;>first | rfl | exact hfr
theorem xget_value{v:Value}{expr:Bool}{Q:Value->Shared->Prop}(X:K.In s.heap)(I:InstAt s.heap x ox C od)(hga:findIn K (.ref C) "__getattribute__" =some (some (.builtin "BaseException.__getattribute__")))
  (hgn:findIn K (.ref C) "__getattr__" =some none) (hbe:mroIn K C (.type "BaseException")=some true) (hf:findObj K C od name=some (.value v)) (hh:handedIn v=true) (h:Q v {s with toks:=s.toks+1}):
  wpAny (model prog w) A (getAttr (.ref x) name expr) Q E s:=by
 obtain ⟨hp0,g,d,t,os⟩:=s;have L0:=I.type (M:=model prog w);have L1:=looks_find (M:=model prog w) X I hf;unfold getAttr;refine zRd (wpAny_mkText (zHQ (s:=⟨hp0,g,d,t+1,os⟩) X L0 hga hgn hbe ?_));refine zRd (zRi (zRd (zRi (zRd (L0.at (zRd (L1.at ?_)))))));refine zRi ?_;show wpAny _ _ (handedOut v) _ _ _;rw [handedOut_of hh];exact zRi h
theorem zIE{tp:Value}(X:K.In s.heap)(L0: ∀M,Looks M s.heap (typeOf (.ref x)) (.ref C))(hm:mroIn K C (.type "object")=some true)
  (h:R (.ok (.ret (.ref C))) s):codeAny (model prog w) A (.call (.builtin "getset_descriptor.__get__") ⟨[.builtin "object.__class__",.ref x,tp],[]⟩) R s:=by
 obtain ⟨hh,g,dr,t,os⟩:=s;have L0:=L0 (model prog w);have L1:=looks_mroIn (M:=model prog w) X hm;refine codeAny_call_builtin KF.slot_gs.plain KF.entry_gs (KF.slot_gs.check _ _ _ _ _ _ _ _ KF.type_class (KF.args_gs _ _ _) ?_);unfold Builtin.«getset_descriptor.__get__» descrGet;rw [dga_obj];refine zRd (zRi ?_);unfold descrGetter descrCheckInstance descrNameAndClass isInstance;simp only [KF.owner_class]
 repeat lk
 refine ⟨Code.quiet_builtin _ (by decide+kernel),codeAny_builtin KF.entry_class ?_⟩;unfold Builtin.«object.__class__» shownTypeOf
 repeat lk
 exact h
theorem zGq(X:K.In s.heap)(ha:findIn K (.ref C) "__class__" =some (some (.builtin "object.__class__")))
  (hn:specialIn K (.builtin "object.__class__") "__get__" =some (some (.builtin "getset_descriptor.__get__"))) (htk:takesIn K (.builtin "object.__class__")=some true) (M:Model):
  Looks M s.heap (find (.ref x) (.ref C) "__class__") (.bind (.builtin "getset_descriptor.__get__") (.builtin "object.__class__")):=by
 have L1:=looks_findIn (M:=M) X ha;have L2:Looks M s.heap (getOf (some (.builtin "object.__class__"))) (some (.builtin "getset_descriptor.__get__")):=looks_specialIn X hn;have L3:=looks_takesIn (M:=M) X htk;refine L1.andThen (L2.andThen ?_);refine Looks.andThen (L3.andThen .now) ?_;exact Looks.tag .now
theorem xclass{Q:Option Value->Shared->Prop}(X:K.In s.heap)(L0: ∀M,Looks M s.heap (typeOf (.ref x)) (.ref C))(hga:findIn K (.ref C) "__getattribute__" =some (some (.builtin "BaseException.__getattribute__")))
  (hgn:findIn K (.ref C) "__getattr__" =some none) (hbe:mroIn K C (.type "BaseException")=some true) (hob:mroIn K C (.type "object")=some true)
  (ha:findIn K (.ref C) "__class__" =some (some (.builtin "object.__class__"))) (hn:specialIn K (.builtin "object.__class__") "__get__" =some (some (.builtin "getset_descriptor.__get__"))) (htk:takesIn K (.builtin "object.__class__")=some true)
  (h:Q (some (.ref C)) {s with toks:=s.toks+1}):wpAny (model prog w) A (getAttr? (.ref x) "__class__") Q E s:=by
 have L1:=zGq (x:=x) X ha hn htk (model prog w);obtain ⟨hp0,g,d,t,os⟩:=s;unfold getAttr? getAttrBy?;refine zRd (wpAny_mkText (zRd (wpAny_attempt (zHQ (s:=⟨hp0,g,d,t+1,os⟩) X (L0 _) hga hgn hbe ?_))));refine zRd (zRi (zRd (zRi (zRd ((L0 _).at (zRd (L1.at ?_)))))));show wpAny _ _ (bindTo _ _ _ _) _ _ _;unfold bindTo;refine zRd (zSN (wpAny_call (zIE (s:=⟨hp0,g,d,t+1,os⟩) X L0 hob ?_)));refine zRi ?_;show wpAny _ _ (handedOut (.ref C)) _ _ _;rw [handedOut_of rfl];exact zRi (zRi h)
end
end PySem.W
namespace L2
open PySem PySem.Spec PyProof.Rows
structure XCls(K:zSS)(C:Addr):Prop where
 ga:PySem.W.findIn K (.ref C) "__getattribute__" =some (some (.builtin "BaseException.__getattribute__"))
 gn:PySem.W.findIn K (.ref C) "__getattr__" =some none
 sa:PySem.W.findIn K (.ref C) "__setattr__" =some (some (.builtin "object.__setattr__"))
 be:PySem.W.mroIn K C (.type "BaseException")=some true
 ob:PySem.W.mroIn K C (.type "object")=some true
 mro:(PySem.W.clsIn K C).any (fun cd=>PySem.W.excMro cd.mro)=true
 hd:PySem.W.hasDictIn K C=true
 ca:PySem.W.findIn K (.ref C) "__class__" =some (some (.builtin "object.__class__"))
 cg:PySem.W.specialIn K (.builtin "object.__class__") "__get__" =some (some (.builtin "getset_descriptor.__get__"))
 ct:PySem.W.takesIn K (.builtin "object.__class__")=some true
theorem zEj{a C:Addr}{h:Heap}(k:KAt a (.ref C) h)(M:Model):PySem.W.Looks M h (typeOf (.ref a)) (.ref C):=by
 obtain ⟨o,h1,h2⟩:=k;exact h2▸(PySem.W.Looks.ld h1).andThen .now
theorem zGa{K:zSS}{a C:Addr}(c:XCls K C):PySem.W.KitX K (.ref a) (.ref C) (KAt a (.ref C)) where
 ty:=fun M h _ p=>zEj p M
 it:=fun _ _ X _=>by
  obtain ⟨cdD,hcD,_⟩:=PySem.W.any_some c.hd;unfold PySem.W.clsIn at hcD;split at hcD
  ·rename_i c' d' cd' sl' ho
   intro A' Q' E' s' k q;unfold isType loadHead;exact zRd (wpAny_loadPart (k _ _ (X _ _ ho)) (zRi q))
  ·cases hcD
 ne:=fun h tp dd its n sl X htp=>by
  obtain ⟨cdD,hcD,_⟩:=PySem.W.any_some c.hd;refine Bool.eq_false_iff.mpr fun q=>?_;have e:C=tp:=Value.ref.inj (beq_iff_eq.mp q);subst e;unfold PySem.W.clsIn at hcD;split at hcD
  ·rename_i c' d' cd' sl' ho
   have z:=(X _ _ ho).symm.trans htp;cases z
  ·cases hcD
 ca:=fun X p k=>PySem.W.xclass X (zEj p) c.ga c.gn c.be c.ob c.ca c.cg c.ct k
def zKh(K:zSS):List V->Hp->VK->Prop:=fun xs H Q=> ∃ea C cv c b φ,xs= [.ref ea,cv] /\zHf cv c/\H ea=some (.ext φ)/\(∀h,φ h->KAt ea (.ref C) h)/\XCls K C/\PySem.W.kitOne K (.ref C) c=some b/\Q (.bl b) H
theorem zJQ{X:Cx}:yV X (.builtin "isinstance") (zKh X.K):=by
 intro pins s σ H xs us Q I r h;obtain ⟨ea,C,cv,c,b,φ,rfl,rc,hH,hφ,xc,e,q⟩:=h;obtain ⟨u,v,rfl,ru,rv⟩:=zT.two r;cases (show u=_ from ru);have ec:v=c:=rc.eq rv;subst ec;obtain ⟨p,_⟩:=(show zx X.prog X.w H s.heap ea (.ext φ) from I.hok ea _ hH);exact zSM (zGa xc) I.kIn (hφ _ p) e (fun z=>nomatch z) fun tk=>⟨.bl b,H,I.tok tk,rfl,q⟩
theorem zn{X:Cx}{K:zSS}(h:X.K=K):yV X (.builtin "isinstance") (zNT K):=by
 subst h;exact zCa
theorem zEB{X:Cx}{K:zSS}(h:X.K=K):yV X (.builtin "isinstance") (zKh K):=by
 subst h;exact zJQ
theorem PE.imp{X:Cx}{e:Expr}{t t':TE}(h:PE X e t)(f: ∀σ H Q,t' σ H Q->t σ H Q):PE X e t':=fun pins s σ H Q I q=>h pins s σ H Q I (f σ H Q q)
def XOf(a C:Addr)(dx:Option Addr)(h:Heap):Prop:= ∃o,h.get? a=some o/\o.cls= .ref C/\PySem.W.notCls o=true/\o.dict=dx/\ ∃t,o.data= .fields #[.ref t,.none,.none,.none,.bool false,.none]
def XO(a C:Addr)(dx:Option Addr):HO:= .ext (XOf a C dx)
def XDf(a:Addr)(fs:List (Str×V))(h:Heap):Prop:= ∃mA,h.Ns1 a mA/\(∀f,zBA (fs.lookup f) (mA f))/\PySem.Within mA (fs.map (·.1))
def XD(a:Addr)(fs:List (Str×V)):HO:= .ext (XDf a fs)
theorem zKe{P:Program}{w:World}{H:Hp}{h:Heap}{a C:Addr}{dx:Option Addr}(x:XOf a C dx h):zx P w H h a (XO a C dx):=by
 obtain ⟨o,e,r⟩:=x;exact ⟨⟨o,e,r⟩,⟨o,e⟩,fun h1 h2 ⟨o1,e1,r1⟩ k=>⟨o1,k o1 e1,r1⟩⟩
theorem zPp{P:Program}{w:World}{H:Hp}{h:Heap}{a:Addr}{fs:List (Str×V)}(x:XDf a fs h):zx P w H h a (XD a fs):=by
 obtain ⟨mA,⟨o,es,ep,ho,q⟩,r⟩:=x;exact ⟨⟨mA,⟨o,es,ep,ho,q⟩,r⟩,⟨o,ho⟩,fun h1 h2 ⟨m1,⟨o1,es1,ep1,ho1,q1⟩,r1⟩ k=>⟨m1,⟨o1,es1,ep1,k o1 ho1,q1⟩,r1⟩⟩
theorem zNs{f:Str}{y:V}{u:Value}(ry:ze y u)(g:Str):zBA ((([(f,y)] :List (Str×V))).lookup g) (if g=f then some u else none):=by
 by_cases q:g=f
 ·subst q;simp only [List.lookup_cons,beq_self_eq_true,if_true];exact ry
 ·have:(g==f)=false:=by simpa using q
  simp only [List.lookup_cons,this,List.lookup_nil,if_neg q];exact True.intro
section
variable {X:Cx}{o e value:Expr}{f:Str}{pos pos':Pos}{ta tv:TE}
def sX0(K:zSS)(ta tv:TE)(f:Str):TS:=fun D σ H=>tv σ H fun y H1=>ta σ H1 fun x H2=> ∃a C,x= .ref a/\H2 a=some (XO a C none)/\XCls K C/\ye K C f/\ ∀dx,H2 dx=none->dx≠a->D.nx σ (upd (upd H2 dx (XD dx [(f,y)])) a (XO a C (some dx)))
theorem zJy(ha:PE X o ta)(hv:PE X value tv)(hs:swapsWith value (some (.Attribute o f pos')) pos.line X.env=pure false):PS X (.Assign [.Attribute o f pos'] value pos) (sX0 X.K ta tv f):=by
 intro pins s σ H D I h;refine plainObj_wpAny_Assign_Attribute (zb (hv pins s σ H _ I h) fun u s1 ⟨y,H1,I1,ry,q⟩=>zb (ha pins s1 σ H1 _ I1 q) fun ov s2 ⟨x,H2,I2,rx,a,C,ex,ea,c,n,q2⟩=>?_) hs;subst ex;obtain rfl:ov=Value.ref a:=rx;obtain ⟨⟨o,ho,hc,hn,hd,td,hdt⟩,_⟩:=(show zx X.prog X.w H2 s2.heap a (XO a C none) from I2.hok a _ ea);have hlt:=zRm ho;have hf:H2 s2.heap.objs.size=none:=I2.hok.fresh (zRg _);have hne:s2.heap.objs.size≠a:=zSL hlt;refine PySem.W.xset0 I2.kIn c.sa c.mro c.ob n.taker c.hd ho hc hn hd fun h' tk hx' hns hk=>⟨σ,_,?_,q2 s2.heap.objs.size hf hne⟩;have nb: ∀b ob,s2.heap.get? b=some ob->b≠s2.heap.objs.size:=fun b ob e=>zRk (zRm e);have un:Un X.fs [] H2 (upd (upd H2 s2.heap.objs.size (XD s2.heap.objs.size [(f,y)])) a (XO a C (some s2.heap.objs.size))) s2.heap h':=by
  refine ⟨fun b ob e n hb _=>hk b ob (fun z=>by rw [z,ea] at n;cases n) e,fun b ob e n hb _=>⟨ob.slots,hk b ob (fun z=>by rw [z,ea] at n;cases n) e⟩,fun b ob e n _=>?_,fun b ob e _=>?_,fun b xs e=>?_,fun b ob u e=>?_,fun b ps e=>?_⟩
  ·rw [zQ (fun z=>by rw [z,ea] at n;cases n),zQ (nb b ob e)];exact n
  ·by_cases z:b=a
   ·subst z;exact ⟨_,hx'⟩
   ·exact ⟨ob,hk b ob z e⟩
  ·rw [zQ (zEE e ea (by intro z;cases z)),zQ (zm e hf)];exact e
  ·rw [zQ (zEE e ea (by intro z;cases z)),zQ (zm e hf)];exact e
  ·exact ⟨#[],by rw [zQ (zEE e ea (by intro z;cases z)),zQ (zm e hf),Array.append_empty];exact e⟩
 refine I2.un un fun b u e=>?_;by_cases z:b=a
 ·subst z;rw [zD] at e;cases e;exact zKe ⟨_,hx',hc,by cases o;exact hn,rfl,td,hdt⟩
 ·rw [zQ z] at e;by_cases z2:b=s2.heap.objs.size
  ·subst z2;rw [zD] at e;cases e;refine zPp ⟨_,hns,fun g=>zNs ry g,?_⟩;exact PySem.Within.cons f u PySem.Within.nil
  ·rw [zQ z2] at e;refine (I2.hok b u e).stay (fun c' w' hc' e'=>hk c' w' ?_ e') (fun c' e'=>?_) fun c' xs e'=>?_
   ·rcases hc' with rfl | y'
    ·exact z
    ·intro zz;rw [zz,ea] at y';cases y'
   ·rw [zQ (zEE e' ea (by intro zz;cases zz)),zQ (zm e' hf)];exact e'
   ·rw [zQ (zEE e' ea (by intro zz;cases zz)),zQ (zm e' hf)];exact e'
end
def zET(K:zSS)(C f:Addr):Bool:=match K.lookup C with
 | some ⟨.type "type",_,.cls cd,sl⟩=>(match cd.mro,sl.toList with
  | .ref C'::bm,[_,_,_,_,some (.builtin n),_] =>C'==C&&n== "ValueError.__new__" &&!cd.hasDel&&PySem.W.tailIn K [.type "ValueError",.type "Exception",.type "BaseException",.type "object"] bm&&PySem.W.nsOkIn K cd.ns&&PySem.W.nsIn K cd.ns "__init__" ==some (some (.ref f))
  | _,_=>false)
 | _=>false
structure MkX(K:zSS)(C f:Addr):Prop where
 ex:zET K C f=true
 fn:PySem.W.isFn K (.ref f)=true
 kp:PySem.W.keepIn K (.ref C)=true
theorem zJY{K:zSS}{N:Addr}{h:Heap}{mg:Str->Option Value}{n:Str}{v:Value}(X:K.In h)(G:h.Ns N mg)(e:PySem.W.nsIn K N n=some (some v)):mg n=some v:=by
 obtain ⟨o,es,ep,ho,hd,_,hf⟩:=G;unfold PySem.W.nsIn at e;split at e
 ·rename_i c d es' n' sl q
  have:=X _ _ q;rw [ho] at this;cases this;cases hd;split at e
  ·rename_i en he
   cases e;rw [<-hf];unfold nsFind findBy;rw [<-Array.find?_toList,he];rfl
  ·split at e<;>cases e
 ·cases e
theorem zHD{K:zSS}{h:Heap}{C f:Addr}(X:K.In h)(q:zET K C f=true):
  ∃bm N nm qn bs hdct sn sub ab col dd k0 k1 k2 k3 k5 mN,h.get? C=some (excClassObj nm qn C N bs bm hdct sn sub ab col dd k0 k1 k2 k3 k5 "ValueError.__new__")/\h.Ns N mN/\mN "__init__" =some (.ref f)/\OwnTail h [.type "ValueError",.type "Exception",.type "BaseException",.type "object"] bm:=by
 unfold zET at q;split at q
 ·rename_i dd cd sl ho
  split at q
  ·rename_i C' bm k0 k1 k2 k3 n k5 hm hs
   simp only [zSU,beq_iff_eq,zSe] at q;obtain ⟨⟨⟨⟨⟨z1,z2⟩,hdel⟩,ht⟩,hok⟩,hni⟩:=q;subst z1 z2;obtain ⟨nm,bs,mro,ns,qn,hd,sn,sub,ab,col,del⟩:=cd;dsimp only at hm hdel hok hni;subst hm hdel;have hsl:sl= #[k0,k1,k2,k3,some (.builtin "ValueError.__new__"),k5] :=by
    obtain ⟨l⟩:=sl;simp only at hs;rw [hs]
   subst hsl;have hns:=PySem.W.isNs_of_in X hok;exact ⟨bm,ns,nm,qn,bs,hd,sn,sub,ab,col,dd,k0,k1,k2,k3,k5,_,X _ _ ho,.of_isNs hns,zJY X (.of_isNs hns) hni,PySem.W.tail_of_in X ht⟩
  ·cases q
 ·cases q
section
variable {X:Cx}{CX:CXT}{k:Nat}{f C:Addr}{fd:FuncData}{ps:List Str}{sp:Sp}{E:XK}{x:Str}{p pos:Pos}{e:Expr}{es:List Expr}{t:TA}
end
def yB:Expr->Bool
 | .Starred ..=>false
 | _=>true
theorem zt{e:Expr}{es:List Expr}{env:Env}(h:yB e=true):starEach (e::es) env=(false,eval e env)::starEach es env:=by
 cases e<;>first | rfl | cases h
structure QE(X:Cx)(e:Expr)(t:TE):Prop where
 out:PE X e t
structure QA(X:Cx)(es:List Expr)(t:TA):Prop where
 out:PA X es t
section
variable {X:Cx}{a:Expr}{es:List Expr}{ta:TE}{t:TA}{j:Nat}{pos:Pos}
theorem qc(ha:QE X a ta)(hr:QA X es t)(h:yB a=true):QA X (a::es) (zFP ta t):=⟨yL ha.out hr.out (zt h)⟩
theorem zA:QA X [] zHv:=⟨zAA⟩
theorem zC{i:Int}:QE X (.Constant (.int i) j pos) (tC (.int i)):=⟨yS⟩
theorem yh{b:Bool}:QE X (.Constant (.bool b) j pos) (tC (.bl b)):=⟨zHe⟩
theorem zG{x:Str}:QE X (.Constant (.str x) j pos) (tC (.str x)):=⟨zOZ⟩
theorem zBp:QE X (.Constant .none j pos) (tC .non):=⟨zNm⟩
theorem zJ(h:QA X es t):QE X (.Tuple es j pos) (zNZ t):=⟨zOa h.out⟩
theorem zW(h:QA X es t):QE X (.List es pos) (zOW t):=⟨zIx h.out⟩
theorem zDD(h:QE X a ta):QE X (.UnaryOp .USub a pos) (tUn (rU fun i=> .int (-i)) ta):=⟨zQP zOR h.out⟩
end
open FrM
structure QT(X:Cx)(e:Expr)(t:TT):Prop where
 out:PT X e t
structure QW(X:Cx)(e:Expr)(t:TT):Prop where
 out:PW X e t
structure QS(X:Cx)(st:Stmt)(t:TS):Prop where
 out:PS X st t
structure QB(X:Cx)(b:List Stmt)(t:TS):Prop where
 out:PSs X b t
structure QI(X:Cx)(tg iter:Expr)(t:TI):Prop where
 out:PI X tg iter t
structure QG(X:Cx)(tg:Expr)(t:TG):Prop where
 out:PG X tg t
structure QGs(X:Cx)(tg:List Expr)(t:TGs):Prop where
 out:PGs X tg t
def yk:List Expr->Bool
 | [] =>true
 | e::es=>yB e&&yk es
theorem yj{pos:Pos}{env:Env}: ∀{es:List Expr},yk es=true->(backTo pos (starEach es env)).any (·.1)=false
 | [],_=>rfl
 | e::es,h=>by
  have h2:yB e=true/\yk es=true:=by simpa [yk] using h
  rw [zt h2.1];show (false ||(backTo pos (starEach es env)).any (·.1))=false;rw [yj h2.2];rfl
section
variable {X:Cx}{K:zSS}{a b c e o:Expr}{es rest:List Expr}{ta tb tc te to:TE}{tA tB':TT}{t:TA}{x:Str}{p pos pos' apos cpos:Pos}{j i:Nat}
def okV(X:Cx)(i:Nat)(x:Str)(k:NameKind):Bool:=X.N[i]?==some x&&(X.env.scope.names.lookup x==some k&&(!(x==("__debug__" :Str))&&!(x==("__classdict__" :Str))))
theorem zHA{k:NameKind}(h:okV X i x k=true):X.N[i]?=some x/\X.env.scope.names.lookup x=some k/\(x==("__debug__" :Str))=false/\(x==("__classdict__" :Str))=false:=by
 unfold okV at h;rw [zSU,zSU,zSU,beq_iff_eq,beq_iff_eq,zSe,zSe] at h;exact h
theorem qw(i:Nat)(h:okV X i x .local=true):QE X (.Name x pos) (zGY i):=let ⟨a,b,c,d⟩:=zHA h;⟨zGI a (.inl b) c d⟩
theorem qx(i:Nat)(h:okV X i x .cell=true):QE X (.Name x pos) (zGY i):=let ⟨a,b,c,d⟩:=zHA h;⟨zGI a (.inr (.inl b)) c d⟩
def okB(x:Str)(e:Expr)(es:List Expr):Bool:=!(x==("__name__" :Str))&&(!(x==("__debug__" :Str))&&(yB e&&yk es))
theorem zGr(h:okB x e es=true):x≠ "__name__" /\(x==("__debug__" :Str))=false/\yB e=true/\yk es=true:=by
 unfold okB at h;rw [zSU,zSU,zSU,zSe,zSe,beq_eq_false_iff_ne] at h;exact h
theorem zc{v:V}{u:Value}(hg:Gl X x)(hm:X.mg x=some u)(r:ze v u)(hd:(x==("__debug__" :Str))=false):QE X (.Name x pos) (tC v):=⟨zLV hg hm r hd⟩
theorem zAG{v:V}{u:Value}(hg:Gl X x)(hm:X.mg x=none)(hv:bootBuiltins x=some u)(r:ze v u)(hn:x≠ "__name__")(hd:(x==("__debug__" :Str))=false):QE X (.Name x pos) (tC v):=⟨zDL hg hm hv r hn hd⟩
theorem zAW{op:Operator}{r:R2}(ho:OpR X (binaryOp op) r)(ha:QE X a ta)(hb:QE X b tb):QE X (.BinOp a op b pos) (tOp r ta tb):=⟨zAD ho ha.out hb.out⟩
theorem yx(ha:QE X a ta)(hb:QE X b tb):QE X (.BinOp a .Add b pos) (tOp (rI0 fun i j=> .int (i+j)) ta tb):=zAW zDq ha hb
theorem zCY(ha:QE X a ta)(hb:QE X b tb):QE X (.BinOp a .Sub b pos) (tOp (rI0 fun i j=> .int (i - j)) ta tb):=zAW zNq ha hb
theorem zHU(ha:QE X a ta)(hb:QE X b tb):QE X (.BinOp a .Mult b pos) (tOp (rI zHY fun i j=> .int (i*j)) ta tb):=zAW zBc ha hb
theorem yA(ha:QE X a ta)(hb:QE X b tb):QE X (.BinOp a .FloorDiv b pos) (tOp (rI zOg fun i j=> .int (i/j)) ta tb):=zAW zMI ha hb
theorem zw(ha:QE X a ta)(hb:QE X b tb):QE X (.BinOp a .Mod b pos) (tOp (rI (fun _ j=>0<j) fun i j=> .int (i % j)) ta tb):=zAW zBW ha hb
theorem zHs(ha:QE X a ta)(hb:QE X b tb):QE X (.BinOp a .Pow b pos) (tOp (rI zDb fun i j=> .int (i^j.toNat)) ta tb):=zAW zPA ha hb
theorem yq(ha:QE X a ta)(hb:QE X b tb):QE X (.BinOp a .Add b pos) (tOp zMx ta tb):=zAW zOd ha hb
theorem zPX(ha:QE X a ta):QE X (.UnaryOp .Not a pos) (zLB ta):=⟨zIy ha.out⟩
theorem zBO{op:BoolOp}(h:QE X a ta):QE X (.BoolOp op [a] pos) ta:=⟨zIo h.out⟩
theorem zAo(ha:QE X a ta)(hb:QE X (.BoolOp .And (b::rest) pos) tb):QE X (.BoolOp .And (a::b::rest) pos) (zKt ta tb):=⟨zJA ha.out hb.out⟩
theorem zQp(ha:QE X a ta)(hb:QE X (.BoolOp .Or (b::rest) pos) tb):QE X (.BoolOp .Or (a::b::rest) pos) (zMZ ta tb):=⟨zPv ha.out hb.out⟩
theorem zQW(hc:QT X c tA)(ha:QE X a ta)(hb:QE X b tb):QE X (.IfExp c a b pos) (tIf tA ta tb):=⟨zJq hc.out ha.out hb.out⟩
theorem zCK{op:CmpOp}{r:R2}(ho:OpR X (compareOp op) r)(ha:QE X a ta)(hb:QE X b tb)(hm:behindInMarks op b=false):QE X (.Compare a [op] [b] pos) (tOp r ta tb):=⟨zHG ho ha.out hb.out hm⟩
theorem zU{op:CmpOp}{r:R2}(ho:OpR X (compareOp op) r)(ha:QE X a ta)(hb:QE X b tb)(hm:behindInMarks op b=false):QT X (.Compare a [op] [b] pos) (zFN (tOp r ta tb)):=⟨zCJ ho ha.out hb.out hm⟩
theorem zPn(ha:QE X a ta)(h:behindInMarks .Is (.Constant .none j pos')=false):QE X (.Compare a [.Is] [.Constant .none j pos'] pos) (zKQ ta):=⟨zNi (zJO ha.out) h⟩
theorem zPo(ha:QE X a ta)(h:behindInMarks .Is (.Constant .none j pos')=false):QT X (.Compare a [.Is] [.Constant .none j pos'] pos) (tB (zKQ ta)):=⟨zJV (zJO ha.out) h⟩
theorem zEe{op op':CmpOp}{r r':R2}(ho:OpR X (compareOp op) r)(ho':OpR X (compareOp op') r')(ha:QE X a ta)(hb:QE X b tb)(hc:QE X c tc)(hm:lastMarks [op,op'] [b,c] =false):QE X (.Compare a [op,op'] [b,c] pos) (zEH r r' ta tb tc):=⟨zJs ho ho' ha.out hb.out hc.out hm⟩
theorem zMB{op op':CmpOp}{r r':R2}(ho:OpR X (compareOp op) r)(ho':OpR X (compareOp op') r')(ha:QE X a ta)(hb:QE X b tb)(hc:QE X c tc)(hm:lastMarks [op,op'] [b,c] =false):QT X (.Compare a [op,op'] [b,c] pos) (zFN (zEH r r' ta tb tc)):=⟨zKM ho ho' ha.out hb.out hc.out hm⟩
theorem yW(h:QE X e te)(he: ∀whole,isTrue e X.env whole=(do let v<-whole;standAt e.pos;holding [v] (truthy v))):QT X e (tB te):=⟨zEF h.out he⟩
theorem yf(h:QT X a tA):QT X (.UnaryOp .Not a pos) (zNF tA):=⟨zEM h.out⟩
theorem zFY(h:QT X a tA):QW X (.BoolOp .And [a] pos) tA:=⟨zLM h.out⟩
theorem yz(h:QT X a tA):QW X (.BoolOp .Or [a] pos) tA:=⟨zFm h.out⟩
theorem zFU(ha:QT X a tA)(hb:QW X (.BoolOp .And (b::rest) pos) tB'):QW X (.BoolOp .And (a::b::rest) pos) (zNu tA tB'):=⟨zOQ ha.out hb.out⟩
theorem zAF(ha:QT X a tA)(hb:QW X (.BoolOp .Or (b::rest) pos) tB'):QW X (.BoolOp .Or (a::b::rest) pos) (tOr tA tB'):=⟨zFS ha.out hb.out⟩
theorem t_w(h:QW X e tA):QT X e tA:=⟨h.out.pt⟩
theorem zg(hK:X.K=K)(ha:QE X a ta)(hb:QE X b tb)(hs:zDE b):QE X (.Subscript a b pos) (tOp (zOB K) ta tb):=by
 subst hK;exact ⟨zBN zHS ha.out hb.out hs⟩
theorem zY(hK:X.K=K)(ha:QE X a ta)(hb:QE X b tb)(hs:zDE b):QE X (.Subscript a b pos) (tOp (zNy K) ta tb):=by
 subst hK;exact ⟨zBN zCD ha.out hb.out hs⟩
theorem zHb(ha:QE X a ta)(hb:QE X b tb)(hs:zDE b):QE X (.Subscript a b pos) (tOp zMn ta tb):=⟨zBN zMq ha.out hb.out hs⟩
section
variable {CX:CXT}{k:Nat}{f C:Addr}{fd:FuncData}{ps:List Str}{sp:Sp}{dvs:List V}{ds:List Value}{E:XK}{ES:St->XK}{id T:String}{r:List V->Hp->VK->Prop}
theorem zP(F:FnOk X.prog X.w X.K X.mg X.base CX k f fd ps sp)(hr:Room k X.A)(hg:Gl X x)(hm:X.mg x=some (.ref f))(hk:PySem.W.keepIn X.K (.ref f)=true)(hb:zL X.K fd ps ds)(hd:zT dvs ds)(hx:yw CX X E)
  (ha:QA X (e::es) t) (h1:(x==("__debug__" :Str))=false) (h2:yB e=true) (h3:yk es=true):QE X (.Call (.Name x p) (e::es) [] pos) (zEO sp dvs E t):=⟨zBU F hr hg hm hk hb hd hx ha.out h1 (zt h2) (yj h3)⟩
theorem zME(F:FnOk X.prog X.w X.K X.mg X.base CX k f fd ps sp)(hr:Room k X.A)(hg:Gl X x)(hm:X.mg x=some (.ref f))(hk:PySem.W.keepIn X.K (.ref f)=true)(hb:zL X.K fd ps ds)(hd:zT dvs ds)(hx:zAv CX X ES)
  (ha:QA X (e::es) t) (h1:(x==("__debug__" :Str))=false) (h2:yB e=true) (h3:yk es=true):QE X (.Call (.Name x p) (e::es) [] pos) (zIg sp dvs ES t):=⟨zKB F hr hg hm hk hb hd hx ha.out h1 (zt h2) (yj h3)⟩
theorem zMG(hc:yV X (.builtin id) r)(hg:Gl X x)(hm:X.mg x=none)(hv:bootBuiltins x=some (.builtin id))(ha:QA X (e::es) t)(h0:x≠ "__name__")(h1:(x==("__debug__" :Str))=false)(h2:yB e=true)(h3:yk es=true):
  QE X (.Call (.Name x p) (e::es) [] pos) (tCB r t):=⟨zAx hc hg hm hv ha.out h0 h1 (zt h2) (yj h3)⟩
theorem zKP(hc:yV X (.type T) r)(hg:Gl X x)(hm:X.mg x=none)(hv:bootBuiltins x=some (.type T))(ha:QA X (e::es) t)(h0:x≠ "__name__")(h1:(x==("__debug__" :Str))=false)(h2:yB e=true)(h3:yk es=true):
  QE X (.Call (.Name x p) (e::es) [] pos) (tCB r t):=⟨zIY hc hg hm hv ha.out h0 h1 (zt h2) (yj h3)⟩
theorem zk(hc:yV X (.builtin id) r)(hg:Gl X x)(hm:X.mg x=none)(hv:bootBuiltins x=some (.builtin id))(ha:QA X (e::es) t)(h:okB x e es=true):QE X (.Call (.Name x p) (e::es) [] pos) (tCB r t):=let ⟨a,b,c,d⟩:=zGr h;zMG hc hg hm hv ha a b c d
theorem zBw(hc:yV X (.type T) r)(hg:Gl X x)(hm:X.mg x=none)(hv:bootBuiltins x=some (.type T))(ha:QA X (e::es) t)(h:okB x e es=true):QE X (.Call (.Name x p) (e::es) [] pos) (tCB r t):=let ⟨a,b,c,d⟩:=zGr h;zKP hc hg hm hv ha a b c d
end
theorem zu(hK:X.K=K):yV X (.builtin "len") (fun xs H Q=> ∃p ys,xs= [.ref p] /\(SqL K H p ys\/SqT K H p ys)/\Q (.int ys.length) H):=by
 subst hK;exact zBe
theorem yo(hK:X.K=K)(ho:QE X o to)(ha:QE X e te)(hb:attributeBase o "append" X.env (eval o X.env)=eval o X.env)(h2:yB e=true)(hl:(apos.endLine==cpos.line)=true):
  QE X (.Call (.Attribute o "append" apos) [e] [] cpos) (tBM K "list" zGw to (zFP te zHv)):=by
 subst hK;exact ⟨zLC PySem.F.plainAttrs_list PySem.F.slot_list_append PySem.F.type_list_append zCh ho.out (yL ha.out zAA (zt h2)) hb (by rw [zt h2];rfl) hl (zt h2) rfl⟩
theorem zPy{t':TE}(h:QE X e te)(f: ∀σ H Q,t' σ H Q->te σ H Q):QE X e t':=⟨PE.imp h.out f⟩
section
variable {st:Stmt}{sts b1 b2:List Stmt}{u v:TS}{g:TG}{gs:TGs}{wi:TI}{tg iter:Expr}
theorem zZ:QB X [] zKr:=⟨zDC⟩
theorem zK(h:QS X st u):QB X [st] u:=⟨zAE h.out⟩
theorem zF(h:QS X st u)(h2:QB X sts v):QB X (st::sts) (zHh u v):=⟨zAC h.out h2.out⟩
theorem zR(h:QE X e te):QS X (.Return (some e) pos) (zNw te):=⟨zAi h.out⟩
theorem yO(h:QE X e te)(hs:swapsWith e none pos.line X.env=pure false):QS X (.Expr e pos) (zKf te):=⟨zMA h.out hs⟩
theorem zf(hc:QT X c tA)(ha:QB X b1 u)(hb:QB X b2 v):QS X (.If c b1 b2 pos) (zNK tA u v):=⟨zFM hc.out ha.out hb.out⟩
theorem zBs(i:Nat)(hN:X.N.Nodup)(hi:X.N[i]?=some x)(hx:Loc X.env.scope x)(he:QE X e te)(hs:swapsWith e (some (.Name x pos')) pos.line X.env=pure false)(hf:X.fn x=true\/X.env.scope.names.lookup x=some .local):
  QS X (.Assign [.Name x pos'] e pos) (zDj te (zBH i)):=⟨zBb hN hi hx he.out hs hf⟩
theorem zd(i:Nat)(hN:X.N.Nodup)(h:(X.N[i]?==some x&&X.env.scope.names.lookup x==some .local)=true)(he:QE X e te)(hs:swapsWith e (some (.Name x pos')) pos.line X.env=pure false):QS X (.Assign [.Name x pos'] e pos) (zDj te (zBH i)):=by
 rw [zSU,beq_iff_eq,beq_iff_eq] at h;exact zBs i hN h.1 (.inl h.2) he hs (.inr h.2)
theorem zPT(he:QE X e te)(hg:QG X tg g)(hs:swapsWithSole [tg] e pos.line X.env=pure false)(hw:swappedStores [tg] e X.env=pure none)(h1:(assignEach [tg] X.env).map (·.2)= [assign tg X.env]):QS X (.Assign [tg] e pos) (zDj te g):=⟨zNU he.out hg.out hs hw h1⟩
theorem zq(i:Nat)(hN:X.N.Nodup)(hi:X.N[i]?=some x)(hx:Loc X.env.scope x)(hf:X.fn x=true\/X.env.scope.names.lookup x=some .local):QG X (.Name x pos) (zBH i):=⟨zLv hN hi hx hf⟩
theorem zEA:QGs X [] zOv:=⟨zLX⟩
theorem zAX(h1:QG X e g)(h2:QGs X es gs)(hs:(assignEach (e::es) X.env).map (·.2)=assign e X.env::(assignEach es X.env).map (·.2)):QGs X (e::es) (zLK g gs):=⟨zJf h1.out h2.out hs⟩
theorem zDo{n:Nat}(hK:X.K=K)(hc:X.calm=true)(h:QGs X es gs)(hn:(assignEach es X.env).length=n)(hst:(assignEach es X.env).findIdx? (·.1)=none):QG X (.Tuple es j pos) (zMX K n gs):=by
 subst hK;exact ⟨zOE hc h.out hn hst⟩
theorem zCw(hp:PassesOwn (model X.prog X.w) X.A X.env X.xe)(hc:QT X c tA)(hb:QB X b1 u):QS X (.While c b1 [] pos) (zGC tA u):=⟨zGX hp hc.out hb.out⟩
theorem zAm(hK:X.K=K)(h:QE X e te):QI X tg e (zKg K te):=by
 subst hK;exact ⟨zGs h.out⟩
theorem zHl(hK:X.K=K)(h:QE X e te):QI X tg e (zMY K te):=by
 subst hK;exact ⟨zIX h.out⟩
theorem zBd(hg:Gl X "range")(hm:X.mg "range" =none)(h:QA X [a] t)(h2:yB a=true):QI X tg (.Call (.Name "range" p) [a] [] pos) (zLF t):=⟨zJN hg hm h.out (by rw [zt h2];rfl)⟩
theorem zPF(hp:PassesOwn (model X.prog X.w) X.A X.env X.xe)(hc:X.calm=true)(hi:QI X tg iter wi)(hg:QG X tg g)(hb:QB X b1 u)(hs: ∀x,foldedSetIterable iter X.env x=pure x):QS X (.For tg iter b1 [] pos) (zNX wi g u):=⟨zMe hp hc hi.out hg.out hb.out hs⟩
end
end
theorem hid{t u:TS}{D:Ends}{σ:St}{H:Hp}(h: ∀{U:St->Hp->Prop},(∀{σ' H'},u D σ' H'->U σ' H')->t {D with nx:=U} σ H):zHh t u D σ H:=h (U:=u D) fun z=>z
theorem fs{N P:List Str}{sc:Scope}(a:sc.kind= .function:=by rfl)(b:sc.isCoroutine=false:=by rfl)(c:sc.isGenerator=false:=by rfl)(d:N.Nodup:=by decide+kernel)(e:N.take P.length=P:=by rfl)
  (f: ∀x∈P,sc.names.lookup x=some .local\/sc.names.lookup x=some .cell:=by decide+kernel) (g: ∀y∈sc.names,y.2≠ .free:=by decide+kernel):FnScope N P sc:=⟨a,b,c,d,e,f,g⟩
abbrev zBo(ifs:List Expr)(env:Env):Sem Bool:=forIn ifs true fun c r=>if r=true then do let ok<-isTrue c env (eval c env);pure (ForInStep.yield ok) else pure (ForInStep.yield r)
theorem yP{P:Program}{w:World}{A:Around}{env:Env}{E:Value->Shared->Prop}{α:Type}{t:Sem α}{Q:α->Shared->Prop}{s:Shared}(h:wpAny (model P w) A t Q (fun _ _=>False) s):wpAny (model P w) A t Q (notedBy (model P w) A env E) s:=zRw h (fun _ _ z=>z) fun _ _ z=>z.elim
theorem zHd{P:Program}{w:World}{A:Around}{R:Result->Shared->Prop}{s:Shared}{elt target iter:Expr}{ifs:List Expr}{scope:Scope}{pos:Pos}{it acc:Value}{env:Env}(J:Nat->Shared->Prop)
  (turn: ∀n s,J n s->wpAny (model P w) A (pyNext it) (fun r s1=>match r with
   | none=>R (.ok .next) s1
   | some v=>wpAny (model P w) A (letOwnedTupleGo target it v) (fun _ s1'=>wpAny (model P w) A (assign target env v) (fun _ s2=>wpAny (model P w) A (zBo ifs env) (fun ok s3=>
     if ok=true then wpAny (model P w) A (eval elt env) (fun x s4=>wpAny (model P w) A (call (.builtin "list.append") [acc,x]) (fun _ s5=> ∃m,m<n/\J m s5) (fun _ _=>False) s4) (fun _ _=>False) s3
     else∃m,m<n/\J m s3) (fun _ _=>False) s2) (fun _ _=>False) s1') (fun _ _=>False) s1) (fun _ _=>False) s)
  (n:Nat) (h:J n s):codeAny (model P w) A (.compLoop (.ListComp elt [⟨target,iter,ifs,0⟩] scope pos) 0 it acc env) R s:=by
 refine codeAny_loop rfl J (fun n s hJ=>?_) n h;show wpAny _ A ((compTurn (.ListComp elt [⟨target,iter,ifs,0⟩] scope pos) 0 it acc env).onRaise _) _ _ s;refine wpAny_noted ?_;rw [compTurn_list];refine zRd (wpAny_standAt (zRd (zRw (yP (turn n s hJ)) (fun r s1 h1=>?_) fun _ _ z=>z)));cases r with
 | none=>exact zRi h1
 | some v=>
  refine zRd (zRw (yP h1) (fun _ s2 h3=>zRd (zRw (yP h3) (fun _ s3 h4=>zRd (zRw (yP h4) (fun ok s4 h5=>?_) fun _ _ z=>z)) fun _ _ z=>z)) fun _ _ z=>z);cases ok with
  | false=>exact zRi ⟨rfl,h5⟩
  | true=>exact zRd (zRd (zRw (yP h5) (fun x s5 h6=>zRd (zRw (yP h6) (fun _ s6 h7=>zRi (zRi ⟨rfl,h7⟩)) fun _ _ z=>z)) fun _ _ z=>z))
def PTs(X:Cx)(ifs:List Expr)(t:TT):Prop:=(ifs= [] /\t=fun _ H Q=>Q true H)\/ ∃c,ifs= [c] /\PT X c t
def zEL(wi:TI)(g:TG)(tt:TT)(te:TE)(n:Nat)(fr:List Nat):TE:=fun σ H Q=>wi σ H fun J H1=> ∀D,H1 D=none-> ∃W:Nat->Nat->List V->Hp->Prop,(∃m,W 0 m [] (upd H1 D (.lst [])))/\ ∀i m ys H,W i m ys H->
 H D=some (.lst ys)/\((J.stop i H/\Q (.ref D) H)\/(J.go i H/\ys.length<sizeLine/\ ∃N:List V->Hp->Prop,(∀ys' H',N ys' H'-> ∃m',m'<m/\W (i+1) m' ys' H')/\
  ∀x H',J.yld i H x H'-> ∀pre:St,pre.length=n->g x (pre++yH fr σ) H' fun σ2 H2=>(∃yZ:St,yZ.length=n/\σ2=yZ++yH fr σ)/\
   tt σ2 H2 fun b H3=>if b=true then te σ2 H3 fun y H4=>H4 D=some (.lst ys)/\N (ys++ [y]) (upd H4 D (.lst (ys++ [y]))) else N ys H3))
theorem zJe{X:Cx}{elt iter tg:Expr}{ifs:List Expr}{zs:List Str}{pos:Pos}{scope:Scope}{cl:List (Str×Addr)}{ys:List Str}{fr:List Nat}{wi:TI}{g:TG}{tt:TT}{te:TE}(hcm:X.calm=true)
  (hi:PI X tg iter wi) (hclos:closureFor scope X.env=pure cl) (hcell: ∀y∈scope.names,y.2≠ .cell) (hkind:scope.kind= .function) (hnames: ∀y∈scope.names,y.2= .local->scope.names.lookup y.1=some .local)
  (hcl: ∀y a,cl.lookup y=some a->X.env.cells.lookup y=some a)
  (hlen:ys.length=fr.length) (hfr: ∀(j:Nat) y i,ys[j]?=some y->fr[j]?=some i->X.N[i]?=some y/\X.env.kindOf y=some .cell/\(relabel scope X.env).names.lookup y=some .cell/\ ∃a,cl.lookup y=some a/\X.env.cells.lookup y=some a)
  (hhas: ∀y,((relabel scope X.env).names.lookup y=some .cell\/(relabel scope X.env).names.lookup y=some .free)-> ∃a,cl.lookup y=some a)
  (hg: ∀C s₂ H₂ fp,PG (X.comp scope cl C (zs++ys) s₂ H₂ fp) tg g) (hc: ∀C s₂ H₂ fp,PTs (X.comp scope cl C (zs++ys) s₂ H₂ fp) ifs tt) (he: ∀C s₂ H₂ fp,PE (X.comp scope cl C (zs++ys) s₂ H₂ fp) elt te) (hs: ∀v,foldedSetIterable iter X.env v=pure v:=by intro _;rfl):
  PE X (.ListComp elt [⟨tg,iter,ifs,0⟩] scope pos) (zEL wi g tt te zs.length fr):=by
 intro pins s σ H Q I h;rw [eval_ListComp];refine wpAny_comprehension_free (use:=none) rfl hs hclos hkind hnames (zb (hi pins s σ H _ I h) fun v s1 h1=>zb h1 fun itv s2 h2=>?_);obtain ⟨it,fp,tn,J,H2,e,I2,T,st2,f2,h2⟩:=h2;subst e;have hD:H2 s2.heap.objs.size=none:=I2.hok.fresh (zRg _);obtain ⟨W,⟨m0,w0⟩,turn⟩:=h2 s2.heap.objs.size hD;refine wpAny_newObj_type (wpAny_newFunctionEnv hcell (by intro y hy;simp at hy) (fun h₁ hns₁ hsb₁=>?_) hkind);dsimp only at hns₁ hsb₁⊢;generalize hH3:s2.heap.push {cls:= .type "list",dict:=none,data:= .seq ([] :List Value).toArray}=H3 at hns₁ hsb₁⊢;have hCs:H3.objs.size=s2.heap.objs.size+1:=by rw [<-hH3,Heap.size_push]
 have old: ∀b o,s2.heap.get? b=some o->h₁.get? b=some o:=fun b o e=>
  hsb₁.extBut b o (zRk (by have:=yr e;omega)) (zRe _ (hH3▸zRe _ e))
 have hacc:h₁.get? s2.heap.objs.size=some {cls:= .type "list",dict:=none,data:= .seq ([] :List Value).toArray}:=
  hsb₁.extBut _ _ (zRk (by omega)) (zRe _ (hH3▸zRu _ rfl))
 have fplt: ∀b∈fp,@LT.lt Nat _ b s2.heap.objs.size:=fun b hb=>by
  obtain ⟨o,e,_⟩:=T.obj _ _ st2 b hb;exact yr e
 have okC:(X.comp scope cl H3.objs.size (zs++ys) s2 H2 fp).Ok:=by
  refine ⟨I2.ok.mod,hkind,I2.ok.glob,I2.ok.blt,?_,fun y z a h1 h2=>I2.ok.inj y z a (hcl y a h1) (hcl z a h2),fun y hy=>hhas y hy,fun y a z _=>(nomatch z),I2.ok.hd,I2.ok.frames,.inl rfl,fun b hb=>⟨?_,fun y a e z=>?_⟩,I2.bs,zRq I2.ok.bsz I2.sz,fun b o e hb=>?_,fun b hb z=>?_,I2.stack,I2.stkFree⟩
  ·show s2.heap.objs.size<=H3.objs.size;omega
  ·show b≠H3.objs.size;have:=fplt b hb;exact zRk (by omega)
  ·exact (f2 b hb).2.2.2.2.1 y a (hcl y a e) z
  ·rcases (f2 b hb).2.2.2.1 with z | z
   ·exact I2.ok.noex b o e z
   ·have z': @LE.le Nat _ X.s₀.heap.objs.size b:=z;have: @LT.lt Nat _ b X.base.objs.size:=yr e;have:=I2.ok.bsz;omega
  ·rcases zST.mp (I2.stkSub b z) with y | y
   ·exact (f2 b hb).2.1 y
   ·exact (f2 b hb).2.2.1 y
 have fpok: ∀{H':Hp},(∀b∈fp,H' b=none)-> ∀b∈fp,zAc (X.comp scope cl H3.objs.size (zs++ys) s2 H2 fp) [] H' b:=fun hn b hb=>
  ⟨hn b hb,(okC.exf b hb).1,okC.exfs b hb,.inl hb,(okC.exf b hb).2,fun p hp=>absurd hp (by simp)⟩
 have cellC: ∀y a,cl.lookup y=some a-> ∃v,s2.heap.IsCell a v:=fun y a e=>I2.cell y a (hcl y a e);have zAT:Inv (X.comp scope cl H3.objs.size (zs++ys) s2 H2 fp) [] (List.replicate zs.length none++yH fr σ) (upd H2 s2.heap.objs.size (.lst [])) {s2 with heap:=h₁,toks:=s2.toks+([] :List (Str×Value)).length}:=by
  refine ⟨okC,rfl,I2.bare,Un.laid old (zRg _) hD,⟨_,hns₁,fun j y v e1 e2 e3=>?_⟩,fun y a e=>?_,?_,fun y a e=>?_,fun p hp=>absurd hp (by simp),I2.hok.laid old (zRg _) ⟨zRr _,[],_,.nil,hacc⟩,?_⟩
  ·by_cases hj:j<zs.length
   ·rw [List.getElem?_append_left (by simpa using hj),List.getElem?_replicate] at e2;rw [if_pos hj] at e2;cases e2
   ·obtain ⟨j,rfl⟩: ∃k,j=zs.length+k:=⟨j - zs.length,by omega⟩;have e1':ys[j]?=some y:=by
     have z:=e1;simp only [Cx.comp] at z;rw [List.getElem?_append_right (by omega)] at z;simpa using z
    have e2':(yH fr σ)[j]?=some (some v):=by
     rw [List.getElem?_append_right (by simp)] at e2;simpa using e2
    unfold yH at e2';rw [zRh] at e2';cases q:fr[j]? with
    | none=>rw [q] at e2';cases e2'
    | some i=>
     rw [q] at e2';have e4:(σ[i]?).getD none=some v:=Option.some.inj e2';have e5:σ[i]?=some (some v):=by
      cases q2:σ[i]? with
      | none=>rw [q2] at e4;cases e4
      | some z=>rw [q2] at e4;exact congrArg some e4
     obtain ⟨hN,hk,hl,a,ha,ha'⟩:=hfr j y i e1' q;obtain ⟨m,_,hl2⟩:=I2.loc;obtain ⟨u,r,l⟩:=hl2 i y v hN e5 (.inr (.inl hk));refine ⟨u,r,.inr ⟨.inl hl,a,ha,?_⟩⟩;rcases l with ⟨k,_⟩|⟨_,a2,ea,z⟩
     ·rw [hk] at k;cases k
     ·rw [ha'] at ea;cases ea;obtain ⟨o,ho,hd⟩:=z;exact ⟨o,old _ _ ho,hd⟩
  ·obtain ⟨v,o,ho,hd⟩:=cellC y a e;exact ⟨v,o,old _ _ ho,hd⟩
  ·show upd H2 s2.heap.objs.size (.lst []) H3.objs.size=none;rw [zQ (by first | exact zRk (by omega)| exact zSL (by omega))];exact I2.hok.fresh (by omega)
  ·obtain ⟨v,o,ho,hd⟩:=cellC y a e;have:=yr ho;rw [zQ (by first | exact zRk (by omega)| exact zSL (by omega))];exact I2.freeC y a (hcl y a e)
  ·show (List.replicate zs.length none++yH fr σ).length=(zs++ys).length;unfold yH;simp [hlen]
 have loop: ∀s₃:Shared,s₃={s2 with heap:=h₁,toks:=s2.toks+([] :List (Str×Value)).length}->
   codeAny (model X.prog X.w) X.A (.compLoop (.ListComp elt [⟨tg,iter,ifs,0⟩] scope pos) 0 (.ref it) (.ref s2.heap.objs.size) (compEnvC scope cl H3.objs.size X.env)) (compPost (model X.prog X.w) X.A X.xe none (EP X pins σ Q) (.ref s2.heap.objs.size) H3.objs.size) s₃:=by
  rintro s₃ rfl;refine zHd (fun n s'=> ∃i pre ys' H',pre.length=zs.length/\Inv (X.comp scope cl H3.objs.size (zs++ys) s2 H2 fp) [] (pre++yH fr σ) H' s'/\tn i s'.heap/\(∀b∈fp,H' b=none)/\W i n ys' H') ?_ m0
   ⟨0,List.replicate zs.length none,[],_,by simp,zAT,T.keep _ _ _ st2 fun b hb o e=>old b o e,fun b hb=>by
    have:=fplt b hb;rw [zQ (by first | exact zRk (by omega)| exact zSL (by omega))];exact (f2 b hb).1,w0⟩
  rintro n s3 ⟨i,pre,ys3,H',hpl,I3,st3,fr3,w3⟩;obtain ⟨hl3,alt⟩:=turn i n ys3 H' w3;rcases alt with ⟨stop,qn⟩|⟨go,hz,N,hN,step⟩
  ·refine zRw (T.done (X.comp scope cl H3.objs.size (zs++ys) s2 H2 fp) rfl rfl rfl hcm i [] s3 _ H' (fun _ _=>False) I3 (fpok fr3) st3 stop) (fun r s4 h4=>?_) fun _ _ z=>z.elim;obtain ⟨hr,I4⟩:=h4;subst hr;obtain ⟨m4,hn4,_⟩:=id I4.loc;refine ⟨m4,hn4,fun h'' hs''=>?_⟩;have hb: ∀b o,b≠H3.objs.size->s4.heap.get? b=some o->h''.get? b=some o:=fun b o hb e=>(hs''.2 b hb).trans e;have I5:Inv X pins σ H' {s4 with heap:=h''}:=by
    refine I2.call' (s':={s4 with heap:=h''}) (ch:=fp) I4.os ⟨fun b o e n hb' hx'=>?_,fun b o e n hb' hx'=>?_,fun b o e n hx'=>I4.base.free b o e n hx',fun b o e hx'=>?_,I4.base.tups,I4.base.frzs,I4.base.tbls⟩ (fun b u e=>?_) I4.bare fun b hb'=>⟨(f2 b hb').2.2.2.1,(f2 b hb').2.1,(f2 b hb').2.2.2.2.1,(f2 b hb').2.2.2.2.2⟩
    ·exact hb b o (zRk (by have:=yr e;omega)) (I4.base.keep b o e n hb' hx')
    ·obtain ⟨sl,q⟩:=I4.base.slot b o e n hb' hx';exact ⟨sl,hb b _ (zRk (by have:=yr e;omega)) q⟩
    ·obtain ⟨o',q⟩:=I4.base.there b o e hx';exact ⟨o',hb b _ (zRk (by have:=yr e;omega)) q⟩
    ·refine (I4.hok b u e).stay (fun c' w' hc' q=>hb c' w' ?_ q) (fun _ q=>q) fun _ _ q=>q;intro z;have fz:H' H3.objs.size=none:=I4.free;rcases hc' with y | y
     ·rw [<-y,z,fz] at e;cases e
     ·rw [z,fz] at y;cases y
   exact ⟨.ref s2.heap.objs.size,H',I5,rfl,qn⟩
  ·refine zRw (T.item (X.comp scope cl H3.objs.size (zs++ys) s2 H2 fp) rfl rfl rfl hcm i [] s3 _ H' (fun _ _=>False) I3 (fpok fr3) st3 go) (fun r s4 h4=>?_) fun _ _ z=>z.elim;obtain ⟨u,hr,h4⟩:=h4;subst hr;dsimp only;have asg:wpAny (model X.prog X.w) X.A (letOwnedTupleGo tg (.ref it) u) (fun _ s5=>wpAny (model X.prog X.w) X.A (assign tg (compEnvC scope cl H3.objs.size X.env) u)
     (fun _ s6=> ∃σ5 H6,(∃pn5,Inv (X.comp scope cl H3.objs.size (zs++ys) s2 H2 fp) pn5 σ5 H6 s6/\(∀b∈fp,∃o,(b,o)∈pn5))/\((∃yZ:St,yZ.length=zs.length/\σ5=yZ++yH fr σ)/\
      tt σ5 H6 fun b H3'=>if b=true then te σ5 H3' fun y H4=>H4 s2.heap.objs.size=some (.lst ys3)/\N (ys3++ [y]) (upd H4 s2.heap.objs.size (.lst (ys3++ [y]))) else N ys3 H3')/\tn (i+1) s6.heap/\ ∀b∈fp,H6 b=none) (fun _ _=>False) s5) (fun _ _=>False) s4:=by
    refine (zb h4 fun _ s5 ⟨x5,H5,I5,r5,y5,st5,fr5⟩=>?_);have I5':=I5.pinned (fpok fr5) (T.obj _ _ st5);refine zRw (hg _ _ _ _ _ s5 _ H5 x5 u _ I5' r5 (step x5 H5 y5 pre hpl)) (fun _ s6 ⟨σ6,H6,I6,q6⟩=>?_) fun _ _ z=>z.elim;exact ⟨σ6,H6,⟨_,I6,fun b hb=>by
     obtain ⟨o,e,_⟩:=T.obj _ _ st5 b hb;exact ⟨o,zRs _ (zAB hb e)⟩⟩,q6,T.keep _ _ _ st5 fun b hb o e=>(I6.pin (b,o) (zRs _ (zRs _ (zAB hb e)))).1,fun b hb=>by
     obtain ⟨o,e,_⟩:=T.obj _ _ st5 b hb;exact (I6.pin (b,o) (zRs _ (zRs _ (zAB hb e)))).2.1⟩
   refine zRw asg (fun _ s5 h5=>zRw h5 (fun _ s6 h6=>?_) fun _ _ z=>z.elim) fun _ _ z=>z.elim;obtain ⟨σ5,H5,⟨pn5,I6,hp6⟩,⟨⟨yZ,hl2,rfl⟩,q6⟩,st6,fr5⟩:=h6;have keepTurn: ∀{σ7:St} {H7:Hp} {s7:Shared},Inv (X.comp scope cl H3.objs.size (zs++ys) s2 H2 fp) pn5 σ7 H7 s7->tn (i+1) s7.heap/\ ∀b∈fp,H7 b=none:=fun {σ7 H7 s7} I7=>by
    refine ⟨T.keep _ _ _ st6 fun b hb o e=>?_,fun b hb=>?_⟩
    ·obtain ⟨o',hm⟩:=hp6 b hb;have a1:=(I6.pin (b,o') (zRs _ hm)).1;rw [e] at a1;cases a1;exact (I7.pin (b,_) (zRs _ hm)).1
    ·obtain ⟨o',hm⟩:=hp6 b hb;exact (I7.pin (b,o') (zRs _ hm)).2.1
   have drop: ∀{σ7:St} {H7:Hp} {s7:Shared},Inv (X.comp scope cl H3.objs.size (zs++ys) s2 H2 fp) pn5 σ7 H7 s7->Inv (X.comp scope cl H3.objs.size (zs++ys) s2 H2 fp) [] σ7 H7 s7:=fun I7=>I7.pins_of fun p hp=>absurd hp (by simp);have tests:wpAny (model X.prog X.w) X.A (zBo ifs (compEnvC scope cl H3.objs.size X.env)) (fun b s7=> ∃H7,Inv (X.comp scope cl H3.objs.size (zs++ys) s2 H2 fp) pn5 (yZ++yH fr σ) H7 s7/\
     (if b=true then te (yZ++yH fr σ) H7 fun y H4=>H4 s2.heap.objs.size=some (.lst ys3)/\N (ys3++ [y]) (upd H4 s2.heap.objs.size (.lst (ys3++ [y]))) else N ys3 H7)) (fun _ _=>False) s6:=by
    rcases hc H3.objs.size s2 H2 fp with ⟨rfl,rfl⟩|⟨c,rfl,hc2⟩
    ·exact wpAny_tests_nil ⟨H5,I6,q6⟩
    ·exact wpAny_tests_one (zRw (hc2 pn5 s6 _ H5 _ I6 q6) (fun b s7 ⟨H7,I7,q7⟩=>⟨H7,I7,q7⟩) fun _ _ z=>z.elim)
   refine zRw tests (fun b s7 h7=>?_) fun _ _ z=>z.elim;obtain ⟨H7,I7,q7⟩:=h7;cases b with
   | false=>
    obtain ⟨m',hm,w'⟩:=hN _ _ q7;obtain ⟨k1,k2⟩:=keepTurn I7;exact ⟨m',hm,i+1,yZ,ys3,H7,hl2,drop I7,k1,k2,w'⟩
   | true=>
    refine zRw (he _ _ _ _ pn5 s7 _ H7 _ I7 q7) (fun y s8 h8=>?_) fun _ _ z=>z.elim;obtain ⟨yv,H8,I8,r8,hl8,n8⟩:=h8;refine zRw (zCh (X:=X.comp scope cl H3.objs.size (zs++ys) s2 H2 fp) pn5 s8 _ H8 (.ref s2.heap.objs.size) [yv] (.ref s2.heap.objs.size) [y] (fun z H9=>N (ys3++ [yv]) H9) I8 rfl (.cons r8 .nil) ⟨s2.heap.objs.size,ys3,yv,rfl,rfl,hl8,hz,n8⟩) (fun _ s9 h9=>?_) fun _ _ z=>z.elim;obtain ⟨_,H9,I9,_,n9⟩:=h9;obtain ⟨m',hm,w'⟩:=hN _ _ n9;obtain ⟨k1,k2⟩:=keepTurn I9;exact ⟨m',hm,i+1,yZ,ys3++ [yv],H9,hl2,drop I9,k1,k2,w'⟩
 exact codeAny_compStart_list (loop _ rfl) (T.self X.A 0 _ _ _ (T.keep _ _ _ st2 fun b hb o e=>old b o e) (loop _ rfl))
structure QTs(X:Cx)(ifs:List Expr)(t:TT):Prop where
 out:PTs X ifs t
theorem yy{X:Cx}:QTs X [] (fun _ H Q=>Q true H):=⟨.inl ⟨rfl,rfl⟩⟩
theorem zGZ{X:Cx}{c:Expr}{t:TT}(h:QT X c t):QTs X [c] t:=⟨.inr ⟨c,rfl,h.out⟩⟩
theorem zLy{X:Cx}{elt iter tg:Expr}{ifs:List Expr}(zs:List Str){pos:Pos}{scope:Scope}{cl:List (Str×Addr)}(ys:List Str)(fr:List Nat){wi:TI}{g:TG}{tt:TT}{te:TE}(hcm:X.calm=true)
  (hi:QI X tg iter wi) (hclos:closureFor scope X.env=pure cl) (hcell: ∀y∈scope.names,y.2≠ .cell) (hkind:scope.kind= .function) (hnames: ∀y∈scope.names,y.2= .local->scope.names.lookup y.1=some .local)
  (hcl: ∀y a,cl.lookup y=some a->X.env.cells.lookup y=some a)
  (hlen:ys.length=fr.length) (hfr: ∀(j:Nat) y i,ys[j]?=some y->fr[j]?=some i->X.N[i]?=some y/\X.env.kindOf y=some .cell/\(relabel scope X.env).names.lookup y=some .cell/\ ∃a,cl.lookup y=some a/\X.env.cells.lookup y=some a)
  (hhas: ∀y,((relabel scope X.env).names.lookup y=some .cell\/(relabel scope X.env).names.lookup y=some .free)-> ∃a,cl.lookup y=some a)
  (hg: ∀C s₂ H₂ fp,QG (X.comp scope cl C (zs++ys) s₂ H₂ fp) tg g) (hc: ∀C s₂ H₂ fp,QTs (X.comp scope cl C (zs++ys) s₂ H₂ fp) ifs tt) (he: ∀C s₂ H₂ fp,QE (X.comp scope cl C (zs++ys) s₂ H₂ fp) elt te) (hs: ∀v,foldedSetIterable iter X.env v=pure v):
  QE X (.ListComp elt [⟨tg,iter,ifs,0⟩] scope pos) (zEL wi g tt te zs.length fr):=
 ⟨zJe hcm hi.out hclos hcell hkind hnames hcl hlen hfr hhas (fun C s H f=>(hg C s H f).out) (fun C s H f=>(hc C s H f).out) (fun C s H f=>(he C s H f).out) hs⟩
section
variable {K:zSS}{g:TG}{tt:TT}{te:TE}{n:Nat}{fr:List Nat}{σ:St}{H:Hp}{Q:VK}
def zDZ(g:TG)(tt:TT)(te:TE)(n:Nat)(suf:St)(D:Addr)(x:V)(ys:List V)(H:Hp)(N:List V->Hp->Prop):Prop:=
 ∀pre:St,pre.length=n->g x (pre++suf) H fun σ2 H2=>(∃yZ:St,yZ.length=n/\σ2=yZ++suf)/\tt σ2 H2 fun b H3=>if b=true then te σ2 H3 fun y H4=>H4 D=some (.lst ys)/\N (ys++ [y]) (upd H4 D (.lst (ys++ [y]))) else N ys H3
end
section
variable {κ:Type}[DecidableEq κ]
end
section
variable {P:Program}{w:World}{H:Hp}{h:Heap}{a:Addr}
end
section
variable {X:Cx}{pins:List (Addr×Obj)}{σ:St}{H:Hp}{s:Shared}{a:Addr}{y v:V}{u r:Value}{o:Option V}{A:Around}{E:Value->Shared->Prop}
end
section
variable {X:Cx}{pins:List (Addr×Obj)}{σ:St}{H:Hp}{s:Shared}{a:Addr}{kvs:List (Key×V)}{k:Key}{u:Value}{A:Around}{E:Value->Shared->Prop}
end
def zJz(i:Expr):Prop:= ∀ov iv,subscripted i false ov iv=operate [ov,iv] (getItem ov iv)
theorem zLk{prog:Program}{w:World}{A:Around}{E:Value->Shared->Prop}{s:Shared}{env:Env}{value slice:Expr}{pos:Pos}{T id:String}{Q:Value->Shared->Prop}
  (hl:typeLookup (.type T) "__getitem__" =pure (some (.builtin id))) (hs:zJz slice)
  (h:wpAny (model prog w) A (eval value env) (fun o s₁=>wpAny (model prog w) A (eval slice env) (fun i s₂=>s₂.TypeIs o T/\wpAny (model prog w) A (getItem o i) Q E s₂) E s₁) E s):
  wpAny (model prog w) A (eval (.Subscript value slice pos) env) Q E s:=by
 refine Subscript_ (zRw h (fun o s₁ h₁=>zRw h₁ (fun i s₂ h₂=>?_) fun _ _ x=>x) fun _ _ x=>x);obtain ⟨hT,h₂⟩:=h₂;unfold subscriptTail;refine zRd ?_;rw [getitemInPython_of_ne hT.not_modules];refine zRd (wpAny_specialOf hT hl ?_);have fin:wpAny (model prog w) A (subscripted slice false o i) (fun r s₃=>wpAny (model prog w) A (letTemporaryGo value o r>>=fun _=>pure r) Q E s₃) E s₂:=by
  rw [hs o i];exact wpAny_operating (zRw h₂ (fun r s₃ h₃=>zRd (wpAny_letTemporaryGo (zRi h₃))) fun _ _ x=>x)
 first
  | exact zRi (zRd fin)
  | exact zRd (zRi (zRd fin))
  | exact zRd fin
section
variable {X:Cx}{o i e value:Expr}{pos pos' tpos:Pos}{td ty tv:TE}
end
section
variable {X:Cx}{pos:Pos}
end
section
variable {X:Cx}{pins:List (Addr×Obj)}{σ:St}{H:Hp}{s:Shared}{a:Addr}{y d:V}{u r:Value}{o:Option V}{A:Around}{E:Value->Shared->Prop}
end
section
variable {X:Cx}{o e f:Expr}{apos cpos:Pos}{td ty tx:TE}
end
section
variable {X:Cx}{pins:List (Addr×Obj)}{σ:St}{H:Hp}{s:Shared}{a:Addr}{kvs:List (Key×V)}{A:Around}{E:Value->Shared->Prop}
end
section
variable {X:Cx}{pins:List (Addr×Obj)}{σ:St}{H:Hp}{s:Shared}{a:Addr}{y:V}{u:Value}{A:Around}{E:Value->Shared->Prop}
end
theorem Inv.turnedL{X:Cx}{pins:List (Addr×Obj)}{σ:St}{H:Hp}{s:Shared}{h':Heap}{t':Nat}{ch:List Addr}(I:Inv X pins σ H s)(k: ∀b o,b∉ch->s.heap.get? b=some o->h'.get? b=some o)(hf: ∀b∈ch,zAc X pins H b):
  Inv X pins σ H {s with heap:=h',toks:=t'}:=by
 have nit: ∀b u,H b=some u->b∉ch:=fun b u e z=>by rw [(hf b z).1] at e;cases e
 refine I.step (g':=s.gens) (d':=s.drawn) (ch:=ch) (fun b hb=>?_) (fun b o _ _ hc e _=>k b o hc e) (fun b o _ _ hc e _=>⟨o.slots,k b o hc e⟩) (fun _ _ _ _ n=>n)
  (fun b o hc e=>⟨o,k b o hc e⟩) (fun _ _ e=>e) (fun _ _ _ e=>e) (fun b ps e=>⟨#[],by rw [e];simp⟩) (fun m hm=>?_) (fun b u e=>?_) I.bare
 ·obtain ⟨f0,f1,f2,f3,f4,f5⟩:=hf b hb;exact ⟨f3,f1,f4,f5⟩
 ·obtain ⟨o,es,ep,ho,r⟩:=hm;exact ⟨o,es,ep,k _ o (fun z=>(hf _ z).2.1 rfl) ho,r⟩
 ·refine (I.hok b u e).stay (fun c v hc q=>k c v ?_ q) (fun _ q=>q) fun _ _ q=>q;rcases hc with z | z
  ·rw [z];exact nit b u e
  ·exact nit c _ z
theorem zAc.upd{X:Cx}{pins:List (Addr×Obj)}{H:Hp}{b a:Addr}{o:HO}(f:zAc X pins H b)(h:b≠a):zAc X pins (L2.upd H a o) b:=⟨by rw [zQ h];exact f.1,f.2⟩
def Its(x:Str):It:=⟨fun i _=>i<x.cps.size,fun i H v H'=>H'=H/\ ∃c,x.cps[i]?=some c/\v= .str ⟨#[c]⟩,fun i _=>x.cps.size<=i⟩
theorem zHr{P:Program}{w:World}{K:zSS}{tg:Expr}(x:Str)(t:Tok)(it:Addr):Turn P w K tg (Its x) [it] it (fun i h=>h.IsStrIter it "str_ascii_iterator" x t i) where
 mem:=by simp
 obj:=fun i h st b hb=>by
  have e:b=it:=by simpa using hb
  subst e;obtain ⟨o,e,c,d⟩:=st;exact ⟨o,e,fun v z=>by rw [d] at z;cases z⟩
 keep:=fun i h h' st k=>let ⟨o,ho,r⟩:=st;⟨o,k it (by simp) o ho,r⟩
 item:=by
  intro X hP hw hK hc i pins s σ H E I hf st hg;subst hP hw hK;have hi:i<x.cps.size:=hg;obtain ⟨f0,f1,f2,f3,f4,f5⟩:=hf it (by simp);refine wpAny_pyNext_ascii_item st (c:=x.cps[i]) (by simp [hi]) fun h' st' sb=>?_;have I1:Inv X pins σ H {s with heap:=h',toks:=s.toks+1}:=I.turned (fun b o hb e=>(sb.2 b hb).trans e) f0 f1 f3 f4 f5;obtain ⟨o,e,c,d⟩:=id st';exact ⟨_,rfl,zES (s:={s with heap:=h',toks:=s.toks+1}) e c d (by decide) ⟨.str ⟨#[x.cps[i]]⟩,H,I1,⟨_,rfl⟩,⟨rfl,_,by simp [hi],rfl⟩,st',fun b hb=>(hf b hb).1⟩⟩
 done:=by
  intro X hP hw hK hc i pins s σ H E I hf st hg;subst hP hw hK;have hi:x.cps.size<=i:=hg;obtain ⟨f0,f1,f2,f3,f4,f5⟩:=hf it (by simp);exact wpAny_pyNext_ascii_end (I.ok.hd hc) st (by simp;omega) fun h' eb=>⟨rfl,I.turned (t':=s.toks) (fun b o hb e=>eb b o hb e) f0 f1 f3 f4 f5⟩
 self:=fun _ _ _ _ _ st h=>wpAny_pyIter_striter_ascii st h
theorem zJB{P:Program}{w:World}{K:zSS}{tg:Expr}(x:Str)(t:Tok)(it:Addr):Turn P w K tg (Its x) [it] it (fun i h=>h.IsStrIter it "str_iterator" x t i) where
 mem:=by simp
 obj:=fun i h st b hb=>by
  have e:b=it:=by simpa using hb
  subst e;obtain ⟨o,e,c,d⟩:=st;exact ⟨o,e,fun v z=>by rw [d] at z;cases z⟩
 keep:=fun i h h' st k=>let ⟨o,ho,r⟩:=st;⟨o,k it (by simp) o ho,r⟩
 item:=by
  intro X hP hw hK hc i pins s σ H E I hf st hg;subst hP hw hK;have hi:i<x.cps.size:=hg;obtain ⟨f0,f1,f2,f3,f4,f5⟩:=hf it (by simp);refine wpAny_pyNext_wide_item st (c:=x.cps[i]) (by simp [hi]) fun h' st' sb=>?_;have I1:Inv X pins σ H {s with heap:=h',toks:=s.toks+1}:=I.turned (fun b o hb e=>(sb.2 b hb).trans e) f0 f1 f3 f4 f5;obtain ⟨o,e,c,d⟩:=id st';exact ⟨_,rfl,zES (s:={s with heap:=h',toks:=s.toks+1}) e c d (by decide) ⟨.str ⟨#[x.cps[i]]⟩,H,I1,⟨_,rfl⟩,⟨rfl,_,by simp [hi],rfl⟩,st',fun b hb=>(hf b hb).1⟩⟩
 done:=by
  intro X hP hw hK hc i pins s σ H E I hf st hg;subst hP hw hK;have hi:x.cps.size<=i:=hg;obtain ⟨f0,f1,f2,f3,f4,f5⟩:=hf it (by simp);exact wpAny_pyNext_wide_end (I.ok.hd hc) st (by simp;omega) fun h' eb=>⟨rfl,I.turned (t':=s.toks) (fun b o hb e=>eb b o hb e) f0 f1 f3 f4 f5⟩
 self:=fun _ _ _ _ _ st h=>wpAny_pyIter_striter_wide st h
def zOD(tl:TE):TI:=fun σ H R=>tl σ H fun v H1=> ∃x,v= .str x/\R (Its x) H1
theorem zNM{X:Cx}{tg l:Expr}{tl:TE}(hl:PE X l tl):PI X tg l (zOD tl):=by
 intro pins s σ H R I h;refine zb (hl pins s σ H _ I h) fun v s1 ⟨y,H1,I1,r1,q1⟩=>?_;obtain ⟨x,e,q⟩:=q1;subst e;obtain ⟨t,rfl⟩:=r1;have fp: ∀(o:Obj),∀b∈ [s1.heap.objs.size],zAc X pins H1 b:=fun o b hb=>by
  have e:b=s1.heap.objs.size:=by simpa using hb
  subst e;exact I1.fpOk (zRg _) (I1.hok.fresh (zRg _))
 cases ha:x.cps.all (· <128)
 ·refine wpAny_pyIter_wide ha ?_;exact ⟨s1.heap.objs.size,[s1.heap.objs.size],_,_,H1,rfl,I1.kept (t':=s1.toks) fun b o e=>zRe _ e,zJB x t _,⟨_,zRu _ rfl,rfl,rfl⟩,fp default,q⟩
 ·refine wpAny_pyIter_ascii ha ?_;exact ⟨s1.heap.objs.size,[s1.heap.objs.size],_,_,H1,rfl,I1.kept (t':=s1.toks) fun b o e=>zRe _ e,zHr x t _,⟨_,zRu _ rfl,rfl,rfl⟩,fp default,q⟩
theorem zPI{X:Cx}{tg e:Expr}{te:TE}(h:QE X e te):QI X tg e (zOD te):=⟨zNM h.out⟩
def Ite(K:zSS)(l:Addr):It:=
 ⟨fun i H=> ∃xs x,SqL K H l xs/\xs[i]?=some x,fun i H x H'=> ∃t y,(∀xs,SqL K H l xs->xs[i]?=some y)/\H t=none/\x= .ref t/\H'=upd H t (.tup [.int i,y]),fun i H=> ∃xs,SqL K H l xs/\xs.length<=i⟩
theorem zJD{P:Program}{w:World}{K:zSS}{elts:List Expr}{x1}{pos:Pos}(l e it:Addr)(hne:e≠it):Turn P w K (.Tuple elts x1 pos) (Ite K l) [e,it] e (fun i h=> ∃old,IsEnum h e it i old/\h.IsListIter it l i) where
 mem:=by simp
 obj:=fun i h st b hb=>by
  obtain ⟨old,e1,o,e2,c,d⟩:=st;rcases zST.mp hb with r | r
  ·subst r;exact ⟨_,e1,fun v z=>by
    have z':Data.fields _=Data.cell v:=z;cases z'⟩
  ·have r':b=it:=by simpa using r
   subst r';exact ⟨o,e2,fun v z=>by rw [d] at z;cases z⟩
 keep:=fun i h h' st k=>let ⟨old,e1,e2⟩:=st;⟨old,k e (by simp) _ e1,e2.at fun o z=>k it (by simp) o z⟩
 item:=by
  intro X hP hw hK hc i pins s σ H E I hf st hg;subst hP hw hK;obtain ⟨xs,x,hq,hx⟩:=hg;obtain ⟨old,hen,hit⟩:=st;obtain ⟨its,rv,p,hz⟩:=I.list hq;obtain ⟨u,hu,ru⟩:=rv.get hx;obtain ⟨f0,f1,f2,f3,f4,f5⟩:=hf e (by simp);obtain ⟨g0,g1,g2,g3,g4,g5⟩:=hf it (by simp);refine wpAny_pyNext_enum_item hen hit p.isList (x:=u) (by simpa using hu) hne fun h1 heo hit1 ht hz1 hk=>⟨_,rfl,?_⟩;refine wpAny_letOwnedTupleGo_enum heo fun h2 he2 hs2=>?_;replace hs2:Heap.SameBut e h1 h2:=hs2;have hn1:s.heap.objs.size≠e:=zSL (zRm hen);have hn2:s.heap.objs.size≠it:=by
   obtain ⟨o,z,_⟩:=hit;exact zSL (zRm z)
  have old': ∀b q,b≠e->b≠it->s.heap.get? b=some q->h2.get? b=some q:=fun b q hb hb2 z=>(hs2.2 b hb).trans (hk b q hb hb2 z);have new:h2.get? s.heap.objs.size=some {cls:= .type "tuple",data:= .seq #[.int i s.toks,u]}:=(hs2.2 _ hn1).trans ht;obtain ⟨oi,hoi,hci⟩:=id hit;obtain ⟨oj,hoj,hcj⟩:=id hit1;have hoj2:h2.get? it=some oj:=(hs2.2 it (Ne.symm hne)).trans hoj;have I1:Inv X pins σ (upd H s.heap.objs.size (.tup [.int i,x])) {s with heap:=s.heap.push {cls:= .type "tuple",data:= .seq #[.int i s.toks,u]},toks:=s.toks+1}:=
   I.laid (fun b q e=>zRe _ e) (zRg _) ⟨by show 2<=sizeLine;decide,[.int i s.toks,u],.cons ⟨_,rfl⟩ (.cons ru .nil),_,zRu _ rfl,rfl,⟨_,rfl⟩,rfl⟩
  have I2:=Inv.turnedL (h':=h2) (t':=s.toks+1) (ch:= [e,it]) I1 (fun b q hb z=>by
   have hb1:b≠e:=fun y=>hb (by simp [y]);have hb2:b≠it:=fun y=>hb (by simp [y]);replace z:(s.heap.push {cls:= .type "tuple",data:= .seq #[.int i s.toks,u]}).get? b=some q:=z;by_cases hbs:b=s.heap.objs.size
   ·subst hbs;rw [zRu _ rfl] at z;cases z;exact new
   ·rw [Heap.get?_push_ne _ _ _ hbs] at z;exact old' b q hb1 hb2 z) (fun b hb=>(hf b hb).upd (by
     rcases zST.mp hb with r | r
     ·subst r;exact Ne.symm hn1
     ·have r':b=it:=by simpa using r
      subst r';exact Ne.symm hn2))
  refine ⟨.ref s.heap.objs.size,_,I2,rfl,⟨_,x,fun ys hy=>by rw [I.list_inj hy hq];exact hx,I.hok.fresh (zRg _),rfl,rfl⟩,⟨u,?_,oj,hoj2,hcj⟩,fun b hb=>?_⟩
  ·have z:((i+1:Nat):Int)=(i:Int)+1:=by omega
   rw [z];exact he2
  ·rcases zST.mp hb with r | r
   ·subst r;rw [zQ (Ne.symm hn1)];exact f0
   ·have r':b=it:=by simpa using r
    subst r';rw [zQ (Ne.symm hn2)];exact g0
 done:=by
  intro X hP hw hK hc i pins s σ H E I hf st hg;subst hP hw hK;obtain ⟨xs,hq,hx⟩:=hg;obtain ⟨old,hen,hit⟩:=st;obtain ⟨its,rv,p,hz⟩:=I.list hq;obtain ⟨g0,g1,g2,g3,g4,g5⟩:=hf it (by simp);have hl:=rv.length;exact wpAny_pyNext_enum_end (I.ok.hd hc) hen hit p.isList (by simp;omega) fun h' eb=>⟨rfl,I.turned (t':=s.toks) (fun b o hb e=>eb b o hb e) g0 g1 g3 g4 g5⟩
 self:=fun A i s Q E st h=>by
  obtain ⟨old,e1,_⟩:=st;exact wpAny_pyIter_enum e1 h
def zKk(K:zSS)(ta:TA):TI:=fun σ H R=>ta σ H fun vs H1=> ∃a,vs= [.ref a] /\(∃xs,SqL K H1 a xs)/\R (Ite K a) H1
theorem zLz{X:Cx}{a:Expr}{ta:TA}{p pos tpos:Pos}{elts:List Expr}{x1}(hg:Gl X "enumerate")(hm:X.mg "enumerate" =none)(ha:PA X [a] ta)(hs:starEach [a] X.env= [(false,eval a X.env)]):
  PI X (.Tuple elts x1 tpos) (.Call (.Name "enumerate" p) [a] [] pos) (zKk X.K ta):=by
 intro pins s σ H R I h;refine Call_ (zBG I hg hm boot_enumerate (PyProof.Rows.callWith_type1 (zb (ha pos pins s σ H _ I h) fun us s1 ⟨vs,H1,I1,r1,q1⟩=>?_) hs rfl));obtain ⟨l,e,⟨xs,hq⟩,q⟩:=q1;subst e;obtain ⟨u,rfl,ru⟩:=zBP r1;cases ru;obtain ⟨its,rv,pl,hz⟩:=I1.list hq;refine call_enumerate_list pl.isList fun h' he hit hsz hk=>?_;refine wpAny_pyIter_enum he ?_;refine ⟨_,[s1.heap.objs.size+1,s1.heap.objs.size],_,_,H1,rfl,I1.kept (t':=s1.toks) hk,zJD l _ _ (Nat.succ_ne_self _),⟨_,he,hit⟩,fun b hb=>?_,q⟩;rcases zST.mp hb with r | r
 ·subst r;exact I1.fpOk (Nat.le_succ _) (I1.hok.fresh (Nat.le_succ _))
 ·have r':b=s1.heap.objs.size:=by simpa using r
  subst r';exact I1.fpOk (zRg _) (I1.hok.fresh (zRg _))
theorem zMt{X:Cx}{K:zSS}{a:Expr}{ta:TA}{p pos tpos:Pos}{elts:List Expr}{x1}(hK:X.K=K)(hg:Gl X "enumerate")(hm:X.mg "enumerate" =none)(ha:QA X [a] ta)(h2:yB a=true):
  QI X (.Tuple elts x1 tpos) (.Call (.Name "enumerate" p) [a] [] pos) (zKk K ta):=by
 subst hK;exact ⟨zLz hg hm ha.out (by rw [zt h2];rfl)⟩
section
variable {X:Cx}
theorem zCn:OpR X (compareOp .LtE) (fun x y H Q=> ∃i j,x= .str i/\y= .str j/\Q (.bl (!decide (j.cps.toList<i.cps.toList))) H):=by
 intro pins s σ H x y v u Q I rx ry h;obtain ⟨i,j,rfl,rfl,q⟩:=h;obtain ⟨t,rfl⟩:=rx;obtain ⟨t',rfl⟩:=ry;exact PySem.P.le_str (zp I q rfl)
theorem zGy: ∀{bs:List Bool} {us:List Value},zT (bs.map V.bl) us->us=bs.map Value.bool
 | [],_,r=>by cases r;rfl
 | b::bs,_,r=>by
  cases r with
  | cons h t=>
   cases h;rw [zGy t];rfl
theorem zIT{bs:List Bool}:(List.range bs.length).all (fun i=>bs.getD i false)=bs.all id:=by
 rw [zSb,List.all_eq_true,List.all_eq_true];constructor
 ·intro h b hb;obtain ⟨i,hi,e⟩:=List.getElem_of_mem hb;have:=h i (List.mem_range.mpr hi);rw [List.getD_eq_getElem?_getD,zRc hi] at this;rw [<-e];exact this
 ·intro h i hi;have hi':=List.mem_range.mp hi;rw [List.getD_eq_getElem?_getD,zRc hi'];exact h _ (zSF hi')
theorem zJt(hc:X.calm=true):yV X (.builtin "all") (fun xs H Q=> ∃(a:Addr) (bs:List Bool),xs= [.ref a] /\SqL X.K H a (bs.map V.bl)/\Q (.bl (bs.all id)) H):=by
 intro pins s σ H xs us Q I r h;obtain ⟨a,bs,rfl,hq,q⟩:=h;obtain ⟨u,rfl,ru⟩:=zBP r;cases ru;obtain ⟨its,rv,p,hz⟩:=I.list hq;have e:=zGy rv;subst e;have hlt:a<s.heap.objs.size:=by
  obtain ⟨o,ho,_⟩:=p.isList;exact zRm ho
 refine call_all_walk (wpAny_pyIter_list p.isList ⟨s.heap.objs.size,_,_,_,_,_,fun i=>bs.getD i false,rfl,Walks.list (show X.A.in1.handled=none from I.ok.hd hc) s.heap.objs.size a (zRk hlt) (bs.map Value.bool).toArray,
  ⟨⟨_,zRu _ rfl,rfl,rfl⟩,p.isList.at fun o z=>zRe _ z⟩,fun i v s' Q' E' hP hQ=>?_,fun h' tk hk=>?_⟩)
 ·have e:v= .bool (bs.getD i false):=by
   have hP':((bs.map Value.bool).toArray)[i]?=some v:=hP;rw [List.getElem?_toArray,zRh] at hP';cases q2:bs[i]? with
   | none=>rw [q2] at hP';cases hP'
   | some b=>
    rw [q2] at hP';rw [List.getD_eq_getElem?_getD,q2];exact (Option.some.inj hP').symm
  subst e;exact zRi hQ
 ·have ez:((bs.map Value.bool).toArray).size=bs.length:=by simp
  refine ⟨.bl (bs.all id),H,?_,?_,q⟩
  ·refine I.kept fun b o z=>hk b o (fun y=>?_) (zRe _ z);have y':b=s.heap.objs.size:=by simpa using y
   exact absurd (y'▸zRm z) (Nat.lt_irrefl _)
  ·show Value.bool _=Value.bool _;rw [ez,zIT]
end
end L2
namespace PySem
end PySem
namespace L2
open PySem PySem.Spec PyProof.Rows
section
variable {X:Cx}{pins:List (Addr×Obj)}{σ:St}{H:Hp}{s:Shared}
end
end L2
namespace PySem
open PyProof.Rows
section
variable {prog:Program}{w:World}{K:Type}[DecidableEq K]{knd:KeyKind prog w K}{A:Around}{E:Value->Shared->Prop}{s:Shared}
end
end PySem
namespace L2
open PySem PySem.Spec PyProof.Rows
theorem zEq: ∀{vs:List Value} {ss:List Str},StrsAre vs ss->zT (ss.map V.str) vs
 | _,_,.nil=> .nil
 | _,_,.cons y t h=> .cons ⟨t,rfl⟩ (zEq h)
section
variable {X:Cx}
def zDp:V->Bool
 | .int _=>true
 | .str _=>true
 | _=>false
theorem zIp{A:Around}{s:Shared}{x:V}{u v:Value}(f:zDp x=true)(ru:ze x u)(rv:ze x v):SeqAt.EqAt A s u v true:=by
 cases x with
 | int i=>
  obtain ⟨t,rfl⟩:=ru;obtain ⟨t',rfl⟩:=rv;have z:=SeqAt.EqAt.int_int (A:=A) (s:=s) i t i t';simpa using z
 | str i=>
  obtain ⟨t,rfl⟩:=ru;obtain ⟨t',rfl⟩:=rv;have z:=SeqAt.EqAt.str_str (A:=A) (s:=s) i t i t';simpa using z
 | _=>cases f
theorem zIL{A:Around}{s:Shared}{xs:List V}{us vs:List Value}(f: ∀x∈xs,zDp x=true)(ru:zT xs us)(rv:zT xs vs):
  ∀j (h1:j<us.toArray.size) (h2:j<vs.toArray.size),SeqAt.EqAt A s us.toArray[j] vs.toArray[j] true:=by
 intro j h1 h2;have j1:j<us.length:=by simpa using h1
 have j2:j<vs.length:=by simpa using h2
 have l1:=ru.length;have a1:xs[j]?=some xs[j] :=zRc (by omega);obtain ⟨u1,b1,c1⟩:=ru.get a1;obtain ⟨u2,b2,c2⟩:=rv.get a1;have d1:us[j] =u1:=by rw [zRc j1] at b1;exact Option.some.inj b1
 have d2:vs[j] =u2:=by rw [zRc j2] at b2;exact Option.some.inj b2
 have w:=zIp (A:=A) (s:=s) (f _ (zSF (by omega))) c1 c2;simpa [d1,d2] using w
end
end L2
namespace PySem
open PyProof.Rows
section
variable {prog:Program}{w:World}{K:Type}[DecidableEq K]{knd:KeyKind prog w K}{A:Around}{E:Value->Shared->Prop}{s:Shared}
end
section
variable {prog:Program}{w:World}{K:Type}[DecidableEq K]{knd:KeyKind prog w K}{A:Around}{R:Result->Shared->Prop}{d it l:Addr}{items:Array Value}{ps:List (K×Value)}
end
section
variable {prog:Program}{w:World}{K:Type}[DecidableEq K]{knd:KeyKind prog w K}{A:Around}{E:Value->Shared->Prop}{s:Shared}
end
end PySem
namespace L2
open PySem PySem.Spec PyProof.Rows
section
variable {X:Cx}
end
section
variable {X:Cx}{K:zSS}{o i e f value:Expr}{td ty tx tv:TE}{pos pos' apos cpos:Pos}
theorem zCg(hK:X.K=K)(hc:X.calm=true):yV X (.builtin "all") (fun xs H Q=> ∃(a:Addr) (bs:List Bool),xs= [.ref a] /\SqL K H a (bs.map V.bl)/\Q (.bl (bs.all id)) H):=by
 subst hK;exact zJt hc
theorem zJX(hK:X.K=K):OpR X (compareOp .NotIn) (rIn K true):=by
 subst hK;exact zFw
theorem zBI(hK:X.K=K):yV X (.type "list") (fun xs H Q=> ∃p ys,xs= [.ref p] /\(SqL K H p ys\/SqT K H p ys)/\ ∀l,H l=none->Q (.ref l) (upd H l (.lst ys))):=by
 subst hK;exact zFp
theorem zAK(hK:X.K=K):yV X (.type "tuple") (fun xs H Q=> ∃p ys,xs= [.ref p] /\((SqL K H p ys/\ ∀l,H l=none->Q (.ref l) (upd H l (.tup ys)))\/(SqT K H p ys/\Q (.ref p) H))):=by
 subst hK;exact zFC
end
def zKq(ns:List (Str×NameKind))(cl:List (Str×Addr)):Bool:=ns.all fun p=>match p.2 with
 | .cell=>(cl.lookup p.1).isSome
 | .free=>(cl.lookup p.1).isSome
 | _=>true
theorem zCS{κ β:Type}[BEq κ][LawfulBEq κ]{y:κ}{b:β}: ∀{l:List (κ×β)},l.lookup y=some b->(y,b)∈l
 | [],h=>by cases h
 |(z,c)::l,h=>by
  rw [List.lookup_cons] at h;split at h
  ·rename_i q
   have:y=z:=by simpa using q
   cases h;rw [this];exact List.mem_cons_self
  ·exact zSI _ (zCS h)
theorem yJ{ns:List (Str×NameKind)}{cl:List (Str×Addr)}(h:zKq ns cl=true): ∀y,(ns.lookup y=some .cell\/ns.lookup y=some .free)-> ∃a,cl.lookup y=some a:=by
 intro y hy;unfold zKq at h;rw [List.all_eq_true] at h;rcases hy with e | e
 ·exact Option.isSome_iff_exists.mp (h (y,.cell) (zCS e))
 ·exact Option.isSome_iff_exists.mp (h (y,.free) (zCS e))
theorem fr1{Pp:Str->Nat->Prop}{y:Str}{i:Nat}(h:Pp y i): ∀(j:Nat) (y':Str) (i':Nat),[y][j]?=some y'-> [i][j]?=some i'->Pp y' i':=by
 intro j y' i' h1 h2;cases j with
 | zero=>cases h1;cases h2;exact h
 | succ j=>simp at h1
section
variable {g:TG}{tt:TT}{te:TE}{n:Nat}{fr:List Nat}{σ:St}{H:Hp}{Q:VK}{J:It}
theorem zGh(D:Addr)(len:Nat)(Pv:Nat->List V->Hp->Prop)(h0:Pv 0 [] (upd H D (.lst [])))(hb:len<=sizeLine)
  (hk: ∀i ys H',i<=len->Pv i ys H'->ys.length<=i/\H' D=some (.lst ys)/\(i<len->J.go i H')/\(i=len->J.stop i H'))
  (hs: ∀i ys H' x H'',i<len->Pv i ys H'->J.yld i H' x H''->zDZ g tt te n (yH fr σ) D x ys H'' (Pv (i+1))) (hd: ∀ys H',Pv len ys H'->Q (.ref D) H'):
  ∃W:Nat->Nat->List V->Hp->Prop,(∃m,W 0 m [] (upd H D (.lst [])))/\ ∀i m ys H',W i m ys H'->H' D=some (.lst ys)/\((J.stop i H'/\Q (.ref D) H')\/(J.go i H'/\ys.length<sizeLine/\ ∃N:List V->Hp->Prop,(∀ys' H',N ys' H'-> ∃m',m'<m/\W (i+1) m' ys' H')/\
   ∀x H'',J.yld i H' x H''-> ∀pre:St,pre.length=n->g x (pre++yH fr σ) H'' fun σ2 H2=>(∃yZ:St,yZ.length=n/\σ2=yZ++yH fr σ)/\
    tt σ2 H2 fun b H3=>if b=true then te σ2 H3 fun y H4=>H4 D=some (.lst ys)/\N (ys++ [y]) (upd H4 D (.lst (ys++ [y]))) else N ys H3)):=by
 refine ⟨fun i m ys H'=>i<=len/\m=len - i/\Pv i ys H',⟨_,zRr _,rfl,h0⟩,?_⟩;rintro i m ys H' ⟨hi,rfl,p⟩;obtain ⟨hl,hD,hgo,hst⟩:=hk i ys H' hi p;refine ⟨hD,?_⟩;by_cases hlt:i<len
 ·refine .inr ⟨hgo hlt,by omega,Pv (i+1),fun ys' H'' q=>⟨len -(i+1),by omega,hlt,rfl,q⟩,?_⟩;intro x H'' hy;exact hs i ys H' x H'' hlt p hy
 ·have e:i=len:=by omega
  subst e;exact .inl ⟨hst rfl,hd ys H' p⟩
theorem zLo{tb:TS}{D:Ends}(len:Nat)(Pv:Nat->St->Hp->Prop)(h0:Pv 0 σ H)(hgo: ∀i σ H,i<len->Pv i σ H->J.go i H)(hst: ∀σ H,Pv len σ H->J.stop len H)
  (hs: ∀i σ H x H',i<len->Pv i σ H->J.yld i H x H'->g x σ H' fun σ2 H2=>tb {D with nx:=Pv (i+1),ct:=Pv (i+1),bk:=D.nx} σ2 H2) (hd: ∀σ H,Pv len σ H->D.nx σ H):
  ∃W:Nat->Nat->St->Hp->Prop,(∃m,W 0 m σ H)/\ ∀i m σ H,W i m σ H->
   (J.stop i H/\D.nx σ H)\/(J.go i H/\ ∃N:St->Hp->Prop,(∀σ' H',N σ' H'-> ∃m',m'<m/\W (i+1) m' σ' H')/\ ∀x H',J.yld i H x H'->g x σ H' fun σ2 H2=>tb {D with nx:=N,ct:=N,bk:=D.nx} σ2 H2):=by
 refine ⟨fun i m σ H=>i<=len/\m=len - i/\Pv i σ H,⟨_,zRr _,rfl,h0⟩,?_⟩;rintro i m σ H ⟨hi,rfl,p⟩;by_cases hlt:i<len
 ·exact .inr ⟨hgo i σ H hlt p,Pv (i+1),fun σ' H' q=>⟨len -(i+1),by omega,hlt,rfl,q⟩,fun x H' hy=>hs i σ H x H' hlt p hy⟩
 ·have e:i=len:=by omega
  subst e;exact .inl ⟨hst σ H p,hd σ H p⟩
end
def zRJ(wi:TI):TI:=fun σ H R=> ∃Rs:It->Hp->Prop,wi σ H Rs/\ ∀J H1,Rs J H1->R J H1
theorem zHo{X:Cx}{tg iter:Expr}{wi:TI}(h:QI X tg iter wi):QI X tg iter (zRJ wi):=by
 refine ⟨fun pins s σ H R I ⟨Rs,h1,h2⟩=>?_⟩;refine zb (h.out pins s σ H Rs I h1) fun v s1 q=>zb q fun itv s2 q2=>?_;obtain ⟨it,fp,tn,J,H',a1,a2,a3,a4,a5,a6⟩:=q2;exact ⟨it,fp,tn,J,H',a1,a2,a3,a4,a5,h2 J H' a6⟩
structure CompInv(J:It)(g:TG)(tt:TT)(te:TE)(n:Nat)(suf:St)(H:Hp)(D:Addr)(Q:VK):Prop where
 ex: ∃(len:Nat) (Pv:Nat->List V->Hp->Prop),Pv 0 [] (upd H D (.lst []))/\len<=sizeLine/\(∀i ys H',i<=len->Pv i ys H'->ys.length<=i/\H' D=some (.lst ys)/\(i<len->J.go i H')/\(i=len->J.stop i H'))/\
  (∀i ys H' x H'',i<len->Pv i ys H'->J.yld i H' x H''->zDZ g tt te n suf D x ys H'' (Pv (i+1)))/\ ∀ys H',Pv len ys H'->Q (.ref D) H'
theorem zi{J:It}{g:TG}{tt:TT}{te:TE}{n:Nat}{suf:St}{H:Hp}{D:Addr}{Q:VK}(len:Nat)(Pv:Nat->List V->Hp->Prop)(h0:Pv 0 [] (upd H D (.lst [])))(hb:len<=sizeLine)
  (hk: ∀i ys H',i<=len->Pv i ys H'->ys.length<=i/\H' D=some (.lst ys)/\(i<len->J.go i H')/\(i=len->J.stop i H'))
  (hs: ∀i ys H' x H'',i<len->Pv i ys H'->J.yld i H' x H''->zDZ g tt te n suf D x ys H'' (Pv (i+1))) (hd: ∀ys H',Pv len ys H'->Q (.ref D) H'):CompInv J g tt te n suf H D Q:=⟨len,Pv,h0,hb,hk,hs,hd⟩
def zJH(wi:TI)(g:TG)(tt:TT)(te:TE)(n:Nat)(fr:List Nat):TE:=fun σ H Q=>wi σ H fun J H1=> ∀D,H1 D=none->CompInv J g tt te n (yH fr σ) H1 D Q
theorem yu{X:Cx}{elt iter tg:Expr}{ifs:List Expr}(zs:List Str){pos:Pos}{scope:Scope}{cl:List (Str×Addr)}(ys:List Str)(fr:List Nat){wi:TI}{g:TG}{tt:TT}{te:TE}(hcm:X.calm=true)
  (hi:QI X tg iter wi) (hclos:closureFor scope X.env=pure cl) (hcell: ∀y∈scope.names,y.2≠ .cell) (hkind:scope.kind= .function) (hnames: ∀y∈scope.names,y.2= .local->scope.names.lookup y.1=some .local)
  (hcl: ∀y a,cl.lookup y=some a->X.env.cells.lookup y=some a)
  (hlen:ys.length=fr.length) (hfr: ∀(j:Nat) y i,ys[j]?=some y->fr[j]?=some i->X.N[i]?=some y/\X.env.kindOf y=some .cell/\(relabel scope X.env).names.lookup y=some .cell/\ ∃a,cl.lookup y=some a/\X.env.cells.lookup y=some a)
  (hhas: ∀y,((relabel scope X.env).names.lookup y=some .cell\/(relabel scope X.env).names.lookup y=some .free)-> ∃a,cl.lookup y=some a)
  (hg: ∀C s₂ H₂ fp,QG (X.comp scope cl C (zs++ys) s₂ H₂ fp) tg g) (hc: ∀C s₂ H₂ fp,QTs (X.comp scope cl C (zs++ys) s₂ H₂ fp) ifs tt) (he: ∀C s₂ H₂ fp,QE (X.comp scope cl C (zs++ys) s₂ H₂ fp) elt te) (hs: ∀v,foldedSetIterable iter X.env v=pure v):
  QE X (.ListComp elt [⟨tg,iter,ifs,0⟩] scope pos) (zJH wi g tt te zs.length fr):=
 zPy (zLy zs ys fr hcm (zHo hi) hclos hcell hkind hnames hcl hlen hfr hhas hg hc he hs) fun σ H Q h=>⟨_,h,fun J H1 h1 D hD=>by
  obtain ⟨len,Pv,a0,a1,a2,a3,a4⟩:=(h1 D hD).ex;exact zGh D len Pv a0 a1 a2 a3 a4⟩
structure ForInv(J:It)(g:TG)(tb:TS)(D:Ends)(σ:St)(H:Hp):Prop where
 ex: ∃(len:Nat) (Pv:Nat->St->Hp->Prop),Pv 0 σ H/\(∀i σ H,i<len->Pv i σ H->J.go i H)/\(∀σ H,Pv len σ H->J.stop len H)/\
  (∀i σ H x H',i<len->Pv i σ H->J.yld i H x H'->g x σ H' fun σ2 H2=>tb {D with nx:=Pv (i+1),ct:=Pv (i+1),bk:=D.nx} σ2 H2)/\ ∀σ H,Pv len σ H->D.nx σ H
theorem zAz{J:It}{g:TG}{tb:TS}{D:Ends}{σ:St}{H:Hp}(len:Nat)(Pv:Nat->St->Hp->Prop)(h0:Pv 0 σ H)(hgo: ∀i σ H,i<len->Pv i σ H->J.go i H)(hst: ∀σ H,Pv len σ H->J.stop len H)
  (hs: ∀i σ H x H',i<len->Pv i σ H->J.yld i H x H'->g x σ H' fun σ2 H2=>tb {D with nx:=Pv (i+1),ct:=Pv (i+1),bk:=D.nx} σ2 H2) (hd: ∀σ H,Pv len σ H->D.nx σ H):ForInv J g tb D σ H:=⟨len,Pv,h0,hgo,hst,hs,hd⟩
def zPZ(wi:TI)(g:TG)(tb:TS):TS:=fun D σ H=>wi σ H fun J H1=>ForInv J g tb D σ H1
theorem zBi{X:Cx}{tg iter:Expr}{b1:List Stmt}{pos:Pos}{wi:TI}{g:TG}{u:TS}(hp:PassesOwn (model X.prog X.w) X.A X.env X.xe)(hc:X.calm=true)(hi:QI X tg iter wi)(hg:QG X tg g)(hb:QB X b1 u)(hs: ∀x,foldedSetIterable iter X.env x=pure x):QS X (.For tg iter b1 [] pos) (zPZ wi g u):=by
 have h:=zPF (pos:=pos) hp hc (zHo hi) hg hb hs;refine ⟨fun pins s σ H D I ht=>h.out pins s σ H D I ⟨_,ht,fun J H1 h1=>?_⟩⟩;obtain ⟨len,Pv,a0,a1,a2,a3,a4⟩:=h1.ex;exact zLo len Pv a0 a1 a2 a3 a4
inductive XCatE (K:zSS) (x y:V) (H:Hp) (Q:VK):Prop
 | mk (a b:Addr) (xs ys:List V) (h1:x= .ref a) (h2:y= .ref b) (h3:SqT K H a xs) (h4:SqT K H b ys) (h5:xs.length+ys.length<=sizeLine)
  (q0:xs= [] ->Q (.ref b) H) (q1:xs≠ [] ->ys= [] ->Q (.ref a) H) (q2:xs≠ [] ->ys≠ [] -> ∀p,H p=none->Q (.ref p) (upd H p (.tup (xs++ys))))
theorem zBR{X:Cx}{K:zSS}(hK:X.K=K):OpR X (binaryOp .Add) (XCatE K):=by
 subst hK;intro pins s σ H x y v u Q I rx ry h;obtain ⟨a,b,xs,ys,ex,ey,ha,hb,hz,q0,q1,q2⟩:=h;by_cases hx:xs= []
 ·subst ex ey hx;cases rx;cases ry;obtain ⟨its,r1,p1,_⟩:=I.tuple ha;obtain ⟨its2,r2,p2,_⟩:=I.tuple hb;cases r1;obtain ⟨⟨cls,dd,data,sl⟩,ho,hc,n,hd⟩:=id p1;obtain ⟨⟨cls2,dd2,data2,sl2⟩,ho2,hc2,n2,hd2⟩:=id p2;simp only at hc hd hc2 hd2;subst hc hd hc2 hd2;exact concat_meets ⟨_,ho,rfl⟩ ⟨_,ho2,rfl⟩ noFill_tuple_add seq_tuple_add PySem.F.slot_tuple_add PySem.F.entry_tuple_add (PySem.F.args_tuple_add_2 _ _)
   (tuple_addW0 a b _ _ n n2 dd dd2 sl sl2 rfl) ⟨ho,ho2,.ref b,H,I,rfl,q0 rfl⟩
 ·exact zLR pins s σ H x y v u Q I rx ry ⟨a,b,xs,ys,ex,ey,ha,hb,hx,hz,q1 hx,q2 hx⟩
section
variable {X:Cx}
end
section
variable {H H':Hp}{d:Addr}{kvs:List (Key×V)}
end
section
variable {X:Cx}
structure QO(X:Cx)(e:Option Expr)(t:TO):Prop where
 out:PO X e t
theorem zAH:QO X none zGx:=⟨zLW⟩
theorem yp{e:Expr}{te:TE}(h:QE X e te):QO X (some e) (zLJ te):=⟨zLc h.out⟩
section
variable {K:zSS}{o e:Expr}{to te:TE}{apos cpos:Pos}
theorem zCm(hK:X.K=K):OpR X (compareOp .In) (rIn K false):=by
 subst hK;exact zIW
def zOr(K:zSS)(b:Bool):R2:=fun x y H Q=> ∃p q xs,x= .ref p/\y= .ref q/\SqL K H p xs/\SqL K H q xs/\(∀x∈xs,zDp x=true)/\Q (.bl b) H
theorem zLm(hK:X.K=K)(hu:X.A.units<cLine):OpR X (compareOp .NotEq) (zOr K false):=by
 subst hK;intro pins s σ H x y v u Q I rx ry h;obtain ⟨p,q,xs,rfl,rfl,h1,h2,f,hq⟩:=h;cases rx;cases ry;obtain ⟨us,r1,t1,_⟩:=I.list h1;obtain ⟨vs,r2,t2,_⟩:=I.list h2;have l1:=r1.length;have l2:=r2.length;have es:us.toArray.size=vs.toArray.size:=by simp;omega
 have z:=SeqAt.RcNeAt.lists (A:=X.A) (e:=fun _=>true) t1.isList t2.isList es hu (zIL f r1 r2);rw [zFt] at z;refine z _ _ _ _ ?_;exact ⟨.bl false,H,I,rfl,hq⟩
end
section
variable {CX:CXT}{k:Nat}{f C:Addr}{fd:FuncData}{ps:List Str}{sp:Sp}{dvs:List V}{ds:List Value}{E:XK}{Es:St->XK}{x m:Str}{p pos apos:Pos}{e o:Expr}{es:List Expr}{ta:TE}{t:TA}{pl:Sem Bool}
end
section
variable {pos:Pos}
end
end
section
variable {P:Program}{w:World}{K:zSS}{mg:Str->Option Value}{base:Heap}
end
section
variable {X:Cx}{k:Nat}{f:Addr}{fd:FuncData}{ps:List Str}{sp:Sp}{x:Str}{p pos:Pos}{e:Expr}{es:List Expr}{t:TA}
end
end L2
namespace PySem
open PyProof.Rows
section
variable {prog:Program}{w:World}{A:Around}{E:Value->Shared->Prop}{s:Shared}
end
end PySem
namespace PySem
open PyProof.Rows
section
variable {prog:Program}{w:World}{A:Around}{R:Result->Shared->Prop}{I:Addr}{fp wr:List Addr}{G:Array GenState->Array GenState->Prop}{n:Nat}{P:Nat->Value->Prop}{St:Nat->Shared->Prop}
end
section
variable {prog:Program}{w:World}{A:Around}{E:Value->Shared->Prop}{s:Shared}
end
end PySem
namespace PySem.F
end PySem.F
namespace PySem
open PyProof.Rows
section
variable {prog:Program}{w:World}{A:Around}{E:Value->Shared->Prop}{s:Shared}
end
end PySem
namespace PySem
open PyProof.Rows
section
variable {prog:Program}{w:World}{A:Around}{E:Value->Shared->Prop}{s:Shared}{it a tp:Addr}{es:Array (Int×Value)}{ep:Nat}{t:SetTable}{order:List Nat}{vals:List Value}{i:Nat}
end
end PySem
namespace PySem
open PyProof.Rows
section
variable {prog:Program}{w:World}{A:Around}{E:Value->Shared->Prop}{s:Shared}{it a tp:Addr}{es:Array (Int×Value)}{ep:Nat}{t:SetTable}{order:List Nat}{vals:List Value}{i:Nat}
end
end PySem
namespace PySem
open PyProof.Rows
section
variable {prog:Program}{w:World}{A:Around}{E:Value->Shared->Prop}{s:Shared}
end
end PySem
namespace L2
open PySem PySem.Spec PyProof.Rows
section
variable {X:Cx}
theorem zBV: ∀{ks:List Str} {its:List Value},zT (ks.map V.str) its->StrsAre its ks
 | [],_,.nil=> .nil
 | k::ks,_,.cons r t=>by
  obtain ⟨u,e⟩:=r;subst e;exact .cons k u (zBV t)
def zKi(K:zSS):V->List V->Hp->VK->Prop:=fun x xs H Q=> ∃sep p ys,x= .str sep/\xs= [.ref p] /\SqL K H p (ys.map V.str)/\(ys.map (·.length)).sum+ys.length*sep.length<=16777216/\Q (.str (Txt.join sep ys)) H
theorem zLu:MtR X "str.join" (zKi X.K):=by
 intro pins s σ H x xs v us Q I rx rv h;obtain ⟨sep,p,ys,rfl,rfl,hq,hz,q⟩:=h;obtain ⟨t,rfl⟩:=rx;obtain ⟨u,rfl,ru⟩:=zBP rv;cases ru;obtain ⟨its,r,pl,_⟩:=I.list hq;exact join_list pl.isList (ys:=ys) (by simpa using zBV r) hz fun t' k=>⟨.str _,H,I.tok _,⟨_,rfl⟩,q⟩
open PySem.Builtin PySem.Builtin.Str in
open PySem.Builtin PySem.Builtin.Str in
section
variable {K:zSS}{o e:Expr}{to te:TE}{apos cpos:Pos}
theorem zGN(hK:X.K=K)(ho:QE X o to)(ha:QE X e te)(hb:attributeBase o "join" X.env (eval o X.env)=eval o X.env)(h2:yB e=true)(hl:(apos.endLine==cpos.line)=true):
  QE X (.Call (.Attribute o "join" apos) [e] [] cpos) (tBM K "str" (zKi K) to (zFP te zHv)):=by
 subst hK;exact ⟨zLC PySem.F.plainAttrs_str PySem.F.slot_str_join PySem.F.type_str_join zLu ho.out (yL ha.out zAA (zt h2)) hb (by rw [zt h2];rfl) hl (zt h2) rfl⟩
theorem zCZ{lo hi:Option Expr}{tl th:TO}{pos p2:Pos}(hK:X.K=K)(he:QE X e te)(hl:QO X lo tl)(hu:QO X hi th):QE X (.Subscript e (.Slice lo hi none p2) pos) (tSl (zOF K) te tl th):=by
 subst hK;exact ⟨zGA zLt he.out hl.out hu.out⟩
end
end
section
variable {X:Cx}{pos:Pos}
end
section
variable {M:Model}{A:Around}{E:Value->Shared->Prop}{s:Shared}
end
theorem zCr{h h' B B':Heap}(k: ∀b o,B.get? b=none->h.get? b=some o->(∀vs,o.data≠ .fields vs)->h'.get? b=some o)(kb: ∀b,B.get? b=none->B'.get? b=none): ∀{l:List Env},h.FunFrames B l->h'.FunFrames B' l
 | [],_=>trivial
 | _::_,⟨hk,⟨L,o,hf,hn,ho,hd⟩,hr⟩=>⟨hk,⟨L,o,hf,kb L hn,k L o hn ho hd,hd⟩,zCr k kb hr⟩
def zRA(X:Cx)(E:XK)(e:Value)(s':Shared):Prop:=
 ∃(ea:Addr) (cls a0:Value) (H':Hp) (B:Heap) (fl:Value),e= .ref ea/\s'.os=X.s₀.os/\AllBare s'.gens/\B.StaysIn s'.heap/\B.get? ea=none/\s'.heap.FunFrames B X.stack/\s'.heap.TracedAtW B ea cls a0 fl/\
  HOk X.prog X.w H' B/\FlyU X.fs X.H₀ H' X.s₀.heap B s'.heap/\E cls none H'
def zDI(X:Cx)(E:St->XK):Prop:=X.ex= [] /\X.stack=X.env::X.outer/\X.env.frame=some X.env.locals/\ ∀(σ:St) (e:Value) (s':Shared),X.Ok->zRA X (E σ) e s'->X.xe e s'
section
variable {P:Program}{w:World}{K:zSS}{mg:Str->Option Value}{base:Heap}{N:List Str}{qual:Str}{scope:Scope}{f:Addr}{cd:Value}{A:Around}{outer:List Env}{s₀:Shared}{H₀:Hp}{E:XK}
end
section
variable {X:Cx}{scope:Scope}{cl:List (Str×Addr)}{C:Addr}{N:List Str}{s2:Shared}{H2:Hp}{fp:List Addr}{pins pn:List (Addr×Obj)}{σ σ':St}{H:Hp}{s s':Shared}{e acc:Value}{E:St->XK}{Q:Value->Shared->Prop}
theorem zHz(hp:zDI X E)(I2:Inv X pins σ H2 s2)(f2: ∀b∈fp,@LE.le Nat _ X.s₀.heap.objs.size b)(hC: @LE.le Nat _ s2.heap.objs.size C)(I:Inv (X.comp scope cl C N s2 H2 fp) pn σ' H s)(h:Fly X.prog X.w X.stack H s (E σ) e s'):
  notedBy (model X.prog X.w) X.A (compEnvC scope cl C X.env) (fun e s=>compPost (model X.prog X.w) X.A X.xe none Q acc C (.error e) s) e s':=by
 obtain ⟨hex,hst,hfr,hp⟩:=hp;obtain ⟨ea,cls,a0,H',B,rfl,hos,hb,hfl,hok,U,q⟩:=h;show wpAny _ X.A (noteFrame (.ref ea) X.env) _ _ s';have hfl':=hfl;rw [hst] at hfl';refine wpAny_looks_onW (by rw [I2.ok.frames,hst]) hfr hfl' fun h4 x4 u4=>?_;rw [<-hst] at x4;obtain ⟨m,hn,_⟩:=I.loc;obtain ⟨oC,es,ep,hoC,hdC,rC⟩:=hn;have hCfs:C∉yi X.stack:=fun z=>by
  rcases zST.mp (I2.stkSub C z) with y | y
  ·have:=I2.lt;have y': @Eq Nat C X.env.locals:=y;have this': @LT.lt Nat _ X.env.locals s2.heap.objs.size:=this;omega
  ·obtain ⟨_,o,ho,_⟩:=I2.ok.funs.mem y;have a1: @LT.lt Nat _ C X.s₀.heap.objs.size:=yr ho;have a2: @LE.le Nat _ X.s₀.heap.objs.size s2.heap.objs.size:=I2.sz;omega
 have hCH:H C=none:=I.free;have hCB:B.get? C=some oC:=U.keep C oC hoC hCH hCfs;obtain ⟨x41,x42,x43,oe,vs,T,oT,ts,he,hcls,hd,h1,hnT,hTe,hT,hdT,h3⟩:=x4;have neC: ∀b,B.get? b=none->b≠C:=fun b hb z=>by rw [z,hCB] at hb;cases hb
 have hC4:h4.get? C=some oC:=x41 C oC hCB;refine ⟨m,⟨oC,es,ep,hC4,hdC,rC⟩,fun h' sb cenv' _=>?_⟩;have kp: ∀b o,b≠C->h4.get? b=some o->h'.get? b=some o:=fun b o hb e=>(sb.2 b hb).trans e;have he':=kp ea oe (neC ea x42) he;have hT':=kp T oT (neC T hnT) hT;have hsz3:3<ts.size:=(Array.getElem?_eq_some_iff.mp h3).1;unfold PySem.passOn;refine zRd (wpAny_field he' hd h1 ?_);rw [if_neg (show¬((Value.ref T==Value.none)=true) from by simp)];unfold setFlight;refine zRd (zRd (wpAny_field he' hd h1 ?_));rw [if_pos (show (Value.ref T !=Value.none)=true from by simp)];refine wpAny_setField hT' hdT hsz3 (wpAny_throw ?_);have other: ∀b,b≠T->(h'.update T (Obj.mapFields (·.setIfInBounds 3 (cenv'.frame.elim Value.none fun f=>rawInt f)))).get? b=h'.get? b:=fun b hb=>zSJ _ _ (Ne.symm hb);have noT: ∀b o,B.get? b=some o->b≠T:=fun b o hb z=>by rw [z,hnT] at hb;cases hb
 have frT: ∀b o,h4.get? b=some o->(∀vs,o.data≠ .fields vs)->b≠T:=fun b o hb hnf z=>by
  rw [z,hT] at hb;injection hb with hb;subst hb;exact hnf ts hdT
 have hH'C:H' C=none:=U.free C oC hoC hCH;have exn: ∀b,b∉X.ex:=fun b=>by rw [hex];simp
 have hlt: ∀b o,X.s₀.heap.get? b=some o->b∉fp/\b≠C:=fun b o e=>by
  have a1: @LT.lt Nat _ b X.s₀.heap.objs.size:=yr e;have a2: @LE.le Nat _ X.s₀.heap.objs.size s2.heap.objs.size:=I2.sz;refine ⟨fun z=>?_,fun z=>?_⟩
  ·have:=f2 b z;omega
  ·have z': @Eq Nat b C:=z;omega
 have nst: ∀b o,X.s₀.heap.get? b=some o->b∉X.fs->b∉yi X.stack:=fun b o e hb z=>by
  rcases zST.mp (I2.stkSub b z) with y | y
  ·exact zRk (zRl (zRm e) I2.ok.above) y
  ·exact hb y
 have st1: ∀b,b∈X.fs->b∈yi X.stack:=fun b hb=>by rw [hst];exact zFa hb
 refine hp σ _ _ I2.ok ⟨ea,cls,a0,H',PySem.W.hideAll B [C],_,rfl,?_,hb,fun b o hbo=>?_,?_,zCr (B:=B) (h:=h4) (fun b o hbn hbo hnf=>?_) (fun b hbn=>?_) x43,
  ⟨oe,vs,T,_,_,(other ea (Ne.symm hTe)).trans he',hcls,hd,h1,?_,hTe,zSK _ hT' (Obj.isFreed_of_fields (Obj.data_mapFields hdT _)),Obj.data_mapFields hdT _,by simp [hsz3];rfl⟩,?_,⟨fun b o e n hbf=>?_,fun b o e n hbf=>?_,fun b o e hbf=>?_,fun b o e n=>?_,fun b xs e=>?_,fun b o u e=>?_,fun b ps e=>?_⟩,q⟩
 ·exact hos.trans (I.os.trans I2.os)
 ·have hne:b≠C:=fun z=>by rw [z,PySem.W.hideAll_none [C] (by simp)] at hbo;cases hbo
  have hB:=zSR [C] hbo;rw [other b (noT b o hB)];exact kp b o hne (x41 b o hB)
 ·cases z:(PySem.W.hideAll B [C]).get? ea with
  | none=>rfl
  | some o=>have:=zSR [C] z;rw [x42] at this;cases this
 ·rw [other b (frT b o hbo hnf)];exact kp b o (neC b hbn) hbo
 ·cases z:(PySem.W.hideAll B [C]).get? b with
  | none=>rfl
  | some o=>have:=zSR [C] z;rw [hbn] at this;cases this
 ·cases z:(PySem.W.hideAll B [C]).get? T with
  | none=>rfl
  | some o=>have:=zSR [C] z;rw [hnT] at this;cases this
 ·exact fun a o e=>(hok a o e).stay (fun b u hbb e1=>zSH _ e1 fun hm=>by
   have z:b=C:=by simpa using hm
   rcases hbb with y | y
   ·rw [<-y,z,hH'C] at e;cases e
   ·rw [z,hH'C] at y;cases y) (fun _ q=>q) fun _ _ q=>q
 ·obtain ⟨l1,l2⟩:=hlt b o e;have e1:=I2.base.keep b o e n hbf (exn b);have n1:=I2.base.free b o e n (exn b);have e2:=I.base.keep b o e1 n1 (nst b o e hbf) l1;have n2:=I.base.free b o e1 n1 l1;exact zSH _ (U.keep b o e2 n2 (nst b o e hbf)) (by simpa using l2)
 ·obtain ⟨l1,l2⟩:=hlt b o e;obtain ⟨sl1,e1⟩:=I2.base.slot b o e n hbf (exn b);have n1:=I2.base.free b o e n (exn b);obtain ⟨sl2,e2⟩:=I.base.slot b _ e1 n1 (st1 b hbf) l1;have n2:=I.base.free b _ e1 n1 l1;obtain ⟨sl3,e3⟩:=U.slot b _ e2 n2 (st1 b hbf);obtain ⟨_,o',e3',hd'⟩:=hfl.2.2.1.mem (st1 b hbf);rw [e3] at e3';cases e3';obtain ⟨sl4,e4⟩:=u4 b _ e3 hd';refine ⟨sl4,?_⟩;rw [other b (frT b _ e4 hd')];exact kp b _ l2 e4
 ·obtain ⟨l1,l2⟩:=hlt b o e;obtain ⟨o1,e1⟩:=I2.base.there b o e (exn b);obtain ⟨o2,e2⟩:=I.base.there b o1 e1 l1;obtain ⟨o3,e3⟩:=U.inB b o2 e2 (nst b o e hbf);exact ⟨o3,zSH _ e3 (by simpa using l2)⟩
 ·obtain ⟨l1,l2⟩:=hlt b o e;obtain ⟨o1,e1⟩:=I2.base.there b o e (exn b);obtain ⟨o2,e2⟩:=I.base.there b o1 e1 l1;exact U.free b o2 e2 (I.base.free b o1 e1 (I2.base.free b o e n (exn b)) l1)
 ·exact U.tups b xs (I.base.tups b xs (I2.base.tups b xs e))
 ·exact U.frzs b o u (I.base.frzs b o u (I2.base.frzs b o u e))
 ·obtain ⟨m1,e1⟩:=I2.base.tbls b ps e;obtain ⟨m2,e2⟩:=I.base.tbls b _ e1;obtain ⟨m3,e3⟩:=U.tbls b _ e2;exact ⟨m1++(m2++m3),by rw [e3,Array.append_assoc,Array.append_assoc]⟩
end
abbrev Cx.compX(X:Cx)(scope:Scope)(cl:List (Str×Addr))(C:Addr)(N:List Str)(s₂:Shared)(H₂:Hp)(fp:List Addr)(xe:Value->Shared->Prop):Cx:={X.comp scope cl C N s₂ H₂ fp with xe:=xe}
section
variable {X:Cx}{scope:Scope}{cl:List (Str×Addr)}{C:Addr}{N:List Str}{s₂:Shared}{H₂:Hp}{fp:List Addr}{xe:Value->Shared->Prop}{pins:List (Addr×Obj)}{σ:St}{H:Hp}{s:Shared}
theorem Inv.compX(I:Inv (X.comp scope cl C N s₂ H₂ fp) pins σ H s):Inv (X.compX scope cl C N s₂ H₂ fp xe) pins σ H s:=
 ⟨⟨I.ok.mod,I.ok.kind,I.ok.glob,I.ok.blt,I.ok.above,I.ok.inj,I.ok.has,I.ok.cab,I.ok.hd,I.ok.frames,I.ok.stk,I.ok.exf,I.ok.bs,I.ok.bsz,I.ok.noex,I.ok.exfs,I.ok.funs,I.ok.frf⟩,I.os,I.bare,I.base,I.loc,I.cell,I.free,I.freeC,I.pin,I.hok,I.len⟩
theorem Inv.comp(I:Inv (X.compX scope cl C N s₂ H₂ fp xe) pins σ H s):Inv (X.comp scope cl C N s₂ H₂ fp) pins σ H s:=
 ⟨⟨I.ok.mod,I.ok.kind,I.ok.glob,I.ok.blt,I.ok.above,I.ok.inj,I.ok.has,I.ok.cab,I.ok.hd,I.ok.frames,I.ok.stk,I.ok.exf,I.ok.bs,I.ok.bsz,I.ok.noex,I.ok.exfs,I.ok.funs,I.ok.frf⟩,I.os,I.bare,I.base,I.loc,I.cell,I.free,I.freeC,I.pin,I.hok,I.len⟩
end
theorem zGn{P:Program}{w:World}{A:Around}{R:Result->Shared->Prop}{s:Shared}{elt target iter:Expr}{ifs:List Expr}{scope:Scope}{pos:Pos}{it acc:Value}{env:Env}{E0:Value->Shared->Prop}(hE: ∀e s,E0 e s->notedBy (model P w) A env (fun e s=>R (.error e) s) e s)(J:Nat->Shared->Prop)
  (turn: ∀n s,J n s->wpAny (model P w) A (pyNext it) (fun r s1=>match r with
   | none=>R (.ok .next) s1
   | some v=>wpAny (model P w) A (letOwnedTupleGo target it v) (fun _ s1'=>wpAny (model P w) A (assign target env v) (fun _ s2=>wpAny (model P w) A (zBo ifs env) (fun ok s3=>
     if ok=true then wpAny (model P w) A (eval elt env) (fun x s4=>wpAny (model P w) A (call (.builtin "list.append") [acc,x]) (fun _ s5=> ∃m,m<n/\J m s5) (fun _ _=>False) s4) E0 s3
     else∃m,m<n/\J m s3) (fun _ _=>False) s2) (fun _ _=>False) s1') (fun _ _=>False) s1) (fun _ _=>False) s)
  (n:Nat) (h:J n s):codeAny (model P w) A (.compLoop (.ListComp elt [⟨target,iter,ifs,0⟩] scope pos) 0 it acc env) R s:=by
 refine codeAny_loop rfl J (fun n s hJ=>?_) n h;show wpAny _ A ((compTurn (.ListComp elt [⟨target,iter,ifs,0⟩] scope pos) 0 it acc env).onRaise _) _ _ s;refine wpAny_noted ?_;rw [compTurn_list];refine zRd (wpAny_standAt (zRd (zRw (yP (turn n s hJ)) (fun r s1 h1=>?_) fun _ _ z=>z)));cases r with
 | none=>exact zRi h1
 | some v=>
  refine zRd (zRw (yP h1) (fun _ s2 h3=>zRd (zRw (yP h3) (fun _ s3 h4=>zRd (zRw (yP h4) (fun ok s4 h5=>?_) fun _ _ z=>z)) fun _ _ z=>z)) fun _ _ z=>z);cases ok with
  | false=>exact zRi ⟨rfl,h5⟩
  | true=>exact zRd (zRd (zRw h5 (fun x s5 h6=>zRd (zRw (yP h6) (fun _ s6 h7=>zRi (zRi ⟨rfl,h7⟩)) fun _ _ z=>z)) hE))
def zMU(wi:TI)(g:TG)(tt:TT)(te:(St->XK)->TE)(n:Nat)(fr:List Nat)(E:St->XK):TE:=fun σ H Q=>zEL wi g tt (te fun _=>E σ) n fr σ H Q
def zLQ(wi:TI)(g:TG)(tt:TT)(te:(St->XK)->TE)(n:Nat)(fr:List Nat)(E:St->XK):TE:=fun σ H Q=>zJH wi g tt (te fun _=>E σ) n fr σ H Q
theorem fr2{Pp:Str->Nat->Prop}{y z:Str}{i k:Nat}(h:Pp y i)(h':Pp z k): ∀(j:Nat) (y':Str) (i':Nat),[y,z][j]?=some y'-> [i,k][j]?=some i'->Pp y' i':=by
 intro j y' i' h1 h2
 match j with
 | 0=>cases h1;cases h2;exact h
 | 1=>cases h1;cases h2;exact h'
 | j+2=>simp at h1
theorem zJl{X:Cx}{i0:Nat}{x:Str}{pos' spos:Pos}{elt iter tg:Expr}{ifs:List Expr}{zs:List Str}{pos:Pos}{scope:Scope}{cl:List (Str×Addr)}{ys:List Str}{fr:List Nat}{wi:TI}{g:TG}{tt:TT}{te:(St->XK)->TE}{E:St->XK}(hcm:X.calm=true)(hp:zDI X E)(hN:X.N.Nodup)(hi0:X.N[i0]?=some x)(hx0:Loc X.env.scope x)(hf0:X.fn x=true\/X.env.scope.names.lookup x=some .local)
  (hsw:swapsWith (.ListComp elt [⟨tg,iter,ifs,0⟩] scope pos) (some (.Name x pos')) spos.line X.env=pure true)
  (hi:PI X tg iter wi) (hclos:closureFor scope X.env=pure cl) (hcell: ∀y∈scope.names,y.2≠ .cell) (hkind:scope.kind= .function) (hnames: ∀y∈scope.names,y.2= .local->scope.names.lookup y.1=some .local)
  (hcl: ∀y a,cl.lookup y=some a->X.env.cells.lookup y=some a)
  (hlen:ys.length=fr.length) (hfr: ∀(j:Nat) y i,ys[j]?=some y->fr[j]?=some i->X.N[i]?=some y/\X.env.kindOf y=some .cell/\(relabel scope X.env).names.lookup y=some .cell/\ ∃a,cl.lookup y=some a/\X.env.cells.lookup y=some a)
  (hhas: ∀y,((relabel scope X.env).names.lookup y=some .cell\/(relabel scope X.env).names.lookup y=some .free)-> ∃a,cl.lookup y=some a)
  (hg: ∀C s₂ H₂ fp,PG (X.comp scope cl C (zs++ys) s₂ H₂ fp) tg g) (hc: ∀C s₂ H₂ fp,PTs (X.comp scope cl C (zs++ys) s₂ H₂ fp) ifs tt) (he: ∀C s₂ H₂ fp xe E',zAv (Fly X.prog X.w) (X.compX scope cl C (zs++ys) s₂ H₂ fp xe) E'->PE (X.compX scope cl C (zs++ys) s₂ H₂ fp xe) elt (te E')) (hs: ∀v,foldedSetIterable iter X.env v=pure v:=by intro _;rfl):
  PS X (.Assign [.Name x pos'] (.ListComp elt [⟨tg,iter,ifs,0⟩] scope pos) spos) (zDj (zMU wi g tt te zs.length fr E) (zBH i0)):=by
 intro pins s σ H Dn I h;change zEL wi g tt (te fun _=>E σ) zs.length fr σ H (fun v H1=>zBH i0 v σ H1 Dn.nx) at h;rw [exec_Assign_Name_used _ _ _ _ hsw];refine zRd (wpAny_standAt (zRd ?_));show wpAny _ X.A (do let _<-comprehension (.ListComp elt [⟨tg,iter,ifs,0⟩] scope pos) scope X.env _ (newList []) false (eval iter X.env) (some (assign (.Name x pos') X.env))) _ _ s;refine zRd (zRw (wpAny_comprehension_free (use:=some (assign (.Name x pos') X.env)) (Q:=fun _ s'=>SP X pins Dn .next s') rfl hs hclos hkind hnames (zb (hi pins s σ H _ I h) fun v s1 h1=>zb h1 fun itv s2 h2=>?_)) (fun _ s' hq=>zRi (zRi hq)) fun _ _ e=>e);obtain ⟨it,fp,tn,J,H2,e,I2,T,st2,f2,h2⟩:=h2;subst e;have hD:H2 s2.heap.objs.size=none:=I2.hok.fresh (zRg _);obtain ⟨W,⟨m0,w0⟩,turn⟩:=h2 s2.heap.objs.size hD;refine wpAny_newObj_type (wpAny_newFunctionEnv hcell (by intro y hy;simp at hy) (fun h₁ hns₁ hsb₁=>?_) hkind);dsimp only at hns₁ hsb₁⊢;generalize hH3:s2.heap.push {cls:= .type "list",dict:=none,data:= .seq ([] :List Value).toArray}=H3 at hns₁ hsb₁⊢;have hCs:H3.objs.size=s2.heap.objs.size+1:=by rw [<-hH3,Heap.size_push]
 have old: ∀b o,s2.heap.get? b=some o->h₁.get? b=some o:=fun b o e=>
  hsb₁.extBut b o (zRk (by have:=yr e;omega)) (zRe _ (hH3▸zRe _ e))
 have hacc:h₁.get? s2.heap.objs.size=some {cls:= .type "list",dict:=none,data:= .seq ([] :List Value).toArray}:=
  hsb₁.extBut _ _ (zRk (by omega)) (zRe _ (hH3▸zRu _ rfl))
 have fplt: ∀b∈fp,@LT.lt Nat _ b s2.heap.objs.size:=fun b hb=>by
  obtain ⟨o,e,_⟩:=T.obj _ _ st2 b hb;exact yr e
 have okC:(X.comp scope cl H3.objs.size (zs++ys) s2 H2 fp).Ok:=by
  refine ⟨I2.ok.mod,hkind,I2.ok.glob,I2.ok.blt,?_,fun y z a h1 h2=>I2.ok.inj y z a (hcl y a h1) (hcl z a h2),fun y hy=>hhas y hy,fun y a z _=>(nomatch z),I2.ok.hd,I2.ok.frames,.inl rfl,fun b hb=>⟨?_,fun y a e z=>?_⟩,I2.bs,zRq I2.ok.bsz I2.sz,fun b o e hb=>?_,fun b hb z=>?_,I2.stack,I2.stkFree⟩
  ·show s2.heap.objs.size<=H3.objs.size;omega
  ·show b≠H3.objs.size;have:=fplt b hb;exact zRk (by omega)
  ·exact (f2 b hb).2.2.2.2.1 y a (hcl y a e) z
  ·rcases (f2 b hb).2.2.2.1 with z | z
   ·exact I2.ok.noex b o e z
   ·have z': @LE.le Nat _ X.s₀.heap.objs.size b:=z;have: @LT.lt Nat _ b X.base.objs.size:=yr e;have:=I2.ok.bsz;omega
  ·rcases zST.mp (I2.stkSub b z) with y | y
   ·exact (f2 b hb).2.1 y
   ·exact (f2 b hb).2.2.1 y
 have fpok: ∀{H':Hp},(∀b∈fp,H' b=none)-> ∀b∈fp,zAc (X.comp scope cl H3.objs.size (zs++ys) s2 H2 fp) [] H' b:=fun hn b hb=>
  ⟨hn b hb,(okC.exf b hb).1,okC.exfs b hb,.inl hb,(okC.exf b hb).2,fun p hp=>absurd hp (by simp)⟩
 have cellC: ∀y a,cl.lookup y=some a-> ∃v,s2.heap.IsCell a v:=fun y a e=>I2.cell y a (hcl y a e);have zAT:Inv (X.comp scope cl H3.objs.size (zs++ys) s2 H2 fp) [] (List.replicate zs.length none++yH fr σ) (upd H2 s2.heap.objs.size (.lst [])) {s2 with heap:=h₁,toks:=s2.toks+([] :List (Str×Value)).length}:=by
  refine ⟨okC,rfl,I2.bare,Un.laid old (zRg _) hD,⟨_,hns₁,fun j y v e1 e2 e3=>?_⟩,fun y a e=>?_,?_,fun y a e=>?_,fun p hp=>absurd hp (by simp),I2.hok.laid old (zRg _) ⟨zRr _,[],_,.nil,hacc⟩,?_⟩
  ·by_cases hj:j<zs.length
   ·rw [List.getElem?_append_left (by simpa using hj),List.getElem?_replicate] at e2;rw [if_pos hj] at e2;cases e2
   ·obtain ⟨j,rfl⟩: ∃k,j=zs.length+k:=⟨j - zs.length,by omega⟩;have e1':ys[j]?=some y:=by
     have z:=e1;simp only [Cx.comp] at z;rw [List.getElem?_append_right (by omega)] at z;simpa using z
    have e2':(yH fr σ)[j]?=some (some v):=by
     rw [List.getElem?_append_right (by simp)] at e2;simpa using e2
    unfold yH at e2';rw [zRh] at e2';cases q:fr[j]? with
    | none=>rw [q] at e2';cases e2'
    | some i=>
     rw [q] at e2';have e4:(σ[i]?).getD none=some v:=Option.some.inj e2';have e5:σ[i]?=some (some v):=by
      cases q2:σ[i]? with
      | none=>rw [q2] at e4;cases e4
      | some z=>rw [q2] at e4;exact congrArg some e4
     obtain ⟨hN,hk,hl,a,ha,ha'⟩:=hfr j y i e1' q;obtain ⟨m,_,hl2⟩:=I2.loc;obtain ⟨u,r,l⟩:=hl2 i y v hN e5 (.inr (.inl hk));refine ⟨u,r,.inr ⟨.inl hl,a,ha,?_⟩⟩;rcases l with ⟨k,_⟩|⟨_,a2,ea,z⟩
     ·rw [hk] at k;cases k
     ·rw [ha'] at ea;cases ea;obtain ⟨o,ho,hd⟩:=z;exact ⟨o,old _ _ ho,hd⟩
  ·obtain ⟨v,o,ho,hd⟩:=cellC y a e;exact ⟨v,o,old _ _ ho,hd⟩
  ·show upd H2 s2.heap.objs.size (.lst []) H3.objs.size=none;rw [zQ (by first | exact zRk (by omega)| exact zSL (by omega))];exact I2.hok.fresh (by omega)
  ·obtain ⟨v,o,ho,hd⟩:=cellC y a e;have:=yr ho;rw [zQ (by first | exact zRk (by omega)| exact zSL (by omega))];exact I2.freeC y a (hcl y a e)
  ·show (List.replicate zs.length none++yH fr σ).length=(zs++ys).length;unfold yH;simp [hlen]
 have loop: ∀s₃:Shared,s₃={s2 with heap:=h₁,toks:=s2.toks+([] :List (Str×Value)).length}->
   codeAny (model X.prog X.w) X.A (.compLoop (.ListComp elt [⟨tg,iter,ifs,0⟩] scope pos) 0 (.ref it) (.ref s2.heap.objs.size) (compEnvC scope cl H3.objs.size X.env)) (compPost (model X.prog X.w) X.A X.xe (some (assign (.Name x pos') X.env)) (fun _ s'=>SP X pins Dn .next s') (.ref s2.heap.objs.size) H3.objs.size) s₃:=by
  rintro s₃ rfl;have flown: ∀e s',(∃pn σ' Hx sx,Inv (X.comp scope cl H3.objs.size (zs++ys) s2 H2 fp) pn σ' Hx sx/\Fly X.prog X.w X.stack Hx sx (E σ) e s')->notedBy (model X.prog X.w) X.A (compEnvC scope cl H3.objs.size X.env) (fun e s=>compPost (model X.prog X.w) X.A X.xe (some (assign (.Name x pos') X.env)) (fun _ s'=>SP X pins Dn .next s') (.ref s2.heap.objs.size) H3.objs.size (.error e) s) e s':=by
   rintro e s' ⟨pn,σ',Hx,sx,Ix,hx⟩;refine zHz (Q:=fun _ s'=>SP X pins Dn .next s') (acc:= .ref s2.heap.objs.size) hp I2 (fun b hb=>?_) (by omega) Ix hx;rcases (f2 b hb).2.2.2.1 with z | z
   ·rw [hp.1] at z;cases z
   ·exact z
  refine zGn (E0:=fun e s'=> ∃pn σ' Hx sx,Inv (X.comp scope cl H3.objs.size (zs++ys) s2 H2 fp) pn σ' Hx sx/\Fly X.prog X.w X.stack Hx sx (E σ) e s') flown (fun n s'=> ∃i pre ys' H',pre.length=zs.length/\Inv (X.comp scope cl H3.objs.size (zs++ys) s2 H2 fp) [] (pre++yH fr σ) H' s'/\tn i s'.heap/\(∀b∈fp,H' b=none)/\W i n ys' H') ?_ m0
   ⟨0,List.replicate zs.length none,[],_,by simp,zAT,T.keep _ _ _ st2 fun b hb o e=>old b o e,fun b hb=>by
    have:=fplt b hb;rw [zQ (by first | exact zRk (by omega)| exact zSL (by omega))];exact (f2 b hb).1,w0⟩
  rintro n s3 ⟨i,pre,ys3,H',hpl,I3,st3,fr3,w3⟩;obtain ⟨hl3,alt⟩:=turn i n ys3 H' w3;rcases alt with ⟨stop,qn⟩|⟨go,hz,N,hN,step⟩
  ·refine zRw (T.done (X.comp scope cl H3.objs.size (zs++ys) s2 H2 fp) rfl rfl rfl hcm i [] s3 _ H' (fun _ _=>False) I3 (fpok fr3) st3 stop) (fun r s4 h4=>?_) fun _ _ z=>z.elim;obtain ⟨hr,I4⟩:=h4;subst hr;obtain ⟨m4,hn4,_⟩:=id I4.loc;have back: ∀h'',Heap.SameBut H3.objs.size s4.heap h''->Inv X pins σ H' {s4 with heap:=h''}:=by
    intro h'' hs'';have hb: ∀b o,b≠H3.objs.size->s4.heap.get? b=some o->h''.get? b=some o:=fun b o hb e=>(hs''.2 b hb).trans e;refine I2.call' (s':={s4 with heap:=h''}) (ch:=fp) I4.os ⟨fun b o e n hb' hx'=>?_,fun b o e n hb' hx'=>?_,fun b o e n hx'=>I4.base.free b o e n hx',fun b o e hx'=>?_,I4.base.tups,I4.base.frzs,I4.base.tbls⟩ (fun b u e=>?_) I4.bare fun b hb'=>⟨(f2 b hb').2.2.2.1,(f2 b hb').2.1,(f2 b hb').2.2.2.2.1,(f2 b hb').2.2.2.2.2⟩
    ·exact hb b o (zRk (by have:=yr e;omega)) (I4.base.keep b o e n hb' hx')
    ·obtain ⟨sl,q⟩:=I4.base.slot b o e n hb' hx';exact ⟨sl,hb b _ (zRk (by have:=yr e;omega)) q⟩
    ·obtain ⟨o',q⟩:=I4.base.there b o e hx';exact ⟨o',hb b _ (zRk (by have:=yr e;omega)) q⟩
    ·refine (I4.hok b u e).stay (fun c' w' hc' q=>hb c' w' ?_ q) (fun _ q=>q) fun _ _ q=>q;intro z;have fz:H' H3.objs.size=none:=I4.free;rcases hc' with y | y
     ·rw [<-y,z,fz] at e;cases e
     ·rw [z,fz] at y;cases y
   have I5:Inv X pins σ H' s4:=back s4.heap (Heap.SameBut.refl _ _);have hCs2: @LE.le Nat _ s2.heap.objs.size H3.objs.size:=by omega
   have fz:H' H3.objs.size=none:=I4.free;have cneL:H3.objs.size≠X.env.locals:=fun z=>by
    have z1: @LT.lt Nat _ X.env.locals s2.heap.objs.size:=I2.lt;have z': @Eq Nat H3.objs.size X.env.locals:=z;omega
   have cneC: ∀y c,X.env.cells.lookup y=some c->c≠H3.objs.size:=fun y c e z=>by
    obtain ⟨v,o,ho,_⟩:=I2.cell y c e;have z1:=yr ho;have z': @Eq Nat c H3.objs.size:=z;omega
   show wpAny _ X.A (assign (.Name x pos') X.env (.ref s2.heap.objs.size)) _ _ s4;refine wpAny_assign_Name (zEv I5 hN hi0 hx0 (v:= .ref s2.heap.objs.size) rfl (fun s5 I6 ⟨a,sba,ha⟩=>?_) hf0);have nea:H3.objs.size≠a:=by
    rcases ha with z | z
    ·rw [z];exact cneL
    ·exact fun y=>cneC x a z y.symm
   obtain ⟨oC,es,ep,hoC,rC⟩:=hn4;refine ⟨m4,⟨oC,es,ep,(sba.2 _ nea).trans hoC,rC⟩,fun h'' hs''=>?_⟩;have hb: ∀b o,b≠H3.objs.size->s5.heap.get? b=some o->h''.get? b=some o:=fun b o hb e=>(hs''.2 b hb).trans e;have neb: ∀b:Addr,b∉ [H3.objs.size] ->b≠H3.objs.size:=fun b hb z=>hb (by simp [z]);have I7:Inv X pins (σ.set i0 (some (.ref s2.heap.objs.size))) H' {s5 with heap:=h''}:=by
    refine I6.call' (s':={s5 with heap:=h''}) (ch:= [H3.objs.size]) rfl ⟨fun b o e n hb' hx'=>hb b o (neb b hx') e,fun b o e n hb' hx'=>⟨o.slots,hb b o (neb b hx') e⟩,fun b o e n hx'=>n,fun b o e hx'=>⟨o,hb b o (neb b hx') e⟩,fun b xs e=>e,fun b o u e=>e,fun b ps e=>⟨#[],by simpa using e⟩⟩ (fun b u e=>?_) I6.bare fun b hb'=>?_
    ·refine (I6.hok b u e).stay (fun c' w' hc' q=>hb c' w' ?_ q) (fun _ q=>q) fun _ _ q=>q;intro z;rcases hc' with y | y
     ·rw [<-y,z,fz] at e;cases e
     ·rw [z,fz] at y;cases y
    ·have eb:b=H3.objs.size:=by simpa using hb'
     subst eb;refine ⟨.inr ?_,cneL,cneC,fun p hp z=>?_⟩
     ·have z1: @LE.le Nat _ X.s₀.heap.objs.size s2.heap.objs.size:=I2.sz;show @LE.le Nat _ X.s₀.heap.objs.size H3.objs.size;omega
     ·have z1:=yr (I2.pin p hp).1;have z': @Eq Nat p.1 H3.objs.size:=z;omega
   exact ⟨_,H',I7,qn⟩
  ·refine zRw (T.item (X.comp scope cl H3.objs.size (zs++ys) s2 H2 fp) rfl rfl rfl hcm i [] s3 _ H' (fun _ _=>False) I3 (fpok fr3) st3 go) (fun r s4 h4=>?_) fun _ _ z=>z.elim;obtain ⟨u,hr,h4⟩:=h4;subst hr;dsimp only;have asg:wpAny (model X.prog X.w) X.A (letOwnedTupleGo tg (.ref it) u) (fun _ s5=>wpAny (model X.prog X.w) X.A (assign tg (compEnvC scope cl H3.objs.size X.env) u)
     (fun _ s6=> ∃σ5 H6,(∃pn5,Inv (X.comp scope cl H3.objs.size (zs++ys) s2 H2 fp) pn5 σ5 H6 s6/\(∀b∈fp,∃o,(b,o)∈pn5))/\((∃yZ:St,yZ.length=zs.length/\σ5=yZ++yH fr σ)/\
      tt σ5 H6 fun b H3'=>if b=true then te (fun _=>E σ) σ5 H3' fun y H4=>H4 s2.heap.objs.size=some (.lst ys3)/\N (ys3++ [y]) (upd H4 s2.heap.objs.size (.lst (ys3++ [y]))) else N ys3 H3')/\tn (i+1) s6.heap/\ ∀b∈fp,H6 b=none) (fun _ _=>False) s5) (fun _ _=>False) s4:=by
    refine (zb h4 fun _ s5 ⟨x5,H5,I5,r5,y5,st5,fr5⟩=>?_);have I5':=I5.pinned (fpok fr5) (T.obj _ _ st5);refine zRw (hg _ _ _ _ _ s5 _ H5 x5 u _ I5' r5 (step x5 H5 y5 pre hpl)) (fun _ s6 ⟨σ6,H6,I6,q6⟩=>?_) fun _ _ z=>z.elim;exact ⟨σ6,H6,⟨_,I6,fun b hb=>by
     obtain ⟨o,e,_⟩:=T.obj _ _ st5 b hb;exact ⟨o,zRs _ (zAB hb e)⟩⟩,q6,T.keep _ _ _ st5 fun b hb o e=>(I6.pin (b,o) (zRs _ (zRs _ (zAB hb e)))).1,fun b hb=>by
     obtain ⟨o,e,_⟩:=T.obj _ _ st5 b hb;exact (I6.pin (b,o) (zRs _ (zRs _ (zAB hb e)))).2.1⟩
   refine zRw asg (fun _ s5 h5=>zRw h5 (fun _ s6 h6=>?_) fun _ _ z=>z.elim) fun _ _ z=>z.elim;obtain ⟨σ5,H5,⟨pn5,I6,hp6⟩,⟨⟨yZ,hl2,rfl⟩,q6⟩,st6,fr5⟩:=h6;have keepTurn: ∀{σ7:St} {H7:Hp} {s7:Shared},Inv (X.comp scope cl H3.objs.size (zs++ys) s2 H2 fp) pn5 σ7 H7 s7->tn (i+1) s7.heap/\ ∀b∈fp,H7 b=none:=fun {σ7 H7 s7} I7=>by
    refine ⟨T.keep _ _ _ st6 fun b hb o e=>?_,fun b hb=>?_⟩
    ·obtain ⟨o',hm⟩:=hp6 b hb;have a1:=(I6.pin (b,o') (zRs _ hm)).1;rw [e] at a1;cases a1;exact (I7.pin (b,_) (zRs _ hm)).1
    ·obtain ⟨o',hm⟩:=hp6 b hb;exact (I7.pin (b,o') (zRs _ hm)).2.1
   have drop: ∀{σ7:St} {H7:Hp} {s7:Shared},Inv (X.comp scope cl H3.objs.size (zs++ys) s2 H2 fp) pn5 σ7 H7 s7->Inv (X.comp scope cl H3.objs.size (zs++ys) s2 H2 fp) [] σ7 H7 s7:=fun I7=>I7.pins_of fun p hp=>absurd hp (by simp);have tests:wpAny (model X.prog X.w) X.A (zBo ifs (compEnvC scope cl H3.objs.size X.env)) (fun b s7=> ∃H7,Inv (X.comp scope cl H3.objs.size (zs++ys) s2 H2 fp) pn5 (yZ++yH fr σ) H7 s7/\
     (if b=true then te (fun _=>E σ) (yZ++yH fr σ) H7 fun y H4=>H4 s2.heap.objs.size=some (.lst ys3)/\N (ys3++ [y]) (upd H4 s2.heap.objs.size (.lst (ys3++ [y]))) else N ys3 H7)) (fun _ _=>False) s6:=by
    rcases hc H3.objs.size s2 H2 fp with ⟨rfl,rfl⟩|⟨c,rfl,hc2⟩
    ·exact wpAny_tests_nil ⟨H5,I6,q6⟩
    ·exact wpAny_tests_one (zRw (hc2 pn5 s6 _ H5 _ I6 q6) (fun b s7 ⟨H7,I7,q7⟩=>⟨H7,I7,q7⟩) fun _ _ z=>z.elim)
   refine zRw tests (fun b s7 h7=>?_) fun _ _ z=>z.elim;obtain ⟨H7,I7,q7⟩:=h7;cases b with
   | false=>
    obtain ⟨m',hm,w'⟩:=hN _ _ q7;obtain ⟨k1,k2⟩:=keepTurn I7;exact ⟨m',hm,i+1,yZ,ys3,H7,hl2,drop I7,k1,k2,w'⟩
   | true=>
    refine zRw (he _ _ _ _ (fun e s'=> ∃pn σ' Hx sx,Inv (X.comp scope cl H3.objs.size (zs++ys) s2 H2 fp) pn σ' Hx sx/\Fly X.prog X.w X.stack Hx sx (E σ) e s') (fun _=>E σ) (fun pn σ' Hx sx e s' Ix hx=>⟨pn,σ',Hx,sx,Ix.comp,hx⟩) pn5 s7 _ H7 _ I7.compX q7) (fun y s8 h8=>?_) fun _ _ z=>z;obtain ⟨yv,H8,I8',r8,hl8,n8⟩:=h8;have I8:=I8'.comp;refine zRw (zCh (X:=X.comp scope cl H3.objs.size (zs++ys) s2 H2 fp) pn5 s8 _ H8 (.ref s2.heap.objs.size) [yv] (.ref s2.heap.objs.size) [y] (fun z H9=>N (ys3++ [yv]) H9) I8 rfl (.cons r8 .nil) ⟨s2.heap.objs.size,ys3,yv,rfl,rfl,hl8,hz,n8⟩) (fun _ s9 h9=>?_) fun _ _ z=>z.elim;obtain ⟨_,H9,I9,_,n9⟩:=h9;obtain ⟨m',hm,w'⟩:=hN _ _ n9;obtain ⟨k1,k2⟩:=keepTurn I9;exact ⟨m',hm,i+1,yZ,ys3++ [yv],H9,hl2,drop I9,k1,k2,w'⟩
 exact codeAny_compStart_list (loop _ rfl) (T.self X.A 0 _ _ _ (T.keep _ _ _ st2 fun b hb o e=>old b o e) (loop _ rfl))
theorem zCC{X:Cx}{x:Str}{pos' spos:Pos}{elt iter tg:Expr}{ifs:List Expr}{E:St->XK}(hp:zDI X E)(i0:Nat)(hN:X.N.Nodup)(hi0:X.N[i0]?=some x)(hx0:Loc X.env.scope x)(hf0:X.fn x=true\/X.env.scope.names.lookup x=some .local)
  (zs:List Str) {pos:Pos} {scope:Scope} {cl:List (Str×Addr)} (ys:List Str) (fr:List Nat) {wi:TI} {g:TG} {tt:TT} {te:(St->XK)->TE} (hcm:X.calm=true)
  (hi:QI X tg iter wi) (hclos:closureFor scope X.env=pure cl) (hcell: ∀y∈scope.names,y.2≠ .cell) (hkind:scope.kind= .function) (hnames: ∀y∈scope.names,y.2= .local->scope.names.lookup y.1=some .local)
  (hcl: ∀y a,cl.lookup y=some a->X.env.cells.lookup y=some a)
  (hlen:ys.length=fr.length) (hfr: ∀(j:Nat) y i,ys[j]?=some y->fr[j]?=some i->X.N[i]?=some y/\X.env.kindOf y=some .cell/\(relabel scope X.env).names.lookup y=some .cell/\ ∃a,cl.lookup y=some a/\X.env.cells.lookup y=some a)
  (hhas: ∀y,((relabel scope X.env).names.lookup y=some .cell\/(relabel scope X.env).names.lookup y=some .free)-> ∃a,cl.lookup y=some a)
  (hg: ∀C s₂ H₂ fp,QG (X.comp scope cl C (zs++ys) s₂ H₂ fp) tg g) (hc: ∀C s₂ H₂ fp,QTs (X.comp scope cl C (zs++ys) s₂ H₂ fp) ifs tt) (he: ∀C s₂ H₂ fp xe E',zAv (Fly X.prog X.w) (X.compX scope cl C (zs++ys) s₂ H₂ fp xe) E'->QE (X.compX scope cl C (zs++ys) s₂ H₂ fp xe) elt (te E')) (hs: ∀v,foldedSetIterable iter X.env v=pure v)
  (hsw:swapsWith (.ListComp elt [⟨tg,iter,ifs,0⟩] scope pos) (some (.Name x pos')) spos.line X.env=pure true):
  QS X (.Assign [.Name x pos'] (.ListComp elt [⟨tg,iter,ifs,0⟩] scope pos) spos) (zDj (zLQ wi g tt te zs.length fr E) (zBH i0)):=
 ⟨fun pins s σ H D I h=>zJl hcm hp hN hi0 hx0 hf0 hsw (zHo hi).out hclos hcell hkind hnames hcl hlen hfr hhas (fun C s H f=>(hg C s H f).out) (fun C s H f=>(hc C s H f).out) (fun C s H f xe E' hx=>(he C s H f xe E' hx).out) hs pins s σ H D I ⟨_,h,fun J H1 h1 D' hD=>by
  obtain ⟨len,Pv,a0,a1,a2,a3,a4⟩:=(h1 D' hD).ex;exact zGh (Q:=fun v H1=>zBH i0 v σ H1 D.nx) D' len Pv a0 a1 a2 a3 a4⟩⟩
section
variable {cells:List (Str×Addr)}
theorem yC{k:Str}{a:Addr}{l:List (Str×Addr)}(h:cells.lookup k=some a)(t: ∀y b,l.lookup y=some b->cells.lookup y=some b): ∀y b,((k,a)::l).lookup y=some b->cells.lookup y=some b:=by
 intro y b e;rw [List.lookup_cons] at e;cases q:(y==k) with
 | true=>
  rw [q] at e;have:y=k:=by simpa using q
  subst this;rw [h];exact e
 | false=>rw [q] at e;exact t y b e
theorem lk0: ∀(y:Str) (b:Addr),([] :List (Str×Addr)).lookup y=some b->cells.lookup y=some b:=fun _ _ h=>nomatch h
end
section
variable {X:Cx}{P:Program}{w:World}
end
end L2
namespace PySem
open PySem.Spec PyProof PyProof.Rows
end PySem
namespace L2
open PySem PySem.Spec PyProof.Rows
section
variable {X:Cx}{K:zSS}{o e:Expr}{to te:TE}{apos cpos:Pos}
theorem zIU(hK:X.K=K)(ho:QE X o to)(hb:attributeBase o "pop" X.env (eval o X.env)=eval o X.env)(hl:(apos.endLine==cpos.line)=true):QE X (.Call (.Attribute o "pop" apos) [] [] cpos) (zOl K "list" zNt to):=by
 subst hK;exact ⟨zNB PySem.F.plainAttrs_list PySem.F.slot_list_pop PySem.F.type_list_pop zMT ho.out hb hl⟩
end
end L2
namespace Fr
open PySem PySem.Spec PyProof.Rows L2
theorem zBj{P:Program}{w:World}{K:zSS}{mg:Str->Option Value}{base:Heap}{CX:CXT}{N:List Str}{qual:Str}{scope:Scope}{f:Addr}{cd:Value}{A:Around}{outer:List Env}{s₀:Shared}{H₀:Hp}{E:XK}:
  zDI (zBy CX P w K mg base N qual scope f cd A outer s₀ H₀ E).nox (fun _ _ _ _=>False):=
 ⟨rfl,rfl,rfl,fun σ e s' ok h=>by obtain ⟨_,_,_,_,_,_,_,_,_,_,_,_,_,_,_,q⟩:=h;exact q.elim⟩
end Fr
namespace L2
open PySem PySem.Spec PyProof.Rows
def zCq(f:Obj->Obj):Prop:= ∀o:Obj,o.isFreed=false->(f o).dict=o.dict/\(f o).isFreed=false
def KD(h h':Heap):Prop:= ∀a o,h.get? a=some o-> ∃o',h'.get? a=some o'/\o'.dict=o.dict
theorem KD.refl(h:Heap):KD h h:=fun _ o e=>⟨o,e,rfl⟩
theorem KD.trans{h1 h2 h3:Heap}(x:KD h1 h2)(y:KD h2 h3):KD h1 h3:=fun a o e=>by
 obtain ⟨o1,e1,d1⟩:=x a o e;obtain ⟨o2,e2,d2⟩:=y a o1 e1;exact ⟨o2,e2,d2.trans d1⟩
theorem KD.update{h:Heap}{a:Addr}{f:Obj->Obj}(k:zCq f):KD h (h.update a f):=fun b o e=>by
 by_cases z:a=b
 ·subst z;have nf:o.isFreed=false:=(Heap.get?_some_iff.mp e).2;obtain ⟨d,n⟩:=k o nf;exact ⟨f o,zSK f e n,d⟩
 ·exact ⟨o,(zSJ h f z).trans e,rfl⟩
theorem KD.push{h:Heap}{o:Obj}:KD h (h.push o):=fun b u e=>⟨u,zRe _ e,rfl⟩
def DK{α:Type}:Sem α->Prop
 | .pure _=>True
 | .raise _=>True
 | .unsupported _=>True
 | .finish _=>True
 | .rule _ k=>DK (k ())
 | .at _ k=>DK (k ())
 | .load _ _ k=> ∀o,DK (k o)
 | .update _ _ f k=>zCq f/\DK (k ())
 | .loadIfAlive _ k=> ∀o,DK (k o)
 | .point _ k=>DK (k ())
 | .alloc _ k=> ∀a,DK (k a)
 | .fresh k=> ∀t,DK (k t)
 | .ask k=> ∀x,DK (k x)
 | .handled _ k=> ∀x,DK (k x)
 | .stack k=> ∀x,DK (k x)
 | .thread k=> ∀x,DK (k x)
 | _=>False
theorem zPw{α:Type}{M:Model}{Γ:PySem.Ctx}{h0:Heap}(t:Sem α):DK t-> ∀(Q:α->Pos->Shared->Prop) (E:Value->Pos->Shared->Prop) (p:Pos) (s:Shared),KD h0 s.heap->Sem.wp M Γ t Q E p s->
  Sem.wp M Γ t (fun a p' s'=>Q a p' s'/\KD h0 s'.heap) (fun e p' s'=>E e p' s'/\KD h0 s'.heap) p s:=by
 induction t with
 | pure a=>intro _ Q E p s k h;exact ⟨h,k⟩
 | raise e=>intro _ Q E p s k h;exact ⟨h,k⟩
 | unsupported w=>intro _ Q E p s k h;exact h
 | finish e=>intro _ Q E p s k h;exact h
 | rule tag k ih=>intro d Q E p s kd h;exact ih () d Q E p s kd h
 | «at» p' k ih=>intro d Q E p s kd h;exact ih () d Q E p' s kd h
 | load a part k ih=>
  intro d Q E p s kd h;obtain ⟨o,e,h⟩:=h;exact ⟨o,e,ih o (d o) Q E p s kd h⟩
 | update a part f k ih=>
  intro d Q E p s kd h;exact ⟨h.1,ih () d.2 Q E p _ (kd.trans (KD.update d.1)) h.2⟩
 | loadIfAlive a k ih=>intro d Q E p s kd h;exact ih _ (d _) Q E p s kd h
 | point w k ih=>intro d Q E p s kd h;exact ih () d Q E p s kd h
 | alloc o k ih=>intro d Q E p s kd h;exact ih _ (d _) Q E p _ (kd.trans KD.push) h
 | fresh k ih=>intro d Q E p s kd h;exact ih _ (d _) Q E p _ kd h
 | ask k ih=>intro d Q E p s kd h;exact ih _ (d _) Q E p s kd h
 | handled own k ih=>intro d Q E p s kd h;exact ih _ (d _) Q E p s kd h
 | stack k ih=>intro d Q E p s kd h;exact ih _ (d _) Q E p s kd h
 | thread k ih=>intro d Q E p s kd h;exact ih _ (d _) Q E p s kd h
 | _=>intro d;exact d.elim
theorem zCQ{α:Type}{M:Model}{A:Around}{t:Sem α}{Q:α->Shared->Prop}{E:Value->Shared->Prop}{s:Shared}(d:DK t)(h:wpAny M A t Q E s):wpAny M A t (fun a s'=>Q a s'/\KD s.heap s'.heap) (fun e s'=>E e s'/\KD s.heap s'.heap) s:=
 fun Γ p hin=>zPw t d _ _ p s (KD.refl _) (h Γ p hin)
theorem DK.bind{α β:Type}{t:Sem α}{k:α->Sem β}(d:DK t)(dk: ∀a,DK (k a)):DK (t>>=k):=by
 show DK (Sem.bind t k)
 induction t with
 | pure a=>exact dk a
 | raise e=>exact True.intro
 | unsupported w=>exact True.intro
 | finish e=>exact True.intro
 | rule tag k ih=>exact ih () d
 | «at» p' k ih=>exact ih () d
 | load a part k ih=>exact fun o=>ih o (d o)
 | update a part f k ih=>exact ⟨d.1,ih () d.2⟩
 | loadIfAlive a k ih=>exact fun o=>ih o (d o)
 | point w k ih=>exact ih () d
 | alloc o k ih=>exact fun a=>ih a (d a)
 | fresh k ih=>exact fun a=>ih a (d a)
 | ask k ih=>exact fun a=>ih a (d a)
 | handled own k ih=>exact fun a=>ih a (d a)
 | stack k ih=>exact fun a=>ih a (d a)
 | thread k ih=>exact fun a=>ih a (d a)
 | _=>exact (show False from d).elim
theorem zFr{g:Array Value->Array Value}:zCq (Obj.mapFields g):=fun o n=>by
 obtain ⟨c,d,x,sl⟩:=o;unfold Obj.mapFields;cases x<;>first | exact ⟨rfl,rfl⟩| exact ⟨rfl,n⟩| cases n
theorem zGj{g:Obj->Array (Option Value)}:zCq (fun o=>{o with slots:=g o}):=fun o n=>by
 obtain ⟨c,d,x,sl⟩:=o;cases x<;>first | exact ⟨rfl,rfl⟩| cases n
theorem zEf{a:Addr}:DK (load a):=fun _=>True.intro
theorem zEl{a:Addr}{f:Obj->Obj}(k:zCq f):DK (PySem.update a f):=⟨k,True.intro⟩
theorem zDk:DK stack:=fun _=>True.intro
theorem yn{α:Type}{w:String}:DK (unsupported w:Sem α):=True.intro
theorem yF{α:Type}{a:α}:DK (pure a:Sem α):=True.intro
theorem zGk{v:Value}:DK (fieldsOf v):=by
 unfold fieldsOf;split
 ·refine DK.bind zEf fun o=>?_;split
  ·exact yF
  ·exact yn
 ·exact yn
theorem zAb{v:Value}{i:Nat}:DK (field v i):=by
 unfold field;refine DK.bind zGk fun vs=>?_;split
 ·exact yF
 ·exact yn
theorem zAL{v x:Value}{i:Nat}:DK (setField v i x):=by
 unfold setField;split
 ·unfold updateField;refine DK.bind zEf fun o=>?_;split
  ·split
   ·exact zEl zFr
   ·exact yn
  ·exact yn
 ·exact yn
theorem zFi:DK frameEnvs:=DK.bind zDk fun _=>yF
theorem zJb:DK underTheClaimsCaller:=DK.bind zDk fun _=>yF
theorem zJR{env:Env}{outer:List Env}:DK (behindIsImport env outer):=by
 unfold behindIsImport;split
 ·exact yF
 ·split
  ·exact yF
  ·exact DK.bind zAb fun _=>yF
theorem zLY{env:Env}{i:Bool}{outer:List Env}:DK (keptBack env i outer):=by
 unfold keptBack;split
 ·split
  ·exact yF
  ·refine DK.bind zJb fun b=>?_;split<;>exact yF
 ·exact yF
theorem zFh: ∀l:List Env,DK (readyFrames l)
 | [] =>yF
 | env::outer=>by
  unfold readyFrames;split
  ·refine DK.bind zEf fun o=>?_;split
   ·exact yF
   ·exact DK.bind zJR fun _=>DK.bind zLY fun _=>DK.bind (zEl zGj) fun _=>zFh outer
  ·exact yn
theorem zDs{env:Env}:DK (PySem.frameOf env):=by
 unfold PySem.frameOf;refine DK.bind zFi fun l=>?_;refine DK.bind ?_ fun r=>?_
 ·unfold frameObject;split
  ·exact yF
  ·exact DK.bind (zFh _) fun _=>yF
 ·split
  ·exact yF
  ·exact yn
theorem zGD{f:Addr}{b:Bool}:DK (entryPlaceOf f b):=by
 unfold entryPlaceOf;refine DK.bind zDk fun l=>?_;split<;>exact yF
theorem zGT{a b c d e:Value}{l:List Value}:DK (EntryCells.newEntry a b c d e l):=by
 unfold EntryCells.newEntry newFields newObj;generalize (_:List Value).toArray=vs;dsimp only;have asis: ∀vs:Array Value,DK (newObjAsIs (.type "traceback") (.fields vs)):=fun vs=>by
  unfold newObjAsIs;refine DK.bind (fun _=>True.intro) fun a=>?_;exact yF
 split
 ·exact DK.bind yn fun _=>asis _
 ·exact asis _
theorem zIC{env:Env}{e:Value}:DK (leaving env e):=by
 unfold leaving;refine DK.bind ?_ fun _=>?_
 ·unfold noteFrame;split
  ·rename_i f hf
   refine DK.bind zAb fun h=>?_;have rest:DK (do
     let x<-PySem.frameOf env
     let y<-entryPlaceOf f (h !=Value.none)
     let z<-EntryCells.newEntry h x Value.none (rawInt f) Value.none y
     setField e 1 z):=DK.bind zDs fun _=>DK.bind zGD fun _=>DK.bind zGT fun _=>zAL
   dsimp only;split
   ·refine DK.bind zAb fun g=>?_;split
    ·exact yF
    ·exact DK.bind zAL fun _=>rest
   ·exact rest
  ·exact yn
 ·unfold setFlight;refine DK.bind zAb fun tb=>?_;split
  ·exact zAL
  ·exact yF
def zBf(P:Program)(w:World):CXT:=fun outer H s E e s'=>
 ∃(ea:Addr) (cls a0:Value) (H':Hp) (B:Heap),e= .ref ea/\s'.os=s.os/\AllBare s'.gens/\Heap.FlyingW B outer ea cls a0 s'.heap/\HOk P w H' B/\FlyU (yi outer) H H' s.heap B s'.heap/\
  (E cls none H'\/ ∃oe dx,s'.heap.get? ea=some oe/\oe.dict=some dx/\E cls (some dx) H')
section
variable {P:Program}{w:World}{K:zSS}{mg:Str->Option Value}{base:Heap}{N:List Str}{qual:Str}{scope:Scope}{f:Addr}{cd:Value}{A:Around}{outer:List Env}{s₀:Shared}{H₀:Hp}{E:XK}
end
end L2
namespace PySem
open PySem.Spec
section
variable {M:Model}{A:Around}{E:Value->Shared->Prop}{env:Env}{nm q:Str}{C N:Addr}{bs bm:List Value}{hdct:Bool}{sn:List Str}{sub:List Value}{ab:Bool}{col:Option Bool}{dd:Option Addr}{k0 k1 k2 k3 k5:Option Value}{newId:String}
theorem zFk{s:Shared}{x:Sem Value}{Q:Flow->Shared->Prop}(base:bm.contains (.type "BaseException")=true)(calm:A.handled=none)
  (made:wpAny M A x (fun v s1=> ∃(e t:Addr) (dx:Option Addr) (sl:Array (Option Value)),v= .ref e/\s1.heap.get? C=some (excClassObj nm q C N bs bm hdct sn sub ab col dd k0 k1 k2 k3 k5 newId)/\
   s1.heap.get? e=some ⟨.ref C,dx,.fields #[.ref t,.none,.none,.none,.bool false,.none],sl⟩/\E (.ref e) s1) E s):wpAny M A (raiseStmt env (some x) none) Q E s:=by
 have top:(Value.ref C::bm).contains (.type "BaseException")=true:=by rw [List.contains_cons,base,Bool.or_true]
 unfold raiseStmt;refine zRd (zRw made (fun v s1 q1=>?_) fun _ _ z=>z);obtain ⟨e,t,dx,sl,rfl,cl,ob,fin⟩:=q1;obtain ⟨hp,gn,dr,tk,os⟩:=s1
 repeat (first | with_reducible refine wpAny_loadPart_at ob ?_ | with_reducible refine wpAny_loadPart_at cl ?_ |(with_reducible refine wpAny_isSubtype_exc cl ?_;rw [top])| wp_step)
 exact wpAny_raiseNew_none calm fin
end
end PySem
namespace L2
open PySem PySem.Spec PyProof.Rows
def off(H:Hp)(a:Addr):Hp:=fun b=>if b=a then none else H b
theorem zAh{H:Hp}{a b:Addr}(h:b≠a):off H a b=H b:=by unfold off;rw [if_neg h]
theorem zMl(H:Hp)(a:Addr):off H a a=none:=by unfold off;rw [if_pos rfl]
theorem zJp{H:Hp}{a b:Addr}{o:HO}(h:off H a b=some o):b≠a/\H b=some o:=by
 by_cases z:b=a
 ·rw [z,zMl] at h;cases h
 ·rw [zAh z] at h;exact ⟨z,h⟩
def zEY(X:Cx)(C:Addr)(E:St->XK):Prop:= ∀(pins:List (Addr×Obj)) (σ:St) (H:Hp) (s:Shared) (ea dx:Addr),Inv X pins σ H s->X.s₀.heap.objs.size<=ea->H ea=some (XO ea C (some dx))->E σ (.ref C) (some dx) (off H ea)->X.xe (.ref ea) s
section
variable {P:Program}{w:World}{K:zSS}{mg:Str->Option Value}{base:Heap}{N:List Str}{qual:Str}{scope:Scope}{f C:Addr}{cd:Value}{A:Around}{outer:List Env}{s₀:Shared}{H₀:Hp}{E:XK}
theorem zGQ:zEY (zBy (zBf P w) P w K mg base N qual scope f cd A outer s₀ H₀ E) C (fun _=>E):=by
 intro pins σ H s ea dx I hnew hea q;show wpAny (model P w) (A.deeper (envOfC qual scope s₀.heap.objs.size f cd)) (leaving (envOfC qual scope s₀.heap.objs.size f cd) (.ref ea)) (fun _ s''=>zBf P w outer H₀ s₀ E (.ref ea) s'') (fun e' s''=>zBf P w outer H₀ s₀ E e' s'') s;have hfr:(A.deeper (envOfC qual scope s₀.heap.objs.size f cd)).frames=some (envOfC qual scope s₀.heap.objs.size f cd::outer):=I.ok.frames;have nx: ∀b:Addr,b∉([] :List Addr):=fun b=>by simp
 have hnew': ∀b o,s₀.heap.get? b=some o->b≠ea:=fun b o e z=>by
  have h1:=zRm e;have h2:s₀.heap.objs.size<=ea:=hnew;rw [z] at h1;exact absurd h1 (Nat.not_lt.mpr h2)
 have nst: ∀b o,s₀.heap.get? b=some o->b∉yi outer->b∉ea::yi (envOfC qual scope s₀.heap.objs.size f cd::outer):=fun b o e hb z=>by
  rcases zST.mp z with y | y
  ·exact hnew' b o e y
  ·rcases zST.mp (I.stkSub b y) with y | y
   ·exact zRk (zRl (zRm e) I.ok.above) y
   ·exact hb y
 have ff:s.heap.FunFrames base (envOfC qual scope s₀.heap.objs.size f cd::outer):=I.stack;have hin: ∀env∈(envOfC qual scope s₀.heap.objs.size f cd::outer),∀b,env.frame=some b->b∈ea::yi (envOfC qual scope s₀.heap.objs.size f cd::outer):=fun env he b hb=>zSI _ (List.mem_filterMap.mpr ⟨env,he,hb⟩);obtain ⟨⟨o,ho,hc,hn,hd,t,hdt⟩,_⟩:=(show zx P w H s.heap ea (XO ea C (some dx)) from I.hok ea _ hea);have hokB:HOk P w (off H ea) (PySem.W.hideAll s.heap (ea::yi (envOfC qual scope s₀.heap.objs.size f cd::outer))):=fun a u e=>by
  obtain ⟨hne,e'⟩:=zJp e;refine (I.hok a u e').stay (fun b v hb e1=>zSH _ e1 fun hm=>?_) (fun b z=>?_) fun b z y=>?_
  ·rcases zST.mp hm with y | y
   ·rcases hb with z | z
    ·exact hne (z.symm.trans y)
    ·rw [y,hea] at z;cases z
   ·have z:=I.stkFree b y;rcases hb with y2 | y2
    ·rw [y2,e'] at z;cases z
    ·rw [y2] at z;cases z
  ·rw [zAh fun y=>by rw [y,hea] at z;cases z];exact z
  ·rw [zAh fun x=>by rw [x,hea] at y;cases y];exact y
 have base1:wpAny (model P w) (A.deeper (envOfC qual scope s₀.heap.objs.size f cd)) (leaving (envOfC qual scope s₀.heap.objs.size f cd) (.ref ea)) (fun _ s''=>s''.os=s.os/\s''.gens=s.gens/\Heap.FlyingW (PySem.W.hideAll s.heap (ea::yi (envOfC qual scope s₀.heap.objs.size f cd::outer))) outer ea (.ref C) (.ref t) s''.heap/\s.heap.UpToSlots s''.heap) (fun _ _=>False) s:=by
  refine wpAny_leaving_firstW (base:=PySem.W.hideAll s.heap (ea::yi (envOfC qual scope s₀.heap.objs.size f cd::outer))) (a0:= .ref t) hfr (PySem.W.funFrames_hide ff hin) rfl ho (fun b o q=>zSR _ q) (PySem.W.hideAll_none _ (by simp)) hdt rfl rfl fun h' hL=>?_;obtain ⟨k1,⟨_,_,k2⟩,k3,k4⟩:=hL;rw [hc] at k3;exact ⟨rfl,rfl,⟨k1,PySem.W.hideAll_none _ (by simp),k2,k3⟩,k4⟩
 refine zRw (zCQ zIC base1) (fun _ s'' z=>?_) fun _ _ z=>z.1.elim;obtain ⟨⟨o1,o2,x1,x4⟩,kd⟩:=z;refine ⟨ea,.ref C,.ref t,off H ea,_,rfl,o1.trans I.os,by rw [o2];exact I.bare,x1,hokB,⟨fun b o e n hb=>?_,fun b o e n hb=>?_,fun b o e hb=>?_,fun b o e n=>?_,fun b xs e=>?_,fun b o u e=>?_,fun b ps e=>?_⟩,?_⟩
 ·exact zSH _ (I.base.keep b o e n hb (nx b)) (nst b o e hb)
 ·obtain ⟨sl,e1⟩:=I.base.slot b o e n hb (nx b);obtain ⟨_,o',e3,hd⟩:=ff.mem (zFa hb);rw [e1] at e3;cases e3;obtain ⟨sl3,z3⟩:=x4 b _ e1 hd;exact ⟨sl3,z3⟩
 ·obtain ⟨o1,e1⟩:=I.base.there b o e (nx b);exact ⟨o1,zSH _ e1 (nst b o e hb)⟩
 ·rw [zAh (hnew' b o e)];exact I.base.free b o e n (nx b)
 ·have z:=I.base.tups b xs e;rw [zAh fun y=>by rw [y,hea] at z;cases z];exact z
 ·have z:=I.base.frzs b o u e;rw [zAh fun y=>by rw [y,hea] at z;cases z];exact z
 ·obtain ⟨m,z⟩:=I.base.tbls b ps e;exact ⟨m,by rw [zAh fun y=>by rw [y,hea] at z;cases z];exact z⟩
 ·obtain ⟨o',e2,d2⟩:=kd ea o ho;exact .inr ⟨o',dx,e2,d2.trans hd,q⟩
end
section
variable {X:Cx}{CX:CXT}{k:Nat}{f C:Addr}{fd:FuncData}{ps:List Str}{sp:Sp}{E0:XK}{E:St->XK}{x:Str}{np cpos pos:Pos}{e:Expr}{es:List Expr}{t:TA}
theorem zIF{pins:List (Addr×Obj)}{σ:St}{H:Hp}{s:Shared}{Q:VK}{us:List Value}{vs:List V}(M:MkX X.K C f)(F:FnOk X.prog X.w X.K X.mg X.base CX k f fd ps sp)(hr:Room (k+1) X.A)(hb:zL X.K fd ps [])
  (hx:yw CX X E0) (I:Inv X pins σ H s) (r:zT vs us) (hz:vs.length<=sizeLine)
  (h: ∀ea,H ea=none->sp (.ref ea::vs) (upd H ea (XO ea C none)) (fun v H2=>v= .non/\Q (.ref ea) H2) E0):
  wpAny (model X.prog X.w) X.A (call (.ref C) us) (EP X pins σ fun v H2=>Q v H2/\ ∃ea,v= .ref ea/\s.heap.objs.size<=ea) X.xe s:=by
 obtain ⟨bm,N,nm,qn,bs,hdct,sn,sub,ab,col,dd,k0,k1,k2,k3,k5,mN,hC,hn,hi,T⟩:=zHD I.kIn M.ex;have hfn:PySem.W.typeIn X.K (.ref f)=some (.type "function"):=beq_iff_eq.mp M.fn;obtain ⟨oI,hl,hoc⟩:=Option.map_eq_some_iff.mp (show (X.K.lookup f).map (·.cls)=some (.type "function") from hfn);obtain ⟨hp0,g,d,tk,os⟩:=s;refine zLr PySem.F.excBase_ValueError T hC hn hi (I.kIn _ _ hl) hoc (fun h' ea hle hm=>?_) (by rw [<-r.length];exact hz);obtain ⟨ta,hta,_,_⟩:=hm.there;have hq:=h ea (I.hok.fresh hle);have I2:Inv X pins σ (upd H ea (XO ea C none)) ⟨h',g,d,tk,os⟩:=I.laid (t':=tk) hm.keeps hle (zKe ⟨_,hta,rfl,rfl,rfl,_,rfl⟩);have r2:zT (V.ref ea::vs) (Value.ref ea::us):= .cons rfl r;have hl2:(Value.ref ea::us++ []).length=ps.length:=by
  have e:=r2.length;rw [F.len _ _ _ _ hq] at e;rw [zSB];exact e.symm
 have hb2:=hb ⟨h',g,d,tk,os⟩ (Value.ref ea::us) I2.kIn hl2;rw [zSB] at hb2;refine wpAny_call (zSQ (F.run _ X.stack _ _ ⟨Value.ref ea::us,[]⟩ (Value.ref ea::us) _ _ E0 (hr.make C us []) (I2.env0.make C us []) hb2 r2 hq) fun r s' hq'=>?_);cases r with
 | error e=>exact hx pins σ _ _ e s' I2 hq'
 | ok fl=>
  cases fl with
  | ret u=>
   obtain ⟨v,H',I3,rv,ev,q3⟩:=I2.after hq';subst ev;exact ⟨rv,⟨V.ref ea,H',I3,rfl,q3,ea,rfl,hle⟩⟩
  | next=>exact False.elim hq'
  | brk=>exact False.elim hq'
  | cont=>exact False.elim hq'
def zHI(C:Addr)(sp:Sp)(E0:XK)(E:St->XK)(t:TA):TS:=fun _ σ H=>t σ H fun vs H1=>vs.length<=sizeLine/\ ∀ea,H1 ea=none->
 sp (.ref ea::vs) (upd H1 ea (XO ea C none)) (fun r H2=>r= .non/\ ∃a dx,V.ref ea= .ref a/\H2 a=some (XO a C (some dx))/\E σ (.ref C) (some dx) (off H2 a)) E0
theorem zIa(M:MkX X.K C f)(F:FnOk X.prog X.w X.K X.mg X.base CX k f fd ps sp)(hr:Room (k+1) X.A)(hg:Gl X x)(hm:X.mg x=some (.ref C))(hb:zL X.K fd ps [])(hx:yw CX X E0)(ho:zEY X C E)(hc:X.calm=true)
  (ha:PA X (e::es) t) (hdb:(x==("__debug__" :Str))=false) (he:starEach (e::es) X.env=(false,eval e X.env)::starEach es X.env) (hpl:(backTo cpos (starEach es X.env)).any (·.1)=false):
  PS X (.Raise (some (.Call (.Name x np) (e::es) [] cpos)) none pos) (zHI C sp E0 E t):=by
 intro pins s σ H D I h;obtain ⟨bm,N,nm,qn,bs,hdct,sn,sub,ab,col,dd,k0,k1,k2,k3,k5,mN,hC,hN,hi,T⟩:=zHD I.ok.mod.kin M.ex;have big:X.s₀.heap.objs.size<=s.heap.objs.size:=I.sz;have made:wpAny (model X.prog X.w) X.A (eval (.Call (.Name x np) (e::es) [] cpos) X.env) (EP X pins σ fun v H2=>(∃a dx,v= .ref a/\H2 a=some (XO a C (some dx))/\E σ (.ref C) (some dx) (off H2 a))/\ ∃ea,v= .ref ea/\X.s₀.heap.objs.size<=ea) X.xe s:=by
  refine zSP (zBT I hg hm ?_ hdb);refine PySem.W.callWith_K (h₀:=X.base) I.ok.mod.kin M.kp (zb (ha cpos pins s σ H _ I h) fun us s1 ⟨vs,H1,I1,r,q⟩=>⟨I1.kIn,?_⟩) he hpl;refine zb (zIF (Q:=fun v H2=> ∃a dx,v= .ref a/\H2 a=some (XO a C (some dx))/\E σ (.ref C) (some dx) (off H2 a)) M F hr hb hx I1 r q.1 q.2) fun v s2 ⟨y,H2,I2,rv,q2,ea,ey,hle⟩=>?_;exact ⟨y,H2,I2,rv,q2,ea,ey,zRq (show X.s₀.heap.objs.size<=s1.heap.objs.size from I1.sz) hle⟩
 rw [arm_exec_Raise];refine zRd (wpAny_standAt ?_);simp only [evalOpt,Option.map];refine zFk (C:=C) (nm:=nm) (q:=qn) (N:=N) (bs:=bs) (bm:=bm) (hdct:=hdct) (sn:=sn) (sub:=sub) (ab:=ab) (col:=col) (dd:=dd) (k0:=k0) (k1:=k1) (k2:=k2) (k3:=k3) (k5:=k5) (newId:= "ValueError.__new__") (T.hasType PySem.F.excBase_ValueError.hasBase) (I.ok.hd hc) (zRd (zb made fun v s1 ⟨y,H1,I1,rv,⟨a,dx,ey,ea,q⟩,a',ey',hle⟩=>zRd (wpAny_standAt (zRi ?_))));subst ey;cases ey';obtain rfl:v=Value.ref a:=rv;obtain ⟨⟨o,h1,h2,h3,h4,td,h5⟩,_⟩:=(show zx X.prog X.w H1 s1.heap a (XO a C (some dx)) from I1.hok a _ ea);obtain ⟨c,d,u,sl⟩:=o;have h2':c= .ref C:=h2;have h5':u= .fields #[.ref td,.none,.none,.none,.bool false,.none] :=h5;subst h2' h5';exact ⟨a,td,d,sl,rfl,I1.bk _ _ hC,h1,ho pins σ H1 s1 a dx I1 hle ea q⟩
theorem zKK(M:MkX X.K C f)(F:FnOk X.prog X.w X.K X.mg X.base CX k f fd ps sp)(hr:Room (k+1) X.A)(hg:Gl X x)(hm:X.mg x=some (.ref C))(hb:zL X.K fd ps [])(hx:yw CX X E0)(ho:zEY X C E)(hc:X.calm=true)
  (ha:QA X (e::es) t) (hdb:(x==("__debug__" :Str))=false) (h2:yB e=true) (h3:yk es=true):
  QS X (.Raise (some (.Call (.Name x np) (e::es) [] cpos)) none pos) (zHI C sp E0 E t):=⟨zIa M F hr hg hm hb hx ho hc ha.out hdb (zt h2) (yj h3)⟩
end
section
variable {P:Program}{w:World}{K:zSS}{mg:Str->Option Value}{base:Heap}{N:List Str}{qual:Str}{scope:Scope}{f:Addr}{cd:Value}{A:Around}{outer:List Env}{s₀:Shared}{H₀:Hp}{E:XK}
end
theorem zFZ{env:Env}{e:Value}:DK (noteFrame e env):=by
 unfold noteFrame;split
 ·rename_i f hf
  refine DK.bind zAb fun h=>?_;have rest:DK (do
    let x<-PySem.frameOf env
    let y<-entryPlaceOf f (h !=Value.none)
    let z<-EntryCells.newEntry h x Value.none (rawInt f) Value.none y
    setField e 1 z):=DK.bind zDs fun _=>DK.bind zGD fun _=>DK.bind zGT fun _=>zAL
  dsimp only;split
  ·refine DK.bind zAb fun g=>?_;split
   ·exact yF
   ·exact DK.bind zAL fun _=>rest
  ·exact rest
 ·exact yn
theorem zCf{e:Value}{f:Option Addr}:DK (setFlight e f):=by
 unfold setFlight;refine DK.bind zAb fun tb=>?_;split
 ·exact zAL
 ·exact yF
def XCf(a:Addr)(C:Value)(dx:Addr)(h:Heap):Prop:= ∃o,h.get? a=some o/\o.cls=C/\PySem.W.notCls o=true/\o.dict=some dx
def zDY(a:Addr)(C:Value):Option Addr->HO
 | none=>zOx a C
 | some dx=> .ext (XCf a C dx)
theorem zEC{a:Addr}{C:Value}{dx:Addr}(h:Heap)(x:XCf a C dx h):KAt a C h:=let ⟨o,e,c,_⟩:=x;⟨o,e,c⟩
theorem zMJ{P:Program}{w:World}{H:Hp}{h:Heap}{a:Addr}{C:Value}{d:Option Addr}(x:KAt a C h)(n: ∃o,h.get? a=some o/\PySem.W.notCls o=true)(hd: ∀dx,d=some dx-> ∃o,h.get? a=some o/\o.dict=some dx):zx P w H h a (zDY a C d):=by
 cases d with
 | none=>exact zLa x
 | some dx=>
  obtain ⟨o,e,c⟩:=x;obtain ⟨o1,e1,n1⟩:=n;obtain ⟨o2,e2,d2⟩:=hd dx rfl;rw [e] at e1 e2;cases e1;cases e2;exact ⟨⟨o,e,c,n1,d2⟩,⟨o,e⟩,fun h1 h2 ⟨o1,e1,c1⟩ k=>⟨o1,k o1 e1,c1⟩⟩
def zGR(K:zSS)(Cv:Value)(i:Nat)(ts:TS)(D:Ends):St->XK:=fun σ cls d H=>PySem.W.exmOne K cls Cv=some true/\ ∀ea,H ea=none->
 ts {nx:=fun σ' H'=>D.nx (σ'.set i none) H',rt:=D.rt,bk:=fun σ' H'=>D.bk (σ'.set i none) H',ct:=fun σ' H'=>D.ct (σ'.set i none) H'} (σ.set i (some (.ref ea))) (upd H ea (zDY ea cls d))
def zHZ(K:zSS)(Cv:Value)(i:Nat)(tb:(St->XK)->TS)(ts:TS):TS:=fun D σ H=>tb (zGR K Cv i ts D) D σ H
theorem zLw{X:Cx}{body:List Stmt}{xc n:Str}{np hpos pos:Pos}{b₀:Stmt}{suite:List Stmt}{tb:(St->XK)->TS}{ts:TS}{Cv:Value}{i:Nat}(hst:X.stack=X.env::X.outer)(hfr:X.env.frame=some X.env.locals)(hN:X.N.Nodup)(hi:X.N[i]?=some n)(hn:X.env.scope.names.lookup n=some .local)
  (hg:Gl X xc) (hm:X.mg xc=some Cv\/(X.mg xc=none/\bootBuiltins xc=some Cv/\xc≠ "__name__"))
  (hb: ∀ps xe E,zAv (zBf X.prog X.w) (X.tryB ps xe) E->PSs (X.tryB ps xe) body (tb E)) (hs: ∀e,PSs (X.inExc e) (b₀::suite) ts) (hdb:(xc==("__debug__" :Str))=false:=by decide):
  PS X (.Try body [.ExceptHandler (some (.Name xc np)) (some n) (b₀::suite) hpos] [] [] pos) (zHZ X.K Cv i tb ts):=by
 intro pins s σ H D I h;have fall: ∀(σ1:St) (H1 H':Hp) (s1 s':Shared) (ea:Addr) (cls a0:Value) (B:Heap),Inv X pins σ1 H1 s1->s'.os=s1.os->AllBare s'.gens->Heap.FlyingW B X.stack ea cls a0 s'.heap->HOk X.prog X.w H' B->FlyU (yi X.stack) H1 H' s1.heap B s'.heap-> ∀d,(∀dx,d=some dx-> ∃oe,s'.heap.get? ea=some oe/\oe.dict=some dx)->zGR X.K Cv i ts D σ1 cls d H'->
   wpAny (model X.prog X.w) X.A (noteFrame (.ref ea) X.env) (fun _ s₂=>wpAny (model X.prog X.w) X.A (setFlight (.ref ea) none) (fun _ s₃=>wpAny (model X.prog X.w) X.A (handleBy (.ref ea) X.env [.ExceptHandler (some (.Name xc np)) (some n) (b₀::suite) hpos]) (SP X pins D) X.xe s₃) X.xe s₂) X.xe s':=by
  intro σ1 H1 H' s1 s' ea cls a0 B I1 hos hbare hfl hok U d hdx q;obtain ⟨he,q⟩:=q;have ff:=hfl.2.2.1;rw [hst] at hfl;have b4:wpAny (model X.prog X.w) X.A (noteFrame (.ref ea) X.env) (fun _ s₂=> ∃h4,s₂={s' with heap:=h4}/\Heap.HeldW B (X.env::X.outer) ea cls a0 X.env.locals h4/\s'.heap.UpToSlots h4) (fun _ _=>False) s':=
   wpAny_looks_onW (by rw [I1.ok.frames,hst]) hfr hfl fun h4 x4 u4=>⟨h4,rfl,x4,u4⟩
  refine zRw (zCQ zFZ b4) (fun _ s₂ z4=>?_) fun _ _ z=>z.1.elim;obtain ⟨⟨h4,e4,x4,u4⟩,kd4⟩:=z4;subst e4;have b5:wpAny (model X.prog X.w) X.A (setFlight (.ref ea) none) (fun _ s₂=> ∃h5,s₂={s' with heap:=h5}/\Heap.FlyingW B (X.env::X.outer) ea cls a0 h5/\h4.UpToSlots h5) (fun _ _=>False) {s' with heap:=h4}:=
   wpAny_landsW x4 fun h5 x5 u5=>⟨h5,rfl,x5,u5⟩
  refine zRw (zCQ zCf b5) (fun _ s₂ z5=>?_) fun _ _ z=>z.1.elim;obtain ⟨⟨h5,e5,x5,u5⟩,kd5⟩:=z5;subst e5;have kd45:KD s'.heap h5:=kd4.trans kd5;have U5:FlyU (yi X.stack) H1 H' s1.heap B h5:=U.land ff (u4.trans u5);have hf1: ∀b∈yi X.stack,H1 b=none:=I1.stkFree;have I5:Inv X pins σ1 H' {s' with heap:=h5}:=I1.call' (s':={s' with heap:=h5}) hos (U5.un x5.1 hf1) (hok.kept x5.1) hbare fun b z=>nomatch z;have ty5:PySem.W.Looks (model X.prog X.w) h5 (typeOf (.ref ea)) cls:=by
   obtain ⟨ob,hob,hc⟩:=x5.there;subst hc;exact (PySem.W.Looks.ld hob).andThen .now
  have I5':=I5.inExc ea;refine wpAny_handleBy_cons (codeAny_handlers_test ?_) (by intro z;cases z);have go:wpAny (model X.prog X.w) (X.A.mark (some (.ref ea))) (eval (.Name xc np) X.env) (fun c s₁=>c=Cv/\s₁={s' with heap:=h5}) (notedBy (model X.prog X.w) (X.A.mark (some (.ref ea))) X.env (cameBackBy (model X.prog X.w) X.A X.env X.xe)) {s' with heap:=h5}:=by
   rcases hm with hm |⟨hm,hv,hnn⟩
   ·exact zBT (X:=X.inExc ea) I5' hg hm ⟨rfl,rfl⟩ hdb
   ·exact zBG (X:=X.inExc ea) I5' hg hm hv ⟨rfl,rfl⟩ hnn hdb
  refine zRw go (fun c s₁ hc=>?_) fun _ _ z=>z;obtain ⟨hc1,hc2⟩:=hc;subst hc1 hc2;refine (PySem.W.exm_one I5.kIn ty5 he).here ?_;show codeAny _ _ _ _ _;refine codeAny_handlers_suite_as ?_;have b6:wpAny (model X.prog X.w) (X.A.mark (some (.ref ea))) (setFlight (.ref ea) none) (fun _ s₂=> ∃h6,s₂={s' with heap:=h6}/\Heap.FlyingW B (X.env::X.outer) ea cls a0 h6/\h5.UpToSlots h6) (fun _ _=>False) {s' with heap:=h5}:=
   lands_againW x5 fun h6 x6 u6=>⟨h6,rfl,x6,u6⟩
  refine zRw (zCQ zCf b6) (fun _ s₂ z6=>?_) fun _ _ z=>z.1.elim;obtain ⟨⟨h6,e6,x6,u6⟩,kd6⟩:=z6;subst e6;have kd56:KD s'.heap h6:=kd45.trans kd6;have ff5:=x5.2.2.1;rw [<-hst] at ff5;have U6:FlyU (yi X.stack) H1 H' s1.heap B h6:=U5.land ff5 u6;have hBe:B.get? ea=none:=x6.2.1;have he':H' ea=none:=hok.untracked hBe;obtain ⟨oe,hoe,hoc⟩:=x6.there;obtain ⟨oe',vs',hoe',_,hod',_⟩:=x6.first;have ns1:s1.heap.get? ea=none:=by
   cases z:s1.heap.get? ea with
   | none=>rfl
   | some o=>
    by_cases y:ea∈yi X.stack
    ·have y':=y;rw [hst] at y';obtain ⟨_,o2,e2,d2⟩:=x6.2.2.1.mem y';rw [hoe'] at e2;cases e2;exact absurd hod' (d2 vs')
    ·obtain ⟨o',e'⟩:=U6.inB ea o z y;rw [hBe] at e';cases e'
  have nu: ∀b o,s1.heap.get? b=some o->b≠ea:=fun b o e z=>by rw [z,ns1] at e;cases e
  have hok6:HOk X.prog X.w H' h6:=hok.kept x6.1;have hokE:HOk X.prog X.w (upd H' ea (zDY ea cls d)) h6:=fun b u e=>by
   by_cases y:b=ea
   ·subst y;rw [zD] at e;cases e;exact zMJ ⟨oe,hoe,hoc⟩ ⟨oe',hoe',by unfold PySem.W.notCls;rw [hod']⟩ fun dx hd=>by
     obtain ⟨o1,e1,d1⟩:=hdx dx hd;obtain ⟨o2,e2,d2⟩:=kd56 _ o1 e1;exact ⟨o2,e2,d2.trans d1⟩
   ·rw [zQ y] at e;exact (hok6 b u e).stay (fun _ _ _ z=>z) (fun c z=>by rw [zQ (zm z he')];exact z) fun c xs z=>by rw [zQ (zm z he')];exact z
  have un6:=U6.un x6.1 hf1;have unE:Un (yi X.stack) [] H1 (upd H' ea (zDY ea cls d)) s1.heap h6:=
   ⟨un6.keep,un6.slot,fun b o e n hx=>by rw [zQ (nu b o e)];exact un6.free b o e n hx,un6.there,fun b xs e=>by
    have z:=un6.tups b xs e;rw [zQ (zm z he')];exact z,fun b o u e=>by
    have z:=un6.frzs b o u e;rw [zQ (zm z he')];exact z,fun b ps e=>by
    obtain ⟨m,z⟩:=un6.tbls b ps e;exact ⟨m,by rw [zQ (zm z he')];exact z⟩⟩
  have I6:Inv X pins σ1 (upd H' ea (zDY ea cls d)) {s' with heap:=h6}:=I1.call' (s':={s' with heap:=h6}) hos unE hokE hbare fun b z=>nomatch z;refine zAQ (X:=X.inExc ea) (I6.inExc ea) hN hi (.inl hn) (v:= .ref ea) rfl (fun s7 I7=>?_) (.inr hn);refine zRw (hs ea pins s7 _ _ _ I7 (q ea he')) (fun f s8 h8=>?_) fun _ _ z=>z.elim;cases f with
  | next=>
   obtain ⟨σ',H8,I8,q8⟩:=h8;exact zBq (I8.outExc I.ok) hN hi hn fun s9 I9=>⟨_,H8,I9,q8⟩
  | brk=>
   obtain ⟨σ',H8,I8,q8⟩:=h8;exact zBq (I8.outExc I.ok) hN hi hn fun s9 I9=>⟨_,H8,I9,q8⟩
  | cont=>
   obtain ⟨σ',H8,I8,q8⟩:=h8;exact zBq (I8.outExc I.ok) hN hi hn fun s9 I9=>⟨_,H8,I9,q8⟩
  | ret u=>
   obtain ⟨v,σ',H8,I8,r8,q8⟩:=h8;exact zBq (I8.outExc I.ok) hN hi hn fun s9 I9=>⟨v,_,H8,I9,r8,q8⟩
 refine wpAny_Try_except ?_;refine zRw (hb pins (fun e s₁=>wpAny (model X.prog X.w) X.A (noteFrame e X.env) (fun _ s₂=>wpAny (model X.prog X.w) X.A (setFlight e none) (fun _ s₃=>wpAny (model X.prog X.w) X.A (handleBy e X.env [.ExceptHandler (some (.Name xc np)) (some n) (b₀::suite) hpos]) (SP X pins D) X.xe s₃) X.xe s₂) X.xe s₁)
  (zGR X.K Cv i ts D) ?_ [] s σ H D (I.tryB _) h) (fun f s1 q=>?_) fun _ _ z=>z
 ·intro ps σ1 H1 s1 e s' I1 hfly;obtain ⟨ea,cls,a0,H',B,he,hos,hbare,hfl,hok,U,q⟩:=hfly;subst he;rcases q with q |⟨oe,dx,e1,d1,q⟩
  ·exact fall σ1 H1 H' s1 s' ea cls a0 B (I1.untry I.ok) hos hbare hfl hok U none (fun dx z=>nomatch z) q
  ·exact fall σ1 H1 H' s1 s' ea cls a0 B (I1.untry I.ok) hos hbare hfl hok U (some dx) (fun dx' z=>by cases z;exact ⟨oe,e1,d1⟩) q
 ·have q':=q.untry I.ok;cases f with
  | next=>exact wpAny_execs_nil q'
  | ret v=>exact q'
  | brk=>exact q'
  | cont=>exact q'
theorem zNh{X:Cx}{K:zSS}{body:List Stmt}{xc n:Str}{np hpos pos:Pos}{b₀:Stmt}{suite:List Stmt}{tb:(St->XK)->TS}{ts:TS}{Cv:Value}(i:Nat)(hK:X.K=K)(hst:X.stack=X.env::X.outer)(hfr:X.env.frame=some X.env.locals)(hN:X.N.Nodup)(hi:X.N[i]?=some n)(hn:X.env.scope.names.lookup n=some .local)
  (hg:Gl X xc) (hm:X.mg xc=some Cv\/(X.mg xc=none/\bootBuiltins xc=some Cv/\xc≠ "__name__"))
  (hb: ∀ps xe E,zAv (zBf X.prog X.w) (X.tryB ps xe) E->QB (X.tryB ps xe) body (tb E)) (hs: ∀e,QB (X.inExc e) (b₀::suite) ts) (hdb:(xc==("__debug__" :Str))=false):
  QS X (.Try body [.ExceptHandler (some (.Name xc np)) (some n) (b₀::suite) hpos] [] [] pos) (zHZ K Cv i tb ts):=by
 subst hK;exact ⟨zLw hst hfr hN hi hn hg hm (fun ps xe E hp=>(hb ps xe E hp).out) (fun e=>(hs e).out) hdb⟩
section
variable {X:Cx}{e:Expr}{f:Str}{pos:Pos}{ta:TE}
def tXc(K:zSS)(ta:TE)(f:Str):TE:=fun σ H Q=>ta σ H fun x H1=> ∃a C dx fs v,x= .ref a/\H1 a=some (zDY a (.ref C) (some dx))/\H1 dx=some (XD dx fs)/\XCls K C/\ye K C f/\fs.lookup f=some v/\Q v H1
theorem zQL{K:zSS}(hK:X.K=K)(he:PE X e ta)(hb:attributeBase e f X.env (eval e X.env)=eval e X.env):PE X (.Attribute e f pos) (tXc K ta f):=by
 subst hK;intro pins s σ H Q I h;refine zHM hb (zb (he pins s σ H _ I h) fun u s1 ⟨x,H1,I1,rx,a,C,dx,fs,v,ex,ea,ed,c,n,l,q⟩=>?_);subst ex;obtain rfl:u=Value.ref a:=rx;obtain ⟨⟨o,ho,hc,hn,hd⟩,_⟩:=(show zx X.prog X.w H1 s1.heap a (.ext (XCf a (.ref C) dx)) from I1.hok a _ ea);obtain ⟨⟨mA,ns,r,wi⟩,_⟩:=(show zx X.prog X.w H1 s1.heap dx (XD dx fs) from I1.hok dx _ ed);obtain ⟨od,hod,hl⟩:=zEu ns;obtain ⟨uv,hu,ru⟩:=zBA.some_of (v:=v) (o:=mA f) (by rw [<-l];exact r f);have J:PySem.W.InstAt s1.heap a o C (some od):=⟨ho,hc,hn,by rw [hd];exact hod⟩;exact PySem.W.xget_value I1.kIn J c.ga c.gn c.be (PySem.W.findObj_own c.hd n rfl (by rw [hl,hu])) (zEt ru) ⟨v,H1,I1.tok _,ru,q⟩
theorem zQo{K:zSS}(hK:X.K=K)(he:QE X e ta)(hb:attributeBase e f X.env (eval e X.env)=eval e X.env):QE X (.Attribute e f pos) (tXc K ta f):=⟨zQL hK he.out hb⟩
end
end L2
namespace PySem
open PyProof.Rows
section
variable {prog:Program}{w:World}{K:Type}[DecidableEq K]{knd:KeyKind prog w K}{A:Around}{R:Result->Shared->Prop}{d it l:Addr}{items:Array Value}{ps:List (K×Value)}
end
section
variable {prog:Program}{w:World}{K:Type}[DecidableEq K]{knd:KeyKind prog w K}{A:Around}{E:Value->Shared->Prop}{s:Shared}
end
end PySem
namespace L2
open PySem PySem.Spec PyProof.Rows
section
variable {X:Cx}
end
end L2
namespace PySem
open PyProof.Rows
section
variable {prog:Program}{w:World}{K:Type}[DecidableEq K]{knd:KeyKind prog w K}{A:Around}{E:Value->Shared->Prop}{s:Shared}
end
end PySem
namespace L2
open PySem PySem.Spec PyProof.Rows
section
variable {X:Cx}
end
section
variable {X:Cx}{K:zSS}
end
section
variable {X:Cx}{K:zSS}{o e i value:Expr}{f:Str}{pos pos' apos p:Pos}{ta tv td ty:TE}{CX:CXT}{k:Nat}{g C:Addr}{fd:FuncData}{ps:List Str}{sp:Sp}{dvs:List V}{ds:List Value}{E:XK}{x m:Str}
theorem zFT(hK:X.K=K)(he:QE X e ta)(hb:attributeBase e f X.env (eval e X.env)=eval e X.env):QE X (.Attribute e f pos) (zOP K ta f):=by
 subst hK;exact ⟨zNY he.out hb⟩
theorem yU(hK:X.K=K)(ha:QE X o ta)(hv:QE X value tv)(hs:swapsWith value (some (.Attribute o f pos')) pos.line X.env=pure false):QS X (.Assign [.Attribute o f pos'] value pos) (zMs K ta tv f):=by
 subst hK;exact ⟨zOu ha.out hv.out hs⟩
def zPP(td ty tv:TE):TS:=fun D σ H=>tv σ H fun v H1=>td σ H1 fun x H2=>ty σ H2 fun y H3=>zLI x y v H3 fun H4=>D.nx σ H4
theorem zNj(ho:QE X o td)(hi:QE X i ty)(hv:QE X value tv)(hs:swapsWith value (some (.Subscript o i pos')) pos.line X.env=pure false):QS X (.Assign [.Subscript o i pos'] value pos) (zPP td ty tv):=by
 refine ⟨fun pins s σ H D I h=>?_⟩;refine wpAny_Assign_Subscript (zb (hv.out pins s σ H _ I h) fun r s1 ⟨v,H1,I1,rv,q1⟩=>zb (ho.out pins s1 σ H1 _ I1 q1) fun u s2 ⟨x,H2,I2,rx,q2⟩=>zb (hi.out pins s2 σ H2 _ I2 q2) fun iv s3 ⟨y,H3,I3,ry,q3⟩=>?_) hs;exact zb (zKA pins s3 σ H3 x y v u iv r _ I3 rx ry rv q3) fun _ s4 ⟨H4,I4,q4⟩=>⟨σ,H4,I4,q4⟩
end
end L2
namespace PySem
open PyProof.Rows
section
variable {prog:Program}{w:World}{K:Type}[DecidableEq K]{knd:KeyKind prog w K}{A:Around}{E:Value->Shared->Prop}{s:Shared}
end
end PySem
namespace L2
open PySem PySem.Spec PyProof.Rows
def Itz(K:zSS)(a b:Addr):It:=
 ⟨fun i H=> ∃xs ys x y,SqL K H a xs/\SqL K H b ys/\xs[i]?=some x/\ys[i]?=some y,fun i H v H'=> ∃t x y,(∀xs,SqL K H a xs->xs[i]?=some x)/\(∀ys,SqL K H b ys->ys[i]?=some y)/\H t=none/\v= .ref t/\H'=upd H t (.tup [x,y]),
  fun i H=> ∃xs ys,SqL K H a xs/\SqL K H b ys/\(xs.length<=i\/ys.length<=i)⟩
theorem zKC{P:Program}{w:World}{K:zSS}{elts:List Expr}{x1}{pos:Pos}(l1 l2 z TI TO i1 i2:Addr)(D:ZipApart z TI TO i1 i2 l1 l2):
  Turn P w K (.Tuple elts x1 pos) (Itz K l1 l2) [z,TI,TO,i1,i2] z (fun i h=>IsZip h z TI TO .none/\IsPair h TI (.ref i1) (.ref i2)/\(∃a b,IsPair h TO a b)/\h.IsListIter i1 l1 i/\h.IsListIter i2 l2 i) where
 mem:=by simp
 obj:=fun i h st b hb=>by
  obtain ⟨e1,e2,⟨a,b',e3⟩,⟨o4,e4,c4,d4⟩,⟨o5,e5,c5,d5⟩⟩:=st;simp only [zST,zSc,or_false] at hb;rcases hb with rfl | rfl | rfl | rfl | rfl
  ·exact ⟨_,e1,fun v z=>by have z':Data.fields _=Data.cell v:=z;cases z'⟩
  ·exact ⟨_,e2,fun v z=>by have z':Data.seq _=Data.cell v:=z;cases z'⟩
  ·exact ⟨_,e3,fun v z=>by have z':Data.seq _=Data.cell v:=z;cases z'⟩
  ·exact ⟨o4,e4,fun v z=>by rw [d4] at z;cases z⟩
  ·exact ⟨o5,e5,fun v z=>by rw [d5] at z;cases z⟩
 keep:=fun i h h' st k=>by
  obtain ⟨e1,e2,⟨a,b',e3⟩,e4,e5⟩:=st;exact ⟨k z (by simp) _ e1,k TI (by simp) _ e2,⟨a,b',k TO (by simp) _ e3⟩,e4.at fun o e=>k i1 (by simp) o e,e5.at fun o e=>k i2 (by simp) o e⟩
 item:=by
  intro X hP hw hK hc i pins s σ H E I hf st hg;subst hP hw hK;obtain ⟨xs,ys,x,y,hq1,hq2,hx,hy⟩:=hg;obtain ⟨hz,hTI,⟨a0,b0,hTO⟩,hi1,hi2⟩:=st;obtain ⟨its1,rv1,p1,hz1⟩:=I.list hq1;obtain ⟨its2,rv2,p2,hz2⟩:=I.list hq2;obtain ⟨u,hu,ru⟩:=rv1.get hx;obtain ⟨v,hv,rv⟩:=rv2.get hy;refine wpAny_pyNext_zip_item D hz hTI hTO hi1 hi2 p1.isList p2.isList (x:=u) (y:=v) (by simpa using hu) (by simpa using hv) fun h1 hzo hTO1 hit1 hit2 ht hsz hk=>⟨_,rfl,?_⟩;refine wpAny_letOwnedTupleGo_zip hzo fun h2 he2 hs2=>?_;have lts: ∀c o,s.heap.get? c=some o->s.heap.objs.size≠c:=fun c o e=>zSL (zRm e);have nz:=lts _ _ hz;have nTI:=lts _ _ hTI;have nTO:=lts _ _ hTO;have ni1:s.heap.objs.size≠i1:=by obtain ⟨o,e,_⟩:=hi1;exact lts _ _ e
  have ni2:s.heap.objs.size≠i2:=by obtain ⟨o,e,_⟩:=hi2;exact lts _ _ e
  replace hs2:Heap.SameBut z h1 h2:=hs2;have new:h2.get? s.heap.objs.size=some {cls:= .type "tuple",data:= .seq #[u,v]}:=(hs2.2 _ nz).trans ht;have I1:Inv X pins σ (upd H s.heap.objs.size (.tup [x,y])) {s with heap:=s.heap.push {cls:= .type "tuple",data:= .seq #[u,v]},toks:=s.toks}:=
   I.laid (fun b q e=>zRe _ e) (zRg _) ⟨by show 2<=sizeLine;decide,[u,v],.cons ru (.cons rv .nil),_,zRu _ rfl,rfl,⟨_,rfl⟩,rfl⟩
  have nfp: ∀b∈ [z,TO,i1,i2],b≠s.heap.objs.size:=fun b hb=>by
   simp only [zST,zSc,or_false] at hb;rcases hb with rfl | rfl | rfl | rfl
   ·exact Ne.symm nz
   ·exact Ne.symm nTO
   ·exact Ne.symm ni1
   ·exact Ne.symm ni2
  have I2:=Inv.turnedL (h':=h2) (t':=s.toks) (ch:= [z,TO,i1,i2]) I1 (fun b q hb e=>by
   simp only [zST,zSc,or_false,not_or] at hb;obtain ⟨b1,b2,b3,b4⟩:=hb;replace e:(s.heap.push {cls:= .type "tuple",data:= .seq #[u,v]}).get? b=some q:=e;by_cases hbs:b=s.heap.objs.size
   ·subst hbs;rw [zRu _ rfl] at e;cases e;exact new
   ·rw [Heap.get?_push_ne _ _ _ hbs] at e;exact (hs2.2 b b1).trans (hk b q b1 b2 b3 b4 e)) (fun b hb=>(hf b (by simp only [zST,zSc,or_false] at hb⊢;rcases hb with r | r | r | r<;>simp [r])).upd (nfp b hb))
  refine ⟨.ref s.heap.objs.size,_,I2,rfl,⟨_,x,y,fun zs hzs=>by rw [I.list_inj hzs hq1];exact hx,fun zs hzs=>by rw [I.list_inj hzs hq2];exact hy,I.hok.fresh (zRg _),rfl,rfl⟩,
   ⟨he2,(hs2.2 _ D.TIz).trans (hk _ _ D.TIz D.TITO D.TIi1 D.TIi2 hTI),⟨u,v,(hs2.2 _ D.TOz).trans hTO1⟩,hit1.at fun o e=>(hs2.2 _ D.i1z).trans e,hit2.at fun o e=>(hs2.2 _ D.i2z).trans e⟩,fun b hb=>?_⟩
  have hb':b≠s.heap.objs.size:=by
   simp only [zST,zSc,or_false] at hb;rcases hb with rfl | rfl | rfl | rfl | rfl
   ·exact Ne.symm nz
   ·exact Ne.symm nTI
   ·exact Ne.symm nTO
   ·exact Ne.symm ni1
   ·exact Ne.symm ni2
  rw [zQ hb'];exact (hf b hb).1
 done:=by
  intro X hP hw hK hc i pins s σ H E I hf st hg;subst hP hw hK;obtain ⟨xs,ys,hq1,hq2,hx⟩:=hg;obtain ⟨hz,hTI,⟨a0,b0,hTO⟩,hi1,hi2⟩:=st;obtain ⟨its1,rv1,p1,hz1⟩:=I.list hq1;obtain ⟨its2,rv2,p2,hz2⟩:=I.list hq2;have hl1:=rv1.length;have hl2:=rv2.length;refine wpAny_pyNext_zip_end (I.ok.hd hc) D hz hTI hTO hi1 hi2 p1.isList p2.isList (hx.imp (fun h=>by simp;omega) (fun h=>by simp;omega)) fun h' hk=>⟨rfl,?_⟩;exact Inv.turnedL (h':=h') (t':=s.toks) (ch:= [z,TO,i1,i2]) I (fun b q hb e=>by
   simp only [zST,zSc,or_false,not_or] at hb;obtain ⟨b1,b2,b3,b4⟩:=hb;exact hk b q b1 b2 b3 b4 e) (fun b hb=>hf b (by simp only [zST,zSc,or_false] at hb⊢;rcases hb with r | r | r | r<;>simp [r]))
 self:=fun A i s Q E st h=>wpAny_pyIter_zip st.1 h
def zOb(K:zSS)(ta:TA):TI:=fun σ H R=>ta σ H fun vs H1=> ∃a b,vs= [.ref a,.ref b] /\(∃xs,SqL K H1 a xs)/\(∃ys,SqL K H1 b ys)/\R (Itz K a b) H1
theorem zEm:bootBuiltins "zip" =some (.type "zip"):=by decide+kernel
theorem zMo{X:Cx}{a b:Expr}{ta:TA}{p pos tpos:Pos}{elts:List Expr}{x1}(hg:Gl X "zip")(hm:X.mg "zip" =none)(ha:PA X [a,b] ta)(h2:yB a=true)(h3:yB b=true):
  PI X (.Tuple elts x1 tpos) (.Call (.Name "zip" p) [a,b] [] pos) (zOb X.K ta):=by
 intro pins s σ H R I h;refine Call_ (zBG I hg hm zEm (PyProof.Rows.callWith_type1 (zb (ha pos pins s σ H _ I h) fun us s1 ⟨vs,H1,I1,r1,q1⟩=>?_) (zt h2) (yj (by show (yB b&&true)=true;rw [h3];rfl))));obtain ⟨l1,l2,e,⟨xs,hq1⟩,⟨ys,hq2⟩,q⟩:=q1;subst e;obtain ⟨u,v,rfl,ru,rv⟩:=zT.two r1;cases ru;cases rv;obtain ⟨its1,rv1,pl1,hz1⟩:=I1.list hq1;obtain ⟨its2,rv2,pl2,hz2⟩:=I1.list hq2;have lt1:l1<s1.heap.objs.size:=by obtain ⟨o,e,_⟩:=pl1.isList;exact zRm e
 have lt2:l2<s1.heap.objs.size:=by obtain ⟨o,e,_⟩:=pl2.isList;exact zRm e
 refine call_zip_2 pl1.isList pl2.isList fun h' hz hTI hTO hi1 hi2 hsz hk=>?_;refine wpAny_pyIter_zip hz ?_;refine ⟨_,[s1.heap.objs.size+4,s1.heap.objs.size+2,s1.heap.objs.size+3,s1.heap.objs.size,s1.heap.objs.size+1],_,_,H1,rfl,I1.kept (t':=s1.toks) hk,zKC l1 l2 _ _ _ _ _ (zipApart_new lt1 lt2),⟨hz,hTI,⟨_,_,hTO⟩,hi1,hi2⟩,fun b hb=>?_,q⟩;have up: ∀k,zAc X pins H1 (s1.heap.objs.size+k):=fun k=>I1.fpOk (Nat.le_add_right _ k) (I1.hok.fresh (Nat.le_add_right _ k));simp only [zST,zSc,or_false] at hb;rcases hb with rfl | rfl | rfl | rfl | rfl
 ·exact up 4
 ·exact up 2
 ·exact up 3
 ·exact up 0
 ·exact up 1
theorem zPx{X:Cx}{K:zSS}{a b:Expr}{ta:TA}{p pos tpos:Pos}{elts:List Expr}{x1}(hK:X.K=K)(hg:Gl X "zip")(hm:X.mg "zip" =none)(ha:QA X [a,b] ta)(h2:yB a=true)(h3:yB b=true):
  QI X (.Tuple elts x1 tpos) (.Call (.Name "zip" p) [a,b] [] pos) (zOb K ta):=by
 subst hK;exact ⟨zMo hg hm ha.out h2 h3⟩
open PyProof
section
variable {X:Cx}{K:zSS}{o e:Expr}{to te:TE}{apos cpos p0:Pos}{j:Nat}
end
section
variable {X:Cx}{scope:Scope}{cl:List (Str×Addr)}{C:Addr}{N:List Str}{s₂:Shared}{H₂:Hp}{fp:List Addr}{xe:Value->Shared->Prop}{pins:List (Addr×Obj)}{σ:St}{H:Hp}{s:Shared}
end
section
variable {X:Cx}{K:zSS}{CX:CXT}{k:Nat}{f C:Addr}{fd:FuncData}{ps:List Str}{sp:Sp}{dvs:List V}{ds:List Value}{E:XK}{x:Str}{p pos:Pos}{e:Expr}{es:List Expr}{t:TA}
theorem yQ(M:Mk X.K C f)(F:FnOk X.prog X.w X.K X.mg X.base CX k f fd ps sp)(hr:Room (k+1) X.A)(hg:Gl X x)(hm:X.mg x=some (.ref C))(hb:zL X.K fd ps ds)(hd:zT dvs ds)(hx:yw CX X E)
  (ha:QA X (e::es) t) (h1:(x==("__debug__" :Str))=false) (h2:yB e=true) (h3:yk es=true):QE X (.Call (.Name x p) (e::es) [] pos) (zKl C sp dvs E t):=⟨zLN M F hr hg hm hb hd hx ha.out h1 (zt h2) (yj h3)⟩
end
section
variable {X:Cx}{K:zSS}{o i e:Expr}{to ti te:TE}{tl th:TO}{lo hi:Option Expr}{pos p2 tpos:Pos}
theorem zCN(hK:X.K=K)(he:QE X e te)(hl:QO X lo tl)(hu:QO X hi th):QE X (.Subscript e (.Slice lo hi none p2) pos) (tSl (zOh K) te tl th):=by
 subst hK;exact ⟨zGA zNP he.out hl.out hu.out⟩
end
section
variable {X:Cx}{K:zSS}
end
section
variable {X:Cx}{K:zSS}
variable {o:Expr}{to:TE}{apos cpos:Pos}
end
section
variable {X:Cx}{CX:CXT}{k i:Nat}{f g:Addr}{fd gd:FuncData}{ps qs:List Str}{sp sq:Sp}{dvs:List V}{ds:List Value}{E:XK}{x:Str}{p pos:Pos}{e:Expr}{es:List Expr}{t:TA}
end
end L2
namespace PySem
open PyProof.Rows
section
variable {prog:Program}{w:World}{A:Around}{E:Value->Shared->Prop}{s:Shared}
end
end PySem
namespace PySem
open PyProof.Rows
section
variable {prog:Program}{w:World}{A:Around}{R:Result->Shared->Prop}{I:Addr}{fp wr:List Addr}{G:Array GenState->Array GenState->Prop}{n:Nat}{P:Nat->Value->Prop}{St:Nat->Shared->Prop}
end
section
variable {prog:Program}{w:World}{A:Around}{E:Value->Shared->Prop}{s:Shared}
end
end PySem
namespace PySem
open PyProof.Rows
section
variable {prog:Program}{w:World}{A:Around}{E:Value->Shared->Prop}{s:Shared}{it a tp:Addr}{es:Array (Int×Value)}{ep:Nat}{t:SetTable}{order:List Nat}{vals:List Value}{i:Nat}
end
end PySem
namespace PySem
open PyProof.Rows
section
variable {prog:Program}{w:World}{A:Around}{E:Value->Shared->Prop}{s:Shared}
end
end PySem
namespace L2
open PySem PySem.Spec PyProof.Rows
section
variable {X:Cx}{P:Program}{w:World}
end
end L2
namespace PySem.F
theorem slot_none_hash:Slot "NoneType" "__hash__" "NoneType.__hash__" :=Slot.of (owner:= "NoneType") (n:= "__hash__") (by rw [typeLookup_type,builtinLookup_eq_fast];kernel_rfl) (by decide+kernel) (by decide+kernel) (by decide+kernel) (by first | exact .inl (by decide+kernel)| exact .inr (by decide+kernel)) (by rw [isSubtype_type];kernel_rfl)
theorem entry_none_hash:entryFor table "NoneType.__hash__" =some Builtin.«NoneType.__hash__»:=entryFor_of_tree (by kernel_rfl)
theorem args_none_hash(a:Value):argsOk "NoneType.__hash__" ⟨[a],[]⟩:=by unfold argsOk;kernel_rfl
end PySem.F
namespace PySem
open PyProof.Rows
section
variable {prog:Program}{w:World}{A:Around}{E:Value->Shared->Prop}{s:Shared}
theorem zGi{Q:Int->Shared->Prop}(h:Q 4238894112 {s with toks:=s.toks+1}):wpAny (model prog w) A (pyHash Value.none) Q E s:=by
 show wpAny (model prog w) A (pyHashByItsType Value.none) Q E s;refine W.pyHash_slot (T:= "NoneType") rfl F.slot_none_hash F.entry_none_hash (F.args_none_hash _) (by decide) (.inl rfl) ?_;unfold Builtin.«NoneType.__hash__»;refine zRd (m:=slotArgs "__hash__" 0 _) (zRi ?_);unfold retInt;refine zRd (wpAny_mkInt (zRi ⟨_,_,rfl,?_⟩));exact h
end
end PySem
namespace L2
open PySem PySem.Spec PyProof.Rows
def zEZ:Option Str->Value->Bool
 | none,.none=>true
 | none,_=>false
 | some x,v=>Value.isStrOf x v
def nsH(w:World):Option Str->Int
 | none=>4238894112
 | some x=>hashStr w x
theorem yg: ∀{k:Option Str} {v:Value},zEZ k v=true->(k=none/\v=Value.none)\/(∃x t,k=some x/\v=Value.str x t)
 | none,v,h=>by cases v<;>first | exact .inl ⟨rfl,rfl⟩| cases h
 | some x,v,h=>by
  obtain ⟨t,e⟩:=Value.isStrOf_shape (x:=x) (v:=v) h;exact .inr ⟨x,t,rfl,e⟩
theorem zCb(x:Str)(t:Tok):zEZ (some x) (.str x t)=true:=by simp [zEZ,Value.isStrOf]
theorem zQV(a b:Str):decide ((some a:Option Str)=some b)=decide (a=b):=by
 by_cases e:a=b
 ·subst e;simp
 ·have h: ¬(some a:Option Str)=some b:=fun q=>e (Option.some.inj q);rw [zSA h,zSA e]
def zCi(prog:Program)(w:World):PySem.KeyKind prog w (Option Str) where
 is:=zEZ
 hash:=nsH w
 inj:=fun v a b ha hb=>by
  rcases yg ha with ⟨rfl,rfl⟩|⟨x,t,rfl,rfl⟩
  ·rcases yg hb with ⟨rfl,e⟩|⟨y,u,rfl,e⟩
   ·rfl
   ·exact nomatch e
  ·rcases yg hb with ⟨rfl,e⟩|⟨y,u,rfl,e⟩
   ·exact nomatch e
   ·injection e with e1 _;rw [e1]
 byValue:=fun k v h=>by
  rcases yg h with ⟨rfl,rfl⟩|⟨x,t,rfl,rfl⟩<;>rfl
 pyHash:=fun hv h=>by
  rcases yg hv with ⟨rfl,rfl⟩|⟨x,t,rfl,rfl⟩
  ·exact zGi h
  ·exact wpAny_pyHash_str h
 eqBool:=fun hu hv h=>by
  rcases yg hu with ⟨rfl,rfl⟩|⟨x,t,rfl,rfl⟩
  ·rcases yg hv with ⟨rfl,rfl⟩|⟨y,u,rfl,rfl⟩
   ·exact SeqAt.EqAt.same Value.none _ _ _ _ (by simpa using h)
   ·exact SeqAt.EqAt.none_str y u _ _ _ _ (by simpa using h)
  ·rcases yg hv with ⟨rfl,rfl⟩|⟨y,u,rfl,rfl⟩
   ·exact SeqAt.EqAt.str_none x t _ _ _ _ (by simpa using h)
   ·rw [zQV] at h;exact wpAny_eqBool_str h
 «strs»:=fun k x t v h=>by
  rcases yg h with ⟨rfl,e⟩|⟨y,u,rfl,e⟩
  ·exact nomatch e
  ·injection e with e1 _;subst e1;cases v<;>rfl
structure KDic(w:World)(K:zSS)(a:Addr)(kvs:List (Str×Int)):Prop where
 ne:(a==sysModules)=false
 nd:(kvs.map (·.1)).Nodup
 ex: ∃es n,K.lookup a=some {cls:= .type "dict",dict:=none,data:= .dict es n,slots:= #[]}/\PySem.W.KeysLit w.params es.toList/\Paired (fun (e:DictEntry) (kv:Str×Int)=>(∃t,e.key= .str kv.1 t)/\ ∃t,e.val= .int kv.2 t) es.toList kvs
def opt:V->Option (Option Str)
 | .non=>some none
 | .str x=>some (some x)
 | _=>none
def kdV(kvs:List (Str×Int))(x:Str):Option Int:=(kvs.find? fun kv=>decide (kv.1=x)).map (·.2)
def kdO(kvs:List (Str×Int)):V->Option Int
 | .str x=>kdV kvs x
 | _=>none
theorem zFg{P:Params}: ∀{es:List DictEntry},PySem.W.KeysLit P es-> ∀e∈es,∃x t,e.key= .str x t/\e.hash=PyData.keyHash P x
 | [],_,e,h=>(nomatch h)
 | e0::es,hl,e,h=>by
  unfold PySem.W.KeysLit at hl;rcases zST.mp h with rfl | h
  ·exact hl.1
  ·exact zFg hl.2 e h
section
variable {X:Cx}{pins:List (Addr×Obj)}{σ:St}{H:Hp}{s:Shared}{a:Addr}{kvs:List (Str×Int)}{A:Around}{E:Value->Shared->Prop}
theorem zGJ{prog:Program}{w:World}: ∀{es:List DictEntry} {kvs:List (Str×Int)},Paired (fun (e:DictEntry) (kv:Str×Int)=>(∃t,e.key= .str kv.1 t)/\ ∃t,e.val= .int kv.2 t) es kvs->
  ∃vs:List (Option Str×Value),Pairs (zCi prog w) es vs/\vs.map (·.1)=kvs.map (fun kv=>some kv.1)/\ ∀x,(valueAt vs (some x)).isSome=(kdV kvs x).isSome/\(∀i,kdV kvs x=some i-> ∃t,valueAt vs (some x)=some (.int i t))/\valueAt vs none=none
 | _,_,.nil=>⟨[],.nil,rfl,fun x=>⟨rfl,fun i h=>(nomatch h),rfl⟩⟩
 | e::es,kv::kvs,.cons h r=>by
  obtain ⟨vs,h1,h2,h3⟩:=zGJ (prog:=prog) (w:=w) r;obtain ⟨⟨t,hk⟩,u,hv⟩:=h;refine ⟨(some kv.1,e.val)::vs,.cons (show zEZ (some kv.1) e.key=true by rw [hk];exact zCb _ t) rfl h1,by rw [zSX,zSX,h2],fun x=>?_⟩;obtain ⟨h4,h5,h6⟩:=h3 x;by_cases z:kv.1=x
  ·subst z;have e1:valueAt ((some kv.1,e.val)::vs) (some kv.1)=some e.val:=by simp [valueAt]
   have e2:kdV (kv::kvs) kv.1=some kv.2:=by simp [kdV]
   rw [e1,e2,hv];exact ⟨rfl,fun i h=>by cases h;exact ⟨u,rfl⟩,by simpa [valueAt] using h6⟩
  ·have z': ¬(some kv.1:Option Str)=some x:=fun q=>z (Option.some.inj q);have e1:valueAt ((some kv.1,e.val)::vs) (some x)=valueAt vs (some x):=by simp [valueAt,z]
   have e2:kdV (kv::kvs) x=kdV kvs x:=by simp [kdV,z]
   rw [e1,e2];exact ⟨h4,h5,by simpa [valueAt] using h6⟩
theorem zKy(I:Inv X pins σ H s)(k:KDic X.w X.K a kvs): ∃vs:List (Option Str×Value),s.heap.DictOf (zCi X.prog X.w) a vs/\ ∀x,(valueAt vs (some x)).isSome=(kdV kvs x).isSome/\(∀i,kdV kvs x=some i-> ∃t,valueAt vs (some x)=some (.int i t))/\valueAt vs none=none:=by
 obtain ⟨es,n,hk,hl,hp⟩:=k.ex;obtain ⟨vs,h1,h2,h3⟩:=zGJ (prog:=X.prog) (w:=X.w) hp;refine ⟨vs,⟨_,es,n,I.kIn a _ hk,⟨rfl,rfl,rfl⟩,rfl,fun e he=>?_,h1,?_⟩,h3⟩
 ·obtain ⟨x,t,e1,e2⟩:=zFg hl e (Array.mem_toList_iff.mpr he);exact ⟨some x,show zEZ (some x) e.key=true by rw [e1];exact zCb x t,e2⟩
 ·rw [h2];have:=k.nd;rw [show kvs.map (fun kv=>some kv.1)=(kvs.map (·.1)).map some by rw [List.map_map];rfl];exact List.Pairwise.map _ (fun _ _ h e=>h (Option.some.inj e)) this
def zHP(kvs:List (Str×Int))(ty:TE):TE:=fun σ H Q=>ty σ H fun y H1=>(opt y).isSome=true/\Q (.bl (!(kdO kvs y).isSome)) H1
def zHc(kvs:List (Str×Int))(ty:TE):TE:=fun σ H Q=>ty σ H fun y H1=> ∃x i,y= .str x/\kdV kvs x=some i/\Q (.int i) H1
end
section
variable {X:Cx}{a:Addr}{kvs:List (Str×Int)}{o i:Expr}{pos:Pos}{ty:TE}
theorem zIV(k:KDic X.w X.K a kvs)(hi:PE X i ty)(ho:PE X o (tC (.ref a))):PC X .NotIn i o (zHP kvs ty):=by
 intro pins s σ H Q I h;refine zb (hi pins s σ H _ I h) fun iv s1 ⟨y,H1,I1,ry,⟨hy,q1⟩⟩=>zb (ho pins s1 σ H1 (fun x H2=>x= .ref a/\Q (.bl (!(kdO kvs y).isSome)) H2) I1 ⟨rfl,q1⟩) fun u s2 ⟨x,H2,I2,rx,ex,q2⟩=>?_;subst ex;obtain rfl:u=Value.ref a:=rx;obtain ⟨vs,dd,hv⟩:=zKy I2 k;cases y with
 | non=>
  cases (show iv=Value.none from ry);refine wpAny_notIn_of (knd:=zCi X.prog X.w) (k:=none) rfl k.ne dd.mapOf ?_;rw [(hv Str.empty).2.2];exact ⟨.bl true,H2,I2.tok _,rfl,q2⟩
 | str x=>
  obtain ⟨t,rfl⟩:=(show∃t,iv=Value.str x t from ry);refine wpAny_notIn_of (knd:=zCi X.prog X.w) (k:=some x) (zCb x t) k.ne dd.mapOf ?_;rw [(hv x).1];exact ⟨.bl _,H2,I2.tok _,rfl,q2⟩
 | _=>cases hy
theorem zLn(k:KDic X.w X.K a kvs)(ho:PE X o (tC (.ref a)))(hi:PE X i ty)(hs:zJz i):PE X (.Subscript o i pos) (zHc kvs ty):=by
 intro pins s σ H Q I h;refine zLk PySem.F.slot_dict_getitem.lookup hs (zb (ho pins s σ H (fun x H1=>x= .ref a/\zHc kvs ty σ H1 Q) I ⟨rfl,h⟩) fun u s1 ⟨x,H1,I1,rx,ex,q1⟩=>zb (hi pins s1 σ H1 _ I1 q1) fun iv s2 ⟨y,H2,I2,ry,z,j,ey,hz,q2⟩=>?_);subst ex ey;obtain rfl:u=Value.ref a:=rx;obtain ⟨t,rfl⟩:=(show∃t,iv=Value.str z t from ry);obtain ⟨vs,dd,hv⟩:=zKy I2 k;obtain ⟨t',ht⟩:=(hv z).2.1 j hz;exact ⟨dd.typeIs,wpAny_getItem_of (knd:=zCi X.prog X.w) (k:=some z) (zCb z t) dd.mapOf ht ⟨.int j,H2,I2.tok _,⟨t',rfl⟩,q2⟩⟩
theorem zKG(k:KDic X.w X.K a kvs)(hi:QE X i ty)(ho:QE X o (tC (.ref a)))(h:behindInMarks .NotIn o=false):QT X (.Compare i [.NotIn] [o] pos) (tB (zHP kvs ty)):=⟨zJV (zIV k hi.out ho.out) h⟩
theorem zNL(k:KDic X.w X.K a kvs)(ho:QE X o (tC (.ref a)))(hi:QE X i ty)(hs:zJz i):QE X (.Subscript o i pos) (zHc kvs ty):=⟨zLn k ho.out hi.out hs⟩
end
end L2
namespace PySem
open PyProof.Rows
section
variable {prog:Program}{w:World}{A:Around}{E:Value->Shared->Prop}{s:Shared}
end
end PySem
namespace L2
open PySem PySem.Spec PyProof.Rows
end L2
namespace PySem
open PyProof.Rows
section
variable {prog:Program}{w:World}{A:Around}{E:Value->Shared->Prop}{s:Shared}
theorem zDf{Q:Value->Shared->Prop}{d:Addr}{its:List Value}{ss:List Str}(hL:s.heap.IsList d its.toArray)(hSt:StrsAre its ss)(h64:its.length<64)
  (h: ∀(h1 h':Heap) tk out ss' e,(∀b o,s.heap.get? b=some o->h1.get? b=some o)->(∀b o,h1.get? b=some o->h'.get? b=some o)->h'.get? h1.objs.size=some (seqObj "list" out e)->StrsAre out.toList ss'->ss'.Perm ss->sortedS ss'=true->Q (.ref h1.objs.size) {s with heap:=h',toks:=tk}):
  wpAny (model prog w) A (call (.builtin "sorted") [.ref d]) Q E s:=by
 obtain ⟨o,ho,hc,n,hd⟩:=hL;refine Calls.call_function_entry kind_sorted plain_sorted entry_sorted (args_sorted1 _) ?_;unfold Builtin.«sorted»;refine zRd (m:=checkCount "sorted" 1 1 _) (zRi ?_);refine zRd (wpAny_collect_seq d (.inl rfl) ho hc hd (fun h1 k1=>?_) (by rw [zRn];simp;omega));refine zRd (wpAny_newList ?_ (by simp only [];rw [zRn];omega));have hoL:(h1.push (seqObj "list" its.toArray 0)).get? h1.objs.size=some (seqObj "list" its.toArray 0):=zRu _ rfl;show wpAny _ _ _ _ _ {s with heap:=h1.push (seqObj "list" its.toArray 0),toks:=s.toks};refine zRd (zSN (wpAny_call_entry slot_list_sort ⟨_,hoL,rfl⟩ entry_list_sort (list_sort_treeK strKind_oneLt hoL hSt.keysOf (fun v₁ v₂ rest e=>keyKind_strs (by rw [<-e];exact hSt)) h64 fun st' a1 a2=>⟨_,rfl,?_⟩) (args_list_sort _)));obtain ⟨ss',b1,b2,b3⟩:=sorted_out_str hSt a1 a2;obtain ⟨e,he⟩:=sortedHeap_at (out:=((arrOf st').map (·.2))) hoL;refine zRi ⟨_,rfl,h h1 _ _ _ ss' e k1 (fun b o q1=>?_) he b1 b2 b3⟩;have lt1:=zRm q1;rw [sortedHeap_old (zRk lt1) (by rw [size_push'];exact Nat.lt_succ_of_lt lt1)];exact zRe _ q1
end
end PySem
namespace L2
open PySem PySem.Spec PyProof.Rows
section
variable {X:Cx}{K:zSS}
theorem zGG(hK:X.K=K):yV X (.builtin "sorted") (fun xs H Q=> ∃(a:Addr) (ks:List Str),xs= [.ref a] /\SqL K H a (ks.map V.str)/\ks.length<64/\
  ∀(l:Addr) (ks':List Str),H l=none->ks'.Perm ks->sortedS ks'=true->Q (.ref l) (upd H l (.lst (ks'.map V.str)))):=by
 subst hK;intro pins s σ H xs us Q I r h;obtain ⟨a,ks,rfl,hq,h64,q⟩:=h;obtain ⟨u,rfl,ru⟩:=zBP r;cases ru;obtain ⟨its,r',pl,hz⟩:=I.list hq;have hl:=r'.length;refine zDf pl.isList (zBV r') (by simp at hl;omega) fun h1 h' tk out ss' ep' k1 k2 ho hS hp hsd=>?_;have I1:Inv X pins σ H {s with heap:=h1,toks:=tk}:=I.kept k1;have lo:ss'.length<=sizeLine:=by
  have:=hp.length_eq;rw [zRn];omega
 have I2:=Inv.laid (h':=h') (t':=tk) (a:=h1.objs.size) (o:= .lst (ss'.map V.str)) I1 k2 (zRg _) ⟨by simpa using lo,out.toList,ep',zEq hS,by simpa using ho⟩;exact ⟨.ref h1.objs.size,_,I2,rfl,q _ ss' (I1.hok.fresh (zRg _)) hp hsd⟩
theorem zKo{i j:Nat}{x y:Str}{a b:Expr}{ta:TA}{px py pt pos:Pos}{kt k2 pt2}(hc:X.calm=true)(hN:X.N.Nodup)(hi:X.N[i]?=some x)(hj:X.N[j]?=some y)(hij:i≠j)
  (hx:X.env.scope.names.lookup x=some .local) (hy:X.env.scope.names.lookup y=some .local) (ha:QA X [a,b] ta)
  (hw:swappedStores [.Tuple [.Name x px,.Name y py] kt pt] (.Tuple [a,b] k2 pt2) X.env=pure (some [x,y]))
  (hs:swapsWithSole [.Tuple [.Name x px,.Name y py] kt pt] (.Tuple [a,b] k2 pt2) pos.line X.env=pure false):
  QS X (.Assign [.Tuple [.Name x px,.Name y py] kt pt] (.Tuple [a,b] k2 pt2) pos) (zOq i j ta):=⟨zNr hc hN hi hj hij hx hy ha.out hw hs⟩
end
end L2
namespace PySem
open PyProof.Rows
section
variable {prog:Program}{w:World}{A:Around}{E:Value->Shared->Prop}{s:Shared}
end
end PySem
namespace L2
open PySem PySem.Spec PyProof.Rows
section
variable {X:Cx}{a b:Expr}{rest:List Expr}{pos:Pos}{ta tb:TE}
end
end L2
namespace PySem
open PyProof.Rows
theorem zDg:fillsNumberSlot (.type "tuple") "mul" =pure false:=
 fillsNumberSlot_seq (id:= "tuple.__mul__") (r:=some (.builtin "tuple.__rmul__")) F.slot_tuple_mul.lookup (by decide+kernel) F.slot_tuple_rmul.lookup (by decide+kernel)
theorem zFb:seqRepeat? (.type "tuple")=pure (some (.builtin "tuple.__mul__")):=by
 unfold seqRepeat?;rw [seqSlot_of (T:= "tuple") (name:= "__mul__") (id:= "tuple.__mul__") F.slot_tuple_mul.lookup (by decide+kernel),seqSlot_of (T:= "tuple") (name:= "__rmul__") (id:= "tuple.__rmul__") F.slot_tuple_rmul.lookup (by decide+kernel)];rfl
theorem zEa(a:Int)(t:Tok)(l:Addr)(items:Array Value)(n:Nat)(dct:Option Addr)(sl:Array (Option Value)):
  Meets (Builtin.«int.__rmul__» ⟨[.int a t,.ref l],[]⟩) (fun _ R s=>s.heap.get? l=some {cls:= .type "tuple",dict:=dct,data:= .seq items n,slots:=sl}/\R (.ok (.ret Value.notImplemented)) s):=
 .of_wp fun prog w A R s h=>by obtain ⟨hp,g,d,tk,os⟩:=s;obtain ⟨hl,h⟩:=h;wp_walk using AutoSeq1.wpAny_loadPart' hl;exact ⟨_,rfl,h⟩
theorem zFE(l:Addr)(v:Value)(n:Nat)(dct:Option Addr)(sl:Array (Option Value))(u:Tok):
  Meets (Builtin.«tuple.__mul__» ⟨[.ref l,.int 1 u],[]⟩) (fun _ R s=>s.heap.get? l=some {cls:= .type "tuple",dict:=dct,data:= .seq #[v] n,slots:=sl}/\R (.ok (.ret (.ref l))) s):=
 .of_wp fun prog w A R s h=>by
  obtain ⟨hp,g,d,tk,os⟩:=s;obtain ⟨hl,h⟩:=h
  wp_walk using AutoSeq1.wpAny_loadPart' hl
  exact ⟨_,rfl,h⟩
theorem zEX(l:Addr)(v:Value)(n:Nat)(dct:Option Addr)(sl:Array (Option Value))(x:Int)(u:Tok)(h2:2<=x)(h6:x<=60):
  Meets (Builtin.«tuple.__mul__» ⟨[.ref l,.int x u],[]⟩) (fun _ R s=>s.heap.get? l=some {cls:= .type "tuple",dict:=dct,data:= .seq #[v] n,slots:=sl}/\
   R (.ok (.ret (.ref s.heap.objs.size))) {s with heap:=s.heap.push {cls:= .type "tuple",data:= .seq (List.foldl (fun x1 x2=>x1++x2) #[] (List.replicate x.toNat #[v]))}}):=
 .of_wp fun prog w A R s h=>by
  obtain ⟨hp,g,d,tk,os⟩:=s;obtain ⟨hl,h⟩:=h
  wp_walk using AutoSeq1.wpAny_loadPart' hl
  have c1:(decide (x< -2^63)|| decide (x≥2^63))=false:=by
   rw [zSA (by omega),zSA (by omega)];rfl
  have c2:(x==1)=false:=beq_eq_false_iff_ne.mpr (by omega);have c3:decide (x<=0)=false:=zSA (by omega);refine wpAny_ite_false (by rw [c1];rfl) ?_
  wp_walk using AutoSeq1.wpAny_loadPart' hl
  have sz:(((#[v] :Array Value).size:Nat):Int)=1:=rfl;refine wpAny_ite_false (zSA (by rw [sz];omega)) ?_
  wp_walk using AutoSeq1.wpAny_loadPart' hl
  refine wpAny_ite_false (zSA (by
   unfold Builtin.Tuple.tupleTooMany;rw [sz,zRn];simp;omega)) ?_
  wp_walk using AutoSeq1.wpAny_loadPart' hl
  refine wpAny_ite_false (zSA (by
   have e:=L2.zCj [v] x.toNat [];rw [List.nil_append] at e;have e:List.foldl (fun x1 x2=>x1++x2) #[] (List.replicate x.toNat (#[v] :Array Value))=(List.replicate x.toNat [v]).flatten.toArray:=e;rw [e,zRv,L2.zLb,zRn];simp;omega)) ?_
  wp_walk using AutoSeq1.wpAny_loadPart' hl
  exact ⟨_,rfl,h⟩
end PySem
namespace L2
open PySem PySem.Spec PyProof.Rows
section
variable {X:Cx}{K:zSS}
inductive XRepT (x y:V) (H:Hp) (Q:VK):Prop
 | mk (p:Addr) (k:Int) (v:V) (h1:x= .ref p) (h2:y= .int k) (h3:H p=some (.tup [v])) (h4:1<=k) (h5:k<=60) (q1:k=1->Q (.ref p) H) (q2:k≠1-> ∀q,H q=none->Q (.ref q) (upd H q (.tup (List.replicate k.toNat v))))
def zKu:R2:=fun x y H Q=>XRepT x y H Q
theorem zFc{α:Type}(v:α): ∀n:Nat,(List.replicate n [v]).flatten=List.replicate n v
 | 0=>rfl
 | n+1=>by rw [List.replicate_succ,List.flatten_cons,zFc v n,List.replicate_succ];rfl
theorem zMH:OpR X (binaryOp .Mult) zKu:=by
 intro pins s σ H x y v u Q I rx ry h;obtain ⟨p,k,z,rfl,rfl,hp,k1,k6,q1,q2⟩:=h;cases rx;obtain ⟨t,rfl⟩:=ry;obtain ⟨its,r,ht⟩:=I.tupl hp;obtain ⟨w0,rfl,rw0⟩: ∃w0,its= [w0] /\ze z w0:=by
  cases r with
  | cons r rr=>cases rr;exact ⟨_,rfl,r⟩
 obtain ⟨⟨c,dct,dt,sl⟩,ho,hc,n,hd⟩:=ht;replace hc:c= .type "tuple" :=hc;replace hd:dt= .seq #[w0] n:=hd;subst hc hd;refine wpAny_binaryOp_repeat_ref (T:= "tuple") (U:= "int") (by decide) ⟨_,ho,rfl⟩ (fun s'=>typeIs_int s' k t) zDg F.fills_int_mul F.slot_int_rmul zFb F.slot_int_index.lookup
  (call_meets F.slot_int_rmul (typeIs_int s k t) F.entry_int_rmul (F.args_int_rmul_2 _ _) (zEa k t p #[w0] n dct sl) ⟨ho,rfl,⟨_,ho,rfl⟩,?_⟩)
 by_cases hk:k=1
 ·subst hk;exact call_meets F.slot_tuple_mul ⟨_,ho,rfl⟩ F.entry_tuple_mul (F.args_tuple_mul_2 _ _) (zFE p w0 n dct sl t) ⟨ho,⟨.ref p,H,I,rfl,q1 rfl⟩⟩
 ·refine call_meets F.slot_tuple_mul ⟨_,ho,rfl⟩ F.entry_tuple_mul (F.args_tuple_mul_2 _ _) (zEX p w0 n dct sl k t (by omega) k6) ⟨ho,?_⟩;have e:=zCj [w0] k.toNat [];rw [List.nil_append,zFc] at e;have e:List.foldl (fun x1 x2=>x1++x2) #[] (List.replicate k.toNat (#[w0] :Array Value))=(List.replicate k.toNat w0).toArray:=e;rw [e];have rv:zT (List.replicate k.toNat z) (List.replicate k.toNat w0):=by
   generalize k.toNat=m
   induction m with
   | zero=>exact .nil
   | succ m ih=>rw [List.replicate_succ,List.replicate_succ];exact .cons rw0 ih
  exact ⟨.ref _,_,I.laid (t':=s.toks) (o:= .tup (List.replicate k.toNat z)) (fun b o e=>zRe _ e) (zRg _) ⟨by rw [List.length_replicate,zRn];omega,_,rv,_,zRu _ rfl,rfl,⟨_,rfl⟩,rfl⟩,rfl,q2 hk _ (I.hok.fresh (zRg _))⟩
theorem zMW{a b:Expr}{ta tb:TE}{pos:Pos}(ha:QE X a ta)(hb:QE X b tb):QE X (.BinOp a .Mult b pos) (tOp zKu ta tb):=zAW zMH ha hb
end
end L2
namespace HT
open PySem PySem.Spec PyProof.Rows
section
variable {prog:Program}{w:World}{A:Around}{E:Value->Shared->Prop}{s:Shared}
end
end HT
namespace L2
open PySem PySem.Spec PyProof.Rows
section
variable {X:Cx}{K:zSS}{e:Expr}{te:TE}{tl th:TO}{lo hi:Option Expr}{pos p2:Pos}
end
def zOO(K:zSS):List V->Hp->VK->Prop:=fun xs H Q=> ∃(ea C tp:Addr) (cs:List Addr) (φ:Heap->Prop),xs= [.ref ea,.ref tp] /\H tp=some (.tup (cs.map V.ref))/\H ea=some (.ext φ)/\(∀h,φ h->KAt ea (.ref C) h)/\XCls K C/\(∀c∈cs,PySem.W.kitOne K (.ref C) (.ref c)=some false)/\Q (.bl false) H
theorem zHR: ∀{cs:List Addr} {its:List Value},zT (cs.map V.ref) its->its=cs.map Value.ref
 | [],_,h=>by cases h;rfl
 | c::cs,_,h=>by
  cases h with
  | cons a b=>rw [zHR b];cases a;rfl
theorem zFA{K:zSS}{t:Value}: ∀{cs:List Addr},(∀c∈cs,PySem.W.kitOne K t (.ref c)=some false)->PySem.W.kitAny K t (cs.map Value.ref)=some false
 | [],_=>rfl
 | c::cs,h=>by
  show PySem.W.kitAny K t (.ref c::cs.map Value.ref)=_;unfold PySem.W.kitAny;rw [h c (List.mem_cons_self ..)];exact zFA fun d hd=>h d (zSI _ hd)
theorem zDV{X:Cx}{K:zSS}(hK:X.K=K):yV X (.builtin "isinstance") (zOO K):=by
 subst hK;intro pins s σ H xs us Q I r h;obtain ⟨ea,C,tp,cs,φ,rfl,htp,hH,hφ,xc,e,q⟩:=h;obtain ⟨u,v,rfl,ru,rv⟩:=zT.two r;cases (show u=_ from ru);cases (show v=_ from rv);obtain ⟨its,r',ht⟩:=I.tupl htp;obtain rfl:=zHR r';obtain ⟨⟨c,dct,dt,sl⟩,ho,hc,n,hd⟩:=ht;replace hc:c= .type "tuple" :=hc;replace hd:dt= .seq (cs.map Value.ref).toArray n:=hd;subst hc hd;obtain ⟨p,_⟩:=(show zx X.prog X.w H s.heap ea (.ext φ) from I.hok ea _ hH);exact PySem.W.kia_tup (zGa xc) I.kIn (hφ _ p) ho (zFA e) (fun z=>nomatch z) fun tk=>⟨.bl false,H,I.tok tk,rfl,q⟩
structure ClsM(K:zSS)(C:Addr)(m:Str)(f:Addr):Prop where
 ga:PySem.W.specialIn K (.ref C) "__getattribute__" =some (some (.builtin "type.__getattribute__"))
 rd: ∃mc,PySem.W.readsIn K C mc=true/\PySem.W.findCls K (.ref C) mc m=some (.val (.ref f))
 kp:PySem.W.keepIn K (.ref f)=true
section
variable {X:Cx}{CX:CXT}{k:Nat}{f C:Addr}{fd:FuncData}{ps:List Str}{sp:Sp}{dvs:List V}{ds:List Value}{E:XK}{x m:Str}{p pos apos:Pos}{e o:Expr}{es:List Expr}{t:TA}
theorem zLf{pl:Sem Bool}(he:PE X o (tC (.ref C)))(c:ClsM X.K C m f)(F:FnOk X.prog X.w X.K X.mg X.base CX k f fd ps sp)(hr:Room k X.A)(hb:zL X.K fd ps ds)(hd:zT dvs ds)(hx:yw CX X E)(ha:PA X (e::es) t)
  (hst:starEach (e::es) X.env=(false,eval e X.env)::starEach es X.env) (hpl:(backTo pos (starEach es X.env)).any (·.1)=false)
  (ht:eval (.Call (.Attribute o m apos) (e::es) [] pos) X.env=(do
   let ov<-eval o X.env
   standAt apos.atName
   let (f,first)<-holding [ov] (getMethod ov m pl)
   callWith pos f first (backTo pos (starEach (e::es) X.env)) (backToKw pos (keywordEach [] X.env)))):
  PE X (.Call (.Attribute o m apos) (e::es) [] pos) (zEO sp dvs E t):=by
 intro pins s σ H Q I h;obtain ⟨mc,hrd,hf⟩:=c.rd;refine PySem.W.methodCall_KW (pl:=pl) (zb (he pins s σ H (fun x H1=>x= .ref C/\zEO sp dvs E t σ H1 Q) I ⟨rfl,h⟩) fun u s1 ⟨x,H1,I1,rx,ex,q⟩=>?_) ht;subst ex;obtain rfl:u=Value.ref C:=rx;refine PySem.W.method_cls I1.kIn c.ga (PySem.W.cls_value I1.kIn hrd hf rfl ?_);refine PySem.W.callWith_K (first:= []) (h₀:=X.base) I.ok.mod.kin c.kp (zb (ha pos pins _ σ H1 _ (I1.tok _) q) fun us s2 ⟨vs,H2,I2,r,q2⟩=>⟨I2.kIn,?_⟩) hst hpl;exact zGW (us:=us) (vs:=vs) F hr hb hd hx I2 r q2
theorem zAq{pl:Sem Bool}(he:QE X o (tC (.ref C)))(c:ClsM X.K C m f)(F:FnOk X.prog X.w X.K X.mg X.base CX k f fd ps sp)(hr:Room k X.A)(hb:zL X.K fd ps ds)(hd:zT dvs ds)(hx:yw CX X E)(ha:QA X (e::es) t)
  (h2:yB e=true) (h3:yk es=true)
  (ht:eval (.Call (.Attribute o m apos) (e::es) [] pos) X.env=(do
   let ov<-eval o X.env
   standAt apos.atName
   let (f,first)<-holding [ov] (getMethod ov m pl)
   callWith pos f first (backTo pos (starEach (e::es) X.env)) (backToKw pos (keywordEach [] X.env)))):
  QE X (.Call (.Attribute o m apos) (e::es) [] pos) (zEO sp dvs E t):=⟨zLf he.out c F hr hb hd hx ha.out (zt h2) (yj h3) ht⟩
end
section
variable {X:Cx}
inductive XEqI (K:zSS) (x y:V) (H:Hp) (Q:VK):Prop
 | mk (p q:Addr) (a b c d:Int) (h1:x= .ref p) (h2:y= .ref q) (h3:SqT K H p [.int a,.int b]) (h4:SqT K H q [.int c,.int d]) (q':Q (.bl ((a==c)&&(b==d))) H)
theorem zOw{K:zSS}(hK:X.K=K)(hu:X.A.units<cLine):OpR X (compareOp .Eq) (XEqI K):=by
 subst hK;intro pins s σ H x y v u Q I rx ry h;obtain ⟨p,q,a,b,c,d,rfl,rfl,h1,h2,hq⟩:=h;cases rx;cases ry;obtain ⟨us,r1,t1,_⟩:=I.tuple h1;obtain ⟨vs,r2,t2,_⟩:=I.tuple h2;obtain ⟨u1,u2,rfl,⟨k1,rfl⟩,⟨k2,rfl⟩⟩:=zT.two r1;obtain ⟨v1,v2,rfl,⟨k3,rfl⟩,⟨k4,rfl⟩⟩:=zT.two r2;have z:=SeqAt.RcAt.tuples (A:=X.A) (s:=s) (e:=fun j=>if j=0 then a==c else b==d) (show s.heap.IsTuple p #[.int a k1,.int b k2] from t1) (show s.heap.IsTuple q #[.int c k3,.int d k4] from t2) hu (fun j h1 h2=>by
  have:j=0\/j=1:=by
   have:j<2:=h1;omega
  rcases this with rfl | rfl
  ·have w:=SeqAt.EqAt.int_int (A:=X.A.in1) (s:=s) a k1 c k3;exact w
  ·have w:=SeqAt.EqAt.int_int (A:=X.A.in1) (s:=s) b k2 d k4;exact w)
 refine z _ _ _ _ ?_;refine ⟨.bl ((a==c)&&(b==d)),H,I,?_,hq⟩;show Value.bool _=Value.bool _;congr 1;show ([0,1].all (fun j=>if j=0 then a==c else b==d)&&true)=_;simp
end
inductive XMethA (NC:Addr->Prop) (m:Str) (sp:Sp) (E:XK) (x:V) (H1:Hp) (Q:VK):Prop
 | mk (a C dx:Addr) (fs:List (Str×V)) (h1:x= .ref a) (h2:H1 a=some (.ins C dx fs)) (h3:NC C) (h4:fs.lookup m=none) (q:sp [x] H1 Q E)
def zIl(NC:Addr->Prop)(m:Str)(sp:Sp)(E:XK)(ta:TE):TE:=fun σ H Q=>ta σ H fun x H1=>XMethA NC m sp E x H1 Q
section
variable {X:Cx}{CX:CXT}{k:Nat}{f:Addr}{fd:FuncData}{ps:List Str}{sp:Sp}{E:XK}{m:Str}{p pos apos:Pos}{o:Expr}{ta:TE}{NC:Addr->Prop}
theorem zKF{pl:Sem Bool}(he:PE X o ta)(hN: ∀C,NC C->Cls X.K C/\Meth X.K C m f)(F:FnOk X.prog X.w X.K X.mg X.base CX k f fd ps sp)(hr:Room k X.A)(hb:zL X.K fd ps [])(hx:yw CX X E)
  (ht:eval (.Call (.Attribute o m apos) [] [] pos) X.env=(do
   let ov<-eval o X.env
   standAt apos.atName
   let (f,first)<-holding [ov] (getMethod ov m pl)
   callWith pos f first (backTo pos (starEach [] X.env)) (backToKw pos (keywordEach [] X.env)))):
  PE X (.Call (.Attribute o m apos) [] [] pos) (zIl NC m sp E ta):=by
 intro pins s σ H Q I h;refine PySem.W.methodCall_KW (pl:=pl) (zb (he pins s σ H _ I h) fun u s1 ⟨x,H1,I1,rx,a,C,dx,fs,ex,ea,nc,l,q⟩=>?_) ht;subst ex;obtain rfl:u=Value.ref a:=rx;refine zHj I1 ea (hN C nc).1 (hN C nc).2 l ?_;exact PySem.W.callWith_K0 (first:= [.ref a]) I1.kIn (hN C nc).2.kp (zGW (us:= [.ref a]) (vs:= [.ref a]) (dvs:= []) (ds:= []) F hr hb .nil hx I1 (.cons rfl .nil) q)
theorem yK{pl:Sem Bool}(he:QE X o ta)(hN: ∀C,NC C->Cls X.K C/\Meth X.K C m f)(F:FnOk X.prog X.w X.K X.mg X.base CX k f fd ps sp)(hr:Room k X.A)(hb:zL X.K fd ps [])(hx:yw CX X E)
  (ht:eval (.Call (.Attribute o m apos) [] [] pos) X.env=(do
   let ov<-eval o X.env
   standAt apos.atName
   let (f,first)<-holding [ov] (getMethod ov m pl)
   callWith pos f first (backTo pos (starEach [] X.env)) (backToKw pos (keywordEach [] X.env)))):
  QE X (.Call (.Attribute o m apos) [] [] pos) (zIl NC m sp E ta):=⟨zKF he.out hN F hr hb hx ht⟩
end
section
variable {X:Cx}{K:zSS}
theorem zJa(hc:X.calm=true):yV X (.builtin "max") (fun xs H Q=> ∃(a:Addr) (ns:List Int),xs= [.ref a] /\H a=some (.lst (ns.map V.int))/\0<ns.length/\ ∀M:Int,M∈ns->(∀i∈ns,i<=M)->Q (.int M) H):=by
 intro pins s σ H xs us Q I r h;obtain ⟨a,ns,rfl,ha,hn,q⟩:=h;obtain ⟨u,rfl,ru⟩:=zBP r;cases ru;obtain ⟨z,its,n,rv,hl,eo⟩:=I.lstM ha;have p:s.heap.IsList a its.toArray:=⟨_,eo,rfl,n,rfl⟩;have hi:IntsAre its ns:=zIG rv;obtain ⟨ys,e⟩:=hi.allInts.items;have hns:ns=ys.toList.map (·.1):=by rw [<-hi.numsOf,<-nums_intItems,<-e]
 have hsz:0<ys.size:=by
  have h3:=hn;rw [hns,zRj,Array.length_toList] at h3;exact h3
 rw [e] at p;refine max_intList (I.ok.hd hc) p hsz fun v h' tk hv hk=>?_;obtain ⟨t,rfl⟩:=intItems_at hv;obtain ⟨h1,h2⟩:=argBest_gt (numAt ys) (ys.size - 1);refine ⟨.int _,H,I.kept hk,⟨t,rfl⟩,q _ ?_ fun b hb=>?_⟩
 ·rw [hns,numAt_eq];exact getD_mem (by rw [zRj,Array.length_toList];omega)
 ·rw [hns] at hb;obtain ⟨j,hj,rfl⟩:=mem_getD hb;rw [zRj,Array.length_toList] at hj;rw [<-numAt_eq];exact h2 j (by omega)
def zRK(K:zSS)(i:Nat):TI:=fun σ H R=>XVar i σ H fun x H1=>XIl K x H1 R\/XIt K x H1 R
theorem zPH{tg e:Expr}{i:Nat}(hK:X.K=K)(h:QE X e (zGY i)):QI X tg e (zRK K i):=by
 subst hK;refine ⟨fun pins s σ H R I hh=>?_⟩;obtain ⟨v,hv,q⟩:=hh;rcases q with q | q
 ·exact zGs h.out pins s σ H R I ⟨v,hv,q⟩
 ·exact zIX h.out pins s σ H R I ⟨v,hv,q⟩
end
section
variable {prog:Program}{w:World}{A:Around}{E:Value->Shared->Prop}{s:Shared}
theorem zEd{it t:Addr}{i:Nat}{its:Array Value}{x:Value}{Q:Value->Shared->Prop}(hi:s.heap.IsTupleIter it t i)(ht:s.heap.IsTuple t its)(hx:its[i]?=some x)
  (q: ∀h',h'.IsTupleIter it t (i+1)->Heap.SameBut it s.heap h'->Q x {s with heap:=h'}):wpAny (model prog w) A (Builtin.SmallTypes.nextOf (.ref it)) Q E s:=by
 obtain ⟨o,e,c,d⟩:=id hi;obtain ⟨ol,el,_,nl,dl⟩:=ht;unfold Builtin.SmallTypes.nextOf;refine zRd (wpAny_callSpecial?_slot (name:=Str.ofString "__next__") hi.typeIs F.slot_tuple_iterator_next (wpAny_call_entry F.slot_tuple_iterator_next hi.typeIs F.entry_tuple_iterator_next ?_ (F.args_tuple_iterator_next_1 _)));refine zRd (m:=field (.ref it) 0) (wpAny_field e d (x:= .ref t) rfl ?_);show wpAny _ _ (if (Value.ref t==Value.none)=true then _ else _) _ _ s;rw [if_neg (show¬((Value.ref t==Value.none)=true) from zRp)];refine zRd (m:=field (.ref it) 1) (wpAny_field e d (x:= .int i 0) rfl ?_);refine zRd (m:=seqItems? (.ref t)) (wpAny_seqItems el dl ?_);simp only [Int.toNat_natCast,hx];refine zRd (wpAny_setField e d (by simp) (zRi ⟨x,rfl,zRi (q _ ⟨_,zSK _ e (Obj.isFreed_of_fields (Obj.data_mapFields d _)),(Obj.cls_mapFields ..).trans c,?_⟩ (Heap.SameBut.update ..))⟩));rw [Obj.data_mapFields d];simp [rawInt]
theorem zIv{it t:Addr}{i:Nat}{its:Array Value}{Q:Value->Shared->Prop}(hh:A.handled=none)(hi:s.heap.IsTupleIter it t i)(ht:s.heap.IsTuple t its)(hx:its[i]?=none)
  (q: ∀h' e,Heap.ExtBut it s.heap h'->(∃o,h'.get? e=some o/\o.cls= .type "StopIteration")->E (.ref e) {s with heap:=h'}):wpAny (model prog w) A (Builtin.SmallTypes.nextOf (.ref it)) Q E s:=by
 obtain ⟨o,e,c,d⟩:=id hi;obtain ⟨ol,el,_,nl,dl⟩:=ht;unfold Builtin.SmallTypes.nextOf;refine zRd (wpAny_callSpecial?_slot (name:=Str.ofString "__next__") hi.typeIs F.slot_tuple_iterator_next (wpAny_call_entry F.slot_tuple_iterator_next hi.typeIs F.entry_tuple_iterator_next ?_ (F.args_tuple_iterator_next_1 _)));refine zRd (m:=field (.ref it) 0) (wpAny_field e d (x:= .ref t) rfl ?_);show wpAny _ _ (if (Value.ref t==Value.none)=true then _ else _) _ _ s;rw [if_neg (show¬((Value.ref t==Value.none)=true) from zRp)];refine zRd (m:=field (.ref it) 1) (wpAny_field e d (x:= .int i 0) rfl ?_);refine zRd (m:=seqItems? (.ref t)) (wpAny_seqItems el dl ?_);simp only [Int.toNat_natCast,hx];refine zRd (wpAny_rule (zRd (wpAny_setField e d (by simp) (zRd (m:=newExc (.type "StopIteration") []) ?_))));simp only [newExc,newTuple];refine zRd (wpAny_newObj_type ?_ (by size_fits));refine zRd (m:=firstArgMember _ _) (wpAny_of_eq (a:=Value.none) (by first | rfl |(simp only [firstArgMember];rfl)) (wpAny_newObj_type ?_ (by size_fits)));simp only [raiseNew];refine zRd (wpAny_handled ?_)
 first | rw [show A.in1.handled=none from hh] | rw [hh]
 exact zRd (zRi (wpAny_throw (q _ _ (((Heap.SameBut.update ..).extBut.push _).push _) ⟨_,zRu _ rfl,rfl⟩)))
def zDy(z TO i1 i2:Addr)(h h':Heap):Prop:= ∀c o,c≠z->c≠TO->c≠i1->c≠i2->h.get? c=some o->h'.get? c=some o
structure ZSt(h:Heap)(z TI TO i1 i2 l1 l2:Addr)(k:Nat)(f0:Value):Prop where
 z:IsZip h z TI TO f0
 TI:IsPair h TI (.ref i1) (.ref i2)
 TO: ∃a b,IsPair h TO a b
 i1:h.IsTupleIter i1 l1 k
 i2:h.IsTupleIter i2 l2 k
theorem zMK{z TI TO i1 i2 l1 l2:Addr}{k:Nat}{xs ys:Array Value}{x y:Value}{Q:Value->Shared->Prop}(D:ZipApart z TI TO i1 i2 l1 l2)(Z:ZSt s.heap z TI TO i1 i2 l1 l2 k .none)
  (hl1:s.heap.IsTuple l1 xs) (hl2:s.heap.IsTuple l2 ys) (hx:xs[k]?=some x) (hy:ys[k]?=some y)
  (q: ∀h',ZSt h' z TI TO i1 i2 l1 l2 (k+1) (rawInt s.heap.objs.size)->IsPair h' s.heap.objs.size x y->zDy z TO i1 i2 s.heap h'->Q (.ref s.heap.objs.size) {s with heap:=h'}):
  wpAny (model prog w) A (Builtin.«zip.__next__» ⟨[.ref z],[]⟩) (fun fin s'=> ∃v,fin= .done (.ret v)/\Q v s') E s:=by
 obtain ⟨hz,hTI,⟨a,b,hTO⟩,h1,h2⟩:=Z;refine zRd (m:=field (.ref z) 2) (wpAny_field hz rfl (x:= .bool false) rfl ?_);refine zRd (m:=field (.ref z) 3) (wpAny_field hz rfl (x:= .ref TI) rfl (zRd (wpAny_seqItems hTI rfl ?_)));refine zRd (m:=Builtin.SmallTypes.ownedTupleIsFree (.ref z)) ?_;unfold Builtin.SmallTypes.ownedTupleIsFree;refine zRd (wpAny_field hz rfl (x:= .none) rfl (zRi ?_));simp only [if_true];refine zRd (wpAny_rule (zRd (wpAny_field hz rfl (x:= .ref TO) rfl (zRd (wpAny_setField_rec hz (by simp) fun g1 z1 s1=>zRd ?_)))));have e1:=s1.extBut;replace z1:IsZip g1 z TI TO .ellipsis:=z1;simp only [List.zipIdx_cons,List.zipIdx_nil,List.forIn_cons,List.forIn_nil];refine zRd (zRd (wpAny_onRaise (zRd (m:=Builtin.SmallTypes.nextOf (.ref i1)) (zEd (h1.extBut e1 D.i1z) (hl1.extBut e1 D.l1z) hx fun g2 c2 s2=>zRi ?_))));have e2:=s2.extBut;have t2:IsPair g2 TO a b:=e2 _ _ D.TOi1 (e1 _ _ D.TOz hTO);refine zRd (wpAny_seqItems t2 rfl (zRd (wpAny_updateSeq_pair t2 fun g3 t3 s3=>zRd (wpAny_letGo (zRi ?_)))));have e3:=s3.extBut;replace t3:IsPair g3 TO x b:=t3;refine zRd (zRd (wpAny_onRaise (zRd (m:=Builtin.SmallTypes.nextOf (.ref i2)) (zEd (((h2.extBut e1 D.i2z).extBut e2 D.i12.symm).extBut e3 D.TOi2.symm)
  (((hl2.extBut e1 D.l2z).extBut e2 D.l2i1).extBut e3 D.l2TO) hy fun g4 c4 s4=>zRi ?_))))
 have e4:=s4.extBut;have t4:IsPair g4 TO x b:=e4 _ _ D.TOi2 t3;refine zRd (wpAny_seqItems t4 rfl (zRd (wpAny_updateSeq_pair t4 fun g5 t5 s5=>zRd (wpAny_letGo (zRi (zRi ?_))))));have e5:=s5.extBut;replace t5:IsPair g5 TO x y:=t5;refine zRd (wpAny_seqItems t5 rfl (zRd (wpAny_newTuple (zRd (m:=Builtin.SmallTypes.ownedTupleHandOut (.ref z) (.ref g5.objs.size)) ?_))));have sz:g5.objs.size=s.heap.objs.size:=by rw [s5.1,s4.1,s3.1,s2.1,s1.1]
 have z5:IsZip g5 z TI TO .ellipsis:=e5 _ _ D.TOz.symm (e4 _ _ D.i2z.symm (e3 _ _ D.TOz.symm (e2 _ _ D.i1z.symm z1)));have k5:zDy z TO i1 i2 s.heap g5:=fun c o c1 c2 c3 c4 e=>e5 _ _ c2 (e4 _ _ c4 (e3 _ _ c2 (e2 _ _ c3 (e1 _ _ c1 e))));have i5:g5.IsTupleIter i1 l1 (k+1):=((c2.extBut e3 D.TOi1.symm).extBut e4 D.i12).extBut e5 D.TOi1.symm;have j5:g5.IsTupleIter i2 l2 (k+1):=c4.extBut e5 D.TOi2.symm;have zl:=zSL (zRm z5);unfold Builtin.SmallTypes.ownedTupleHandOut;refine zRd (wpAny_setField_rec (show IsZip (g5.push {cls:= .type "tuple",data:= .seq #[x,y]}) z TI TO .ellipsis from zRe _ z5) (by simp) fun g7 z7 s7=>?_);replace z7:IsZip g7 z TI TO (rawInt g5.objs.size):=z7;refine wpAny_setField_rec z7 (by simp) fun g8 z8 s8=>zRi ⟨_,rfl,?_⟩;replace z8:IsZip g8 z TI TO (rawInt g5.objs.size):=z8;have up: ∀c o,c≠z->g5.get? c=some o->g8.get? c=some o:=fun c o c1 e=>s8.extBut _ _ c1 (s7.extBut _ _ c1 (zRe _ e));have t8:IsPair g8 g5.objs.size x y:=s8.extBut _ _ zl (s7.extBut _ _ zl (zRu _ rfl));show Q (.ref g5.objs.size) _;rw [sz] at z8 t8⊢;exact q g8 ⟨z8,up _ _ D.TIz (k5 _ _ D.TIz D.TITO D.TIi1 D.TIi2 hTI),⟨_,_,up _ _ D.TOz t5⟩,i5.at fun o e=>up _ o D.i1z e,j5.at fun o e=>up _ o D.i2z e⟩ t8 fun c o c1 c2 c3 c4 e=>up c o c1 (k5 c o c1 c2 c3 c4 e)
theorem zMi{z TI TO i1 i2 l1 l2:Addr}{k:Nat}{xs ys:Array Value}{Q:Fin->Shared->Prop}(hh:A.handled=none)(D:ZipApart z TI TO i1 i2 l1 l2)(Z:ZSt s.heap z TI TO i1 i2 l1 l2 k .none)
  (hl1:s.heap.IsTuple l1 xs) (hl2:s.heap.IsTuple l2 ys) (hend:xs[k]?=none\/ys[k]?=none)
  (q: ∀h' e,zDy z TO i1 i2 s.heap h'->(∃o,h'.get? e=some o/\o.cls= .type "StopIteration")->E (.ref e) {s with heap:=h'}):
  wpAny (model prog w) A (Builtin.«zip.__next__» ⟨[.ref z],[]⟩) Q E s:=by
 obtain ⟨hz,hTI,⟨a,b,hTO⟩,h1,h2⟩:=Z;refine zRd (m:=field (.ref z) 2) (wpAny_field hz rfl (x:= .bool false) rfl ?_);refine zRd (m:=field (.ref z) 3) (wpAny_field hz rfl (x:= .ref TI) rfl (zRd (wpAny_seqItems hTI rfl ?_)));refine zRd (m:=Builtin.SmallTypes.ownedTupleIsFree (.ref z)) ?_;unfold Builtin.SmallTypes.ownedTupleIsFree;refine zRd (wpAny_field hz rfl (x:= .none) rfl (zRi ?_));simp only [if_true];refine zRd (wpAny_rule (zRd (wpAny_field hz rfl (x:= .ref TO) rfl (zRd (wpAny_setField_rec hz (by simp) fun g1 z1 s1=>zRd ?_)))));have e1:=s1.extBut;replace z1:IsZip g1 z TI TO .ellipsis:=z1;simp only [List.zipIdx_cons,List.zipIdx_nil,List.forIn_cons,List.forIn_nil];have fin: ∀{g:Heap} {e:Addr},IsZip g z TI TO .ellipsis->(∃o,g.get? e=some o/\o.cls= .type "StopIteration")->e≠z:=fun gz ⟨o,ge,c⟩ x=>by subst x;rw [gz] at ge;cases ge;simp at c
 cases hx:xs[k]? with
 | none=>
  refine zRd (zRd (wpAny_onRaise (zRd (m:=Builtin.SmallTypes.nextOf (.ref i1)) (zIv hh (h1.extBut e1 D.i1z) (hl1.extBut e1 D.l1z) hx fun g2 e e2 he=>?_))));have z2:IsZip g2 z TI TO .ellipsis:=e2 _ _ D.i1z.symm z1;have ne:=fin z2 he;obtain ⟨o,ho,hc⟩:=he;exact wpAny_setField_rec z2 (by simp) fun g3 _ s3=>q g3 e (fun c o c1 _ c3 _ x=>s3.extBut _ _ c1 (e2 _ _ c3 (e1 _ _ c1 x))) ⟨o,s3.extBut _ _ ne ho,hc⟩
 | some x=>
  have hy:ys[k]?=none:=by rcases hend with h | h;rw [hx] at h;cases h;exact h
  refine zRd (zRd (wpAny_onRaise (zRd (m:=Builtin.SmallTypes.nextOf (.ref i1)) (zEd (h1.extBut e1 D.i1z) (hl1.extBut e1 D.l1z) hx fun g2 c2 s2=>zRi ?_))));have e2:=s2.extBut;have t2:IsPair g2 TO a b:=e2 _ _ D.TOi1 (e1 _ _ D.TOz hTO);refine zRd (wpAny_seqItems t2 rfl (zRd (wpAny_updateSeq_pair t2 fun g3 t3 s3=>zRd (wpAny_letGo (zRi ?_)))));have e3:=s3.extBut;refine zRd (zRd (wpAny_onRaise (zRd (m:=Builtin.SmallTypes.nextOf (.ref i2)) (zIv hh (((h2.extBut e1 D.i2z).extBut e2 D.i12.symm).extBut e3 D.TOi2.symm)
   (((hl2.extBut e1 D.l2z).extBut e2 D.l2i1).extBut e3 D.l2TO) hy fun g4 e e4 he=>?_))))
  have z4:IsZip g4 z TI TO .ellipsis:=e4 _ _ D.i2z.symm (e3 _ _ D.TOz.symm (e2 _ _ D.i1z.symm z1));have ne:=fin z4 he;obtain ⟨o,ho,hc⟩:=he;exact wpAny_setField_rec z4 (by simp) fun g5 _ s5=>q g5 e (fun c o c1 c2 c3 c4 x=>s5.extBut _ _ c1 (e4 _ _ c4 (e3 _ _ c2 (e2 _ _ c3 (e1 _ _ c1 x))))) ⟨o,s5.extBut _ _ ne ho,hc⟩
theorem zHn{z TI TO i1 i2 l1 l2:Addr}{k:Nat}{xs ys:Array Value}{x y:Value}{Q:Option Value->Shared->Prop}(D:ZipApart z TI TO i1 i2 l1 l2)(Z:ZSt s.heap z TI TO i1 i2 l1 l2 k .none)
  (hl1:s.heap.IsTuple l1 xs) (hl2:s.heap.IsTuple l2 ys) (hx:xs[k]?=some x) (hy:ys[k]?=some y)
  (q: ∀h',ZSt h' z TI TO i1 i2 l1 l2 (k+1) (rawInt s.heap.objs.size)->IsPair h' s.heap.objs.size x y->zDy z TO i1 i2 s.heap h'->Q (some (.ref s.heap.objs.size)) {s with heap:=h'}):
  wpAny (model prog w) A (pyNext (.ref z)) Q E s:=by
 have hT:s.TypeIs (.ref z) "zip" :=⟨_,Z.z,rfl⟩;unfold pyNext;exact zRd (wpAny_attempt (wpAny_callSpecial?_slot (name:=Str.ofString "__next__") hT F.slot_zip_next
  (wpAny_call_entry F.slot_zip_next hT F.entry_zip_next (zMK D Z hl1 hl2 hx hy fun h' a1 a2 a3=>zRi (q h' a1 a2 a3)) (F.args_zip_next_1 _))))
theorem zJF{z TI TO i1 i2 l1 l2:Addr}{k:Nat}{xs ys:Array Value}{Q:Option Value->Shared->Prop}(hh:A.handled=none)(D:ZipApart z TI TO i1 i2 l1 l2)(Z:ZSt s.heap z TI TO i1 i2 l1 l2 k .none)
  (hl1:s.heap.IsTuple l1 xs) (hl2:s.heap.IsTuple l2 ys) (hend:xs[k]?=none\/ys[k]?=none) (q: ∀h',zDy z TO i1 i2 s.heap h'->Q none {s with heap:=h'}):wpAny (model prog w) A (pyNext (.ref z)) Q E s:=by
 have hT:s.TypeIs (.ref z) "zip" :=⟨_,Z.z,rfl⟩;unfold pyNext;refine zRd (wpAny_attempt (wpAny_callSpecial?_slot (name:=Str.ofString "__next__") hT F.slot_zip_next
  (wpAny_call_entry F.slot_zip_next hT F.entry_zip_next (zMi hh D Z hl1 hl2 hend fun h' e hk ⟨o,ho,hc⟩=>zRd (wpAny_isInstance (T:= "StopIteration") (b:=true) ⟨o,ho,hc⟩ isSubtype_stop (zRi (q _ hk)))) (F.args_zip_next_1 _))))
end
abbrev zt1(h:Heap)(l:Addr):Heap:=h.push {cls:= .type "tuple_iterator",data:= .fields #[.ref l,.int 0 0]}
abbrev zt5(h g:Heap):Heap:=((g.push {cls:= .type "tuple",data:= .seq #[.ref h.objs.size,.ref (h.objs.size+1)]}).push {cls:= .type "tuple",data:= .seq #[.none,.none]}).push {cls:= .type "zip",data:= .fields #[.none,.bool false,.bool false,.ref (h.objs.size+2),.ref (h.objs.size+3)]}
theorem zKJ(l1 l2:Addr)(xs ys:Array Value):
  Meets (Builtin.«zip.__new__» ⟨[.type "zip",.ref l1,.ref l2],[]⟩) (fun _ R s=>s.heap.IsTuple l1 xs/\s.heap.IsTuple l2 ys/\
   R (.ok (.ret (.ref (s.heap.objs.size+4)))) {s with heap:=zt5 s.heap (zt1 (zt1 s.heap l1) l2)}):=
 .of_wp fun prog w A R s h=>by
  obtain ⟨hp,g,d,tk,os⟩:=s;obtain ⟨hl1,hl2,h⟩:=h;have hsub:=sub_zip;have hL1:Heap.IsTuple (Shared.heap ⟨hp,g,d,tk,os⟩) l1 xs:=hl1;have hL2:Heap.IsTuple (Shared.heap ⟨hp.push {cls:= .type "tuple_iterator",data:= .fields #[.ref l1,.int 0 0]},g,d,tk,os⟩) l2 ys:=Heap.IsTuple.push hl2 _
  wp_walk using wpAny_pyIter_tuple hL1,wpAny_pyIter_tuple hL2
  simp only [Heap.size_push,Nat.add_assoc] at h⊢;exact ⟨_,rfl,h⟩
theorem zMM{prog:Program}{w:World}{A:Around}{E:Value->Shared->Prop}{s:Shared}{l1 l2:Addr}{xs ys:Array Value}{Q:Value->Shared->Prop}(hl1:s.heap.IsTuple l1 xs)(hl2:s.heap.IsTuple l2 ys)
  (q: ∀h',ZSt h' (s.heap.objs.size+4) (s.heap.objs.size+2) (s.heap.objs.size+3) s.heap.objs.size (s.heap.objs.size+1) l1 l2 0 .none->(∀c o,s.heap.get? c=some o->h'.get? c=some o)->Q (.ref (s.heap.objs.size+4)) {s with heap:=h'}):
  wpAny (model prog w) A (call (.type "zip") [.ref l1,.ref l2]) Q E s:=by
 refine callType_new F.called_zip (by decide) (F.typeCall_zip_2 _ _) (F.newCall_zip_2 _ _) (fun obj=>F.args_object_init_3 obj _ _) F.entry_zip_new (zKJ l1 l2 xs ys) ⟨hl1,hl2,?_⟩;have u: ∀{h:Heap} {o p:Obj} {c:Addr},h.get? c=some o->(h.push p).get? c=some o:=fun e=>zRe _ e;have l: ∀{h:Heap} {p:Obj} {n:Nat},h.objs.size=n->p.isFreed=false->(h.push p).get? n=some p:=fun e f=>by subst e;exact zRu _ f
 have z: ∀{h:Heap} {p:Obj} {n:Nat},h.objs.size=n->(h.push p).objs.size=n+1:=fun e=>by rw [Heap.size_push,e]
 have g5:IsZip (zt5 s.heap (zt1 (zt1 s.heap l1) l2)) (s.heap.objs.size+4) (s.heap.objs.size+2) (s.heap.objs.size+3) .none:=l (z (z (z (z rfl)))) rfl;refine ⟨⟨_,g5,rfl⟩,q _ ⟨g5,u (u (l (z (z rfl)) rfl)),⟨_,_,u (l (z (z (z rfl))) rfl)⟩,⟨_,u (u (u (u (l rfl rfl)))),rfl,rfl⟩,⟨_,u (u (u (l (z rfl) rfl))),rfl,rfl⟩⟩ fun c o e=>u (u (u (u (u e))))⟩
def zNl(a b:Addr):It:=
 ⟨fun i H=> ∃xs ys x y,H a=some (.tup xs)/\H b=some (.tup ys)/\xs[i]?=some x/\ys[i]?=some y,fun i H v H'=> ∃t x y,(∀xs,H a=some (.tup xs)->xs[i]?=some x)/\(∀ys,H b=some (.tup ys)->ys[i]?=some y)/\H t=none/\v= .ref t/\H'=upd H t (.tup [x,y]),
  fun i H=> ∃xs ys,H a=some (.tup xs)/\H b=some (.tup ys)/\(xs.length<=i\/ys.length<=i)⟩
theorem zLj{P:Program}{w:World}{K:zSS}{elts:List Expr}{x1}{pos:Pos}(l1 l2 z TI TO i1 i2:Addr)(D:ZipApart z TI TO i1 i2 l1 l2):
  Turn P w K (.Tuple elts x1 pos) (zNl l1 l2) [z,TI,TO,i1,i2] z (fun i h=>ZSt h z TI TO i1 i2 l1 l2 i .none) where
 mem:=by simp
 obj:=fun i h st b hb=>by
  obtain ⟨e1,e2,⟨a,b',e3⟩,⟨o4,e4,c4,d4⟩,⟨o5,e5,c5,d5⟩⟩:=st;simp only [zST,zSc,or_false] at hb;rcases hb with rfl | rfl | rfl | rfl | rfl
  ·exact ⟨_,e1,fun v z=>by have z':Data.fields _=Data.cell v:=z;cases z'⟩
  ·exact ⟨_,e2,fun v z=>by have z':Data.seq _=Data.cell v:=z;cases z'⟩
  ·exact ⟨_,e3,fun v z=>by have z':Data.seq _=Data.cell v:=z;cases z'⟩
  ·exact ⟨o4,e4,fun v z=>by rw [d4] at z;cases z⟩
  ·exact ⟨o5,e5,fun v z=>by rw [d5] at z;cases z⟩
 keep:=fun i h h' st k=>by
  obtain ⟨e1,e2,⟨a,b',e3⟩,e4,e5⟩:=st;exact ⟨k z (by simp) _ e1,k TI (by simp) _ e2,⟨a,b',k TO (by simp) _ e3⟩,e4.at fun o e=>k i1 (by simp) o e,e5.at fun o e=>k i2 (by simp) o e⟩
 item:=by
  intro X hP hw hK hc i pins s σ H E I hf st hg;subst hP hw hK;obtain ⟨xs,ys,x,y,hq1,hq2,hx,hy⟩:=hg;obtain ⟨its1,rv1,p1⟩:=I.tupl hq1;obtain ⟨its2,rv2,p2⟩:=I.tupl hq2;obtain ⟨u,hu,ru⟩:=rv1.get hx;obtain ⟨v,hv,rv⟩:=rv2.get hy;refine zHn D st p1 p2 (x:=u) (y:=v) (by simpa using hu) (by simpa using hv) fun h1 st1 ht hk=>⟨_,rfl,?_⟩;refine wpAny_letOwnedTupleGo_zip st1.z fun h2 he2 hs2=>?_;have lts: ∀c o,s.heap.get? c=some o->s.heap.objs.size≠c:=fun c o e=>zSL (zRm e);have nz:=lts _ _ st.z;have nTI:=lts _ _ st.TI;have nTO:s.heap.objs.size≠TO:=by obtain ⟨_,_,e⟩:=st.TO;exact lts _ _ e
  have ni1:s.heap.objs.size≠i1:=by obtain ⟨o,e,_⟩:=st.i1;exact lts _ _ e
  have ni2:s.heap.objs.size≠i2:=by obtain ⟨o,e,_⟩:=st.i2;exact lts _ _ e
  replace hs2:Heap.SameBut z h1 h2:=hs2;have new:h2.get? s.heap.objs.size=some {cls:= .type "tuple",data:= .seq #[u,v]}:=(hs2.2 _ nz).trans ht;have I1:Inv X pins σ (upd H s.heap.objs.size (.tup [x,y])) {s with heap:=s.heap.push {cls:= .type "tuple",data:= .seq #[u,v]},toks:=s.toks}:=
   I.laid (fun b q e=>zRe _ e) (zRg _) ⟨by show 2<=sizeLine;decide,[u,v],.cons ru (.cons rv .nil),_,zRu _ rfl,rfl,⟨_,rfl⟩,rfl⟩
  have nfp: ∀b∈ [z,TI,TO,i1,i2],b≠s.heap.objs.size:=fun b hb=>by
   simp only [zST,zSc,or_false] at hb;rcases hb with rfl | rfl | rfl | rfl | rfl
   ·exact Ne.symm nz
   ·exact Ne.symm nTI
   ·exact Ne.symm nTO
   ·exact Ne.symm ni1
   ·exact Ne.symm ni2
  have I2:=Inv.turnedL (h':=h2) (t':=s.toks) (ch:= [z,TI,TO,i1,i2]) I1 (fun b q hb e=>by
   simp only [zST,zSc,or_false,not_or] at hb;obtain ⟨b1,_,b2,b3,b4⟩:=hb;replace e:(s.heap.push {cls:= .type "tuple",data:= .seq #[u,v]}).get? b=some q:=e;by_cases hbs:b=s.heap.objs.size
   ·subst hbs;rw [zRu _ rfl] at e;cases e;exact new
   ·rw [Heap.get?_push_ne _ _ _ hbs] at e;exact (hs2.2 b b1).trans (hk b q b1 b2 b3 b4 e)) (fun b hb=>(hf b hb).upd (nfp b hb))
  exact ⟨.ref s.heap.objs.size,_,I2,rfl,⟨_,x,y,fun zs hzs=>by rw [hq1] at hzs;cases hzs;exact hx,fun zs hzs=>by rw [hq2] at hzs;cases hzs;exact hy,I.hok.fresh (zRg _),rfl,rfl⟩,
   ⟨he2,(hs2.2 _ D.TIz).trans st1.TI,by obtain ⟨a,b,e⟩:=st1.TO;exact ⟨a,b,(hs2.2 _ D.TOz).trans e⟩,st1.i1.at fun o e=>(hs2.2 _ D.i1z).trans e,st1.i2.at fun o e=>(hs2.2 _ D.i2z).trans e⟩,fun b hb=>by rw [zQ (nfp b hb)];exact (hf b hb).1⟩
 done:=by
  intro X hP hw hK hc i pins s σ H E I hf st hg;subst hP hw hK;obtain ⟨xs,ys,hq1,hq2,hx⟩:=hg;obtain ⟨its1,rv1,p1⟩:=I.tupl hq1;obtain ⟨its2,rv2,p2⟩:=I.tupl hq2;have hl1:=rv1.length;have hl2:=rv2.length;refine zJF (I.ok.hd hc) D st p1 p2 (hx.imp (fun h=>by simp;omega) (fun h=>by simp;omega)) fun h' hk=>⟨rfl,?_⟩;exact Inv.turnedL (h':=h') (t':=s.toks) (ch:= [z,TO,i1,i2]) I (fun b q hb e=>by
   simp only [zST,zSc,or_false,not_or] at hb;obtain ⟨b1,b2,b3,b4⟩:=hb;exact hk b q b1 b2 b3 b4 e) (fun b hb=>hf b (by simp only [zST,zSc,or_false] at hb⊢;rcases hb with r | r | r | r<;>simp [r]))
 self:=fun A i s Q E st h=>wpAny_pyIter_zip st.1 h
def zLG(ta:TA):TI:=fun σ H R=>ta σ H fun vs H1=> ∃a b,vs= [.ref a,.ref b] /\(∃xs,H1 a=some (.tup xs))/\(∃ys,H1 b=some (.tup ys))/\R (zNl a b) H1
theorem zPk{X:Cx}{a b:Expr}{ta:TA}{p pos tpos:Pos}{elts:List Expr}{x1}(hg:Gl X "zip")(hm:X.mg "zip" =none)(ha:PA X [a,b] ta)(h2:yB a=true)(h3:yB b=true):
  PI X (.Tuple elts x1 tpos) (.Call (.Name "zip" p) [a,b] [] pos) (zLG ta):=by
 intro pins s σ H R I h;refine Call_ (zBG I hg hm zEm (PyProof.Rows.callWith_type1 (zb (ha pos pins s σ H _ I h) fun us s1 ⟨vs,H1,I1,r1,q1⟩=>?_) (zt h2) (yj (by show (yB b&&true)=true;rw [h3];rfl))));obtain ⟨l1,l2,e,⟨xs,hq1⟩,⟨ys,hq2⟩,q⟩:=q1;subst e;obtain ⟨u,v,rfl,ru,rv⟩:=zT.two r1;cases ru;cases rv;obtain ⟨its1,rv1,p1⟩:=I1.tupl hq1;obtain ⟨its2,rv2,p2⟩:=I1.tupl hq2;have lt1:l1<s1.heap.objs.size:=by obtain ⟨o,e,_⟩:=p1;exact zRm e
 have lt2:l2<s1.heap.objs.size:=by obtain ⟨o,e,_⟩:=p2;exact zRm e
 refine zMM p1 p2 fun h' st hk=>wpAny_pyIter_zip st.z ?_;refine ⟨_,[s1.heap.objs.size+4,s1.heap.objs.size+2,s1.heap.objs.size+3,s1.heap.objs.size,s1.heap.objs.size+1],_,_,H1,rfl,I1.kept (t':=s1.toks) hk,zLj l1 l2 _ _ _ _ _ (zipApart_new lt1 lt2),st,fun b hb=>?_,q⟩;have up: ∀k,zAc X pins H1 (s1.heap.objs.size+k):=fun k=>I1.fpOk (Nat.le_add_right _ k) (I1.hok.fresh (Nat.le_add_right _ k));simp only [zST,zSc,or_false] at hb;rcases hb with rfl | rfl | rfl | rfl | rfl
 ·exact up 4
 ·exact up 2
 ·exact up 3
 ·exact up 0
 ·exact up 1
theorem zRN{X:Cx}{a b:Expr}{ta:TA}{p pos tpos:Pos}{elts:List Expr}{x1}(hg:Gl X "zip")(hm:X.mg "zip" =none)(ha:QA X [a,b] ta)(h2:yB a=true)(h3:yB b=true):
  QI X (.Tuple elts x1 tpos) (.Call (.Name "zip" p) [a,b] [] pos) (zLG ta):=⟨zPk hg hm ha.out h2 h3⟩
def zQA(i j k:Nat)(ta:TA):TS:=fun D σ H=>ta σ H fun vs H1=> ∃v w u,vs= [v,w,u] /\D.nx (((σ.set i (some v)).set j (some w)).set k (some u)) H1
theorem zNA{X:Cx}{i j k:Nat}{x y z:Str}{a b c:Expr}{ta:TA}{px py pz pt pos:Pos}{kt k2 pt2}(hc:X.calm=true)(hN:X.N.Nodup)(hi:X.N[i]?=some x)(hj:X.N[j]?=some y)(hk:X.N[k]?=some z)(hij:i≠j/\i≠k/\j≠k)
  (hx:X.env.scope.names.lookup x=some .local) (hy:X.env.scope.names.lookup y=some .local) (hz:X.env.scope.names.lookup z=some .local) (ha:QA X [a,b,c] ta)
  (hw:swappedStores [.Tuple [.Name x px,.Name y py,.Name z pz] kt pt] (.Tuple [a,b,c] k2 pt2) X.env=pure (some [x,y,z]))
  (hs:swapsWithSole [.Tuple [.Name x px,.Name y py,.Name z pz] kt pt] (.Tuple [a,b,c] k2 pt2) pos.line X.env=pure false):
  QS X (.Assign [.Tuple [.Name x px,.Name y py,.Name z pz] kt pt] (.Tuple [a,b,c] k2 pt2) pos) (zQA i j k ta):=by
 refine ⟨?_⟩;intro pins s σ H D I h;rw [exec_Assign_arm];refine zRd (wpAny_standAt ?_);rw [hs];refine zRd (zRi ?_);rw [if_neg (by decide)];refine zRd (Tuple_ (zb (ha.out _ pins s σ H _ I h) fun us s1 ⟨vs,H1,I1,r1,q1⟩=>?_));obtain ⟨v,w,u,e1,q1⟩:=q1;subst e1;obtain ⟨u1,u2,u3,rfl,rv,rw',ru⟩: ∃u1 u2 u3,us= [u1,u2,u3] /\ze v u1/\ze w u2/\ze u u3:=by
  cases r1 with
  | cons p q=>
   cases q with
   | cons p' q'=>
    cases q' with
    | cons p'' q''=>
     cases q'';exact ⟨_,_,_,rfl,p,p',p''⟩
 refine wpAny_newObj_type ?_ (by show 3<=sizeLine;decide);have I2:Inv X pins σ H1 {s1 with heap:=s1.heap.push {cls:= .type "tuple",data:= .seq [u1,u2,u3].toArray}}:=I1.kept (t':=s1.toks) fun b o e=>zRe _ e;rw [hw];refine zRd (zRi ?_);show wpAny (model X.prog X.w) X.A (do rule "assign.swapped-stores";let items<-unpackItems (.ref s1.heap.objs.size) 3 none;assignInOrder [fun v=>bindName X.env z v,fun v=>bindName X.env y v,fun v=>bindName X.env x v] items.reverse;pure Flow.next) _ _ _;refine zRd (wpAny_rule (zRd (unpackItems_tuple (items:= #[u1,u2,u3]) (I.ok.hd hc) (IsTup.new s1.heap _) fun h' hx'=>?_)));have I3:=I2.kept (h':=h') (t':=s1.toks) fun b o e=>hx' b o (zRk (zRm e)) e;show wpAny _ _ (assignInOrder [fun v=>bindName X.env z v,fun v=>bindName X.env y v,fun v=>bindName X.env x v] [u3,u2,u1] >>=fun _=>pure Flow.next) _ _ _;refine zRd (assignInOrder_cons (wpAny_bindName (zAQ I3 hN hk (.inl hz) ru (fun s2 I4=>?_) (.inr hz))));refine assignInOrder_cons (wpAny_bindName (zAQ I4 hN hj (.inl hy) rw' (fun s3 I5=>?_) (.inr hy)));refine assignInOrder_cons (wpAny_bindName (zAQ I5 hN hi (.inl hx) rv (fun s4 I6=>assignInOrder_nil (zRi ?_)) (.inr hx)));have e:((σ.set k (some u)).set j (some w)).set i (some v)=((σ.set i (some v)).set j (some w)).set k (some u):=by
  rw [List.set_comm _ _ hij.2.2.symm,List.set_comm _ _ hij.2.1.symm,List.set_comm _ _ hij.1.symm]
 rw [e] at I6;exact ⟨_,H1,I6,q1⟩
def zCW:V->Bool
 | .bl _=>true
 | .ref _=>true
 | .non=>true
 | _=>false
theorem zKR{A:Around}{s:Shared}{x:V}{u v:Value}(f:zCW x=true)(ru:ze x u)(rv:ze x v):SeqAt.EqAt A s u v true:=by
 cases x with
 | bl b=>cases (show u=Value.bool b from ru);cases (show v=Value.bool b from rv);exact SeqAt.EqAt.same _
 | ref b=>cases (show u=Value.ref b from ru);cases (show v=Value.ref b from rv);exact SeqAt.EqAt.same _
 | non=>cases (show u=Value.none from ru);cases (show v=Value.none from rv);exact SeqAt.EqAt.same _
 | _=>cases f
theorem zIk{X:Cx}{K:zSS}(hK:X.K=K)(hu:X.A.units<cLine):OpR X (compareOp .NotEq) (fun x y H Q=> ∃p q xs,x= .ref p/\y= .ref q/\SqL K H p xs/\SqL K H q xs/\(∀x∈xs,zCW x=true)/\Q (.bl false) H):=by
 subst hK;intro pins s σ H x y v u Q I rx ry h;obtain ⟨p,q,xs,rfl,rfl,h1,h2,f,hq⟩:=h;cases rx;cases ry;obtain ⟨us,r1,t1,_⟩:=I.list h1;obtain ⟨vs,r2,t2,_⟩:=I.list h2;have l1:=r1.length;have l2:=r2.length;have es:us.toArray.size=vs.toArray.size:=by simp;omega
 have z:=SeqAt.RcNeAt.lists (A:=X.A) (e:=fun _=>true) t1.isList t2.isList es hu fun j g1 g2=>by
  have j1:j<us.length:=by simpa using g1
  have j2:j<vs.length:=by simpa using g2
  have a1:xs[j]?=some xs[j] :=zRc (by omega);obtain ⟨u1,b1,c1⟩:=r1.get a1;obtain ⟨u2,b2,c2⟩:=r2.get a1;have d1:us[j] =u1:=by rw [zRc j1] at b1;exact Option.some.inj b1
  have d2:vs[j] =u2:=by rw [zRc j2] at b2;exact Option.some.inj b2
  have w:=zKR (A:=X.A.in1) (s:=s) (f _ (zSF (by omega))) c1 c2;simpa [d1,d2] using w
 rw [zFt] at z;refine z _ _ _ _ ?_;exact ⟨.bl false,H,I,rfl,hq⟩
theorem FnOk.calm{P:Program}{w:World}{K:zSS}{mg:Str->Option Value}{base:Heap}{k:Nat}{f:Addr}{fd:FuncData}{ps:List Str}{sp sp':Sp}(F:FnOk P w K mg base (zBf P w) k f fd ps sp)
  (h: ∀vs H Q E,sp' vs H Q E->sp vs H Q (fun _ _ _=>False)):FnOk P w K mg base CX0 k f fd ps sp':=
 ⟨fun vs H Q E z=>F.len vs H Q _ (h vs H Q E z),fun A outer s H args us vs Q E hr e0 bt r z=>by
  have g:=F.run A outer s H args us vs Q _ hr e0 bt r (h vs H Q E z);refine zSQ g fun r s' q=>?_;unfold CR at q⊢;split at q
  ·exact q
  ·exact q
  ·obtain ⟨_,_,_,_,_,_,_,_,_,_,_,q⟩:=q;rcases q with q |⟨_,_,_,_,q⟩
   ·exact False.elim q
   ·exact False.elim q⟩
end L2
namespace FrM
open PySem PyProof.Rows
def ltS(a b:Str):Prop:=a.cps.toList<b.cps.toList
theorem zEh: ∀(ks:List Str) (p:Str),risingS p ks=true->(∀x∈ks,¬ltS x p)/\ks.Pairwise fun a b=> ¬ltS b a
 | [],_,_=>⟨fun _ h=>(nomatch h),.nil⟩
 | x::r,p,h=>by
  unfold risingS at h;rw [zSU,ltCps_eq] at h;obtain ⟨h1,h2⟩:=h;have h1': ¬x.cps.toList<p.cps.toList:=of_decide_eq_false (by rw [zSe] at h1;exact h1);change¬ltS x p at h1';obtain ⟨h3,h4⟩:=zEh r x h2;have tr: ∀y,¬ltS y x-> ¬ltS y p:=fun y hy hyp=>by
   have a:p.cps.toList<=x.cps.toList:=h1';have b:x.cps.toList<=y.cps.toList:=hy;exact (List.le_trans a b:p.cps.toList<=y.cps.toList) hyp
  refine ⟨fun y hy=>?_,.cons (fun y hy=>h3 y hy) h4⟩;rcases zST.mp hy with z | z
  ·subst z;exact h1'
  ·exact tr y (h3 y z)
theorem zIh{ks:List Str}(h:sortedS ks=true)(nd:ks.Nodup):ks.Pairwise ltS:=by
 have h1:ks.Pairwise fun a b=> ¬ltS b a:=by
  cases ks with
  | nil=>exact .nil
  | cons x r=>obtain ⟨h3,h4⟩:=zEh r x h;exact .cons (fun y hy=>h3 y hy) h4
 refine (h1.and nd).imp ?_;rintro a b ⟨p,q⟩;have p':a.cps.toList<=b.cps.toList:=p;rcases List.le_iff_lt_or_eq.mp p' with z | z
 ·exact z
 ·exact absurd (by cases a;cases b;congr 1;exact Array.toList_inj.mp z) q
end FrM
namespace Fr
open PySem PySem.Spec PyProof.Rows L2 FrM
def top(i:Nat):Stmt:=PySem.Challenge.pw_measurewise_k04_expressions_told.main.body.getD i (.Pass ⟨0,0,0,0⟩)
abbrev zCF:Stmt:=top 18
abbrev zCy:Stmt:=top 19
abbrev zER:Stmt:=top 20
abbrev zID:Stmt:=top 22
abbrev zIA:Stmt:=top 23
abbrev zFV:Stmt:=top 26
abbrev zIM:Stmt:=top 27
abbrev zCI:Stmt:=top 39
abbrev zDB:Stmt:=top 40
abbrev zDH:Stmt:=top 41
abbrev zFQ:Stmt:=top 42
abbrev zFW:Stmt:=top 43
abbrev zCP:Stmt:=top 44
abbrev zFF:Stmt:=top 45
abbrev zGc:Stmt:=top 46
abbrev zEK:Stmt:=top 70
abbrev zCz:Stmt:=top 71
abbrev zEc:Stmt:=top 73
abbrev zFe:Stmt:=top 74
abbrev zEQ:Stmt:=top 75
abbrev zFG:Stmt:=top 76
abbrev zHX:Stmt:=top 77
abbrev zDr:Stmt:=top 78
abbrev zIQ:Stmt:=top 79
abbrev zBJ:Stmt:=top 80
abbrev zEJ:Stmt:=top 81
abbrev zCs:Stmt:=top 82
abbrev lIs:Stmt:=top 83
abbrev zFH:Stmt:=top 84
abbrev zHq:Stmt:=top 85
abbrev zDK:Stmt:=top 86
abbrev zCR:Stmt:=top 87
abbrev zFK:Stmt:=top 88
abbrev zCv:Stmt:=top 89
abbrev zEb:Stmt:=top 90
theorem zCE:bootBuiltins "list" =some (.type "list"):=by decide+kernel
theorem zGH:bootBuiltins "all" =some (.builtin "all"):=by decide+kernel
theorem zIZ:bootBuiltins "sorted" =some (.builtin "sorted"):=by decide+kernel
theorem zFj:bootBuiltins "max" =some (.builtin "max"):=by decide+kernel
theorem zS:bootBuiltins "isinstance" =some (.builtin "isinstance"):=by decide+kernel
theorem yM:bootBuiltins "len" =some (.builtin "len"):=by decide+kernel
theorem zOf:bootBuiltins "int" =some (.type "int"):=by decide+kernel
theorem zEW:bootBuiltins "bool" =some (.type "bool"):=by decide+kernel
theorem yT:bootBuiltins "tuple" =some (.type "tuple"):=by decide+kernel
theorem zIb:bootBuiltins "str" =some (.type "str"):=by decide+kernel
theorem zFB:bootBuiltins "ValueError" =some (.type "ValueError"):=by decide+kernel
inductive Kd (H:Hp):V->Prop
 | non:Kd H .non
 | bl (b:Bool):Kd H (.bl b)
 | int (i:Int):Kd H (.int i)
 | str (x:Str):Kd H (.str x)
 | lst {a:Addr} {xs:List V} (e:H a=some (.lst xs)):Kd H (.ref a)
 | tup {a:Addr} {xs:List V} (e:H a=some (.tup xs)):Kd H (.ref a)
def isW:V->Bool
 | .int _=>true
 | _=>false
def zJj:V->Bool
 | .int _=>true
 | .bl _=>true
 | _=>false
theorem zIR(K:zSS):PySem.W.kitOne K (.type "NoneType") (.type "int")=some false:=by kernel_rfl
theorem zHu(K:zSS):PySem.W.kitOne K (.type "bool") (.type "int")=some true:=by kernel_rfl
theorem zJJ(K:zSS):PySem.W.kitOne K (.type "int") (.type "int")=some true:=by kernel_rfl
theorem zIs(K:zSS):PySem.W.kitOne K (.type "str") (.type "int")=some false:=by kernel_rfl
theorem zIJ(K:zSS):PySem.W.kitOne K (.type "list") (.type "int")=some false:=by kernel_rfl
theorem zGp(K:zSS):PySem.W.kitOne K (.type "tuple") (.type "int")=some false:=by kernel_rfl
theorem zGm(K:zSS):PySem.W.kitOne K (.type "bool") (.type "bool")=some true:=by kernel_rfl
theorem zCT(K:zSS):PySem.W.kitOne K (.type "int") (.type "bool")=some false:=by kernel_rfl
theorem zAl(K:zSS):PySem.W.kitOne K (.type "NoneType") (.type "tuple")=some false:=by kernel_rfl
theorem zBB(K:zSS):PySem.W.kitOne K (.type "str") (.type "tuple")=some false:=by kernel_rfl
theorem zBh(K:zSS):PySem.W.kitOne K (.type "list") (.type "tuple")=some false:=by kernel_rfl
theorem zy(K:zSS):PySem.W.kitOne K (.type "tuple") (.type "tuple")=some true:=by kernel_rfl
theorem zAY(K:zSS):PySem.W.kitOne K (.type "int") (.type "tuple")=some false:=by kernel_rfl
theorem zGS(K:zSS):PySem.W.kitOne K (.type "bool") (.type "tuple")=some false:=by kernel_rfl
theorem zMS(K:zSS)(k:Kd H x): ∃t,TyOf K H x t/\PySem.W.kitOne K t (.type "int")=some (zJj x):=by
 cases k with
 | non=>exact ⟨_,.non,zIR K⟩
 | bl b=>exact ⟨_,.bl b,zHu K⟩
 | int i=>exact ⟨_,.int i,zJJ K⟩
 | str x=>exact ⟨_,.str x,zIs K⟩
 | lst e=>exact ⟨_,.lst e,zIJ K⟩
 | tup e=>exact ⟨_,.tup e,zGp K⟩
theorem zLp(K:zSS)(k:Kd H x)(h:zJj x=true): ∃t,TyOf K H x t/\PySem.W.kitOne K t (.type "bool")=some (!isW x):=by
 cases k with
 | bl b=>exact ⟨_,.bl b,zGm K⟩
 | int i=>exact ⟨_,.int i,zCT K⟩
 | non=>cases h
 | str x=>cases h
 | lst e=>cases h
 | tup e=>cases h
structure Bn(mg:Str->Option Value):Prop where
 isi:mg "isinstance" =none
 int:mg "int" =none
 bool:mg "bool" =none
 tuple:mg "tuple" =none
 len:mg "len" =none
 range:mg "range" =none
 str:mg "str" =none
 abs:mg "abs" =none
 verr:mg "ValueError" =none
 list:mg "list" =none
 dict:mg "dict" =none
 all:mg "all" =none
 sorted:mg "sorted" =none
 any:mg "any" =none
 max:mg "max" =none
 enumerate:mg "enumerate" =none
section
variable {P:Program}{w:World}{K:zSS}{mg:Str->Option Value}{base:Heap}
def zCt:Sp:=fun vs H Q _=> ∃x,vs= [x] /\Kd H x/\Q (.bl (isW x)) H
theorem zMF:FnScope ["thing"] ["thing"] (zM zCF):=fs
theorem zDi(F:Fun K "is_whole" "is_whole" zCF f fd)(B:Bn mg):FnOk P w K mg base CX0 1 f fd ["thing"] zCt:=by
 refine F.ok zMF (fun vs H Q E h=>?_) (fun _ A _ s H vs Q E hr h=>?_)
 ·obtain ⟨x,rfl,_⟩:=h;rfl
 ·obtain ⟨x,rfl,kd,q⟩:=h;refine ⟨_,zAE (zAi (zJA (zAx zCa (by rfl) B.isi zS (yL (pv 0) (yL (zDL (v:= .ty "int") (by rfl) B.int zOf rfl) zAA)))
   (zIo (zIy (zAx zCa (by rfl) B.isi zS (yL (pv 0) (yL (zDL (v:= .ty "bool") (by rfl) B.bool zEW rfl) zAA))))))),?_⟩
  obtain ⟨t,ty,e⟩:=zMS K kd;refine ⟨x,rfl,x,.ty "int",t,.type "int",_,rfl,rfl,ty,e,_,rfl,?_⟩;cases hx:zJj x with
  | false=>
   refine zE ?_;have:isW x=false:=by cases x<;>first | rfl | cases hx
   rw [this] at q;exact q
  | true=>
   refine zN ?_;obtain ⟨t',ty',e'⟩:=zLp K kd hx;refine ⟨x,rfl,x,.ty "bool",t',.type "bool",_,rfl,rfl,ty',e',_,rfl,?_⟩;rw [Bool.not_not];exact q
def zKY:Sp:=fun vs H Q _=> ∃a b:Int,vs= [.int a,.int b] /\0<b/\Q (.int ((Int.gcd a b:Nat):Int)) H
theorem zDA:FnScope ["above","below","greater","lesser","rest"] ["above","below"] (zM zID):=fs
theorem zOM(F:Fun K "common_divisor" "common_divisor" zID f fd):FnOk P w K mg base CX0 1 f fd ["above","below"] zKY:=by
 refine F.ok zDA (fun vs H Q E h=>?_) (fun _ A _ s H vs Q E hr h=>?_)
 ·obtain ⟨a,b,rfl,_⟩:=h;rfl
 ·obtain ⟨a,b,rfl,hb,q⟩:=h;refine ⟨_,zAC (zBb (i:=2) zDA.nd rfl (Or.inl rfl) (pv 1)) (zAC (zBb (i:=3) zDA.nd rfl (Or.inl rfl) (zAD zBW (pv 0) (pv 1)))
   (zAC (zGX PassesOwn.never (zCJ zBt (pv 3) yS (zCp _))
    (zAC (zBb (i:=4) zDA.nd rfl (Or.inl rfl) (zAD zBW (pv 2) (pv 3))) (zAC (zBb (i:=2) zDA.nd rfl (Or.inl rfl) (pv 3)) (zAE (zBb (i:=3) zDA.nd rfl (Or.inl rfl) (pv 4))))))
   (zAE (zAi (pv 2))))),?_⟩
  refine ⟨_,rfl,_,rfl,_,rfl,_,_,rfl,rfl,hb,?_⟩;refine zJn (fun σ H'=>H'=H/\ ∃(g l:Int) (r:Option V),σ= [some (.int a),some (.int b),some (.int g),some (.int l),r] /\0<g/\0<=l/\Int.gcd g l=Int.gcd a b)
   (fun (σ:L2.St) _=>match σ[3]? with | some (some (V.int l))=>l.toNat | _=>0) ⟨rfl,b,a % b,none,rfl,hb,zRt _ (by omega),zFz a b hb⟩ ?_ ?_
  ·rintro σ H' ⟨rfl,g,l,r,rfl,hg,hl,e⟩;refine ⟨_,rfl,_,_,rfl,rfl,_,rfl,?_⟩;refine yE (fun z=>?_) (fun z=>?_)
   ·have hp:0<l:=by simpa using z
    refine ⟨_,rfl,_,rfl,_,_,rfl,rfl,hp,_,rfl,_,rfl,⟨rfl,l,g % l,_,rfl,hp,zRt _ (by omega),?_⟩,?_⟩
    ·rw [zFz g l hp,e]
    ·show (g % l).toNat<l.toNat;have:=zRo g hp;have:=zRt g (by omega:l≠0);omega
   ·have hz:l=0:=by
     have: ¬0<l:=by simpa using z
     omega
    subst hz;refine ⟨_,rfl,?_⟩;rw [<-e,zJi g (by omega)] at q;exact q
  ·rintro σ H' R R' hR ⟨v,e1,i,j,e2,e3,k,e4,q'⟩;exact ⟨v,e1,i,j,e2,e3,k,e4,hR _ _ q'⟩
theorem zB.upd{H:Hp}{p:Addr}{o:HO}(hp:H p=none):zB H (L2.upd H p o):=fun b u e=>by rw [zQ (zm e hp)];exact e
theorem zB.store{H H':Hp}{D:Addr}{o:HO}(s:zB H H')(hD:H D=none):zB H (L2.upd H' D o):=fun b u e=>by rw [zQ (zm e hD)];exact s b u e
theorem zB.none{H H':Hp}(s:zB H H'){a:Addr}(h:H' a=none):H a=none:=by
 cases z:H a with
 | none=>rfl
 | some o=>rw [s _ _ z] at h;cases h
theorem zAp{H:Hp}{a:Addr}(h:H a=none)(o:HO): ∃G,L2.upd H a o=G/\zB H G/\G a=some o:=⟨_,rfl,zB.upd h,zD⟩
theorem bs(n:Nat)(h:n<=60:=by decide):n<=sizeLine:=by rw [zRn];omega
theorem zKz{b:Bool}{p q:Prop}(h:b=false)(hq:q):if b=true then p else q:=by rw [h];exact hq
theorem zLE{b:Bool}{p q:Prop}(h:b=true)(hq:p):if b=true then p else q:=by rw [h];exact hq
theorem yd{σ:L2.St}(h:σ.length=1): ∃a,σ= [a] :=zSV.mp h
theorem yZ{σ:L2.St}(h:σ.length=2): ∃a b,σ= [a,b] :=by
 cases σ with
 | nil=>cases h
 | cons a r=>
  obtain ⟨b,rfl⟩:=zSV.mp (show r.length=1 by simpa using h);exact ⟨a,b,rfl⟩
theorem Paired.get'{α β:Type}{F:α->β->Prop}{xs:List α}{ys:List β}(h:Paired F xs ys){i:Nat}{x:α}(e:xs[i]?=some x): ∃y,ys[i]?=some y/\F x y:=by
 induction h generalizing i with
 | nil=>simp at e
 | @cons a b l1 l2 h1 _ ih=>
  cases i with
  | zero=>simp at e;subst e;exact ⟨b,rfl,h1⟩
  | succ i=>exact ih (by simpa using e)
theorem Paired.snoc'{α β:Type}{F:α->β->Prop}{xs:List α}{ys:List β}{a:α}{b:β}(h:Paired F xs ys)(k:F a b):Paired F (xs++ [a]) (ys++ [b]):=by
 induction h with
 | nil=>exact .cons k .nil
 | cons r _ ih=>exact .cons r ih
theorem Paired.app{α β:Type}{F:α->β->Prop}{xs zs:List α}{ys ws:List β}(h:Paired F xs ys)(k:Paired F zs ws):Paired F (xs++zs) (ys++ws):=by
 induction h with
 | nil=>exact k
 | cons r _ ih=>exact .cons r ih
theorem Paired.len{α β:Type}{F:α->β->Prop}{xs:List α}{ys:List β}(h:Paired F xs ys):xs.length=ys.length:=by
 induction h with
 | nil=>rfl
 | cons _ _ ih=>simp [ih]
theorem Paired.mapM{α β:Type}{F G:α->β->Prop}{xs:List α}{ys:List β}(h:Paired F xs ys)(f: ∀a b,a∈xs->F a b->G a b):Paired G xs ys:=by
 induction h with
 | nil=>exact .nil
 | cons r _ ih=>exact .cons (f _ _ (by simp) r) (ih fun a b ha=>f a b (by simp [ha]))
theorem bz{n:Nat}(h:n<=60):n<=sizeLine:=by rw [zRn];omega
section
variable {o:HO}{n j:Nat}{H:Hp}{Q:VK}{a b:Addr}{xs ys:List V}{lo hi:Option Int}
theorem nw(q: ∀p G,zB H G->G p=some o->Q (.ref p) G)(h:n<=60:=by exact Nat.le_of_ble_eq_true rfl):XMk o n H Q:=⟨bz h,fun p hp=>q p _ (zB.upd hp) zD⟩
theorem nwf(q: ∀p G,H p=none->zB H G->G p=some o->Q (.ref p) G)(h:n<=60:=by exact Nat.le_of_ble_eq_true rfl):XMk o n H Q:=⟨bz h,fun p hp=>q p _ hp (zB.upd hp) zD⟩
theorem ct(ea:H a=some (.tup xs))(eb:H b=some (.tup ys))(q: ∀p G,zB H G->G p=some (.tup (xs++ys))->Q (.ref p) G)(h:xs.length+ys.length<=60:=by exact Nat.le_of_ble_eq_true rfl):XCatE K (.ref a) (.ref b) H Q:=
 ⟨a,b,xs,ys,rfl,rfl,SqT.of ea,SqT.of eb,bz h,fun z=>q b H (zB.refl H) (by rw [z];exact eb),fun _ z=>q a H (zB.refl H) (by rw [z,zSB];exact ea),fun _ _ p hp=>q p _ (zB.upd hp) zD⟩
theorem zBm(ea:H a=some (.lst xs))(eb:H b=some (.lst ys))(h:xs.length+ys.length<=sizeLine)(q: ∀p G,H p=none->zB H G->G p=some (.lst (xs++ys))->Q (.ref p) G):XCat (.ref a) (.ref b) H Q:=⟨a,b,xs,ys,rfl,rfl,ea,eb,h,fun p hp=>q p _ hp (zB.upd hp) zD⟩
theorem cls(ea:H a=some (.lst xs))(eb:H b=some (.lst ys))(h:xs.length+ys.length<=sizeLine)(q: ∀p G,zB H G->G p=some (.lst (xs++ys))->Q (.ref p) G):XCat (.ref a) (.ref b) H Q:=⟨a,b,xs,ys,rfl,rfl,ea,eb,h,fun p hp=>q p _ (zB.upd hp) zD⟩
theorem cl(ea:H a=some (.lst xs))(eb:H b=some (.lst ys))(q: ∀p G,zB H G->G p=some (.lst (xs++ys))->Q (.ref p) G)(h:xs.length+ys.length<=60:=by exact Nat.le_of_ble_eq_true rfl):XCat (.ref a) (.ref b) H Q:=cls ea eb (bz h) q
theorem sll(e:H a=some (.lst xs))(q: ∀p G,zB H G->G p=some (.lst (zAV xs lo hi))->Q (.ref p) G):XSlL K (.ref a) lo hi H Q:=⟨a,xs,rfl,SqL.of e,fun p hp=>q p _ (zB.upd hp) zD⟩
theorem slc(ys:List V)(e:H a=some (.tup xs))(q: ∀p G,zB H G->G p=some (.tup ys)->Q (.ref p) G)(hy:zAV xs lo hi=ys:=by rfl)(h:decide (HT.sIx xs.length 0 lo=0/\HT.sIx xs.length xs.length hi=xs.length)=false:=by rfl):XSlT K (.ref a) lo hi H Q:=
 ⟨a,xs,rfl,SqT.of e,of_decide_eq_false h,fun p hp=>by rw [hy];exact q p _ (zB.upd hp) zD⟩
theorem sto(e:H a=some (.tup xs))(h:j<xs.length)(q: ∀p G,zB H G->G p=some (.tup (xs.take j))->Q (.ref p) G):XSlT K (.ref a) none (some (j:Int)) H Q:=
 slc (xs.take j) e q (by unfold zAV;rw [HT.sIx_nat,HT.sIx_none,List.drop_zero];congr 1;omega) (zSA fun z=>by have z:=z.2;rw [HT.sIx_nat] at z;omega)
theorem sfr(e:H a=some (.tup xs))(h:j<xs.length)(q: ∀p G,zB H G->G p=some (.tup (xs.drop (j+1)))->Q (.ref p) G):XSlT K (.ref a) (some ((j:Int)+1)) none H Q:=
 slc (xs.drop (j+1)) e q (by unfold zAV;rw [show (j:Int)+1=((j+1:Nat):Int) by omega,HT.sIx_nat,HT.sIx_none,show min (j+1) xs.length=j+1 by omega];exact List.take_of_length_le (by rw [List.length_drop];exact zRg _))
  (zSA fun z=>by have z:=z.1;rw [show (j:Int)+1=((j+1:Nat):Int) by omega,HT.sIx_nat] at z;omega)
end
def zBY:List V->Bool
 | [.int a,.int b] =>decide (0<b)&&decide (Int.gcd a b=1)
 | _=>false
inductive NoT (H:Hp):V->Prop
 | non:NoT H .non
 | str (x:Str):NoT H (.str x)
 | int (i:Int):NoT H (.int i)
 | lst {a:Addr} {xs:List V} (e:H a=some (.lst xs)):NoT H (.ref a)
theorem zId(K:zSS)(k:NoT H x): ∃t,TyOf K H x t/\PySem.W.kitOne K t (.type "tuple")=some false:=by
 cases k with
 | non=>exact ⟨_,.non,zAl K⟩
 | str x=>exact ⟨_,.str x,zBB K⟩
 | int i=>exact ⟨_,.int i,zAY K⟩
 | lst e=>exact ⟨_,.lst e,zBh K⟩
def zLD:Sp:=fun vs H Q _=> ∃x:V,vs= [x] /\((NoT H x/\Q (.bl false) H)\/ ∃p xs,x= .ref p/\H p=some (.tup xs)/\(∀y∈xs,Kd H y)/\Q (.bl (zBY xs)) H)
theorem zPu:FnScope ["thing"] ["thing"] (zM zIA):=fs
theorem zNS(F:Fun K "is_fraction" "is_fraction" zIA f fd)(B:Bn mg)
  (FW:Fun K "is_whole" "is_whole" zCF fW fdW) (bW:zL K fdW ["thing"] []) (mW:mg "is_whole" =some (.ref fW))
  (FD:Fun K "common_divisor" "common_divisor" zID fD fdD) (bD:zL K fdD ["above","below"] []) (mD:mg "common_divisor" =some (.ref fD)):
  FnOk P w K mg base CX0 2 f fd ["thing"] zLD:=by
 have GW:FnOk P w K mg base CX0 1 fW fdW ["thing"] zCt:=zDi FW B;have GD:FnOk P w K mg base CX0 1 fD fdD ["above","below"] zKY:=zOM FD;refine F.ok zPu (fun vs H Q E h=>?_) (fun _ A _ s H vs Q E hr h=>?_)
 ·obtain ⟨x,rfl,_⟩:=h;rfl
 ·obtain ⟨x,rfl,h⟩:=h;refine ⟨_,zAC (zFM (zFS (zEM (zEF (zAx zCa (by rfl) B.isi zS (yL (pv 0) (yL (zDL (v:= .ty "tuple") (by rfl) B.tuple yT rfl) zAA)))))
    (zFm (zCJ zCX (zAx zBe (by rfl) B.len yM (yL (pv 0) zAA)) yS (zCp _)))).pt (zAE (zAi zHe)) zDC)
   (zAC (zFM (zFS (zEM (zEF (zBU GW hr (by rfl) mW FW.kp bW .nil zH (yL (zBN zCD (pv 0) yS (fun _ _=>rfl)) zAA))))
     (zFS (zEM (zEF (zBU GW hr (by rfl) mW FW.kp bW .nil zH (yL (zBN zCD (pv 0) yS (fun _ _=>rfl)) zAA))))
      (zFm (zCJ zDG (zBN zCD (pv 0) yS (fun _ _=>rfl)) yS (zCp _))))).pt (zAE (zAi zHe)) zDC)
   (zAE (zAi (zHG zh (zBU GD hr (by rfl) mD FD.kp bD .nil zH (yL (zBN zCD (pv 0) yS (fun _ _=>rfl)) (yL (zBN zCD (pv 0) yS (fun _ _=>rfl)) zAA))) yS (zCp _))))),?_⟩
  rcases h with ⟨nt,q⟩|⟨p,xs,rfl,hp,hk,q⟩
  ·obtain ⟨t,ty,e⟩:=zId K nt;refine ⟨_,rfl,_,.ty "tuple",t,.type "tuple",_,rfl,rfl,ty,e,_,rfl,?_⟩;refine zN ?_;refine zN ?_;exact q
  ·refine ⟨_,rfl,_,.ty "tuple",_,.type "tuple",_,rfl,rfl,.tup hp,zy K,_,rfl,?_⟩;refine zE ?_;refine ⟨_,rfl,p,xs,rfl,.inr (SqT.of hp),rfl,_,rfl,?_⟩;by_cases hl:xs.length=2
   ·obtain ⟨y,z,rfl⟩: ∃y z,xs= [y,z] :=by
     match xs,hl with
     | [y,z],_=>exact ⟨y,z,rfl⟩
    have ky:Kd H y:=hk y (by simp);have kz:Kd H z:=hk z (by simp);refine zKw rfl ?_;refine ⟨_,rfl,p,_,_,y,rfl,rfl,SqT.of hp,rfl,y,rfl,ky,_,rfl,?_⟩;cases hy:isW y with
    | false=>
     refine zN ?_;refine zN ?_;have:zBY [y,z] =false:=by cases y<;>first | rfl | cases hy
     rw [this] at q;exact q
    | true=>
     obtain ⟨a,rfl⟩: ∃i,y= .int i:=by cases y<;>first | exact ⟨_,rfl⟩| cases hy
     refine zE ?_;refine ⟨_,rfl,p,_,_,z,rfl,rfl,SqT.of hp,rfl,z,rfl,kz,_,rfl,?_⟩;cases hz:isW z with
     | false=>
      refine zN ?_;refine zN ?_;have:zBY [.int a,z] =false:=by cases z<;>first | rfl | cases hz
      rw [this] at q;exact q
     | true=>
      obtain ⟨b,rfl⟩: ∃i,z= .int i:=by cases z<;>first | exact ⟨_,rfl⟩| cases hz
      refine zE ?_;refine ⟨_,rfl,p,_,_,_,rfl,rfl,SqT.of hp,rfl,b,1,rfl,rfl,_,rfl,?_⟩;refine yE (fun c=>?_) (fun c=>?_)
      ·have hb: ¬0<b:=by
        have:b<1:=by simpa using c
        omega
       have:zBY [.int a,.int b] =false:=by
        show (decide (0<b)&&_)=false;rw [zSA hb];rfl
       rw [this] at q;exact q
      ·have hb:0<b:=by
        have: ¬b<1:=by simpa using c
        omega
       refine ⟨_,rfl,p,_,_,_,rfl,rfl,SqT.of hp,rfl,_,rfl,p,_,_,_,rfl,rfl,SqT.of hp,rfl,a,b,rfl,hb,rfl,?_⟩;have:zBY [.int a,.int b] =decide (V.int ((Int.gcd a b:Nat):Int)=V.int 1):=by
        show (decide (0<b)&&decide (Int.gcd a b=1))=_;rw [zRz hb,Bool.true_and];rw [zSb];simp;omega
       rw [this] at q;exact q
   ·have e1:zBY xs=false:=by
     match xs,hl with
     | [],_=>rfl
     | [x],_=>cases x<;>rfl
     | [x,y],h=>exact absurd rfl h
     | x::y::z::r,_=>cases x<;>cases y<;>rfl
    rw [e1] at q;have e2:decide (V.int (xs.length:Int)=V.int 2)=false:=by
     rw [zSA];intro z;injection z with z;omega
    rw [e2];refine zN ?_;exact q
def zFR:Sp:=fun vs H Q _=> ∃n k:Int,vs= [.int n,.int k] /\0<=k/\k<=1000/\ ∀r:Int,0<=r->r<2147483629->Q (.int r) H
theorem zLH:FnScope ["_law_number_here","_law_k"] ["_law_number_here","_law_k"] (zM zEc):=fs
theorem zJG{f:Addr}{fd:FuncData}(F:Fun K "_law_mixed" "_law_mixed" zEc f fd):FnOk P w K mg base CX0 1 f fd ["_law_number_here","_law_k"] zFR:=by
 refine F.ok zLH (fun vs H Q E h=>?_) (fun _ A _ s H vs Q E hr h=>?_)
 ·obtain ⟨n,k,rfl,_⟩:=h;rfl
 ·obtain ⟨n,k,rfl,h0,h1,q⟩:=h;refine ⟨_,zAC (zBb (i:=0) zLH.nd rfl (Or.inl rfl) (zAD zBW (zAD zBc (zAD zDq (zAD zDq (zAD zBW (pv 0) yS) (zAD zBc (zAD zBc yS (pv 1)) (pv 1))) (zAD zBc yS (pv 1))) yS) yS))
   (zAE (zAi (zAD zBW (zAD zBc (pv 0) (zAD zDq yS (zAD zBc yS (pv 1)))) yS))),?_⟩
  refine ⟨_,rfl,_,_,rfl,rfl,(by show (0:Int)<2147483647;decide),_,rfl,_,_,rfl,rfl,.inl ⟨by decide,by decide⟩,_,rfl,_,_,rfl,rfl,.inr ⟨by omega,by omega⟩,_,_,rfl,rfl,_,rfl,_,_,rfl,rfl,.inl ⟨by decide,by decide⟩,_,_,rfl,rfl,
   _,_,rfl,rfl,.inr ⟨by decide,by decide⟩,_,_,rfl,rfl,(by show (0:Int)<2147483647;decide),?_⟩
  refine ⟨_,rfl,_,rfl,_,_,rfl,rfl,.inl ⟨by decide,by decide⟩,_,_,rfl,rfl,_,_,rfl,rfl,.inr ⟨by omega,by omega⟩,_,_,rfl,rfl,(by show (0:Int)<2147483629;decide),?_⟩;exact q _ (zRt _ (by decide)) (zRo _ (by decide))
def zHw(K:zSS):Sp:=fun vs H Q _=> ∃(a:Addr) (ns:List Int) (k:Int),vs= [.ref a,.int k] /\SqL K H a (ns.map V.int)/\ns.length<=63/\0<=k/\k<=1000/\ ∀(r:Int) H',zB H H'->0<=r->r<2147483629->Q (.int r) H'
theorem zQI:FnScope ["_law_script","_law_k"] ["_law_script","_law_k"] (zM zFe):=fs
theorem zOm{f fM:Addr}{fd fdM:FuncData}(F:Fun K "_law_number" "_law_number" zFe f fd)(B:Bn mg)(FM:Fun K "_law_mixed" "_law_mixed" zEc fM fdM)(bM:zL K fdM ["_law_number_here","_law_k"] [])(mM:mg "_law_mixed" =some (.ref fM)):
  FnOk P w K mg base CX0 2 f fd ["_law_script","_law_k"] (zHw K):=by
 have GM:FnOk P w K mg base CX0 1 fM fdM ["_law_number_here","_law_k"] zFR:=zJG FM;refine F.ok zQI (fun vs H Q E h=>?_) (fun _ A _ s H vs Q E hr h=>?_)
 ·obtain ⟨a,ns,k,rfl,_⟩:=h;rfl
 ·obtain ⟨a,ns,k,rfl,hs,hl,h0,h1,q⟩:=h;have hu:=zBK hr;refine ⟨_,zAC (zFM (zCJ (zCM (Nat.lt_of_succ_lt hu)) (pv 0) (zIx zAA) (zCp _)) (zAE (zAi (zBU GM hr (by rfl) mM FM.kp bM .nil zH (yL yS (yL (pv 1) zAA))))) zDC)
   (zAE (zAi (zBU GM hr (by rfl) mM FM.kp bM .nil zH (yL (zBN zHS (pv 0) (zAD zBW (pv 1) (zAx zBe (by rfl) B.len yM (yL (pv 0) zAA))) (fun _ _=>rfl)) (yL (pv 1) zAA))))),?_⟩
  refine ⟨_,rfl,zRr _,fun p hp=>?_⟩;have s1:zB H (L2.upd H p (.lst [])):=zB.upd hp;refine ⟨a,p,_,rfl,rfl,s1.seq hs,SqL.of zD,_,rfl,?_⟩;cases ns with
  | nil=>
   refine zN ?_;exact ⟨_,rfl,17,k,rfl,h0,h1,fun r r0 r1=>q r _ s1 r0 r1⟩
  | cons n ns=>
   refine zE ?_;have hlen:(0:Int)<(((n::ns).map V.int).length:Int):=by simp
   have m0:=zRt k (by omega:(((n::ns).map V.int).length:Int)≠0);have m1:=zRo k hlen;obtain ⟨j,hj⟩: ∃j:Nat,k %(((n::ns).map V.int).length:Int)=j:=⟨(k %(((n::ns).map V.int).length:Int)).toNat,by omega⟩;have hj2:j<(n::ns).length:=by
    rw [hj,zRj] at m1;omega
   refine ⟨_,rfl,_,rfl,_,rfl,a,_,rfl,.inl (s1.seq hs),_,_,rfl,rfl,hlen,a,_,_,.int ((n::ns)[j]),rfl,rfl,s1.seq hs,?_,_,rfl,_,k,rfl,h0,h1,fun r r0 r1=>q r _ s1 r0 r1⟩;rw [hj];refine ym ?_;rw [zRh,zRc hj2];rfl
def zAa(x:Str):Bool:=!decide (x.cps.toList<("a" :Str).cps.toList)&&!decide (("z" :Str).cps.toList<x.cps.toList)
def zKa:Sp:=fun vs H Q _=> ∃x:Str,vs= [.str x] /\Q (.bl (zAa x)) H
theorem zPa:FnScope ["sign"] ["sign"] (zM zCy):=fs
theorem zNn(F:Fun K "is_small_letter" "is_small_letter" zCy f fd):FnOk P w K mg base CX0 1 f fd ["sign"] zKa:=by
 refine F.ok zPa (fun vs H Q E h=>?_) (fun _ A _ s H vs Q E hr h=>?_)
 ·obtain ⟨x,rfl,_⟩:=h;rfl
 ·obtain ⟨x,rfl,q⟩:=h;refine ⟨_,QB.out (zK (zR (zEe zCn zCn zG (qw 0 rfl) zG rfl))),?_⟩;refine ⟨_,rfl,"a",x,rfl,rfl,_,rfl,?_⟩;refine yE (fun c=>?_) (fun c=>?_)
  ·refine ⟨x,"z",rfl,rfl,?_⟩;unfold zAa at q;rw [c,Bool.true_and] at q;exact q
  ·have c':(!decide (x.cps.toList<("a" :Str).cps.toList))=false:=by simpa using c
   unfold zAa at q;rw [c',Bool.false_and] at q;exact q
def zDF:List Str:= ["unit","take","let","fun","show","if","then","else","loop","for","do"]
def ya:V->Bool
 | .str x=>decide (1<=x.length)&&decide (x.length<=8)&&(x.cps.toList.all fun c=>zAa ⟨#[c]⟩)&&!inV (.str x) (zDF.map V.str)
 | _=>false
structure Gv(K:zSS)(mg:Str->Option Value)(W:Addr):Prop where
 mw:mg "WORDS" =some (.ref W)
 kw: ∀H,SqT K H W (zDF.map V.str)
 ml: ∃t,mg "MOST_LETTERS" =some (.int 8 t)
def isS:V->Bool
 | .str _=>true
 | _=>false
theorem zHx(K:zSS):PySem.W.kitOne K (.type "NoneType") (.type "str")=some false:=by kernel_rfl
theorem zIK(K:zSS):PySem.W.kitOne K (.type "bool") (.type "str")=some false:=by kernel_rfl
theorem zEw(K:zSS):PySem.W.kitOne K (.type "str") (.type "str")=some true:=by kernel_rfl
theorem zJZ(K:zSS):PySem.W.kitOne K (.type "int") (.type "str")=some false:=by kernel_rfl
theorem zHW(K:zSS):PySem.W.kitOne K (.type "list") (.type "str")=some false:=by kernel_rfl
theorem zGl(K:zSS):PySem.W.kitOne K (.type "tuple") (.type "str")=some false:=by kernel_rfl
theorem zIt(K:zSS)(k:Kd H x): ∃t,TyOf K H x t/\PySem.W.kitOne K t (.type "str")=some (isS x):=by
 cases k with
 | non=>exact ⟨_,.non,zHx K⟩
 | bl b=>exact ⟨_,.bl b,zIK K⟩
 | int i=>exact ⟨_,.int i,zJZ K⟩
 | str x=>exact ⟨_,.str x,zEw K⟩
 | lst e=>exact ⟨_,.lst e,zHW K⟩
 | tup e=>exact ⟨_,.tup e,zGl K⟩
theorem zPD(h:isS x=true): ∃z,x= .str z:=by cases x<;>first | exact ⟨_,rfl⟩| cases h
def Ths(H:Hp)(x:V):Prop:=Kd H x/\ ∀z,x= .str z->z.length<=5000
def zFX:Sp:=fun vs H Q _=> ∃x:V,vs= [x] /\Ths H x/\ ∀H',zB H H'->Q (.bl (ya x)) H'
theorem zOo:FnScope ["thing"] ["thing"] (zM zER):=fs
theorem zLl(F:Fun K "is_name" "is_name" zER f fd)(B:Bn mg)(G:Gv K mg W)
  (FL:Fun K "is_small_letter" "is_small_letter" zCy fL fdL) (bL:zL K fdL ["sign"] []) (mL:mg "is_small_letter" =some (.ref fL)):FnOk P w K mg base CX0 2 f fd ["thing"] zFX:=by
 have GL:FnOk P w K mg base CX0 1 fL fdL ["sign"] zKa:=zNn FL;obtain ⟨t8,m8⟩:=G.ml;refine F.ok zOo (fun vs H Q E h=>?_) (fun _ A _ s H vs Q E hr h=>?_)
 ·obtain ⟨x,rfl,_⟩:=h;rfl
 ·obtain ⟨x,rfl,⟨kx,lx⟩,q⟩:=h;refine ⟨_,QB.out (zF
   (zf (t_w (zAF (yf (yW (zk (zn (K:=K) rfl) rfl B.isi zS (qc (qw 0 rfl) (qc (zAG (v:= .ty "str") rfl B.str zIb rfl (by decide) rfl) zA rfl) rfl) rfl) (fun _=>rfl))) (yz (yf (zMB zCx zCx zC (zk zGe rfl B.len yM (qc (qw 0 rfl) zA rfl) rfl) (zc (v:= .int 8) rfl m8 ⟨t8,rfl⟩ rfl) rfl))))) (zK
    (zR yh)) zZ) (zK
   (zR (zAo (zk (zCg (K:=K) rfl rfl) rfl B.all zGH (qc (yu (cl:= []) ["sign"] [] [] rfl (zPI (qw 0 rfl)) rfl (by decide+kernel) rfl (by decide+kernel) (fun _ _ h=>nomatch h) rfl (fun j y i h=>nomatch h) (yJ rfl) (fun _ _ _ _=>(zq 0 (show (["sign"] :List Str).Nodup by decide+kernel) rfl (.inl rfl) (.inr rfl))) (fun _ _ _ _=>yy) (fun _ _ _ _=>(zP GL hr rfl mL FL.kp bL .nil zH (qc (qw 0 rfl) zA rfl) rfl rfl rfl)) (fun _=>rfl)) zA rfl) rfl) (zBO (zCK (zJX (K:=K) rfl) (qw 0 rfl) (zc (v:= .ref W) rfl G.mw rfl rfl) rfl)))))),?_⟩
  obtain ⟨ty,hty,hk⟩:=zIt K kx;refine ⟨_,rfl,_,.ty "str",ty,.type "str",_,rfl,rfl,hty,hk,_,rfl,?_⟩;cases hs:isS x with
  | true=>
   obtain ⟨z,rfl⟩:=zPD hs;have hz:=lx z rfl;refine zE ?_;refine ⟨_,rfl,z,rfl,by rw [zRn];omega,1,_,rfl,rfl,_,rfl,?_⟩;have nm:ya (.str z)=(decide (1<=z.length)&&decide (z.length<=8)&&(z.cps.toList.all fun c=>zAa ⟨#[c]⟩)&&!inV (.str z) (zDF.map V.str)):=rfl;refine yE (fun c1=>?_) (fun c1=>?_)
   ·refine ⟨_,_,rfl,rfl,_,rfl,?_⟩;have h1:1<=z.length:=by
     have:(1:Int)<=(z.length:Int):=zSG c1;omega
    show (if (!decide ((z.length:Int)<=8))=true then _ else _);refine yE (fun c2=>?_) (fun c2=>?_)
    ·have h8: ¬z.length<=8:=by
      have: ¬(z.length:Int)<=8:=by simpa using c2
      omega
     rw [nm,zSA h8] at q;simp only [Bool.and_false,Bool.false_and] at q;exact q H (zB.refl H)
    ·have h8:z.length<=8:=by
      have:(z.length:Int)<=8:=by simpa using c2
      omega
     refine ⟨_,rfl,z,rfl,fun D hD=>?_⟩;refine zi z.cps.size (fun i ys H'=>i<=z.cps.size/\ys=(z.cps.toList.take i).map (fun c=>V.bl (zAa ⟨#[c]⟩))/\H'=upd H D (.lst ys)) ⟨zRr _,rfl,rfl⟩ (by have:z.cps.size=z.length:=rfl;rw [zRn];omega) ?_ ?_ ?_
     ·rintro i ys H' hi ⟨_,rfl,rfl⟩;refine ⟨by simp;omega,zD,fun h=>h,fun h=>Nat.le_of_eq h.symm⟩
     ·rintro i ys H' x H'' hi ⟨_,rfl,rfl⟩ ⟨rfl,c,hc,rfl⟩ pre hpre;obtain ⟨p0,rfl⟩:=zSV.mp hpre;refine ⟨⟨[some (.str ⟨#[c]⟩)],rfl,rfl⟩,?_⟩;refine zN ?_;refine ⟨_,rfl,⟨#[c]⟩,rfl,zD,hi,?_,?_⟩
      ·have hc':z.cps.toList[i]?=some c:=by simpa using hc
       rw [zRy,hc',Option.toList_some,zRx];rfl
      ·rw [zCu]
     ·rintro ys H' ⟨_,rfl,rfl⟩;refine ⟨D,(z.cps.toList.take z.cps.size).map fun c=>zAa ⟨#[c]⟩,rfl,?_,_,rfl,?_⟩
      ·rw [List.map_map];exact SqL.of zD
      ·have ea:((z.cps.toList.take z.cps.size).map fun c=>zAa ⟨#[c]⟩).all id=z.cps.toList.all fun c=>zAa ⟨#[c]⟩:=by
        rw [show z.cps.size=z.cps.toList.length by simp,List.take_length,List.all_map];rfl
       rw [ea];rw [nm,zRz h1,zRz h8,Bool.true_and,Bool.true_and] at q;refine yE (fun c3=>?_) (fun c3=>?_)
       ·rw [c3,Bool.true_and] at q;refine ⟨_,rfl,W,_,rfl,.inr (G.kw _),rfl,by decide+kernel,q _ (zB.upd hD)⟩
       ·have c3':(z.cps.toList.all fun c=>zAa ⟨#[c]⟩)=false:=by simpa using c3
        rw [c3',Bool.false_and] at q;exact q _ (zB.upd hD)
   ·have h1: ¬1<=z.length:=by
     have: ¬(1:Int)<=(z.length:Int):=fun y=>c1 (zRz y);omega
    rw [nm,zSA h1] at q;simp only [Bool.false_and] at q;refine ⟨_,rfl,?_⟩;refine zN ?_;exact q H (zB.refl H)
  | false=>
   refine zN ?_;refine zN ?_;have:ya x=false:=by cases x<;>first | rfl | cases hs
   rw [this] at q;exact q H (zB.refl H)
def Nm(n:Str):Prop:=ya (.str n)=true
theorem Nm.len(h:Nm n):n.length<=8:=by
 unfold Nm ya at h;simp only [zSU,decide_eq_true_eq] at h;exact h.1.1.2
theorem Kd.same(h:Kd H x)(s:zB H H'):Kd H' x:=by
 cases h with
 | non=>exact .non
 | bl b=>exact .bl b
 | int i=>exact .int i
 | str x=>exact .str x
 | lst e=>exact .lst (s _ _ e)
 | tup e=>exact .tup (s _ _ e)
inductive NoTp (H:Hp):V->Prop
 | non:NoTp H .non
 | str (x:Str):NoTp H (.str x)
 | int (i:Int):NoTp H (.int i)
 | lst {a:Addr} {xs:List V} (e:H a=some (.lst xs)):NoTp H (.ref a)
theorem NoTp.ty(K:zSS)(k:NoTp H x): ∃t,TyOf K H x t/\PySem.W.kitOne K t (.type "tuple")=some false:=by
 cases k with
 | non=>exact ⟨_,.non,zAl K⟩
 | str x=>exact ⟨_,.str x,zBB K⟩
 | int i=>exact ⟨_,.int i,zAY K⟩
 | lst e=>exact ⟨_,.lst e,zBh K⟩
theorem NoTp.same(h:NoTp H x)(s:zB H H'):NoTp H' x:=by
 cases h with
 | non=>exact .non
 | str x=>exact .str x
 | int i=>exact .int i
 | lst e=>exact .lst (s _ _ e)
inductive Pr (H:Hp):V->Bool->Prop
 | good {t:Addr} {n:Str} {e:Int} (h:H t=some (.tup [.str n,.int e])) (hl:n.length<=5000):Pr H (.ref t) (ya (.str n))
 | noT {x:V} (h:NoTp H x):Pr H x false
 | len {t:Addr} {xs:List V} (h:H t=some (.tup xs)) (hl:xs.length≠2):Pr H (.ref t) false
 | noW {t:Addr} {n:Str} {x:V} (h:H t=some (.tup [.str n,x])) (hl:n.length<=5000) (k:Kd H x) (hw:isW x=false):Pr H (.ref t) false
theorem Pr.same(h:Pr H x b)(s:zB H H'):Pr H' x b:=by
 cases h with
 | good h hl=>exact .good (s _ _ h) hl
 | noT h=>exact .noT (h.same s)
 | len h hl=>exact .len (s _ _ h) hl
 | noW h hl k hw=>exact .noW (s _ _ h) hl (k.same s) hw
def zJS:Sp:=fun vs H Q _=> ∃(x:V) (b:Bool),vs= [x] /\Pr H x b/\ ∀H',zB H H'->Q (.bl b) H'
theorem zOI:FnScope ["thing"] ["thing"] (zM zFV):=fs
theorem zBF(h:n.length<=5000):Ths H (.str n):=⟨.str n,fun z e=>by cases e;exact h⟩
theorem zMN(F:Fun K "is_pair" "is_pair" zFV f fd)(B:Bn mg)
  (FN:Fun K "is_name" "is_name" zER fN fdN) (bN:zL K fdN ["thing"] []) (mN:mg "is_name" =some (.ref fN)) (GN:FnOk P w K mg base CX0 2 fN fdN ["thing"] zFX)
  (FW:Fun K "is_whole" "is_whole" zCF fW fdW) (bW:zL K fdW ["thing"] []) (mW:mg "is_whole" =some (.ref fW)):FnOk P w K mg base CX0 3 f fd ["thing"] zJS:=by
 have GW:FnOk P w K mg base CX0 1 fW fdW ["thing"] zCt:=zDi FW B;refine F.ok zOI (fun vs H Q E h=>?_) (fun _ A _ s H vs Q E hr h=>?_)
 ·obtain ⟨x,b,rfl,_⟩:=h;rfl
 ·obtain ⟨x,b,rfl,pr,q⟩:=h;have hr1:Room 1 _:=hr.mono (by decide);refine ⟨_,QB.out (zF
   (zf (t_w (zAF (yf (yW (zk (zn (K:=K) rfl) rfl B.isi zS (qc (qw 0 rfl) (qc (zAG (v:= .ty "tuple") rfl B.tuple yT rfl (by decide) rfl) zA rfl) rfl) rfl) (fun _=>rfl))) (yz (zU zCX (zk (zu (K:=K) rfl) rfl B.len yM (qc (qw 0 rfl) zA rfl) rfl) zC rfl)))) (zK
    (zR yh)) zZ) (zK
   (zR (zAo (zP GN hr rfl mN FN.kp bN .nil zH (qc (zY (K:=K) rfl (qw 0 rfl) zC (fun _ _=>rfl)) zA rfl) rfl rfl rfl) (zBO (zP GW hr1 rfl mW FW.kp bW .nil zH (qc (zY (K:=K) rfl (qw 0 rfl) zC (fun _ _=>rfl)) zA rfl) rfl rfl rfl)))))),?_⟩
  have cs:(∃t n y,x= .ref t/\H t=some (.tup [.str n,y])/\n.length<=5000/\Kd H y/\(ya (.str n)&&isW y)=b)\/(NoTp H x/\b=false)\/ ∃t xs,x= .ref t/\H t=some (.tup xs)/\xs.length≠2/\b=false:=by
   cases pr with
   | @good t n e h hl=>exact .inl ⟨t,n,.int e,rfl,h,hl,.int e,by simp [isW]⟩
   | noT h=>exact .inr (.inl ⟨h,rfl⟩)
   | @len t xs h hl=>exact .inr (.inr ⟨t,xs,rfl,h,hl,rfl⟩)
   | @noW t n y h hl k hw=>exact .inl ⟨t,n,y,rfl,h,hl,k,by rw [hw,Bool.and_false]⟩
  rcases cs with ⟨t,n,y,rfl,ht,hl,ky,hb⟩|⟨h,rfl⟩|⟨t,xs,rfl,h,hl,rfl⟩
  ·refine ⟨_,rfl,_,.ty "tuple",_,.type "tuple",_,rfl,rfl,.tup ht,zy K,_,rfl,zE ?_⟩;refine ⟨_,rfl,t,_,rfl,.inr (SqT.of ht),rfl,_,rfl,?_⟩;refine zKw rfl ?_;refine ⟨_,rfl,t,_,_,_,rfl,rfl,SqT.of ht,rfl,_,rfl,zBF hl,fun H' s'=>⟨_,rfl,?_⟩⟩;cases hn:ya (.str n) with
   | true=>
    rw [hn,Bool.true_and] at hb;refine zN ?_;exact ⟨_,rfl,t,_,_,_,rfl,rfl,SqT.of (s' _ _ ht),rfl,_,rfl,ky.same s',by rw [hb];exact q H' s'⟩
   | false=>
    rw [hn,Bool.false_and] at hb;refine zE ?_;rw [<-hb] at q;exact q H' s'
  ·obtain ⟨ty,h1,h2⟩:=h.ty K;refine ⟨_,rfl,_,.ty "tuple",_,.type "tuple",_,rfl,rfl,h1,h2,_,rfl,?_⟩;refine zN ?_;refine zN ?_;exact q H (zB.refl H)
  ·refine ⟨_,rfl,_,.ty "tuple",_,.type "tuple",_,rfl,rfl,.tup h,zy K,_,rfl,zE ?_⟩;refine ⟨_,rfl,t,_,rfl,.inr (SqT.of h),rfl,_,rfl,?_⟩;refine yE (fun c=>q H (zB.refl H)) (fun c=>?_);exfalso;have:V.int (xs.length:Int)=V.int 2:=by simpa using c
   injection this with this;omega
inductive UW (H:Hp):Str->List V->Bool->Prop
 | nil (a:Str):UW H a [] true
 | bad {a:Str} {x:V} {xs:List V} (h:Pr H x false):UW H a (x::xs) false
 | stop {a:Str} {t:Addr} {n:Str} {e:Int} {xs:List V} (h:H t=some (.tup [.str n,.int e])) (nm:Nm n) (hs:e=0\/ ¬ltS a n):UW H a (.ref t::xs) false
 | step {a:Str} {t:Addr} {n:Str} {e:Int} {xs:List V} {b:Bool} (h:H t=some (.tup [.str n,.int e])) (nm:Nm n) (he:e≠0) (hl:ltS a n) (r:UW H n xs b):UW H a (.ref t::xs) b
theorem UW.same(h:UW H a xs b)(s:zB H H'):UW H' a xs b:=by
 induction h with
 | nil a=>exact .nil a
 | bad h=>exact .bad (h.same s)
 | stop h nm hs=>exact .stop (s _ _ h) nm hs
 | step h nm he hl _ ih=>exact .step (s _ _ h) nm he hl ih
def zKV:Sp:=fun vs H Q _=> ∃(x:V) (b:Bool),vs= [x] /\((NoTp H x/\b=false)\/ ∃t xs,x= .ref t/\H t=some (.tup xs)/\xs.length<=1000/\UW H "" xs b)/\ ∀H',zB H H'->Q (.bl b) H'
theorem zFO:FnScope ["thing","ahead","pair"] ["thing"] (zM zIM):=fs
theorem zMb(F:Fun K "is_unit" "is_unit" zIM f fd)(B:Bn mg)
  (FP:Fun K "is_pair" "is_pair" zFV fP fdP) (bP:zL K fdP ["thing"] []) (mP:mg "is_pair" =some (.ref fP)) (GP:FnOk P w K mg base CX0 3 fP fdP ["thing"] zJS):FnOk P w K mg base CX0 4 f fd ["thing"] zKV:=by
 refine F.ok zFO (fun vs H Q E h=>?_) (fun _ A _ s H vs Q E hr h=>?_)
 ·obtain ⟨x,b,rfl,_⟩:=h;rfl
 ·obtain ⟨x,b,rfl,kx,q⟩:=h;refine ⟨_,QB.out (zF
   (zf (yf (yW (zk (zn (K:=K) rfl) rfl B.isi zS (qc (qw 0 rfl) (qc (zAG (v:= .ty "tuple") rfl B.tuple yT rfl (by decide) rfl) zA rfl) rfl) rfl) (fun _=>rfl))) (zK
    (zR yh)) zZ) (zF
   (zd 1 zFO.nd rfl zG rfl) (zF
   (zBi PassesOwn.never rfl (zHl (K:=K) rfl (qw 0 rfl)) (zq 2 zFO.nd rfl (Or.inl rfl) (.inr rfl)) (zF
    (zf (t_w (zAF (yf (yW (zP GP hr rfl mP FP.kp bP .nil zH (qc (qw 2 rfl) zA rfl) rfl rfl rfl) (fun _=>rfl))) (zAF (zU zh (zY (K:=K) rfl (qw 2 rfl) zC (fun _ _=>rfl)) zC rfl) (yz (zU zCn (zY (K:=K) rfl (qw 2 rfl) zC (fun _ _=>rfl)) (qw 1 rfl) rfl))))) (zK
     (zR yh)) zZ) (zK
    (zd 1 zFO.nd rfl (zY (K:=K) rfl (qw 2 rfl) zC (fun _ _=>rfl)) rfl))) (fun _=>rfl)) (zK
   (zR yh))))),?_⟩
  rcases kx with ⟨h,rfl⟩|⟨t,xs,rfl,ht,hz,uw⟩
  ·obtain ⟨ty,h1,h2⟩:=h.ty K;refine ⟨_,rfl,_,.ty "tuple",_,.type "tuple",_,rfl,rfl,h1,h2,_,rfl,?_⟩;refine zN ?_;exact q H (zB.refl H)
  ·refine ⟨_,rfl,_,.ty "tuple",_,.type "tuple",_,rfl,rfl,.tup ht,zy K,_,rfl,zE ?_⟩;refine ⟨_,rfl,t,rfl,⟨_,SqT.of ht⟩,?_⟩;refine zAz xs.length (fun i σ H'=> ∃a v,i<=xs.length/\UW H' a (xs.drop i) b/\σ= [some (.ref t),some (.str a),v] /\zB H H') ?_ ?_ ?_ ?_ ?_
   ·exact ⟨"",none,zRr _,uw,rfl,zB.refl H⟩
   ·rintro i σ H2 hi ⟨a,v,_,_,_,s2⟩;exact ⟨_,_,SqT.of (s2 _ _ ht),zRc hi⟩
   ·rintro σ H2 ⟨a,v,_,_,_,s2⟩;exact ⟨_,SqT.of (s2 _ _ ht),zRg _⟩
   ·rintro i σ H2 x H3 hi ⟨a,v,_,u2,rfl,s2⟩ ⟨rfl,hx⟩;have hx':=hx _ (SqT.of (s2 _ _ ht));rw [zRc hi] at hx';cases hx';have ed:xs.drop i=xs[i] ::xs.drop (i+1):=(List.getElem_cons_drop hi).symm;rw [ed] at u2;generalize hX:xs[i] =x at u2;cases u2 with
    | bad h=>
     refine ⟨_,rfl,x,false,rfl,h,fun H4 s4=>⟨_,rfl,?_⟩⟩;exact zN (zN (q H4 (s2.trans s4)))
    | @stop _ tt n e _ h nm hs=>
     have hp:Pr H3 (.ref tt) true:=by have z:=Pr.good h (by have:=nm.len;omega);rw [show ya (.str n)=true from nm] at z;exact z
     refine ⟨_,rfl,_,true,rfl,hp,fun H4 s4=>⟨_,rfl,zE ?_⟩⟩;have h4:=s4 _ _ h;refine ⟨_,rfl,tt,_,_,_,rfl,rfl,SqT.of h4,rfl,rfl,_,rfl,?_⟩;refine yE (fun c=>zN (q H4 (s2.trans s4))) (fun c=>?_);have he:e≠0:=fun z=>c (by rw [z];rfl);refine ⟨_,rfl,tt,_,_,_,rfl,rfl,SqT.of h4,rfl,_,rfl,n,a,rfl,rfl,_,rfl,?_⟩;have hl: ¬ltS a n:=hs.resolve_left he;have hd:(!decide (a.cps.toList<n.cps.toList))=true:=by rw [zSA (show¬a.cps.toList<n.cps.toList from hl)];rfl
     rw [hd];exact zN (q H4 (s2.trans s4))
    | @step _ tt n e _ _ h nm he hl r=>
     have hp:Pr H3 (.ref tt) true:=by have z:=Pr.good h (by have:=nm.len;omega);rw [show ya (.str n)=true from nm] at z;exact z
     refine ⟨_,rfl,_,true,rfl,hp,fun H4 s4=>⟨_,rfl,zE ?_⟩⟩;have h4:=s4 _ _ h;refine ⟨_,rfl,tt,_,_,_,rfl,rfl,SqT.of h4,rfl,rfl,_,rfl,?_⟩;refine yE (fun c=>?_) (fun c=>?_)
     ·exfalso;have:V.int e=V.int 0:=zSG c;injection this with this;exact he this
     ·refine ⟨_,rfl,tt,_,_,_,rfl,rfl,SqT.of h4,rfl,_,rfl,n,a,rfl,rfl,_,rfl,?_⟩;have hd:(!decide (a.cps.toList<n.cps.toList))=false:=by rw [zRz (show a.cps.toList<n.cps.toList from hl)];rfl
      rw [hd];refine zE ?_;exact ⟨_,rfl,tt,_,_,_,rfl,rfl,SqT.of h4,rfl,n,_,hi,r.same s4,rfl,s2.trans s4⟩
   ·rintro σ H2 ⟨a,v,_,u2,rfl,s2⟩;rw [List.drop_length] at u2;cases u2;exact q H2 s2
abbrev Us:=List (Str×Int)
def Un(H:Hp)(y:V)(us:Us):Prop:= ∃u ts,y= .ref u/\H u=some (.tup (ts.map V.ref))/\Paired (fun t (p:Str×Int)=>H t=some (.tup [.str p.1,.int p.2])) ts us
theorem Un.same{H H':Hp}{y:V}{us:Us}(h:Un H y us)(s:zB H H'):Un H' y us:=let ⟨u,ts,e,h1,h2⟩:=h;⟨u,ts,e,s _ _ h1,Paired.mapM h2 fun _ _ _ e=>s _ _ e⟩
def UpU:Str->Us->Prop
 | _,[] =>True
 | a,p::us=>Nm p.1/\p.2≠0/\ltS a p.1/\UpU p.1 us
structure GoodU(us:Us):Prop where
 up:UpU "" us
 e9: ∀p∈us,-9<=p.2/\p.2<=9
 le:us.length<=100
inductive Ex
 | num (a b:Int) (u:Option Us)
 | nam (s:Str)
 | neg (e:Ex)
 | bin (w:Str) (e f:Ex)
 | pow (e:Ex) (k:Int)
 | ite (a b c d:Ex)
 | loop (s:Str) (e:Ex) (k:Int) (f:Ex)
 | call1 (s:Str) (e:Ex)
 | call2 (s:Str) (e f:Ex)
 | call3 (s:Str) (e f g:Ex)
def uV(H:Hp)(y:V):Option Us->Prop
 | none=>y= .non
 | some us=>Un H y us
theorem uV.same{H H':Hp}{y:V}{u:Option Us}(h:uV H y u)(s:zB H H'):uV H' y u:=by
 cases u with
 | none=>exact h
 | some us=>exact Un.same h s
def Xt(H:Hp):Ex->V->Prop
 | .num a b u,v=> ∃t p y,v= .ref t/\H t=some (.tup [.str "number",.ref p,y])/\H p=some (.tup [.int a,.int b])/\uV H y u
 | .nam s,v=> ∃t,v= .ref t/\H t=some (.tup [.str "name",.str s])
 | .neg e,v=> ∃t x,v= .ref t/\H t=some (.tup [.str "negative",x])/\Xt H e x
 | .bin w e f,v=> ∃t x y,v= .ref t/\H t=some (.tup [.str w,x,y])/\Xt H e x/\Xt H f y
 | .pow e k,v=> ∃t x,v= .ref t/\H t=some (.tup [.str "power",x,.int k])/\Xt H e x
 | .ite a b c d,v=> ∃t x y z u,v= .ref t/\H t=some (.tup [.str "if",x,y,z,u])/\Xt H a x/\Xt H b y/\Xt H c z/\Xt H d u
 | .loop s e k f,v=> ∃t x y,v= .ref t/\H t=some (.tup [.str "loop",.str s,x,.int k,y])/\Xt H e x/\Xt H f y
 | .call1 s e,v=> ∃t q x,v= .ref t/\H t=some (.tup [.str "call",.str s,.ref q])/\H q=some (.tup [x])/\Xt H e x
 | .call2 s e f,v=> ∃t q x y,v= .ref t/\H t=some (.tup [.str "call",.str s,.ref q])/\H q=some (.tup [x,y])/\Xt H e x/\Xt H f y
 | .call3 s e f g,v=> ∃t q x y z,v= .ref t/\H t=some (.tup [.str "call",.str s,.ref q])/\H q=some (.tup [x,y,z])/\Xt H e x/\Xt H f y/\Xt H g z
def zr(H H':Hp):Prop:= ∀b xs,H b=some (.tup xs)->H' b=some (.tup xs)
theorem Un.sameT{H H':Hp}{y:V}{us:Us}(h:Un H y us)(s:zr H H'):Un H' y us:=let ⟨u,ts,e,h1,h2⟩:=h;⟨u,ts,e,s _ _ h1,Paired.mapM h2 fun _ _ _ e=>s _ _ e⟩
theorem uV.sameT{H H':Hp}{y:V}{u:Option Us}(h:uV H y u)(s:zr H H'):uV H' y u:=by
 cases u with
 | none=>exact h
 | some us=>exact Un.sameT h s
theorem Xt.sameT{H H':Hp}(s:zr H H'): ∀{e:Ex} {v:V},Xt H e v->Xt H' e v
 | .num ..,_,⟨t,p,y,e,h1,h2,h3⟩=>⟨t,p,y,e,s _ _ h1,s _ _ h2,h3.sameT s⟩
 | .nam _,_,⟨t,e,h⟩=>⟨t,e,s _ _ h⟩
 | .neg _,_,⟨t,x,e,h,h1⟩=>⟨t,x,e,s _ _ h,h1.sameT s⟩
 | .bin ..,_,⟨t,x,y,e,h,h1,h2⟩=>⟨t,x,y,e,s _ _ h,h1.sameT s,h2.sameT s⟩
 | .pow ..,_,⟨t,x,e,h,h1⟩=>⟨t,x,e,s _ _ h,h1.sameT s⟩
 | .ite ..,_,⟨t,x,y,z,u,e,h,h1,h2,h3,h4⟩=>⟨t,x,y,z,u,e,s _ _ h,h1.sameT s,h2.sameT s,h3.sameT s,h4.sameT s⟩
 | .loop ..,_,⟨t,x,y,e,h,h1,h2⟩=>⟨t,x,y,e,s _ _ h,h1.sameT s,h2.sameT s⟩
 | .call1 ..,_,⟨t,q,x,e,h,h0,h1⟩=>⟨t,q,x,e,s _ _ h,s _ _ h0,h1.sameT s⟩
 | .call2 ..,_,⟨t,q,x,y,e,h,h0,h1,h2⟩=>⟨t,q,x,y,e,s _ _ h,s _ _ h0,h1.sameT s,h2.sameT s⟩
 | .call3 ..,_,⟨t,q,x,y,z,e,h,h0,h1,h2,h3⟩=>⟨t,q,x,y,z,e,s _ _ h,s _ _ h0,h1.sameT s,h2.sameT s,h3.sameT s⟩
theorem Xt.same{H H':Hp}(s:zB H H'){e:Ex}{v:V}(h:Xt H e v):Xt H' e v:=h.sameT fun b xs k=>s b _ k
theorem zr.lst{H:Hp}{l:Addr}{xs:List V}{o:HO}(h:H l=some (.lst xs)):zr H (L2.upd H l o):=fun b ys e=>by rw [zQ fun z=>by rw [z,h] at e;cases e];exact e
theorem zr.trans{H H1 H2:Hp}(a:zr H H1)(b:zr H1 H2):zr H H2:=fun c xs e=>b c xs (a c xs e)
theorem zB.t{H H':Hp}(s:zB H H'):zr H H':=fun b xs k=>s b _ k
def zAn(w:Str):Prop:=w= "plus" \/w= "minus" \/w= "times" \/w= "over"
def OkN(a b:Int)(u:Option Us):Prop:=0<=a/\0<b/\Int.gcd a b=1/\match u with
 | none=>a=0/\b=1
 | some us=>GoodU us
def Ok:Ex->Prop
 | .num a b u=>OkN a b u
 | .nam s=>Nm s
 | .neg e=>Ok e
 | .bin w e f=>zAn w/\Ok e/\Ok f
 | .pow e k=>Ok e/\ -5<=k/\k<=5
 | .ite a b c d=>Ok a/\Ok b/\Ok c/\Ok d
 | .loop s e k f=>Nm s/\Ok e/\0<=k/\k<=12/\Ok f
 | .call1 s e=>Nm s/\Ok e
 | .call2 s e f=>Nm s/\Ok e/\Ok f
 | .call3 s e f g=>Nm s/\Ok e/\Ok f/\Ok g
def zX:Ex->List Ex
 | .num ..=> []
 | .nam _=> []
 | .neg e=> [e]
 | .bin _ e f=> [e,f]
 | .pow e _=> [e]
 | .ite a b c d=> [a,b,c,d]
 | .loop _ e _ f=> [e,f]
 | .call1 _ e=> [e]
 | .call2 _ e f=> [e,f]
 | .call3 _ e f g=> [e,f,g]
abbrev XtL(H:Hp)(xs:List V)(es:List Ex):Prop:=Paired (fun x e=>Xt H e x) xs es
def wiB(x:V)(l m:Int):Bool:=match x with
 | .int i=>decide (l<=i)&&decide (i<=m)
 | _=>false
def zKE:Sp:=fun vs H Q _=> ∃(x:V) (l m:Int),vs= [x,.int l,.int m] /\Kd H x/\Q (.bl (wiB x l m)) H
theorem zRE:FnScope ["thing","least","most"] ["thing","least","most"] (zM zCI):=fs
theorem zQQ{f fW:Addr}{fd fdW:FuncData}(F:Fun K "is_within" "is_within" zCI f fd)
  (FW:Fun K "is_whole" "is_whole" zCF fW fdW) (bW:zL K fdW ["thing"] []) (mW:mg "is_whole" =some (.ref fW)) (GW:FnOk P w K mg base CX0 1 fW fdW ["thing"] zCt):FnOk P w K mg base CX0 2 f fd ["thing","least","most"] zKE:=by
 refine F.ok zRE (fun vs H Q E h=>?_) (fun _ A _ s H vs Q E hr1 h=>?_)
 ·obtain ⟨x,l,m,rfl,_⟩:=h;rfl
 ·obtain ⟨x,l,m,rfl,kx,q⟩:=h;refine ⟨_,QB.out (zK
   (zR (zAo (zP GW hr1 rfl mW FW.kp bW .nil zH (qc (qw 0 rfl) zA rfl) rfl rfl rfl) (zBO (zEe zCx zCx (qw 1 rfl) (qw 0 rfl) (qw 2 rfl) rfl))))),?_⟩
  refine ⟨_,rfl,x,rfl,kx,_,rfl,?_⟩;cases x with
  | int i=>
   refine zN ⟨_,rfl,_,rfl,_,_,rfl,rfl,_,rfl,?_⟩;have q:Q (.bl (decide (l<=i)&&decide (i<=m))) H:=q;refine yE (fun c=>?_) (fun c=>?_)
   ·rw [show decide (l<=i)=true from c,Bool.true_and] at q;exact ⟨_,rfl,_,_,rfl,rfl,q⟩
   ·rw [show decide (l<=i)=false by simpa using c,Bool.false_and] at q;have c':decide (l<=i)=false:=by simpa using c
    exact q
  | _=>exact zE q
theorem zQN{H:Hp}{ts:List Addr}{us:Us}(h:Paired (fun t (p:Str×Int)=>H t=some (.tup [.str p.1,.int p.2])) ts us): ∀{a:Str},UpU a us->UW H a (ts.map V.ref) true:=by
 induction h with
 | nil=>exact fun _=> .nil _
 | cons h1 _ ih=>exact fun ⟨n,e,l,r⟩=> .step h1 n e l (ih r)
def zMy(us:Us):Bool:=us.all fun p=>wiB (.int p.2) (-9) 9
def SuB(H:Hp)(x:V)(b:Bool):Prop:=(NoTp H x/\b=false)\/(∃us,Un H x us/\UpU "" us/\us.length<=100/\b=zMy us)\/ ∃u xs,x= .ref u/\H u=some (.tup xs)/\xs.length<=1000/\UW H "" xs false/\b=false
def zMp:Sp:=fun vs H Q _=> ∃(x:V) (b:Bool),vs= [x] /\SuB H x b/\ ∀H',zB H H'->Q (.bl b) H'
theorem zRF:FnScope ["thing"] ["thing"] (zM zDB):=fs
structure Gn(K:zSS)(mg:Str->Option Value)(N:Addr):Prop where
 e: ∃t,mg "MOST_EXPONENT" =some (.int 9 t)
 p: ∃t,mg "MOST_POWER" =some (.int 5 t)
 r: ∃t,mg "MOST_ROUNDS" =some (.int 12 t)
 a: ∃t,mg "MOST_PARAMS" =some (.int 3 t)
 n: ∃t,mg "MOST_NODES" =some (.int 40 t)
 d: ∃t,mg "MOST_DEPTH" =some (.int 10 t)
 mN:mg "NOUGHT" =some (.ref N)
 kN: ∀H,SqT K H N [.int 0,.int 1]
theorem zPi{f fU fI N:Addr}{fd fdU fdI:FuncData}(F:Fun K "is_small_unit" "is_small_unit" zDB f fd)(B:Bn mg)(G:Gn K mg N)
  (FU:Fun K "is_unit" "is_unit" zIM fU fdU) (bU:zL K fdU ["thing"] []) (mU:mg "is_unit" =some (.ref fU)) (GU:FnOk P w K mg base CX0 4 fU fdU ["thing"] zKV)
  (FI:Fun K "is_within" "is_within" zCI fI fdI) (bI:zL K fdI ["thing","least","most"] []) (mI:mg "is_within" =some (.ref fI)) (GI:FnOk P w K mg base CX0 2 fI fdI ["thing","least","most"] zKE):FnOk P w K mg base CX0 5 f fd ["thing"] zMp:=by
 obtain ⟨te,me⟩:=G.e;refine F.ok zRF (fun vs H Q E h=>?_) (fun _ A _ s H vs Q E hr4 h=>?_)
 ·obtain ⟨x,b,rfl,_⟩:=h;rfl
 ·obtain ⟨x,b,rfl,kx,q⟩:=h;have hr2:Room 2 _:=hr4.mono (by decide);refine ⟨_,QB.out (zK
   (zR (zAo (zP GU hr4 rfl mU FU.kp bU .nil zH (qc (qw 0 rfl) zA rfl) rfl rfl rfl) (zBO (zk (zCg (K:=K) rfl rfl) rfl B.all zGH (qc (yu (cl:= []) ["pair"] [] [] rfl (zHl (K:=K) rfl (qw 0 rfl)) rfl (by decide+kernel) rfl (by decide+kernel) (fun _ _ h=>nomatch h) rfl (fun j y i h=>nomatch h) (yJ rfl) (fun _ _ _ _=>(zq 0 (show (["pair"] :List Str).Nodup by decide+kernel) rfl (.inl rfl) (.inr rfl))) (fun _ _ _ _=>yy) (fun _ _ _ _=>(zP GI hr2 rfl mI FI.kp bI .nil zH (qc (zY (K:=K) rfl (qw 0 rfl) zC (fun _ _=>rfl)) (qc (zDD (zc (v:= .int 9) rfl me ⟨te,rfl⟩ rfl)) (qc (zc (v:= .int 9) rfl me ⟨te,rfl⟩ rfl) zA rfl) rfl) rfl) rfl rfl rfl)) (fun _=>rfl)) zA rfl) rfl))))),?_⟩
  rcases kx with ⟨kx,rfl⟩|⟨us,⟨u,ts,rfl,hu,hts⟩,up,le,rfl⟩|⟨u,xs,rfl,hu,le,uw,rfl⟩
  rotate_right
  ·exact ⟨_,rfl,.ref u,false,rfl,.inr ⟨u,xs,rfl,hu,le,uw⟩,fun H1 s1=>⟨_,rfl,zE (q H1 s1)⟩⟩
  ·exact ⟨_,rfl,x,false,rfl,.inl ⟨kx,rfl⟩,fun H1 s1=>⟨_,rfl,zE (q H1 s1)⟩⟩
  ·have lt:=Paired.len hts;refine ⟨_,rfl,.ref u,true,rfl,.inr ⟨u,_,rfl,hu,by rw [zRj];omega,zQN hts up⟩,fun H1 s1=>⟨_,rfl,zN ?_⟩⟩;have hu1:=s1 _ _ hu;have hts1:=Paired.mapM hts fun _ _ _ e=>s1 _ _ e;refine ⟨_,rfl,u,rfl,⟨_,SqT.of hu1⟩,fun D hD=>?_⟩;refine zi us.length (fun i ys H'=>i<=us.length/\ys=((us.take i).map fun p=>wiB (.int p.2) (-9) 9).map V.bl/\H'=L2.upd H1 D (.lst ys)) ⟨zRr _,by simp,rfl⟩ (by rw [zRn];omega) ?_ ?_ ?_
   ·rintro i ys H2 hi ⟨_,rfl,rfl⟩;have e2:=zB.upd hD (o:= .lst (((us.take i).map fun p=>wiB (.int p.2) (-9) 9).map V.bl)) _ _ hu1;exact ⟨by simp;omega,zD,fun h=>⟨_,_,SqT.of e2,zRc (by simp;omega)⟩,fun h=>⟨_,SqT.of e2,by simp;omega⟩⟩
   ·rintro i ys H2 x H3 hi ⟨_,rfl,rfl⟩ ⟨rfl,hx⟩ pre hpre;obtain ⟨p0,rfl⟩:=yd hpre;have sD:=zB.upd hD (o:= .lst (((us.take i).map fun p=>wiB (.int p.2) (-9) 9).map V.bl));have hx':=hx _ (SqT.of (sD _ _ hu1));have hit:i<ts.length:=by omega
    rw [zRh,zRc hit] at hx';cases hx';obtain ⟨p,ep,hp⟩:=Paired.get' hts1 (zRc hit);refine ⟨⟨[some (.ref ts[i])],rfl,rfl⟩,zN ?_⟩;refine ⟨_,rfl,ts[i],_,_,_,rfl,rfl,SqT.of (sD _ _ hp),rfl,_,rfl,_,_,_,rfl,.int _,zD,hi,?_,by rw [zCu]⟩;rw [zRy,ep];simp
   ·rintro ys H2 ⟨_,rfl,rfl⟩;rw [List.take_of_length_le (zRg _)];refine ⟨D,us.map fun p=>wiB (.int p.2) (-9) 9,rfl,SqL.of zD,?_⟩;rw [List.all_map];exact q _ (s1.trans (zB.upd hD))
inductive NuB (H:Hp):V->V->Bool->Prop
 | ok {p:Addr} {a b:Int} {y:V} {u:Option Us} (hp:H p=some (.tup [.int a,.int b])) (hy:uV H y u) (h:OkN a b u):NuB H (.ref p) y true
 | noT {x y:V} (h:NoT H x):NuB H x y false
 | noF {p:Addr} {xs:List V} {y:V} (hp:H p=some (.tup xs)) (k: ∀z∈xs,Kd H z) (h:zBY xs=false):NuB H (.ref p) y false
 | neg {p:Addr} {a b:Int} {y:V} (hp:H p=some (.tup [.int a,.int b])) (h:zBY [.int a,.int b] =true) (h0:a<0):NuB H (.ref p) y false
 | one {p:Addr} (hp:H p=some (.tup [.int 1,.int 1])):NuB H (.ref p) .non false
 | noU {p v:Addr} {a b:Int} (hp:H p=some (.tup [.int a,.int b])) (h:zBY [.int a,.int b] =true) (h0:0<=a) (hu:SuB H (.ref v) false):NuB H (.ref p) (.ref v) false
def zON:Sp:=fun vs H Q _=> ∃(x y:V) (b:Bool),vs= [x,y] /\NuB H x y b/\ ∀H',zB H H'->Q (.bl b) H'
theorem zRI:FnScope ["amount","unit"] ["amount","unit"] (zM zDH):=fs
theorem zIr{us:Us}(h:GoodU us):zMy us=true:=List.all_eq_true.mpr fun p hp=>by
 have:=h.e9 p hp;show (decide (-9<=p.2)&&decide (p.2<=9))=true;rw [zRz this.1,zRz this.2];rfl
theorem zPM{f fF fS N:Addr}{fd fdF fdS:FuncData}(F:Fun K "is_number" "is_number" zDH f fd)(B:Bn mg)(G:Gn K mg N)
  (FF:Fun K "is_fraction" "is_fraction" zIA fF fdF) (bF:zL K fdF ["thing"] []) (mF:mg "is_fraction" =some (.ref fF)) (GF:FnOk P w K mg base CX0 2 fF fdF ["thing"] zLD)
  (FS:Fun K "is_small_unit" "is_small_unit" zDB fS fdS) (bS:zL K fdS ["thing"] []) (mS:mg "is_small_unit" =some (.ref fS)) (GS:FnOk P w K mg base CX0 5 fS fdS ["thing"] zMp):FnOk P w K mg base CX0 6 f fd ["amount","unit"] zON:=by
 have mN:=G.mN;refine F.ok zRI (fun vs H Q E h=>?_) (fun _ A _ s H vs Q E hr5 h=>?_)
 ·obtain ⟨x,y,b,rfl,_⟩:=h;rfl
 ·obtain ⟨x,y,b,rfl,hb,q⟩:=h;have hr2:Room 2 _:=hr5.mono (by decide);have huT:=Nat.lt_of_succ_lt (zBK hr5);have kd: ∀{a b:Int},∀z∈([.int a,.int b] :List V),Kd H z:=fun z hz=>by simp at hz;rcases hz with rfl | rfl<;>exact .int _
  refine ⟨_,QB.out (zF
   (zf (t_w (zAF (yf (yW (zP GF hr2 rfl mF FF.kp bF .nil zH (qc (qw 0 rfl) zA rfl) rfl rfl rfl) (fun _=>rfl))) (yz (zU zDG (zY (K:=K) rfl (qw 0 rfl) zC (fun _ _=>rfl)) zC rfl)))) (zK
    (zR yh)) zZ) (zF
   (zf (zPo (qw 1 rfl) rfl) (zK
    (zR (zCK (zOw (K:=K) rfl huT) (qw 0 rfl) (zc (v:= .ref N) rfl mN rfl rfl) rfl))) zZ) (zK
   (zR (zP GS hr5 rfl mS FS.kp bS .nil zH (qc (qw 1 rfl) zA rfl) rfl rfl rfl))))),?_⟩
  cases hb with
  | noT h=>exact ⟨_,rfl,x,rfl,.inl ⟨h,_,rfl,zN (q H (zB.refl H))⟩⟩
  | noF hp k h=>
   refine ⟨_,rfl,_,rfl,.inr ⟨_,_,rfl,hp,k,?_⟩⟩;rw [h];exact ⟨_,rfl,zN (q H (zB.refl H))⟩
  | neg hp h h0=>
   refine ⟨_,rfl,_,rfl,.inr ⟨_,_,rfl,hp,kd,?_⟩⟩;rw [h];exact ⟨_,rfl,zE ⟨_,rfl,_,_,_,_,rfl,rfl,SqT.of hp,rfl,_,_,rfl,rfl,true,congrArg V.bl (zRz h0),zN (q H (zB.refl H))⟩⟩
  | one hp=>
   refine ⟨_,rfl,_,rfl,.inr ⟨_,_,rfl,hp,kd,?_⟩⟩;exact ⟨_,rfl,zE ⟨_,rfl,_,_,_,_,rfl,rfl,SqT.of hp,rfl,_,_,rfl,rfl,_,rfl,zE ⟨_,rfl,_,rfl,zLE (by rfl) ⟨_,rfl,_,N,_,_,0,1,rfl,rfl,SqT.of hp,G.kN H,q H (zB.refl H)⟩⟩⟩⟩
  | noU hp h h0 hu=>
   refine ⟨_,rfl,_,rfl,.inr ⟨_,_,rfl,hp,kd,?_⟩⟩;rw [h];exact ⟨_,rfl,zE ⟨_,rfl,_,_,_,_,rfl,rfl,SqT.of hp,rfl,_,_,rfl,rfl,false,congrArg V.bl (zSA (by omega)),zE ⟨_,rfl,_,rfl,zKz (by rfl) ⟨_,rfl,_,false,rfl,hu,q⟩⟩⟩⟩
  | @ok p a b y u hp hy h=>
   obtain ⟨a0,b0,g1,hu⟩:=h;have fr:zBY [.int a,.int b] =true:=by
    simp [zBY,g1,b0]
    try omega
   refine ⟨_,rfl,.ref p,rfl,.inr ⟨p,_,rfl,hp,kd,?_⟩⟩;rw [fr];refine ⟨_,rfl,zE ⟨_,rfl,p,_,_,_,rfl,rfl,SqT.of hp,rfl,_,_,rfl,rfl,false,congrArg V.bl (zSA (by omega)),zE ?_⟩⟩;cases u with
   | none=>
    have hy:y= .non:=hy;subst hy;obtain ⟨rfl,rfl⟩:=hu;exact ⟨_,rfl,_,rfl,zLE (by rfl) ⟨_,rfl,p,N,0,1,0,1,rfl,rfl,SqT.of hp,G.kN H,q H (zB.refl H)⟩⟩
   | some us=>
    obtain ⟨v,ts,rfl,h1,h2⟩:=hy;have hu:GoodU us:=hu;exact ⟨_,rfl,_,rfl,zKz (by rfl) ⟨_,rfl,.ref v,true,rfl,.inr (.inl ⟨us,⟨v,ts,rfl,h1,h2⟩,hu.up,hu.le,(zIr hu).symm⟩),q⟩⟩
inductive NoTq (H:Hp):V->Prop
 | non:NoTq H .non
 | bl (b:Bool):NoTq H (.bl b)
 | int (i:Int):NoTq H (.int i)
 | str (x:Str):NoTq H (.str x)
 | lst {a:Addr} {xs:List V} (e:H a=some (.lst xs)):NoTq H (.ref a)
 | dic {a:Addr} {kvs:List (Key×V)} (e:H a=some (.dK kvs)):NoTq H (.ref a)
theorem zGg(K:zSS):PySem.W.kitOne K (.type "dict") (.type "tuple")=some false:=by kernel_rfl
theorem NoTq.ty(K:zSS){H:Hp}{x:V}(k:NoTq H x): ∃t,TyOf K H x t/\PySem.W.kitOne K t (.type "tuple")=some false:=by
 cases k with
 | non=>exact ⟨_,.non,zAl K⟩
 | bl b=>exact ⟨_,.bl b,zGS K⟩
 | int i=>exact ⟨_,.int i,zAY K⟩
 | str x=>exact ⟨_,.str x,zBB K⟩
 | lst e=>exact ⟨_,.lst e,zBh K⟩
 | dic e=>exact ⟨_,.dK e,zGg K⟩
theorem NoTq.same{H H':Hp}{x:V}(k:NoTq H x)(s:zB H H'):NoTq H' x:=by
 cases k with
 | non=>exact .non
 | bl b=>exact .bl b
 | int i=>exact .int i
 | str x=>exact .str x
 | lst e=>exact .lst (s _ _ e)
 | dic e=>exact .dic (s _ _ e)
inductive WdO (H:Hp):V->Option Str->Prop
 | noT {x:V} (h:NoTq H x):WdO H x none
 | emp {t:Addr} (e:H t=some (.tup [])):WdO H (.ref t) none
 | noS {t:Addr} {y:V} {ys:List V} (e:H t=some (.tup (y::ys))) (k:Kd H y) (h:isS y=false):WdO H (.ref t) none
 | str {t:Addr} {w:Str} {ys:List V} (e:H t=some (.tup (.str w::ys))):WdO H (.ref t) (some w)
def wdV:Option Str->V
 | none=> .non
 | some w=> .str w
def zMk:Sp:=fun vs H Q _=> ∃(x:V) (o:Option Str),vs= [x] /\WdO H x o/\Q (wdV o) H
theorem zQn:FnScope ["thing"] ["thing"] (zM zFQ):=fs
theorem zPR{f:Addr}{fd:FuncData}(F:Fun K "word_of" "word_of" zFQ f fd)(B:Bn mg):FnOk P w K mg base CX0 1 f fd ["thing"] zMk:=by
 refine F.ok zQn (fun vs H Q E h=>?_) (fun _ A _ s H vs Q E hr h=>?_)
 ·obtain ⟨x,o,rfl,_⟩:=h;rfl
 ·obtain ⟨x,o,rfl,hw,q⟩:=h;refine ⟨_,QB.out (zF
   (zf (t_w (zFU (yW (zk (zn (K:=K) rfl) rfl B.isi zS (qc (qw 0 rfl) (qc (zAG (v:= .ty "tuple") rfl B.tuple yT rfl (by decide) rfl) zA rfl) rfl) rfl) (fun _=>rfl)) (zFU (zU zBt (zk (zu (K:=K) rfl) rfl B.len yM (qc (qw 0 rfl) zA rfl) rfl) zC rfl) (zFY (yW (zk (zn (K:=K) rfl) rfl B.isi zS (qc (zY (K:=K) rfl (qw 0 rfl) zC (fun _ _=>rfl)) (qc (zAG (v:= .ty "str") rfl B.str zIb rfl (by decide) rfl) zA rfl) rfl) rfl) (fun _=>rfl)))))) (zK
    (zR (zY (K:=K) rfl (qw 0 rfl) zC (fun _ _=>rfl)))) zZ) (zK
   (zR zBp))),?_⟩
  cases hw with
  | noT h=>
   obtain ⟨ty,h1,h2⟩:=h.ty K;exact ⟨_,rfl,_,.ty "tuple",_,.type "tuple",_,rfl,rfl,h1,h2,_,rfl,zE (zE q)⟩
  | @emp t e=>
   exact ⟨_,rfl,_,.ty "tuple",_,.type "tuple",_,rfl,rfl,.tup e,zy K,_,rfl,zN ⟨_,rfl,t,_,rfl,.inr (SqT.of e),_,_,rfl,rfl,_,rfl,zE (zE q)⟩⟩
  | @noS t y ys e k h=>
   obtain ⟨ty,h1,h2⟩:=zIt K k;rw [h] at h2;exact ⟨_,rfl,_,.ty "tuple",_,.type "tuple",_,rfl,rfl,.tup e,zy K,_,rfl,zN ⟨_,rfl,t,_,rfl,.inr (SqT.of e),_,_,rfl,rfl,true,congrArg V.bl (zRz (by simp)),zN ⟨_,rfl,t,_,_,_,rfl,rfl,SqT.of e,ym (j:=0) rfl,_,.ty "str",_,.type "str",_,rfl,rfl,h1,h2,_,rfl,zE q⟩⟩⟩
  | @str t w ys e=>
   exact ⟨_,rfl,_,.ty "tuple",_,.type "tuple",_,rfl,rfl,.tup e,zy K,_,rfl,zN ⟨_,rfl,t,_,rfl,.inr (SqT.of e),_,_,rfl,rfl,true,congrArg V.bl (zRz (by simp)),zN ⟨_,rfl,t,_,_,_,rfl,rfl,SqT.of e,ym (j:=0) rfl,_,.ty "str",_,.type "str",_,rfl,rfl,.str w,zEw K,_,rfl,zN ⟨_,rfl,t,_,_,_,rfl,rfl,SqT.of e,ym (j:=0) rfl,q⟩⟩⟩⟩
def LF:List (Str×Int):= [("number",3),("name",2),("negative",2),("plus",3),("minus",3),("times",3),("over",3),("power",3),("if",5),("loop",5),("call",3)]
theorem zDM{H:Hp}{n:Str}(h:Nm n):Ths H (.str n):=zBF (zRq h.len (by decide))
inductive Fm (H:Hp):V->List V->Prop
 | num {t:Addr} {x y:V} (e:H t=some (.tup [.str "number",x,y])) (h:NuB H x y true):Fm H (.ref t) []
 | nam {t:Addr} {s:Str} (e:H t=some (.tup [.str "name",.str s])) (h:Nm s):Fm H (.ref t) []
 | neg {t:Addr} {x:V} (e:H t=some (.tup [.str "negative",x])):Fm H (.ref t) [x]
 | bin {t:Addr} {w:Str} {x y:V} (hw:zAn w) (e:H t=some (.tup [.str w,x,y])):Fm H (.ref t) [x,y]
 | pow {t:Addr} {x:V} {k:Int} (e:H t=some (.tup [.str "power",x,.int k])) (k0: -5<=k) (k1:k<=5):Fm H (.ref t) [x]
 | ite {t:Addr} {x y z u:V} (e:H t=some (.tup [.str "if",x,y,z,u])):Fm H (.ref t) [x,y,z,u]
 | loop {t:Addr} {s:Str} {x y:V} {k:Int} (e:H t=some (.tup [.str "loop",.str s,x,.int k,y])) (h:Nm s) (k0:0<=k) (k1:k<=12):Fm H (.ref t) [x,y]
 | call {t q:Addr} {s:Str} {ys:List V} (e:H t=some (.tup [.str "call",.str s,.ref q])) (h:Nm s) (e2:H q=some (.tup ys)) (l1:1<=ys.length) (l3:ys.length<=3):Fm H (.ref t) ys
inductive OdF (H:Hp):V->Prop
 | wd {x:V} (h:WdO H x none):OdF H x
 | no {t:Addr} {w:Str} {ys:List V} (e:H t=some (.tup (.str w::ys))) (h:kdV LF w=none):OdF H (.ref t)
 | len {t:Addr} {w:Str} {ys:List V} {k:Int} (e:H t=some (.tup (.str w::ys))) (h:kdV LF w=some k) (hk:((ys.length+1:Nat):Int)≠k):OdF H (.ref t)
 | num {t:Addr} {x y:V} (e:H t=some (.tup [.str "number",x,y])) (h:NuB H x y false):OdF H (.ref t)
 | nam {t:Addr} {y:V} (e:H t=some (.tup [.str "name",y])) (hy:Ths H y) (h:ya y=false):OdF H (.ref t)
 | pow {t:Addr} {x y:V} (e:H t=some (.tup [.str "power",x,y])) (hy:Kd H y) (h:wiB y (-5) 5=false):OdF H (.ref t)
 | loopN {t:Addr} {y a b c:V} (e:H t=some (.tup [.str "loop",y,a,b,c])) (hy:Ths H y) (h:ya y=false):OdF H (.ref t)
 | loopK {t:Addr} {s:Str} {a y c:V} (e:H t=some (.tup [.str "loop",.str s,a,y,c])) (hs:Nm s) (hy:Kd H y) (h:wiB y 0 12=false):OdF H (.ref t)
 | callN {t:Addr} {y z:V} (e:H t=some (.tup [.str "call",y,z])) (hy:Ths H y) (h:ya y=false):OdF H (.ref t)
 | callT {t:Addr} {s:Str} {z:V} (e:H t=some (.tup [.str "call",.str s,z])) (hs:Nm s) (h:NoTq H z):OdF H (.ref t)
 | callL {t q:Addr} {s:Str} {ys:List V} (e:H t=some (.tup [.str "call",.str s,.ref q])) (hs:Nm s) (e2:H q=some (.tup ys)) (h:ys.length=0\/3<ys.length) (l:ys.length<=1000):OdF H (.ref t)
def zNE:Sp:=fun vs H Q _=> ∃x:V,vs= [x] /\((OdF H x/\ ∀H',zB H H'->Q (.bl false) H')\/ ∃ks,Fm H x ks/\ ∀H',zB H H'->Q (.bl true) H')
theorem zMf:FnScope ["thing","word"] ["thing"] (zM zFW):=fs
theorem zPc{f fO fN fM fI LFa N:Addr}{fd fdO fdN fdM fdI:FuncData}(F:Fun K "has_form" "has_form" zFW f fd)(B:Bn mg)(G:Gn K mg N)(kF:KDic w K LFa LF)(mLF:mg "LENGTHS" =some (.ref LFa))
  (FO:Fun K "word_of" "word_of" zFQ fO fdO) (bO:zL K fdO ["thing"] []) (mO:mg "word_of" =some (.ref fO)) (GO:FnOk P w K mg base CX0 1 fO fdO ["thing"] zMk)
  (FN:Fun K "is_number" "is_number" zDH fN fdN) (bN:zL K fdN ["amount","unit"] []) (mN:mg "is_number" =some (.ref fN)) (GN:FnOk P w K mg base CX0 6 fN fdN ["amount","unit"] zON)
  (FM:Fun K "is_name" "is_name" zER fM fdM) (bM:zL K fdM ["thing"] []) (mM:mg "is_name" =some (.ref fM)) (GM:FnOk P w K mg base CX0 2 fM fdM ["thing"] zFX)
  (FI:Fun K "is_within" "is_within" zCI fI fdI) (bI:zL K fdI ["thing","least","most"] []) (mI:mg "is_within" =some (.ref fI)) (GI:FnOk P w K mg base CX0 2 fI fdI ["thing","least","most"] zKE):FnOk P w K mg base CX0 7 f fd ["thing"] zNE:=by
 obtain ⟨tp,mp⟩:=G.p;obtain ⟨tr,mr⟩:=G.r;obtain ⟨ta,ma⟩:=G.a;refine F.ok zMf (fun vs H Q E h=>?_) (fun _ A _ s H vs Q E hr6 h=>?_)
 ·obtain ⟨x,rfl,_⟩:=h;rfl
 ·obtain ⟨x,rfl,h⟩:=h;have hr2:Room 2 _:=hr6.mono (by decide);have hr1:Room 1 _:=hr6.mono (by decide);refine ⟨_,QB.out (zF
   (zd 1 zMf.nd rfl (zP GO hr1 rfl mO FO.kp bO .nil zH (qc (qw 0 rfl) zA rfl) rfl rfl rfl) rfl) (zF
   (zf (t_w (zAF (zKG kF (qw 1 rfl) (zc (v:= .ref LFa) rfl mLF rfl rfl) rfl) (yz (zU zCX (zk (zu (K:=K) rfl) rfl B.len yM (qc (qw 0 rfl) zA rfl) rfl) (zNL kF (zc (v:= .ref LFa) rfl mLF rfl rfl) (qw 1 rfl) (fun _ _=>rfl)) rfl)))) (zK
    (zR yh)) zZ) (zF
   (zf (zU zh (qw 1 rfl) zG rfl) (zK
    (zR (zP GN hr6 rfl mN FN.kp bN .nil zH (qc (zY (K:=K) rfl (qw 0 rfl) zC (fun _ _=>rfl)) (qc (zY (K:=K) rfl (qw 0 rfl) zC (fun _ _=>rfl)) zA rfl) rfl) rfl rfl rfl))) zZ) (zF
   (zf (zU zh (qw 1 rfl) zG rfl) (zK
    (zR (zP GM hr2 rfl mM FM.kp bM .nil zH (qc (zY (K:=K) rfl (qw 0 rfl) zC (fun _ _=>rfl)) zA rfl) rfl rfl rfl))) zZ) (zF
   (zf (zU zh (qw 1 rfl) zG rfl) (zK
    (zR (zP GI hr2 rfl mI FI.kp bI .nil zH (qc (zY (K:=K) rfl (qw 0 rfl) zC (fun _ _=>rfl)) (qc (zDD (zc (v:= .int 5) rfl mp ⟨tp,rfl⟩ rfl)) (qc (zc (v:= .int 5) rfl mp ⟨tp,rfl⟩ rfl) zA rfl) rfl) rfl) rfl rfl rfl))) zZ) (zF
   (zf (zU zh (qw 1 rfl) zG rfl) (zK
    (zR (zAo (zP GM hr2 rfl mM FM.kp bM .nil zH (qc (zY (K:=K) rfl (qw 0 rfl) zC (fun _ _=>rfl)) zA rfl) rfl rfl rfl) (zBO (zP GI hr2 rfl mI FI.kp bI .nil zH (qc (zY (K:=K) rfl (qw 0 rfl) zC (fun _ _=>rfl)) (qc zC (qc (zc (v:= .int 12) rfl mr ⟨tr,rfl⟩ rfl) zA rfl) rfl) rfl) rfl rfl rfl))))) zZ) (zF
   (zf (zU zh (qw 1 rfl) zG rfl) (zK
    (zR (zAo (zP GM hr2 rfl mM FM.kp bM .nil zH (qc (zY (K:=K) rfl (qw 0 rfl) zC (fun _ _=>rfl)) zA rfl) rfl rfl rfl) (zAo (zk (zn (K:=K) rfl) rfl B.isi zS (qc (zY (K:=K) rfl (qw 0 rfl) zC (fun _ _=>rfl)) (qc (zAG (v:= .ty "tuple") rfl B.tuple yT rfl (by decide) rfl) zA rfl) rfl) rfl) (zBO (zEe zCx zCx zC (zk (zu (K:=K) rfl) rfl B.len yM (qc (zY (K:=K) rfl (qw 0 rfl) zC (fun _ _=>rfl)) zA rfl) rfl) (zc (v:= .int 3) rfl ma ⟨ta,rfl⟩ rfl) rfl)))))) zZ) (zK
   (zR yh))))))))),?_⟩
  rcases h with ⟨od,q⟩|⟨ks,fm,q⟩
  ·cases od with
   | wd h=>
    exact ⟨_,rfl,_,none,rfl,h,_,rfl,rfl,_,rfl,zN (zN (q H (zB.refl H)))⟩
   | @no t w ys e h=>
    refine ⟨_,rfl,_,some w,rfl,.str e,_,rfl,rfl,true,?_,zN (zN (q H (zB.refl H)))⟩;show V.bl (!(kdV LF w).isSome)=_;rw [h];rfl
   | @len t w ys k e h hk=>
    refine ⟨_,rfl,_,some w,rfl,.str e,_,rfl,rfl,false,?_,zE ⟨_,rfl,t,_,rfl,.inr (SqT.of e),_,rfl,w,k,rfl,h,rfl,true,?_,zN (q H (zB.refl H))⟩⟩
    ·show V.bl (!(kdV LF w).isSome)=_;rw [h];rfl
    ·have: ¬V.int (((V.str w::ys).length:Nat):Int)=V.int k:=fun z=>hk (by injection z);exact congrArg V.bl (by rw [zSA this];rfl)
   | num e h=>
    refine ⟨_,rfl,_,some "number",rfl,.str e,_,rfl,rfl,_,rfl,zE ⟨_,rfl,_,_,rfl,.inr (SqT.of e),_,rfl,_,3,rfl,rfl,rfl,_,rfl,zE ?_⟩⟩;refine ⟨_,rfl,rfl,_,rfl,zN ⟨_,rfl,_,_,_,_,rfl,rfl,SqT.of e,rfl,_,rfl,_,_,_,_,rfl,rfl,SqT.of e,rfl,_,_,false,rfl,h,q⟩⟩
   | @nam t y e hy h=>
    refine ⟨_,rfl,_,some "name",rfl,.str e,_,rfl,rfl,_,rfl,zE ⟨_,rfl,_,_,rfl,.inr (SqT.of e),_,rfl,_,2,rfl,rfl,rfl,_,rfl,zE ?_⟩⟩;refine ⟨_,rfl,rfl,_,rfl,zE ⟨_,rfl,rfl,_,rfl,zN ⟨_,rfl,_,_,_,_,rfl,rfl,SqT.of e,rfl,y,rfl,hy,fun H1 s1=>?_⟩⟩⟩;rw [h];exact q H1 s1
   | @pow t x y e hy h=>
    refine ⟨_,rfl,_,some "power",rfl,.str e,_,rfl,rfl,_,rfl,zE ⟨_,rfl,_,_,rfl,.inr (SqT.of e),_,rfl,_,3,rfl,rfl,rfl,_,rfl,zE ?_⟩⟩;refine ⟨_,rfl,rfl,_,rfl,zE ⟨_,rfl,rfl,_,rfl,zE ⟨_,rfl,rfl,_,rfl,zN ⟨_,rfl,_,_,_,_,rfl,rfl,SqT.of e,rfl,_,rfl,y,-5,5,rfl,hy,?_⟩⟩⟩⟩;rw [h];exact q H (zB.refl H)
   | @loopN t y a b c e hy h=>
    refine ⟨_,rfl,_,some "loop",rfl,.str e,_,rfl,rfl,_,rfl,zE ⟨_,rfl,_,_,rfl,.inr (SqT.of e),_,rfl,_,5,rfl,rfl,rfl,_,rfl,zE ?_⟩⟩;refine ⟨_,rfl,rfl,_,rfl,zE ⟨_,rfl,rfl,_,rfl,zE ⟨_,rfl,rfl,_,rfl,zE ⟨_,rfl,rfl,_,rfl,zN ⟨_,rfl,_,_,_,_,rfl,rfl,SqT.of e,rfl,y,rfl,hy,fun H1 s1=>?_⟩⟩⟩⟩⟩;rw [h];exact ⟨_,rfl,zE (q H1 s1)⟩
   | @loopK t s a y c e hs hy h=>
    refine ⟨_,rfl,_,some "loop",rfl,.str e,_,rfl,rfl,_,rfl,zE ⟨_,rfl,_,_,rfl,.inr (SqT.of e),_,rfl,_,5,rfl,rfl,rfl,_,rfl,zE ?_⟩⟩;refine ⟨_,rfl,rfl,_,rfl,zE ⟨_,rfl,rfl,_,rfl,zE ⟨_,rfl,rfl,_,rfl,zE ⟨_,rfl,rfl,_,rfl,zN ⟨_,rfl,_,_,_,_,rfl,rfl,SqT.of e,rfl,_,rfl,zDM hs,fun H1 s1=>?_⟩⟩⟩⟩⟩;rw [show ya (.str s)=true from hs];refine ⟨_,rfl,zN ⟨_,rfl,_,_,_,_,rfl,rfl,SqT.of (s1 _ _ e),rfl,y,0,12,rfl,hy.same s1,?_⟩⟩;rw [h];exact q H1 s1
   | @callN t y z e hy h=>
    refine ⟨_,rfl,_,some "call",rfl,.str e,_,rfl,rfl,_,rfl,zE ⟨_,rfl,_,_,rfl,.inr (SqT.of e),_,rfl,_,3,rfl,rfl,rfl,_,rfl,zE ?_⟩⟩;refine ⟨_,rfl,rfl,_,rfl,zE ⟨_,rfl,rfl,_,rfl,zE ⟨_,rfl,rfl,_,rfl,zE ⟨_,rfl,rfl,_,rfl,zE ⟨_,rfl,rfl,_,rfl,zN ⟨_,rfl,_,_,_,_,rfl,rfl,SqT.of e,rfl,y,rfl,hy,fun H1 s1=>?_⟩⟩⟩⟩⟩⟩;rw [h];exact ⟨_,rfl,zE (q H1 s1)⟩
   | @callT t s z e hs h=>
    refine ⟨_,rfl,_,some "call",rfl,.str e,_,rfl,rfl,_,rfl,zE ⟨_,rfl,_,_,rfl,.inr (SqT.of e),_,rfl,_,3,rfl,rfl,rfl,_,rfl,zE ?_⟩⟩;refine ⟨_,rfl,rfl,_,rfl,zE ⟨_,rfl,rfl,_,rfl,zE ⟨_,rfl,rfl,_,rfl,zE ⟨_,rfl,rfl,_,rfl,zE ⟨_,rfl,rfl,_,rfl,zN ⟨_,rfl,_,_,_,_,rfl,rfl,SqT.of e,rfl,_,rfl,zDM hs,fun H1 s1=>?_⟩⟩⟩⟩⟩⟩;rw [show ya (.str s)=true from hs];obtain ⟨ty,h1,h2⟩:=(h.same s1).ty K;exact ⟨_,rfl,zN ⟨_,rfl,_,_,_,_,rfl,rfl,SqT.of (s1 _ _ e),rfl,_,.ty "tuple",_,.type "tuple",_,rfl,rfl,h1,h2,_,rfl,zE (q H1 s1)⟩⟩
   | @callL t qa s ys e hs e2 h l=>
    refine ⟨_,rfl,_,some "call",rfl,.str e,_,rfl,rfl,_,rfl,zE ⟨_,rfl,_,_,rfl,.inr (SqT.of e),_,rfl,_,3,rfl,rfl,rfl,_,rfl,zE ?_⟩⟩;refine ⟨_,rfl,rfl,_,rfl,zE ⟨_,rfl,rfl,_,rfl,zE ⟨_,rfl,rfl,_,rfl,zE ⟨_,rfl,rfl,_,rfl,zE ⟨_,rfl,rfl,_,rfl,zN ⟨_,rfl,_,_,_,_,rfl,rfl,SqT.of e,rfl,_,rfl,zDM hs,fun H1 s1=>?_⟩⟩⟩⟩⟩⟩;rw [show ya (.str s)=true from hs];refine ⟨_,rfl,zN ⟨_,rfl,_,_,_,_,rfl,rfl,SqT.of (s1 _ _ e),rfl,_,.ty "tuple",_,.type "tuple",_,rfl,rfl,.tup (s1 _ _ e2),zy K,_,rfl,zN ⟨_,rfl,_,_,_,_,rfl,rfl,SqT.of (s1 _ _ e),rfl,_,_,rfl,.inr (SqT.of (s1 _ _ e2)),_,_,rfl,rfl,_,rfl,yE (fun c=>?_) (fun c=>?_)⟩⟩⟩
    ·have c1:(1:Int)<=(ys.length:Int):=by simpa using c
     have q:=q H1 s1;rw [<-show decide ((ys.length:Int)<=3)=false from zSA (by omega)] at q;exact ⟨_,_,rfl,rfl,q⟩
    ·exact q H1 s1
  ·cases fm with
   | num e h=>
    refine ⟨_,rfl,_,some "number",rfl,.str e,_,rfl,rfl,_,rfl,zE ⟨_,rfl,_,_,rfl,.inr (SqT.of e),_,rfl,_,3,rfl,rfl,rfl,_,rfl,zE ?_⟩⟩;refine ⟨_,rfl,rfl,_,rfl,zN ⟨_,rfl,_,_,_,_,rfl,rfl,SqT.of e,rfl,_,rfl,_,_,_,_,rfl,rfl,SqT.of e,rfl,_,_,true,rfl,h,q⟩⟩
   | @nam t s e h=>
    refine ⟨_,rfl,_,some "name",rfl,.str e,_,rfl,rfl,_,rfl,zE ⟨_,rfl,_,_,rfl,.inr (SqT.of e),_,rfl,_,2,rfl,rfl,rfl,_,rfl,zE ?_⟩⟩;refine ⟨_,rfl,rfl,_,rfl,zE ⟨_,rfl,rfl,_,rfl,zN ⟨_,rfl,_,_,_,_,rfl,rfl,SqT.of e,rfl,_,rfl,zDM h,fun H1 s1=>?_⟩⟩⟩;rw [show ya (.str s)=true from h];exact q H1 s1
   | neg e=>
    refine ⟨_,rfl,_,some "negative",rfl,.str e,_,rfl,rfl,_,rfl,zE ⟨_,rfl,_,_,rfl,.inr (SqT.of e),_,rfl,_,2,rfl,rfl,rfl,_,rfl,zE ?_⟩⟩;exact ⟨_,rfl,rfl,_,rfl,zE ⟨_,rfl,rfl,_,rfl,zE ⟨_,rfl,rfl,_,rfl,zE ⟨_,rfl,rfl,_,rfl,zE ⟨_,rfl,rfl,_,rfl,zE (q H (zB.refl H))⟩⟩⟩⟩⟩
   | bin hw e=>
    rcases hw with rfl | rfl | rfl | rfl
    all_goals refine ⟨_,rfl,_,some _,rfl,.str e,_,rfl,rfl,_,rfl,zE ⟨_,rfl,_,_,rfl,.inr (SqT.of e),_,rfl,_,3,rfl,rfl,rfl,_,rfl,zE ?_⟩⟩
    all_goals exact ⟨_,rfl,rfl,_,rfl,zE ⟨_,rfl,rfl,_,rfl,zE ⟨_,rfl,rfl,_,rfl,zE ⟨_,rfl,rfl,_,rfl,zE ⟨_,rfl,rfl,_,rfl,zE (q H (zB.refl H))⟩⟩⟩⟩⟩
   | @pow t x k e k0 k1=>
    refine ⟨_,rfl,_,some "power",rfl,.str e,_,rfl,rfl,_,rfl,zE ⟨_,rfl,_,_,rfl,.inr (SqT.of e),_,rfl,_,3,rfl,rfl,rfl,_,rfl,zE ?_⟩⟩;refine ⟨_,rfl,rfl,_,rfl,zE ⟨_,rfl,rfl,_,rfl,zE ⟨_,rfl,rfl,_,rfl,zN ⟨_,rfl,_,_,_,_,rfl,rfl,SqT.of e,rfl,_,rfl,.int k,-5,5,rfl,.int k,?_⟩⟩⟩⟩;rw [show wiB (.int k) (-5) 5=true by show (decide (-5<=k)&&decide (k<=5))=true;rw [zRz k0,zRz k1];rfl];exact q H (zB.refl H)
   | ite e=>
    refine ⟨_,rfl,_,some "if",rfl,.str e,_,rfl,rfl,_,rfl,zE ⟨_,rfl,_,_,rfl,.inr (SqT.of e),_,rfl,_,5,rfl,rfl,rfl,_,rfl,zE ?_⟩⟩;exact ⟨_,rfl,rfl,_,rfl,zE ⟨_,rfl,rfl,_,rfl,zE ⟨_,rfl,rfl,_,rfl,zE ⟨_,rfl,rfl,_,rfl,zE ⟨_,rfl,rfl,_,rfl,zE (q H (zB.refl H))⟩⟩⟩⟩⟩
   | @loop t s x y k e h k0 k1=>
    refine ⟨_,rfl,_,some "loop",rfl,.str e,_,rfl,rfl,_,rfl,zE ⟨_,rfl,_,_,rfl,.inr (SqT.of e),_,rfl,_,5,rfl,rfl,rfl,_,rfl,zE ?_⟩⟩;refine ⟨_,rfl,rfl,_,rfl,zE ⟨_,rfl,rfl,_,rfl,zE ⟨_,rfl,rfl,_,rfl,zE ⟨_,rfl,rfl,_,rfl,zN ⟨_,rfl,_,_,_,_,rfl,rfl,SqT.of e,rfl,_,rfl,zDM h,fun H1 s1=>?_⟩⟩⟩⟩⟩;rw [show ya (.str s)=true from h];refine ⟨_,rfl,zN ⟨_,rfl,_,_,_,_,rfl,rfl,SqT.of (s1 _ _ e),rfl,.int k,0,12,rfl,.int k,?_⟩⟩;rw [show wiB (.int k) 0 12=true by show (decide (0<=k)&&decide (k<=12))=true;rw [zRz k0,zRz k1];rfl];exact q H1 s1
   | call e h e2 l1 l3=>
    refine ⟨_,rfl,_,some "call",rfl,.str e,_,rfl,rfl,_,rfl,zE ⟨_,rfl,_,_,rfl,.inr (SqT.of e),_,rfl,_,3,rfl,rfl,rfl,_,rfl,zE ?_⟩⟩;refine ⟨_,rfl,rfl,_,rfl,zE ⟨_,rfl,rfl,_,rfl,zE ⟨_,rfl,rfl,_,rfl,zE ⟨_,rfl,rfl,_,rfl,zE ⟨_,rfl,rfl,_,rfl,zN ⟨_,rfl,_,_,_,_,rfl,rfl,SqT.of e,rfl,_,rfl,zDM h,fun H1 s1=>?_⟩⟩⟩⟩⟩⟩;rw [show ya (.str _)=true from h];refine ⟨_,rfl,zN ⟨_,rfl,_,_,_,_,rfl,rfl,SqT.of (s1 _ _ e),rfl,_,.ty "tuple",_,.type "tuple",_,rfl,rfl,.tup (s1 _ _ e2),zy K,_,rfl,zN ⟨_,rfl,_,_,_,_,rfl,rfl,SqT.of (s1 _ _ e),rfl,_,_,rfl,.inr (SqT.of (s1 _ _ e2)),_,_,rfl,rfl,true,congrArg V.bl (zRz (by omega)),zN ⟨_,_,rfl,rfl,?_⟩⟩⟩⟩;rw [show decide ((ks.length:Int)<=3)=true from zRz (by omega)];exact q H1 s1
def zGO:Sp:=fun vs H Q _=> ∃(x:V) (ks:List V),vs= [x] /\Fm H x ks/\ ∀l H',zB H H'->H l=none->H' l=some (.lst ks)->Q (.ref l) H'
theorem zNN:FnScope ["told","word"] ["told"] (zM zCP):=fs
theorem XtL.same{H H':Hp}{xs:List V}{es:List Ex}(h:XtL H xs es)(s:zB H H'):XtL H' xs es:=Paired.mapM h fun _ _ _ k=>Xt.same s k
theorem zPU{f:Addr}{fd:FuncData}(F:Fun K "kids_of" "kids_of" zCP f fd)(B:Bn mg):FnOk P w K mg base CX0 1 f fd ["told"] zGO:=by
 refine F.ok zNN (fun vs H Q E h=>?_) (fun _ A _ s H vs Q E hr h=>?_)
 ·obtain ⟨x,ks,rfl,_⟩:=h;rfl
 ·obtain ⟨x,ks,rfl,fm,q⟩:=h;refine ⟨_,QB.out (zF
   (zd 1 zNN.nd rfl (zY (K:=K) rfl (qw 0 rfl) zC (fun _ _=>rfl)) rfl) (zF
   (zf (t_w (zAF (zU zh (qw 1 rfl) zG rfl) (yz (zU zh (qw 1 rfl) zG rfl)))) (zK
    (zR (zW zA))) zZ) (zF
   (zf (zU zh (qw 1 rfl) zG rfl) (zK
    (zR (zW (qc (zY (K:=K) rfl (qw 0 rfl) zC (fun _ _=>rfl)) zA rfl)))) zZ) (zF
   (zf (zU zh (qw 1 rfl) zG rfl) (zK
    (zR (zW (qc (zY (K:=K) rfl (qw 0 rfl) zC (fun _ _=>rfl)) (qc (zY (K:=K) rfl (qw 0 rfl) zC (fun _ _=>rfl)) zA rfl) rfl)))) zZ) (zF
   (zf (zU zh (qw 1 rfl) zG rfl) (zK
    (zR (zBw (zBI (K:=K) rfl) rfl B.list zCE (qc (zY (K:=K) rfl (qw 0 rfl) zC (fun _ _=>rfl)) zA rfl) rfl))) zZ) (zK
   (zR (zBw (zBI (K:=K) rfl) rfl B.list zCE (qc (zCN (K:=K) rfl (qw 0 rfl) (yp zC) zAH) zA rfl) rfl)))))))),?_⟩
  cases fm with
  | num e h=>exact ⟨_,rfl,_,_,_,_,rfl,rfl,SqT.of e,rfl,_,rfl,rfl,_,rfl,zN (zN (nwf fun l G hl s e=>q l G s hl e))⟩
  | nam e h=>exact ⟨_,rfl,_,_,_,_,rfl,rfl,SqT.of e,rfl,_,rfl,rfl,_,rfl,zE ⟨_,rfl,rfl,_,rfl,zN (nwf fun l G hl s e=>q l G s hl e)⟩⟩
  | pow e k0 k1=>exact ⟨_,rfl,_,_,_,_,rfl,rfl,SqT.of e,rfl,_,rfl,rfl,_,rfl,zE ⟨_,rfl,rfl,_,rfl,zE ⟨_,rfl,rfl,_,rfl,zN ⟨_,rfl,_,_,_,_,rfl,rfl,SqT.of e,rfl,nwf fun l G hl s e=>q l G s hl e⟩⟩⟩⟩
  | loop e h k0 k1=>exact ⟨_,rfl,_,_,_,_,rfl,rfl,SqT.of e,rfl,_,rfl,rfl,_,rfl,zE ⟨_,rfl,rfl,_,rfl,zE ⟨_,rfl,rfl,_,rfl,zE ⟨_,rfl,rfl,_,rfl,zN ⟨_,rfl,_,_,_,_,rfl,rfl,SqT.of e,rfl,_,rfl,_,_,_,_,rfl,rfl,SqT.of e,rfl,nwf fun l G hl s e=>q l G s hl e⟩⟩⟩⟩⟩
  | call e h e2 l1 l3=>exact ⟨_,rfl,_,_,_,_,rfl,rfl,SqT.of e,rfl,_,rfl,rfl,_,rfl,zE ⟨_,rfl,rfl,_,rfl,zE ⟨_,rfl,rfl,_,rfl,zE ⟨_,rfl,rfl,_,rfl,zE ⟨_,rfl,rfl,_,rfl,zN ⟨_,rfl,_,_,_,_,rfl,rfl,SqT.of e,rfl,_,_,rfl,.inr (SqT.of e2),fun l hl=>q l _ (zB.upd hl) hl zD⟩⟩⟩⟩⟩⟩
  | @neg t x e=>exact ⟨_,rfl,_,_,_,_,rfl,rfl,SqT.of e,rfl,_,rfl,rfl,_,rfl,zE ⟨_,rfl,rfl,_,rfl,zE ⟨_,rfl,rfl,_,rfl,zE ⟨_,rfl,rfl,_,rfl,zE ⟨_,rfl,rfl,_,rfl,zE ⟨_,rfl,_,rfl,slc [x] e fun p G s e=>⟨p,_,rfl,.inr (SqT.of e),fun l hl=>q l _ (s.trans (zB.upd hl)) (zB.none s hl) zD⟩⟩⟩⟩⟩⟩⟩
  | @bin t w x y hw e=>
   rcases hw with rfl | rfl | rfl | rfl
   all_goals exact ⟨_,rfl,_,_,_,_,rfl,rfl,SqT.of e,rfl,_,rfl,rfl,_,rfl,zE ⟨_,rfl,rfl,_,rfl,zE ⟨_,rfl,rfl,_,rfl,zE ⟨_,rfl,rfl,_,rfl,zE ⟨_,rfl,rfl,_,rfl,zE ⟨_,rfl,_,rfl,slc [x,y] e fun p G s e=>⟨p,_,rfl,.inr (SqT.of e),fun l hl=>q l _ (s.trans (zB.upd hl)) (zB.none s hl) zD⟩⟩⟩⟩⟩⟩⟩
  | @ite t x y z u e=>exact ⟨_,rfl,_,_,_,_,rfl,rfl,SqT.of e,rfl,_,rfl,rfl,_,rfl,zE ⟨_,rfl,rfl,_,rfl,zE ⟨_,rfl,rfl,_,rfl,zE ⟨_,rfl,rfl,_,rfl,zE ⟨_,rfl,rfl,_,rfl,zE ⟨_,rfl,_,rfl,slc [x,y,z,u] e fun p G s e=>⟨p,_,rfl,.inr (SqT.of e),fun l hl=>q l _ (s.trans (zB.upd hl)) (zB.none s hl) zD⟩⟩⟩⟩⟩⟩⟩
theorem zAS{H:Hp}{e:Ex}{v:V}(hx:Xt H e v)(ok:Ok e): ∃ks,Fm H v ks/\XtL H ks (zX e):=by
 cases e with
 | num a b u=>obtain ⟨t,p,y,rfl,h1,h2,h3⟩:=hx;exact ⟨_,.num h1 (.ok h2 h3 ok),.nil⟩
 | nam s=>obtain ⟨t,rfl,h1⟩:=hx;exact ⟨_,.nam h1 ok,.nil⟩
 | neg e=>obtain ⟨t,x,rfl,h1,h2⟩:=hx;exact ⟨_,.neg h1,.cons h2 .nil⟩
 | bin w e f=>obtain ⟨t,x,y,rfl,h1,h2,h3⟩:=hx;exact ⟨_,.bin ok.1 h1,.cons h2 (.cons h3 .nil)⟩
 | pow e k=>obtain ⟨t,x,rfl,h1,h2⟩:=hx;exact ⟨_,.pow h1 ok.2.1 ok.2.2,.cons h2 .nil⟩
 | ite a b c d=>obtain ⟨t,x,y,z,u,rfl,h1,h2,h3,h4,h5⟩:=hx;exact ⟨_,.ite h1,.cons h2 (.cons h3 (.cons h4 (.cons h5 .nil)))⟩
 | loop s e k f=>obtain ⟨t,x,y,rfl,h1,h2,h3⟩:=hx;exact ⟨_,.loop h1 ok.1 ok.2.2.1 ok.2.2.2.1,.cons h2 (.cons h3 .nil)⟩
 | call1 s e=>obtain ⟨t,q,x,rfl,h1,h0,h2⟩:=hx;exact ⟨_,.call h1 ok.1 h0 (show 1<=1 by decide) (show 1<=3 by decide),.cons h2 .nil⟩
 | call2 s e f=>obtain ⟨t,q,x,y,rfl,h1,h0,h2,h3⟩:=hx;exact ⟨_,.call h1 ok.1 h0 (show 1<=2 by decide) (show 2<=3 by decide),.cons h2 (.cons h3 .nil)⟩
 | call3 s e f g=>obtain ⟨t,q,x,y,z,rfl,h1,h0,h2,h3,h4⟩:=hx;exact ⟨_,.call h1 ok.1 h0 (show 1<=3 by decide) (show 3<=3 by decide),.cons h2 (.cons h3 (.cons h4 .nil))⟩
def zI:Ex->Nat
 | .num ..=>1
 | .nam _=>1
 | .neg e=>1+zI e
 | .bin _ e f=>1+(zI e+zI f)
 | .pow e _=>1+zI e
 | .ite a b c d=>1+(zI a+(zI b+(zI c+zI d)))
 | .loop _ e _ f=>1+(zI e+zI f)
 | .call1 _ e=>1+zI e
 | .call2 _ e f=>1+(zI e+zI f)
 | .call3 _ e f g=>1+(zI e+(zI f+zI g))
def zO:Ex->Nat
 | .num ..=>1
 | .nam _=>1
 | .neg e=>1+zO e
 | .bin _ e f=>1+max (zO e) (zO f)
 | .pow e _=>1+zO e
 | .ite a b c d=>1+max (zO a) (max (zO b) (max (zO c) (zO d)))
 | .loop _ e _ f=>1+max (zO e) (zO f)
 | .call1 _ e=>1+zO e
 | .call2 _ e f=>1+max (zO e) (zO f)
 | .call3 _ e f g=>1+max (zO e) (max (zO f) (zO g))
theorem zAR(e:Ex):zI e=1+((zX e).map zI).sum:=by cases e<;>simp [zI,zX]
theorem yG{e k:Ex}(h:k∈zX e):zO k+1<=zO e:=by
 cases e<;>simp [zX] at h<;>simp only [zO] <;>first | omega |(rcases h with rfl | rfl | rfl | rfl<;>omega)|(rcases h with rfl | rfl | rfl<;>omega)|(rcases h with rfl | rfl<;>omega)|(subst h;omega)
theorem yc{e k:Ex}(ok:Ok e)(h:k∈zX e):Ok k:=by
 cases e with
 | num | nam=>simp [zX] at h
 | neg e=>simp [zX] at h;subst h;exact ok
 | bin w e f=>simp [zX] at h;rcases h with rfl | rfl;exact ok.2.1;exact ok.2.2
 | pow e n=>simp [zX] at h;subst h;exact ok.1
 | ite a b c d=>simp [zX] at h;rcases h with rfl | rfl | rfl | rfl;exact ok.1;exact ok.2.1;exact ok.2.2.1;exact ok.2.2.2
 | loop s e n f=>simp [zX] at h;rcases h with rfl | rfl;exact ok.2.1;exact ok.2.2.2.2
 | call1 s e=>simp [zX] at h;subst h;exact ok.2
 | call2 s e f=>simp [zX] at h;rcases h with rfl | rfl;exact ok.2.1;exact ok.2.2
 | call3 s e f g=>simp [zX] at h;rcases h with rfl | rfl | rfl;exact ok.2.1;exact ok.2.2.1;exact ok.2.2.2
theorem zAd(e:Ex):(zX e).length<=4:=by cases e<;>simp [zX]
def tot(ps:List (Ex×Nat)):Nat:=(ps.map fun p=>zI p.1).sum
theorem zCL(ps:List (Ex×Nat))(p:Ex×Nat):tot (ps++ [p])=tot ps+zI p.1:=by simp [tot]
theorem zAN(e:Ex):1<=zI e:=by cases e<;>simp [zI]
theorem Paired.snocI{α β:Type}{F:α->β->Prop}{xs:List α}{x:α}: ∀{zs:List β},Paired F (xs++ [x]) zs-> ∃ys y,zs=ys++ [y] /\Paired F xs ys/\F x y:=by
 induction xs with
 | nil=>
  intro zs h;cases h with
  | cons h r=>
   cases r;exact ⟨[],_,rfl,.nil,h⟩
 | cons a xs ih=>
  intro zs h;cases h with
  | @cons _ b _ l2 h r=>
   obtain ⟨ys,y,rfl,h1,h2⟩:=ih r;exact ⟨b::ys,y,rfl,.cons h h1,h2⟩
theorem zAw(e:Ex):1<=zO e:=by cases e<;>simp [zO]
theorem zHL(ps qs:List (Ex×Nat)):tot (ps++qs)=tot ps+tot qs:=by simp [tot]
theorem zFu(e:Ex)(d:Nat):tot ((zX e).map fun k=>(k,d))+1=zI e:=by
 rw [zAR e,tot,List.map_map];have:((zX e).map ((fun p:Ex×Nat=>zI p.1)∘fun k=>(k,d)))=(zX e).map zI:=List.map_congr_left fun _ _=>rfl;rw [this];omega
theorem Ths.same{H H':Hp}{x:V}(h:Ths H x)(s:zB H H'):Ths H' x:=⟨h.1.same s,h.2⟩
theorem NoT.same{H H':Hp}{x:V}(k:NoT H x)(s:zB H H'):NoT H' x:=by
 cases k with
 | non=>exact .non
 | str x=>exact .str x
 | int i=>exact .int i
 | lst e=>exact .lst (s _ _ e)
theorem SuB.same{H H':Hp}{x:V}{b:Bool}(h:SuB H x b)(s:zB H H'):SuB H' x b:=h.elim (fun ⟨a,c⟩=> .inl ⟨a.same s,c⟩) fun h=> .inr (h.elim (fun ⟨us,a,c⟩=> .inl ⟨us,a.same s,c⟩) fun ⟨u,xs,a,e,l,w,c⟩=> .inr ⟨u,xs,a,s _ _ e,l,w.same s,c⟩)
theorem NuB.same{H H':Hp}{x y:V}{b:Bool}(h:NuB H x y b)(s:zB H H'):NuB H' x y b:=by
 cases h with
 | ok hp hy h=>exact .ok (s _ _ hp) (hy.same s) h
 | noT h=>exact .noT (h.same s)
 | noF hp k h=>exact .noF (s _ _ hp) (fun z hz=>(k z hz).same s) h
 | neg hp h h0=>exact .neg (s _ _ hp) h h0
 | one hp=>exact .one (s _ _ hp)
 | noU hp h h0 hu=>exact .noU (s _ _ hp) h h0 (hu.same s)
theorem Fm.same{H H':Hp}{v:V}{ks:List V}(h:Fm H v ks)(s:zB H H'):Fm H' v ks:=by
 cases h with
 | num e h=>exact .num (s _ _ e) (h.same s)
 | nam e h=>exact .nam (s _ _ e) h
 | neg e=>exact .neg (s _ _ e)
 | bin hw e=>exact .bin hw (s _ _ e)
 | pow e k0 k1=>exact .pow (s _ _ e) k0 k1
 | ite e=>exact .ite (s _ _ e)
 | loop e h k0 k1=>exact .loop (s _ _ e) h k0 k1
 | call e h e2 l1 l3=>exact .call (s _ _ e) h (s _ _ e2) l1 l3
theorem OdF.same{H H':Hp}{v:V}(h:OdF H v)(s:zB H H'):OdF H' v:=by
 cases h with
 | wd h=>
  cases h with
  | noT h=>exact .wd (.noT (h.same s))
  | emp e=>exact .wd (.emp (s _ _ e))
  | noS e k h=>exact .wd (.noS (s _ _ e) (k.same s) h)
 | no e h=>exact .no (s _ _ e) h
 | len e h hk=>exact .len (s _ _ e) h hk
 | num e h=>exact .num (s _ _ e) (h.same s)
 | nam e hy h=>exact .nam (s _ _ e) (hy.same s) h
 | pow e hy h=>exact .pow (s _ _ e) (hy.same s) h
 | loopN e hy h=>exact .loopN (s _ _ e) (hy.same s) h
 | loopK e hs hy h=>exact .loopK (s _ _ e) hs (hy.same s) h
 | callN e hy h=>exact .callN (s _ _ e) (hy.same s) h
 | callT e hs h=>exact .callT (s _ _ e) hs (h.same s)
 | callL e hs e2 h l=>exact .callL (s _ _ e) hs (s _ _ e2) h l
theorem Fm.len{H:Hp}{v:V}{ks:List V}(h:Fm H v ks):ks.length<=4:=by
 cases h with
 | call e h e2 l1 l3=>omega
 | _=>simp
inductive Yt (H:Hp):Ex->V->Prop
 | odd {v:V} (h:OdF H v):Yt H (.nam "") v
 | fm {e:Ex} {v:V} {ks:List V} (hne:e≠ .nam "") (h:Fm H v ks) (kd:Paired (fun k e=>Yt H e k) ks (zX e)):Yt H e v
def yI:Ex->Bool
 | .num ..=>false
 | .nam s=>decide (s= "")
 | .neg e=>yI e
 | .bin _ e f=>yI e || yI f
 | .pow e _=>yI e
 | .ite a b c d=>yI a ||(yI b ||(yI c || yI d))
 | .loop _ e _ f=>yI e || yI f
 | .call1 _ e=>yI e
 | .call2 _ e f=>yI e || yI f
 | .call3 _ e f g=>yI e ||(yI f || yI g)
theorem zIj: ∀{xs:List Nat} {x:Nat},x∈xs->x<=xs.sum
 | a::xs,x,h=>by
  rw [List.sum_cons];rcases zST.mp h with rfl | h
  ·omega
  ·have:=zIj h;omega
theorem zEy{e k:Ex}(h:k∈zX e):zI k<zI e:=by
 have:=zAR e;have:=zIj (zSZ.mpr ⟨k,h,rfl⟩:zI k∈(zX e).map zI);omega
theorem Paired.map2{α β:Type}{F G:α->β->Prop}{xs:List α}{ys:List β}(h:Paired F xs ys)(f: ∀x y,y∈ys->F x y->G x y):Paired G xs ys:=by
 induction h with
 | nil=>exact .nil
 | cons h _ ih=>exact .cons (f _ _ (List.mem_cons_self ..) h) (ih fun x y hy k=>f x y (zSI _ hy) k)
theorem Yt.same'{H H':Hp}(s:zB H H'): ∀(n:Nat) {e:Ex} {v:V},zI e<=n->Yt H e v->Yt H' e v
 | 0,e,_,hn,_=>absurd hn (by have:=zAN e;omega)
 | n+1,e,v,hn,h=>by
  cases h with
  | odd h=>exact .odd (h.same s)
  | fm hne h kd=>exact .fm hne (h.same s) (Paired.map2 kd fun k e' he hk=>Yt.same' s n (by have:=zEy he;omega) hk)
theorem Yt.same{H H':Hp}{e:Ex}{v:V}(h:Yt H e v)(s:zB H H'):Yt H' e v:=Yt.same' s (zI e) (zRg _) h
theorem zKn{s:Str}(h:Nm s):s≠ "" :=fun z=>by
 have h:ya (.str s)=true:=h;rw [z] at h;exact absurd h (by decide+kernel)
theorem zJU{H:Hp}: ∀(n:Nat) {e:Ex} {v:V},zI e<=n->Xt H e v->Ok e->Yt H e v
 | 0,e,_,hn,_,_=>absurd hn (by have:=zAN e;omega)
 | n+1,e,v,hn,h,ok=>by
  obtain ⟨ks,f,kd⟩:=zAS h ok;exact .fm (fun z=>by rw [z] at ok;exact zKn ok rfl) f (Paired.map2 kd fun k e' he hk=>zJU n (by have:=zEy he;omega) hk (yc ok he))
theorem zo{H:Hp}{e:Ex}{v:V}(h:Xt H e v)(ok:Ok e):Yt H e v:=zJU (zI e) (zRg _) h ok
theorem yR: ∀{e:Ex},Ok e->yI e=false
 | .num ..,_=>rfl
 | .nam s,h=>zSA (zKn h)
 | .neg e,h=>yR (e:=e) h
 | .bin _ e f,h=>by simp [yI,yR h.2.1,yR h.2.2]
 | .pow e _,h=>yR (e:=e) h.1
 | .ite a b c d,h=>by simp [yI,yR h.1,yR h.2.1,yR h.2.2.1,yR h.2.2.2]
 | .loop _ e _ f,h=>by simp [yI,yR h.2.1,yR h.2.2.2.2]
 | .call1 _ e,h=>yR (e:=e) h.2
 | .call2 _ e f,h=>by simp [yI,yR h.2.1,yR h.2.2]
 | .call3 _ e f g,h=>by simp [yI,yR h.2.1,yR h.2.2.1,yR h.2.2.2]
def bd(p:Ex×Nat):Bool:=yI p.1 || decide (11<p.2+zO p.1)
theorem zHK{e:Ex}{m:Nat}(h: ∀k∈zX e,zO k<=m):zO e<=m+1:=by
 cases e<;>simp [zX] at h<;>simp only [zO] <;>omega
theorem zDc{e:Ex}(hne:e≠ .nam ""):yI e=(zX e).any yI:=by
 cases e with
 | nam s=>exact zSA fun z=>hne (by rw [z])
 | _=>simp [zX,yI]
theorem zLZ{e:Ex}{d:Nat}(hne:e≠ .nam "")(hd:d<=10):((zX e).map fun k=>(k,d+1)).any bd=bd (e,d):=by
 have hh:=zDc hne;rw [zSb,List.any_map,List.any_eq_true];unfold bd;constructor
 ·rintro ⟨k,hk,h⟩;have dk:=yG hk;rcases Bool.or_eq_true _ _▸h with h | h
  ·rw [Bool.or_eq_true];exact .inl (by rw [hh];exact List.any_eq_true.mpr ⟨k,hk,h⟩)
  ·have h:11<d+1+zO k:=zSG h;rw [Bool.or_eq_true];exact .inr (zRz (show 11<d+zO e by omega))
 ·intro h;rcases Bool.or_eq_true _ _▸h with h | h
  ·have h:yI e=true:=h;rw [hh] at h;obtain ⟨k,hk,h⟩:=List.any_eq_true.mp h;exact ⟨k,hk,by show (yI k || _)=true;rw [h];rfl⟩
  ·have h:11<d+zO e:=zSG h;by_cases hc: ∃k∈zX e,11<d+1+zO k
   ·obtain ⟨k,hk,h⟩:=hc;exact ⟨k,hk,by show (yI k || decide (11<d+1+zO k))=true;rw [zRz h,Bool.or_true]⟩
   ·have:=zHK (e:=e) (m:=10 - d) fun k hk=>by
     have: ¬11<d+1+zO k:=fun z=>hc ⟨k,hk,z⟩;omega
    omega
def exB(e:Ex):Bool:=!yI e&&(decide (zI e<=40)&&decide (zO e<=10))
theorem zCB{e:Ex}(h:(yI e || decide (10<zO e))=true\/40<zI e):exB e=false:=by
 unfold exB;rcases h with h | h
 ·rcases Bool.or_eq_true _ _▸h with h | h
  ·rw [h];rfl
  ·have h:=zSG h;rw [zSA (show¬zO e<=10 by omega),Bool.and_false,Bool.and_false]
 ·rw [zSA (show¬zI e<=40 by omega),Bool.false_and,Bool.and_false]
structure Itm(H H':Hp)(t:Addr)(p:Ex×Nat):Prop where
 ex: ∃v,H' t=some (.tup [v,.int (p.2:Int)])/\Yt H p.1 v
theorem Itm.sameT{H H' H'':Hp}{t:Addr}{p:Ex×Nat}(h:Itm H H' t p)(s:zr H' H''):Itm H H'' t p:=⟨let ⟨v,e,x⟩:=h.ex;⟨v,s _ _ e,x⟩⟩
theorem zGz{H H':Hp}{ts:List Addr}{ps:List (Ex×Nat)}(h:Paired (Itm H H') ts ps):ts.length<=tot ps:=by
 induction h with
 | nil=>exact zRg _
 | @cons a b l1 l2 _ _ ih=>
  have:=zAN b.1;simp only [tot,zSX,List.sum_cons,zSa] at ih⊢;omega
def ExJ(H:Hp)(x:V)(lf:Addr)(e0:Ex)(m:Nat)(σ:L2.St)(H':Hp):Prop:= ∃(ps:List (Ex×Nat)) (ts:List Addr) (c:Nat) (s3 s4:Option V),σ= [some x,some (.int (c:Int)),some (.ref lf),s3,s4] /\zB H H'/\H' lf=some (.lst (ts.map V.ref))/\Paired (Itm H H') ts ps/\c+tot ps=zI e0/\c<=40/\ps.any bd=(yI e0 || decide (10<zO e0))/\m=tot ps
def zMV:Sp:=fun vs H Q _=> ∃(x:V) (e:Ex),vs= [x] /\Yt H e x/\zI e<=1000/\ ∀H',zB H H'->Q (.bl (exB e)) H'
theorem zEg:FnScope ["thing","count","left","last","kid"] ["thing"] (zM zFF):=fs
theorem zQJ{f fF fK N:Addr}{fd fdF fdK:FuncData}(F:Fun K "is_expression" "is_expression" zFF f fd)(B:Bn mg)(G:Gn K mg N)
  (FF:Fun K "has_form" "has_form" zFW fF fdF) (bF:zL K fdF ["thing"] []) (mF:mg "has_form" =some (.ref fF)) (GF:FnOk P w K mg base CX0 7 fF fdF ["thing"] zNE)
  (FK:Fun K "kids_of" "kids_of" zCP fK fdK) (bK:zL K fdK ["told"] []) (mK:mg "kids_of" =some (.ref fK)) (GK:FnOk P w K mg base CX0 1 fK fdK ["told"] zGO):FnOk P w K mg base CX0 8 f fd ["thing"] zMV:=by
 obtain ⟨tn,mn⟩:=G.n;obtain ⟨td,md⟩:=G.d;refine F.ok zEg (fun vs H Q E h=>?_) (fun _ A _ s H vs Q E hr7 h=>?_)
 ·obtain ⟨x,e,rfl,_⟩:=h;rfl
 ·obtain ⟨x,e0,rfl,hx,n0,q⟩:=h;have hr1:Room 1 _:=hr7.mono (by decide);refine ⟨_,QB.out (zF
   (zd 1 zEg.nd rfl zC rfl) (zF
   (zd 2 zEg.nd rfl (zW (qc (zJ (qc (qw 0 rfl) (qc zC zA rfl) rfl)) zA rfl)) rfl) (zF
   (zCw PassesOwn.never (zU zBt (zk (zu (K:=K) rfl) rfl B.len yM (qc (qw 2 rfl) zA rfl) rfl) zC rfl) (zF
    (zd 3 zEg.nd rfl (zIU (K:=K) rfl (qw 2 rfl) rfl rfl) rfl) (zF
    (zd 1 zEg.nd rfl (yx (qw 1 rfl) zC) rfl) (zF
    (zf (t_w (zAF (zU zBt (qw 1 rfl) (zc (v:= .int 40) rfl mn ⟨tn,rfl⟩ rfl) rfl) (zAF (zU zBt (zY (K:=K) rfl (qw 3 rfl) zC (fun _ _=>rfl)) (zc (v:= .int 10) rfl md ⟨td,rfl⟩ rfl) rfl) (yz (yf (yW (zP GF hr7 rfl mF FF.kp bF .nil zH (qc (zY (K:=K) rfl (qw 3 rfl) zC (fun _ _=>rfl)) zA rfl) rfl rfl rfl) (fun _=>rfl))))))) (zK
     (zR yh)) zZ) (zK
    (zBi PassesOwn.never rfl (zAm (K:=K) rfl (zP GK hr1 rfl mK FK.kp bK .nil zH (qc (zY (K:=K) rfl (qw 3 rfl) zC (fun _ _=>rfl)) zA rfl) rfl rfl rfl)) (zq 4 zEg.nd rfl (Or.inl rfl) (.inr rfl)) (zK
     (yO (yo (K:=K) rfl (qw 2 rfl) (zJ (qc (qw 4 rfl) (qc (yx (zY (K:=K) rfl (qw 3 rfl) zC (fun _ _=>rfl)) zC) zA rfl) rfl)) rfl rfl rfl) rfl)) (fun _=>rfl))))))) (zK
   (zR yh))))),?_⟩
  refine ⟨_,rfl,nw fun t0 H1 s1 e1=>?_⟩;refine nwf fun lf H2 hlf s2 e2=>?_;have nlf:=zB.none s1 hlf;have s02:=s1.trans s2;refine ⟨fun m σ H'=>ExJ H x lf e0 m σ H',⟨_,[(e0,1)],[t0],0,none,none,rfl,s02,e2,.cons ⟨⟨x,s2 _ _ e1,hx⟩⟩ .nil,by simp [tot],by decide,by rw [List.any_cons,List.any_nil,Bool.or_false];show (yI e0 || decide (11<1+zO e0))=_;congr 1;exact decide_eq_decide.mpr (by omega),rfl⟩,?_⟩;rintro m σ H' ⟨ps,ts,c,s3,s4,rfl,sm,el,its,hc,c40,hb,rfl⟩;refine ⟨_,rfl,lf,_,rfl,.inl (SqL.of el),_,_,rfl,rfl,_,rfl,yE (fun cc=>?_) (fun cc=>?_)⟩
  ·have hne:ts≠ [] :=fun z=>by rw [z] at cc;simp at cc
   obtain ⟨ts',t,rfl⟩: ∃ts' t,ts=ts'++ [t] :=⟨ts.dropLast,ts.getLast hne,(List.dropLast_concat_getLast hne).symm⟩;obtain ⟨ps',p,rfl,its',it⟩:=Paired.snocI its;obtain ⟨e,d⟩:=p;have tl:=zGz its';rw [zCL] at hc;have hc:c+(tot ps'+zI e)=zI e0:=hc;rw [List.any_append,List.any_cons,List.any_nil,Bool.or_false] at hb;have np:=zAN e;have dpos:=zAw e;refine ⟨fun σ' H''=> ∃m',m'<tot (ps'++ [(e,d)])/\ExJ H x lf e0 m' σ' H'',fun _ _ z=>z,?_⟩;refine ⟨_,rfl,.inl ⟨rfl,_,SqL.of el⟩,lf,_,.ref t,rfl,rfl,el,by simp,?_⟩;rw [show ((ts'++ [t]).map V.ref).dropLast=ts'.map V.ref by rw [zRx];simp];have T3:zr H' (L2.upd H' lf (.lst (ts'.map V.ref))):=zr.lst el;have el3:(L2.upd H' lf (.lst (ts'.map V.ref))) lf=_:=zD;have sm3:zB H (L2.upd H' lf (.lst (ts'.map V.ref))):=zB.store sm nlf;have it3:=it.sameT T3;have its3:=Paired.mapM its' fun a v _ k=>Itm.sameT k T3;generalize L2.upd H' lf (.lst (ts'.map V.ref))=H3 at T3 el3 sm3 it3 its3⊢;clear its its' it T3 el;obtain ⟨v,et,hv⟩:=it3.ex;have et:H3 t=some (.tup [v,.int (d:Int)]):=et;have hv:Yt H e v:=hv;refine ⟨_,rfl,_,_,rfl,rfl,_,rfl,_,_,rfl,rfl,_,rfl,yE (fun c1=>?_) (fun c1=>?_)⟩
   ·have c1:40<c+1:=by have:=zSG c1;omega
    refine zN ?_;have:=q H3 sm3;rw [zCB (.inr (by omega))] at this;exact this
   have c1:c+1<=40:=by
    have: ¬((40:Int)<(c:Int)+1):=by simpa using c1
    omega
   have no:bd (e,d)=true->Q (.bl false) H3:=fun z=>by
    have:=q H3 sm3;rw [zCB (.inl (by rw [<-hb,z,Bool.or_true]))] at this;exact this
   refine ⟨_,rfl,t,_,_,_,rfl,rfl,SqT.of et,rfl,_,_,rfl,rfl,_,rfl,yE (fun c2=>zN (no ?_)) (fun c2=>?_)⟩
   ·have c2:(10:Int)<(d:Int):=zSG c2;unfold bd;rw [zRz (show 11<d+zO e by omega),Bool.or_true]
   have d10:d<=10:=by
    have: ¬((10:Int)<(d:Int)):=by simpa using c2
    omega
   cases hv with
   | odd h=>
    refine ⟨_,rfl,t,_,_,_,rfl,rfl,SqT.of et,rfl,v,rfl,.inl ⟨h.same sm3,fun H4 s4'=>⟨_,rfl,zN ?_⟩⟩⟩;have:=q H4 (sm3.trans s4');rw [zCB (.inl (by rw [<-hb,show bd (.nam "",d)=true from rfl,Bool.or_true]))] at this;exact this
   | @fm _ _ xs hne' fm kd=>
    refine ⟨_,rfl,t,_,_,_,rfl,rfl,SqT.of et,rfl,v,rfl,.inr ⟨xs,fm.same sm3,fun H4 s4'=>⟨_,rfl,zE ?_⟩⟩⟩;refine ⟨_,rfl,t,_,_,_,rfl,rfl,SqT.of (s4' _ _ et),rfl,v,xs,rfl,fm.same (sm3.trans s4'),fun l H5 s5 nl el5=>⟨l,rfl,⟨_,SqL.of el5⟩,?_⟩⟩;have s35:=s4'.trans s5;have nlf':l≠lf:=fun z=>by rw [z,s4' _ _ el3] at nl;cases nl
    have lx:=Paired.len kd;have k4:=zAd e;refine zAz xs.length (fun i σ H''=> ∃(ts2:List Addr) (s4:Option V),σ= [some x,some (.int ((c:Int)+1)),some (.ref lf),some (.ref t),s4] /\i<=xs.length/\zB H H''/\H'' lf=some (.lst ((ts'++ts2).map V.ref))/\ts2.length=i/\Paired (Itm H H'') (ts'++ts2) (ps'++((zX e).take i).map fun k=>(k,d+1))/\zr H5 H''/\H'' l=some (.lst xs))
     ⟨[],_,rfl,zRr _,sm3.trans s35,by rw [zSB];exact s35 _ _ el3,rfl,by simp only [List.take_zero,List.map_nil,zSB];exact Paired.mapM its3 fun a v _ k=>Itm.sameT k (zB.t s35),fun b ys k=>k,el5⟩ ?_ ?_ ?_ ?_
    ·rintro i σ H'' hi ⟨ts2,s4,rfl,_,_,_,_,_,_,ell⟩;exact ⟨_,_,SqL.of ell,zRc hi⟩
    ·rintro σ H'' ⟨ts2,s4,rfl,_,_,_,_,_,_,ell⟩;exact ⟨_,SqL.of ell,zRg _⟩
    ·rintro i σ H6 y H7 hi ⟨ts2,s4,rfl,_,s6,elf,l2,it6,T6,ell⟩ ⟨rfl,hy⟩;have hy':=hy _ (SqL.of ell);rw [zRc hi] at hy';cases hy';obtain ⟨k,ek,hk⟩:=Paired.get' kd (zRc hi);have et7:=T6 _ _ (s35 _ _ et);refine ⟨_,rfl,.inl ⟨rfl,_,SqL.of elf⟩,_,rfl,_,rfl,t,_,_,_,rfl,rfl,SqT.of et7,rfl,_,_,rfl,rfl,nw fun pn H8 s8 e8=>?_⟩;have elf8:=s8 _ _ elf;refine ⟨lf,_,_,rfl,rfl,elf8,by rw [zRn];simp;omega,?_⟩;have T9:zr H8 (L2.upd H8 lf (.lst ((ts'++ts2).map V.ref++ [.ref pn]))):=zr.lst elf8;have T79:=(zB.t s8).trans T9;refine ⟨ts2++ [pn],_,rfl,hi,zB.store (s6.trans s8) nlf,by rw [zD,<-List.append_assoc,zRx (l₁:=ts'++ts2)];rfl,by simp [l2],?_,T6.trans T79,by rw [zQ nlf'];exact s8 _ _ ell⟩;have eA:ps'++(((zX e).take (i+1)).map fun k=>(k,d+1))=(ps'++((zX e).take i).map fun k=>(k,d+1))++ [(k,d+1)] :=by
      rw [zRy,ek,zRx,List.append_assoc];rfl
     rw [eA,<-List.append_assoc];exact Paired.snoc' (Paired.mapM it6 fun a v _ k=>Itm.sameT k T79) ⟨⟨xs[i],T9 _ _ e8,hk⟩⟩
    ·rintro σ H6 ⟨ts2,s4,rfl,_,s6,elf,l2,it6,T6,ell⟩;rw [List.take_of_length_le (by omega)] at it6;have tk:=zFu e (d+1);have ta:=zHL ps' ((zX e).map fun k=>(k,d+1));refine ⟨_,?_,_,_,c+1,_,_,rfl,s6,elf,it6,?_,c1,?_,rfl⟩
     ·rw [zCL];simp only;omega
     ·omega
     ·rw [List.any_append,zLZ hne' d10];exact hb
  ·have hts:ts= [] :=by
    cases ts with
    | nil=>rfl
    | cons a l=>exact absurd (by simp) cc
   subst hts;cases its;have hb:false=(yI e0 || decide (10<zO e0)):=hb;have hc:c+0=zI e0:=hc;have h1:yI e0=false:=by cases h:yI e0<;>simp [h] at hb⊢
   have h2:zO e0<=10:=by
    rw [h1] at hb;have:=of_decide_eq_false (Bool.false_or _▸hb.symm);omega
   have:=q H' sm;rw [show exB e0=true by unfold exB;rw [h1,zRz (show zI e0<=40 by omega),zRz h2];rfl] at this;exact this
def LvJ(H:Hp)(x:V)(lv lf:Addr)(e0:Ex)(m:Nat)(σ:L2.St)(H':Hp):Prop:= ∃(ps:List (Ex×Nat)) (ts:List Addr) (ls:List Int) (s3 s4:Option V),σ= [some x,some (.ref lv),some (.ref lf),s3,s4] /\zB H H'/\H' lf=some (.lst (ts.map V.ref))/\H' lv=some (.lst (ls.map V.int))/\Paired (Itm H H') ts ps/\ls.length+tot ps=zI e0/\
 (∀i∈ls,1<=i/\i<=zO e0)/\(∀p∈ps,yI p.1=false/\1<=p.2/\p.2+zO p.1<=zO e0+1)/\(((zO e0:Nat):Int)∈ls\/ ∃p∈ps,p.2+zO p.1=zO e0+1)/\m=tot ps
def zIB:Sp:=fun vs H Q _=> ∃(x:V) (e:Ex),vs= [x] /\Yt H e x/\yI e=false/\zI e<=1000/\ ∀l (ls:List Int) H',zB H H'->H l=none->H' l=some (.lst (ls.map V.int))->ls.length=zI e->(∀i∈ls,1<=i/\i<=zO e)->((zO e:Nat):Int)∈ls->Q (.ref l) H'
theorem zDv:FnScope ["told","levels","left","last","kid"] ["told"] (zM zGc):=fs
theorem zLx{e k:Ex}(hne:e≠ .nam "")(h:yI e=false)(hk:k∈zX e):yI k=false:=by
 rw [zDc hne,List.any_eq_false] at h;simpa using h k hk
theorem zKT{e:Ex}(h:1<zO e): ∃k∈zX e,zO k+1=zO e:=by
 by_cases hc: ∃k∈zX e,zO k+1=zO e
 ·exact hc
 ·have:=zHK (e:=e) (m:=zO e - 2) fun k hk=>by
   have a:=yG hk;have:zO k+1≠zO e:=fun z=>hc ⟨k,hk,z⟩;omega
  omega
theorem zOs{f fK:Addr}{fd fdK:FuncData}(F:Fun K "levels_of" "levels_of" zGc f fd)(B:Bn mg)
  (FK:Fun K "kids_of" "kids_of" zCP fK fdK) (bK:zL K fdK ["told"] []) (mK:mg "kids_of" =some (.ref fK)) (GK:FnOk P w K mg base CX0 1 fK fdK ["told"] zGO):FnOk P w K mg base CX0 2 f fd ["told"] zIB:=by
 refine F.ok zDv (fun vs H Q E h=>?_) (fun _ A _ s H vs Q E hr1 h=>?_)
 ·obtain ⟨x,e,rfl,_⟩:=h;rfl
 ·obtain ⟨x,e0,rfl,hx,h0,n0,q⟩:=h;have hr1:Room 1 _:=hr1;refine ⟨_,QB.out (zF
   (zd 1 zDv.nd rfl (zW zA) rfl) (zF
   (zd 2 zDv.nd rfl (zW (qc (zJ (qc (qw 0 rfl) (qc zC zA rfl) rfl)) zA rfl)) rfl) (zF
   (zCw PassesOwn.never (zU zBt (zk (zu (K:=K) rfl) rfl B.len yM (qc (qw 2 rfl) zA rfl) rfl) zC rfl) (zF
    (zd 3 zDv.nd rfl (zIU (K:=K) rfl (qw 2 rfl) rfl rfl) rfl) (zF
    (yO (yo (K:=K) rfl (qw 1 rfl) (zY (K:=K) rfl (qw 3 rfl) zC (fun _ _=>rfl)) rfl rfl rfl) rfl) (zK
    (zBi PassesOwn.never rfl (zAm (K:=K) rfl (zP GK hr1 rfl mK FK.kp bK .nil zH (qc (zY (K:=K) rfl (qw 3 rfl) zC (fun _ _=>rfl)) zA rfl) rfl rfl rfl)) (zq 4 zDv.nd rfl (Or.inl rfl) (.inr rfl)) (zK
     (yO (yo (K:=K) rfl (qw 2 rfl) (zJ (qc (qw 4 rfl) (qc (yx (zY (K:=K) rfl (qw 3 rfl) zC (fun _ _=>rfl)) zC) zA rfl) rfl)) rfl rfl rfl) rfl)) (fun _=>rfl)))))) (zK
   (zR (qw 1 rfl)))))),?_⟩
  refine nwf fun lv H0 hlv s0 e0'=>⟨_,rfl,nw fun t0 H1 s1 e1=>nwf fun lf H2 hlf s2 e2=>?_⟩;have nlf:=zB.none s0 (zB.none s1 hlf);have nvf:lv≠lf:=fun z=>by rw [z] at e0';rw [s1 _ _ e0'] at hlf;cases hlf
  have s02:=s0.trans (s1.trans s2);refine ⟨fun m σ H'=>LvJ H x lv lf e0 m σ H',⟨_,[(e0,1)],[t0],[],none,none,rfl,s02,e2,(s1.trans s2) _ _ e0',.cons ⟨⟨x,s2 _ _ e1,hx⟩⟩ .nil,by simp [tot],by simp,fun p hp=>by rw [zSY.mp hp];exact ⟨h0,zRg 1,by show 1+zO e0<=_;omega⟩,.inr ⟨_,zSY.mpr rfl,by show 1+zO e0=_;omega⟩,rfl⟩,?_⟩;rintro m σ H' ⟨ps,ts,ls,s3,s4,rfl,sm,el,ev,its,hc,hls,hps,hm,rfl⟩;refine ⟨_,rfl,lf,_,rfl,.inl (SqL.of el),_,_,rfl,rfl,_,rfl,yE (fun cc=>?_) (fun cc=>?_)⟩
  ·have hne:ts≠ [] :=fun z=>by rw [z] at cc;simp at cc
   obtain ⟨ts',t,rfl⟩: ∃ts' t,ts=ts'++ [t] :=⟨ts.dropLast,ts.getLast hne,(List.dropLast_concat_getLast hne).symm⟩;obtain ⟨ps',p,rfl,its',it⟩:=Paired.snocI its;obtain ⟨e,d⟩:=p;have tl:=zGz its';rw [zCL] at hc;have hc:ls.length+(tot ps'+zI e)=zI e0:=hc;have np:=zAN e;have dpos:=zAw e;obtain ⟨he,d1,dd⟩:yI e=false/\1<=d/\d+zO e<=zO e0+1:=hps (e,d) (by simp);refine ⟨fun σ' H''=> ∃m',m'<tot (ps'++ [(e,d)])/\LvJ H x lv lf e0 m' σ' H'',fun _ _ z=>z,?_⟩;refine ⟨_,rfl,.inl ⟨rfl,_,SqL.of el⟩,lf,_,.ref t,rfl,rfl,el,by simp,?_⟩;rw [show ((ts'++ [t]).map V.ref).dropLast=ts'.map V.ref by rw [zRx];simp];have T3:zr H' (L2.upd H' lf (.lst (ts'.map V.ref))):=zr.lst el;have el3:(L2.upd H' lf (.lst (ts'.map V.ref))) lf=_:=zD;have ev3:(L2.upd H' lf (.lst (ts'.map V.ref))) lv=_:=(zQ nvf).trans ev;have sm3:zB H (L2.upd H' lf (.lst (ts'.map V.ref))):=zB.store sm nlf;have it3:=it.sameT T3;have its3:=Paired.mapM its' fun a v _ k=>Itm.sameT k T3;generalize L2.upd H' lf (.lst (ts'.map V.ref))=H3 at T3 el3 ev3 sm3 it3 its3⊢;clear its its' it T3 el ev;obtain ⟨v,et,hv⟩:=it3.ex;have et:H3 t=some (.tup [v,.int (d:Int)]):=et;have hv:Yt H e v:=hv;refine ⟨_,rfl,.inl ⟨rfl,_,SqL.of ev3⟩,_,rfl,t,_,_,_,rfl,rfl,SqT.of et,rfl,lv,_,_,rfl,rfl,ev3,by rw [zRn];simp;omega,?_⟩;have T4:zr H3 (L2.upd H3 lv (.lst (ls.map V.int++ [.int (d:Int)]))):=zr.lst ev3;have el4:(L2.upd H3 lv (.lst (ls.map V.int++ [.int (d:Int)]))) lf=_:=(zQ nvf.symm).trans el3;have ev4:(L2.upd H3 lv (.lst (ls.map V.int++ [.int (d:Int)]))) lv=some (.lst ((ls++ [(d:Int)]).map V.int)):=by rw [zD,zRx];rfl
   have sm4:zB H (L2.upd H3 lv (.lst (ls.map V.int++ [.int (d:Int)]))):=zB.store sm3 hlv;have its4:=Paired.mapM its3 fun a v _ k=>Itm.sameT k T4;have et4:=T4 _ _ et;generalize L2.upd H3 lv (.lst (ls.map V.int++ [.int (d:Int)]))=H4 at T4 el4 ev4 sm4 its4 et4⊢;clear its3 it3 el3 ev3 sm3 T4 et;cases hv with
   | odd h=>cases he
   | @fm _ _ xs hne' fm kd=>
    refine ⟨_,rfl,t,_,_,_,rfl,rfl,SqT.of et4,rfl,v,xs,rfl,fm.same sm4,fun l H5 s5 nl el5=>⟨l,rfl,⟨_,SqL.of el5⟩,?_⟩⟩;have nlf':l≠lf:=fun z=>by rw [z,el4] at nl;cases nl
    have lx:=Paired.len kd;have k4:=zAd e;refine zAz xs.length (fun i σ H''=> ∃(ts2:List Addr) (s4:Option V),σ= [some x,some (.ref lv),some (.ref lf),some (.ref t),s4] /\i<=xs.length/\zB H H''/\H'' lf=some (.lst ((ts'++ts2).map V.ref))/\ts2.length=i/\Paired (Itm H H'') (ts'++ts2) (ps'++((zX e).take i).map fun k=>(k,d+1))/\zr H5 H''/\H'' l=some (.lst xs)/\H'' lv=some (.lst ((ls++ [(d:Int)]).map V.int)))
     ⟨[],_,rfl,zRr _,sm4.trans s5,by rw [zSB];exact s5 _ _ el4,rfl,by simp only [List.take_zero,List.map_nil,zSB];exact Paired.mapM its4 fun a v _ k=>Itm.sameT k (zB.t s5),fun b ys k=>k,el5,s5 _ _ ev4⟩ ?_ ?_ ?_ ?_
    ·rintro i σ H'' hi ⟨ts2,s4,rfl,_,_,_,_,_,_,ell,_⟩;exact ⟨_,_,SqL.of ell,zRc hi⟩
    ·rintro σ H'' ⟨ts2,s4,rfl,_,_,_,_,_,_,ell,_⟩;exact ⟨_,SqL.of ell,zRg _⟩
    ·rintro i σ H6 y H7 hi ⟨ts2,s4,rfl,_,s6,elf,l2,it6,T6,ell,evv⟩ ⟨rfl,hy⟩;have hy':=hy _ (SqL.of ell);rw [zRc hi] at hy';cases hy';obtain ⟨k,ek,hk⟩:=Paired.get' kd (zRc hi);have et7:=T6 _ _ (s5 _ _ et4);refine ⟨_,rfl,.inl ⟨rfl,_,SqL.of elf⟩,_,rfl,_,rfl,t,_,_,_,rfl,rfl,SqT.of et7,rfl,_,_,rfl,rfl,nw fun pn H8 s8 e8=>?_⟩;have elf8:=s8 _ _ elf;refine ⟨lf,_,_,rfl,rfl,elf8,by rw [zRn];simp;omega,?_⟩;have T9:zr H8 (L2.upd H8 lf (.lst ((ts'++ts2).map V.ref++ [.ref pn]))):=zr.lst elf8;have T79:=(zB.t s8).trans T9;refine ⟨ts2++ [pn],_,rfl,hi,zB.store (s6.trans s8) nlf,by rw [zD,<-List.append_assoc,zRx (l₁:=ts'++ts2)];rfl,by simp [l2],?_,T6.trans T79,by rw [zQ nlf'];exact s8 _ _ ell,by rw [zQ nvf];exact s8 _ _ evv⟩;have eA:ps'++(((zX e).take (i+1)).map fun k=>(k,d+1))=(ps'++((zX e).take i).map fun k=>(k,d+1))++ [(k,d+1)] :=by
      rw [zRy,ek,zRx,List.append_assoc];rfl
     rw [eA,<-List.append_assoc];exact Paired.snoc' (Paired.mapM it6 fun a v _ k=>Itm.sameT k T79) ⟨⟨xs[i],T9 _ _ e8,hk⟩⟩
    ·rintro σ H6 ⟨ts2,s4,rfl,_,s6,elf,l2,it6,T6,ell,evv⟩;rw [List.take_of_length_le (by omega)] at it6;have tk:=zFu e (d+1);have ta:=zHL ps' ((zX e).map fun k=>(k,d+1));refine ⟨_,?_,_,_,ls++ [(d:Int)],_,_,rfl,s6,elf,evv,it6,?_,fun i hi=>?_,fun p hp=>?_,?_,rfl⟩
     ·rw [zCL];simp only;omega
     ·rw [zSC,List.length_singleton];omega
     ·rcases zSW.mp hi with z | z
      ·exact hls i z
      ·rw [zSY.mp z];omega
     ·rcases zSW.mp hp with z | z
      ·exact hps p (zSW.mpr (.inl z))
      ·obtain ⟨k,hk,rfl⟩:=zSZ.mp z;have dk:=yG hk;exact ⟨zLx hne' he hk,by show 1<=d+1;omega,by show d+1+zO k<=_;omega⟩
     ·rcases hm with z |⟨p,hp,z⟩
      ·exact .inl (zSW.mpr (.inl z))
      ·rcases zSW.mp hp with y | y
       ·exact .inr ⟨p,zSW.mpr (.inl y),z⟩
       ·rw [zSY.mp y] at z;have z:d+zO e=zO e0+1:=z;by_cases h1:zO e=1
        ·exact .inl (zSW.mpr (.inr (zSY.mpr (by omega))))
        ·obtain ⟨k,hk,kk⟩:=zKT (e:=e) (by omega);exact .inr ⟨(k,d+1),zSW.mpr (.inr (zSZ.mpr ⟨k,hk,rfl⟩)),by show d+1+zO k=_;omega⟩
  ·have hts:ts= [] :=by
    cases ts with
    | nil=>rfl
    | cons a l=>exact absurd (by simp) cc
   subst hts;cases its;have hc:ls.length+0=zI e0:=hc;refine ⟨_,rfl,q lv ls H' sm hlv ev (by omega) hls ?_⟩;rcases hm with z |⟨p,hp,_⟩
   ·exact z
   ·cases hp
def shN:List Str:= ["told","kids","size","depth"]
structure NK(K:zSS)(fT fKd fSz fDp C:Addr):Prop where
 cl:Cls K C
 np:ye K C "parts"
 td:Meth K C "told" fT
 kd:Meth K C "kids" fKd
 sz:Meth K C "size" fSz
 dp:Meth K C "depth" fDp
structure Nd(NC:Addr->Prop)(H:Hp)(C:Addr)(v p:V):Prop where
 ex: ∃t dx fs,v= .ref t/\H t=some (.ins C dx fs)/\NC C/\fs.lookup ("parts" :Str)=some p/\ ∀m∈shN,fs.lookup m=none
theorem Nd.same{NC:Addr->Prop}{H H':Hp}{C:Addr}{v p:V}(h:Nd NC H C v p)(s:zB H H'):Nd NC H' C v p:=let ⟨t,dx,fs,a,e,b⟩:=h.ex;⟨t,dx,fs,a,s _ _ e,b⟩
theorem zHH{m:Str}: ∀{fs:List (Str×V)},(∀n∈fs.map (·.1),(m==n)=false)->fs.lookup m=none
 | [],_=>rfl
 | p::fs,h=>by
  rw [List.lookup_cons,h p.1 (List.mem_cons_self ..)];exact zHH fun n hn=>h n (zSI _ hn)
theorem zKj{fs:List (Str×V)}(ns:List Str)(h:fs.map (·.1)=ns)(hs: ∀m∈shN,∀n∈ns,(m==n)=false): ∀m∈shN,fs.lookup m=none:=fun m hm=>zHH (by rw [h];exact hs m hm)
def zBv(K:zSS):Sp:=fun vs H Q _=> ∃t C dx x,vs= [.ref t,x] /\H t=some (.ins C dx [])/\Cls K C/\ye K C "parts" /\Q .non (L2.upd H t (.ins C dx [("parts",x)]))
theorem zQs:FnScope ["self","parts"] ["self","parts"] (zM (za (top 60) 0)):=fs
theorem zPJ{f:Addr}{fd:FuncData}(F:Fun K "__init__" "Node.__init__" (za (top 60) 0) f fd):FnOk P w K mg base CX0 1 f fd ["self","parts"] (zBv K):=by
 refine F.ok zQs (fun vs H Q E h=>?_) (fun _ A _ s H vs Q E hr h=>?_)
 ·obtain ⟨t,C,dx,x,rfl,_⟩:=h;rfl
 ·obtain ⟨t,C,dx,x,rfl,ht,c,n,q⟩:=h;exact ⟨_,QB.out (zK
   (yU (K:=K) rfl (qw 0 rfl) (qw 1 rfl) rfl)),⟨_,rfl,_,rfl,t,C,dx,[],rfl,ht,c,n,by show 0<1000;decide,q⟩⟩
def zCO(NC:Addr->Prop):Sp:=fun vs H Q _=> ∃C v p,vs= [v] /\Nd NC H C v p/\Q p H
theorem zQz:FnScope ["self"] ["self"] (zM (za (top 60) 1)):=fs
theorem zQC{f fT fKd fSz fDp:Addr}{fd:FuncData}(F:Fun K "told" "Node.told" (za (top 60) 1) f fd):FnOk P w K mg base CX0 1 f fd ["self"] (zCO (NK K fT fKd fSz fDp)):=by
 refine F.ok zQz (fun vs H Q E h=>?_) (fun _ A _ s H vs Q E hr h=>?_)
 ·obtain ⟨C,v,p,rfl,_⟩:=h;rfl
 ·obtain ⟨C,v,p,rfl,⟨t,dx,fs,rfl,e,nk,l,_⟩,q⟩:=h;exact ⟨_,QB.out (zK
   (zR (zFT (K:=K) rfl (qw 0 rfl) rfl))),⟨_,rfl,t,C,dx,fs,p,rfl,e,nk.cl,nk.np,l,q⟩⟩
def zBL(H:Hp)(Q:VK)(t C dx:Addr)(xs:List V):Prop:= ∀H' p fs,(∀b o,H b=some o->b≠t->H' b=some o)->H' p=some (.tup xs)->H' t=some (.ins C dx fs)->fs.lookup ("parts" :Str)=some (.ref p)->(∀m∈shN,fs.lookup m=none)->Q .non H'
structure FC(K:zSS)(C:Addr)(fs:List Str):Prop where
 cl:Cls K C
 np:ye K C "parts"
 na: ∀f∈fs,ye K C f
theorem yt{H:Hp}{t:Addr}{a b:HO}:L2.upd (L2.upd H t a) t b=L2.upd H t b:=by
 funext x
 unfold L2.upd;by_cases k:x=t
 ·simp [k]
 ·simp [k]
theorem zAP{H H1:Hp}{Q:VK}{t C dx p:Addr}{xs:List V}{fs:List (Str×V)}(q:zBL H Q t C dx xs)(s:zB H H1)(ht:H t=some (.ins C dx []))(e:H1 p=some (.tup xs))(ns:List Str)(h:fs.map (·.1)=ns)(hs: ∀m∈shN,∀n∈("parts" :Str)::ns,(m==n)=false):
  Q .non (L2.upd H1 t (.ins C dx (("parts",.ref p)::fs))):=by
 have hp:p≠t:=fun z=>by rw [z,s _ _ ht] at e;cases e
 refine q _ p _ (fun b o hb hn=>by rw [zQ hn];exact s _ _ hb) (by rw [zQ hp];exact e) zD (by rw [List.lookup_cons];simp) (zKj (("parts" :Str)::ns) (by rw [zSX,h]) hs)
def zGP(NC:Addr->Prop)(C:Addr):Sp:=fun vs H Q _=> ∃(t dx:Addr) (v_amount v_unit:V),vs= [.ref t,v_amount,v_unit] /\H t=some (.ins C dx [])/\zBL H Q t C dx [.str "number",v_amount,v_unit]
theorem zNa:FnScope ["self","amount","unit"] ["self","amount","unit"] (zM (za (top 61) 0)):=fs
theorem zLL{f fN fT C CN:Addr}{fd fdN:FuncData}{NC:Addr->Prop}(F:Fun K "__init__" "Number.__init__" (za (top 61) 0) f fd)(T:FC K C ["amount","unit"])(mCN:mg "Node" =some (.ref CN))(cN:ClsM K CN "__init__" fN)(bN:zL K fdN ["self","parts"] [])(GN:FnOk P w K mg base CX0 1 fN fdN ["self","parts"] (zBv K)):FnOk P w K mg base CX0 2 f fd ["self","amount","unit"] (zGP NC C):=by
 refine F.ok zNa (fun vs H Q E h=>?_) (fun _ A _ s H vs Q E hr1 h=>?_)
 ·obtain ⟨t,dx,v_amount,v_unit,rfl,_⟩:=h;rfl
 ·obtain ⟨t,dx,v_amount,v_unit,rfl,ht,q⟩:=h;have hr1:Room 1 _:=hr1;refine ⟨_,QB.out (zF
   (yO (zAq (zc (v:= .ref CN) rfl mCN rfl rfl) cN GN hr1 bN .nil zH (qc (qw 0 rfl) (qc (zJ (qc zG (qc (qw 1 rfl) (qc (qw 2 rfl) zA rfl) rfl) rfl)) zA rfl) rfl) rfl rfl rfl) rfl) (zF
   (yU (K:=K) rfl (qw 0 rfl) (qw 1 rfl) rfl) (zK
   (yU (K:=K) rfl (qw 0 rfl) (qw 2 rfl) rfl)))),?_⟩
  refine ⟨_,rfl,_,rfl,_,rfl,nw fun p H1 s1 e1=>⟨t,C,dx,_,rfl,s1 _ _ ht,T.cl,T.np,?_⟩⟩;refine ⟨_,rfl,_,rfl,t,C,dx,[("parts",.ref p)],rfl,zD,T.cl,T.na "amount" (by decide),by show 1<1000;decide,?_⟩;rw [yt];refine ⟨_,rfl,_,rfl,t,C,dx,[("parts",.ref p),("amount",v_amount)],rfl,zD,T.cl,T.na "unit" (by decide),by show 2<1000;decide,?_⟩;rw [yt];exact zAP (fs:= [("amount",v_amount),("unit",v_unit)]) q s1 ht e1 ["amount","unit"] rfl (by decide)
def zGd(NC:Addr->Prop)(C:Addr):Sp:=fun vs H Q _=> ∃(t dx:Addr) (v_name:V),vs= [.ref t,v_name] /\H t=some (.ins C dx [])/\zBL H Q t C dx [.str "name",v_name]
theorem zNb:FnScope ["self","name"] ["self","name"] (zM (za (top 62) 0)):=fs
theorem zLO{f fN fT C CN:Addr}{fd fdN:FuncData}{NC:Addr->Prop}(F:Fun K "__init__" "Name.__init__" (za (top 62) 0) f fd)(T:FC K C ["name"])(mCN:mg "Node" =some (.ref CN))(cN:ClsM K CN "__init__" fN)(bN:zL K fdN ["self","parts"] [])(GN:FnOk P w K mg base CX0 1 fN fdN ["self","parts"] (zBv K)):FnOk P w K mg base CX0 2 f fd ["self","name"] (zGd NC C):=by
 refine F.ok zNb (fun vs H Q E h=>?_) (fun _ A _ s H vs Q E hr1 h=>?_)
 ·obtain ⟨t,dx,v_name,rfl,_⟩:=h;rfl
 ·obtain ⟨t,dx,v_name,rfl,ht,q⟩:=h;have hr1:Room 1 _:=hr1;refine ⟨_,QB.out (zF
   (yO (zAq (zc (v:= .ref CN) rfl mCN rfl rfl) cN GN hr1 bN .nil zH (qc (qw 0 rfl) (qc (zJ (qc zG (qc (qw 1 rfl) zA rfl) rfl)) zA rfl) rfl) rfl rfl rfl) rfl) (zK
   (yU (K:=K) rfl (qw 0 rfl) (qw 1 rfl) rfl))),?_⟩
  refine ⟨_,rfl,_,rfl,nw fun p H1 s1 e1=>⟨t,C,dx,_,rfl,s1 _ _ ht,T.cl,T.np,?_⟩⟩;refine ⟨_,rfl,_,rfl,t,C,dx,[("parts",.ref p)],rfl,zD,T.cl,T.na "name" (by decide),by show 1<1000;decide,?_⟩;rw [yt];exact zAP (fs:= [("name",v_name)]) q s1 ht e1 ["name"] rfl (by decide)
def zFd(NC:Addr->Prop)(C:Addr):Sp:=fun vs H Q _=> ∃(t dx:Addr) (C_node:Addr) (v_node p_node:V),vs= [.ref t,v_node] /\H t=some (.ins C dx [])/\Nd NC H C_node v_node p_node/\zBL H Q t C dx [.str "negative",p_node]
theorem zNo:FnScope ["self","node"] ["self","node"] (zM (za (top 63) 0)):=fs
theorem zMQ{f fN fT C CN:Addr}{fd fdN fdT:FuncData}{NC:Addr->Prop}(F:Fun K "__init__" "Negative.__init__" (za (top 63) 0) f fd)(T:FC K C ["node"])(mCN:mg "Node" =some (.ref CN))(cN:ClsM K CN "__init__" fN)(bN:zL K fdN ["self","parts"] [])(GN:FnOk P w K mg base CX0 1 fN fdN ["self","parts"] (zBv K))(hT: ∀C,NC C->Cls K C/\Meth K C "told" fT)(bT:zL K fdT ["self"] [])(GT:FnOk P w K mg base CX0 1 fT fdT ["self"] (zCO NC)):FnOk P w K mg base CX0 2 f fd ["self","node"] (zFd NC C):=by
 refine F.ok zNo (fun vs H Q E h=>?_) (fun _ A _ s H vs Q E hr1 h=>?_)
 ·obtain ⟨t,dx,C_node,v_node,p_node,rfl,_⟩:=h;rfl
 ·obtain ⟨t,dx,C_node,v_node,p_node,rfl,ht,h_node,q⟩:=h;have hr1:Room 1 _:=hr1;obtain ⟨t_node,d_node,f_node,rfl,e_node,n_node,l_node,s_node⟩:=h_node.ex;refine ⟨_,QB.out (zF
   (yO (zAq (zc (v:= .ref CN) rfl mCN rfl rfl) cN GN hr1 bN .nil zH (qc (qw 0 rfl) (qc (zJ (qc zG (qc (yK (qw 1 rfl) hT GT hr1 bT zH rfl) zA rfl) rfl)) zA rfl) rfl) rfl rfl rfl) rfl) (zK
   (yU (K:=K) rfl (qw 0 rfl) (qw 1 rfl) rfl))),?_⟩
  refine ⟨_,rfl,_,rfl,t_node,C_node,d_node,f_node,rfl,e_node,n_node,s_node "told" (by decide),C_node,_,_,rfl,h_node,nw fun p H1 s1 e1=>⟨t,C,dx,_,rfl,s1 _ _ ht,T.cl,T.np,?_⟩⟩;refine ⟨_,rfl,_,rfl,t,C,dx,[("parts",.ref p)],rfl,zD,T.cl,T.na "node" (by decide),by show 1<1000;decide,?_⟩;rw [yt];exact zAP (fs:= [("node",.ref t_node)]) q s1 ht e1 ["node"] rfl (by decide)
def zFf(NC:Addr->Prop)(C:Addr):Sp:=fun vs H Q _=> ∃(t dx:Addr) (C_one C_other:Addr) (v_one v_other v_sign p_one p_other:V),vs= [.ref t,v_one,v_other,v_sign] /\H t=some (.ins C dx [])/\Nd NC H C_one v_one p_one/\Nd NC H C_other v_other p_other/\zBL H Q t C dx [v_sign,p_one,p_other]
theorem zNH:FnScope ["self","one","other","sign"] ["self","one","other","sign"] (zM (za (top 64) 0)):=fs
theorem zMR{f fN fT C CN:Addr}{fd fdN fdT:FuncData}{NC:Addr->Prop}(F:Fun K "__init__" "Sum.__init__" (za (top 64) 0) f fd)(T:FC K C ["one","other","sign"])(mCN:mg "Node" =some (.ref CN))(cN:ClsM K CN "__init__" fN)(bN:zL K fdN ["self","parts"] [])(GN:FnOk P w K mg base CX0 1 fN fdN ["self","parts"] (zBv K))(hT: ∀C,NC C->Cls K C/\Meth K C "told" fT)(bT:zL K fdT ["self"] [])(GT:FnOk P w K mg base CX0 1 fT fdT ["self"] (zCO NC)):FnOk P w K mg base CX0 2 f fd ["self","one","other","sign"] (zFf NC C):=by
 refine F.ok zNH (fun vs H Q E h=>?_) (fun _ A _ s H vs Q E hr1 h=>?_)
 ·obtain ⟨t,dx,C_one,C_other,v_one,v_other,v_sign,p_one,p_other,rfl,_⟩:=h;rfl
 ·obtain ⟨t,dx,C_one,C_other,v_one,v_other,v_sign,p_one,p_other,rfl,ht,h_one,h_other,q⟩:=h;have hr1:Room 1 _:=hr1;obtain ⟨t_one,d_one,f_one,rfl,e_one,n_one,l_one,s_one⟩:=h_one.ex;obtain ⟨t_other,d_other,f_other,rfl,e_other,n_other,l_other,s_other⟩:=h_other.ex;refine ⟨_,QB.out (zF
   (yO (zAq (zc (v:= .ref CN) rfl mCN rfl rfl) cN GN hr1 bN .nil zH (qc (qw 0 rfl) (qc (zJ (qc (qw 3 rfl) (qc (yK (qw 1 rfl) hT GT hr1 bT zH rfl) (qc (yK (qw 2 rfl) hT GT hr1 bT zH rfl) zA rfl) rfl) rfl)) zA rfl) rfl) rfl rfl rfl) rfl) (zF
   (yU (K:=K) rfl (qw 0 rfl) (qw 1 rfl) rfl) (zF
   (yU (K:=K) rfl (qw 0 rfl) (qw 2 rfl) rfl) (zK
   (yU (K:=K) rfl (qw 0 rfl) (qw 3 rfl) rfl))))),?_⟩
  refine ⟨_,rfl,_,rfl,_,rfl,t_one,C_one,d_one,f_one,rfl,e_one,n_one,s_one "told" (by decide),C_one,_,_,rfl,h_one,_,rfl,t_other,C_other,d_other,f_other,rfl,e_other,n_other,s_other "told" (by decide),C_other,_,_,rfl,h_other,nw fun p H1 s1 e1=>⟨t,C,dx,_,rfl,s1 _ _ ht,T.cl,T.np,?_⟩⟩;refine ⟨_,rfl,_,rfl,t,C,dx,[("parts",.ref p)],rfl,zD,T.cl,T.na "one" (by decide),by show 1<1000;decide,?_⟩;rw [yt];refine ⟨_,rfl,_,rfl,t,C,dx,[("parts",.ref p),("one",.ref t_one)],rfl,zD,T.cl,T.na "other" (by decide),by show 2<1000;decide,?_⟩;rw [yt];refine ⟨_,rfl,_,rfl,t,C,dx,[("parts",.ref p),("one",.ref t_one),("other",.ref t_other)],rfl,zD,T.cl,T.na "sign" (by decide),by show 3<1000;decide,?_⟩;rw [yt];exact zAP (fs:= [("one",.ref t_one),("other",.ref t_other),("sign",v_sign)]) q s1 ht e1 ["one","other","sign"] rfl (by decide)
def zGM(NC:Addr->Prop)(C:Addr):Sp:=fun vs H Q _=> ∃(t dx:Addr) (C_one C_other:Addr) (v_one v_other v_sign p_one p_other:V),vs= [.ref t,v_one,v_other,v_sign] /\H t=some (.ins C dx [])/\Nd NC H C_one v_one p_one/\Nd NC H C_other v_other p_other/\zBL H Q t C dx [v_sign,p_one,p_other]
theorem zOS:FnScope ["self","one","other","sign"] ["self","one","other","sign"] (zM (za (top 65) 0)):=fs
theorem zMO{f fN fT C CN:Addr}{fd fdN fdT:FuncData}{NC:Addr->Prop}(F:Fun K "__init__" "Product.__init__" (za (top 65) 0) f fd)(T:FC K C ["one","other","sign"])(mCN:mg "Node" =some (.ref CN))(cN:ClsM K CN "__init__" fN)(bN:zL K fdN ["self","parts"] [])(GN:FnOk P w K mg base CX0 1 fN fdN ["self","parts"] (zBv K))(hT: ∀C,NC C->Cls K C/\Meth K C "told" fT)(bT:zL K fdT ["self"] [])(GT:FnOk P w K mg base CX0 1 fT fdT ["self"] (zCO NC)):FnOk P w K mg base CX0 2 f fd ["self","one","other","sign"] (zGM NC C):=by
 refine F.ok zOS (fun vs H Q E h=>?_) (fun _ A _ s H vs Q E hr1 h=>?_)
 ·obtain ⟨t,dx,C_one,C_other,v_one,v_other,v_sign,p_one,p_other,rfl,_⟩:=h;rfl
 ·obtain ⟨t,dx,C_one,C_other,v_one,v_other,v_sign,p_one,p_other,rfl,ht,h_one,h_other,q⟩:=h;have hr1:Room 1 _:=hr1;obtain ⟨t_one,d_one,f_one,rfl,e_one,n_one,l_one,s_one⟩:=h_one.ex;obtain ⟨t_other,d_other,f_other,rfl,e_other,n_other,l_other,s_other⟩:=h_other.ex;refine ⟨_,QB.out (zF
   (yO (zAq (zc (v:= .ref CN) rfl mCN rfl rfl) cN GN hr1 bN .nil zH (qc (qw 0 rfl) (qc (zJ (qc (qw 3 rfl) (qc (yK (qw 1 rfl) hT GT hr1 bT zH rfl) (qc (yK (qw 2 rfl) hT GT hr1 bT zH rfl) zA rfl) rfl) rfl)) zA rfl) rfl) rfl rfl rfl) rfl) (zF
   (yU (K:=K) rfl (qw 0 rfl) (qw 1 rfl) rfl) (zF
   (yU (K:=K) rfl (qw 0 rfl) (qw 2 rfl) rfl) (zK
   (yU (K:=K) rfl (qw 0 rfl) (qw 3 rfl) rfl))))),?_⟩
  refine ⟨_,rfl,_,rfl,_,rfl,t_one,C_one,d_one,f_one,rfl,e_one,n_one,s_one "told" (by decide),C_one,_,_,rfl,h_one,_,rfl,t_other,C_other,d_other,f_other,rfl,e_other,n_other,s_other "told" (by decide),C_other,_,_,rfl,h_other,nw fun p H1 s1 e1=>⟨t,C,dx,_,rfl,s1 _ _ ht,T.cl,T.np,?_⟩⟩;refine ⟨_,rfl,_,rfl,t,C,dx,[("parts",.ref p)],rfl,zD,T.cl,T.na "one" (by decide),by show 1<1000;decide,?_⟩;rw [yt];refine ⟨_,rfl,_,rfl,t,C,dx,[("parts",.ref p),("one",.ref t_one)],rfl,zD,T.cl,T.na "other" (by decide),by show 2<1000;decide,?_⟩;rw [yt];refine ⟨_,rfl,_,rfl,t,C,dx,[("parts",.ref p),("one",.ref t_one),("other",.ref t_other)],rfl,zD,T.cl,T.na "sign" (by decide),by show 3<1000;decide,?_⟩;rw [yt];exact zAP (fs:= [("one",.ref t_one),("other",.ref t_other),("sign",v_sign)]) q s1 ht e1 ["one","other","sign"] rfl (by decide)
def zGf(NC:Addr->Prop)(C:Addr):Sp:=fun vs H Q _=> ∃(t dx:Addr) (C_node:Addr) (v_node v_exponent p_node:V),vs= [.ref t,v_node,v_exponent] /\H t=some (.ins C dx [])/\Nd NC H C_node v_node p_node/\zBL H Q t C dx [.str "power",p_node,v_exponent]
theorem zOY:FnScope ["self","node","exponent"] ["self","node","exponent"] (zM (za (top 66) 0)):=fs
theorem zMC{f fN fT C CN:Addr}{fd fdN fdT:FuncData}{NC:Addr->Prop}(F:Fun K "__init__" "Power.__init__" (za (top 66) 0) f fd)(T:FC K C ["node","exponent"])(mCN:mg "Node" =some (.ref CN))(cN:ClsM K CN "__init__" fN)(bN:zL K fdN ["self","parts"] [])(GN:FnOk P w K mg base CX0 1 fN fdN ["self","parts"] (zBv K))(hT: ∀C,NC C->Cls K C/\Meth K C "told" fT)(bT:zL K fdT ["self"] [])(GT:FnOk P w K mg base CX0 1 fT fdT ["self"] (zCO NC)):FnOk P w K mg base CX0 2 f fd ["self","node","exponent"] (zGf NC C):=by
 refine F.ok zOY (fun vs H Q E h=>?_) (fun _ A _ s H vs Q E hr1 h=>?_)
 ·obtain ⟨t,dx,C_node,v_node,v_exponent,p_node,rfl,_⟩:=h;rfl
 ·obtain ⟨t,dx,C_node,v_node,v_exponent,p_node,rfl,ht,h_node,q⟩:=h;have hr1:Room 1 _:=hr1;obtain ⟨t_node,d_node,f_node,rfl,e_node,n_node,l_node,s_node⟩:=h_node.ex;refine ⟨_,QB.out (zF
   (yO (zAq (zc (v:= .ref CN) rfl mCN rfl rfl) cN GN hr1 bN .nil zH (qc (qw 0 rfl) (qc (zJ (qc zG (qc (yK (qw 1 rfl) hT GT hr1 bT zH rfl) (qc (qw 2 rfl) zA rfl) rfl) rfl)) zA rfl) rfl) rfl rfl rfl) rfl) (zF
   (yU (K:=K) rfl (qw 0 rfl) (qw 1 rfl) rfl) (zK
   (yU (K:=K) rfl (qw 0 rfl) (qw 2 rfl) rfl)))),?_⟩
  refine ⟨_,rfl,_,rfl,t_node,C_node,d_node,f_node,rfl,e_node,n_node,s_node "told" (by decide),C_node,_,_,rfl,h_node,_,rfl,nw fun p H1 s1 e1=>⟨t,C,dx,_,rfl,s1 _ _ ht,T.cl,T.np,?_⟩⟩;refine ⟨_,rfl,_,rfl,t,C,dx,[("parts",.ref p)],rfl,zD,T.cl,T.na "node" (by decide),by show 1<1000;decide,?_⟩;rw [yt];refine ⟨_,rfl,_,rfl,t,C,dx,[("parts",.ref p),("node",.ref t_node)],rfl,zD,T.cl,T.na "exponent" (by decide),by show 2<1000;decide,?_⟩;rw [yt];exact zAP (fs:= [("node",.ref t_node),("exponent",v_exponent)]) q s1 ht e1 ["node","exponent"] rfl (by decide)
def zGV(NC:Addr->Prop)(C:Addr):Sp:=fun vs H Q _=> ∃(t dx:Addr) (C_one C_other C_yes C_no:Addr) (v_one v_other v_yes v_no p_one p_other p_yes p_no:V),vs= [.ref t,v_one,v_other,v_yes,v_no] /\H t=some (.ins C dx [])/\Nd NC H C_one v_one p_one/\Nd NC H C_other v_other p_other/\Nd NC H C_yes v_yes p_yes/\Nd NC H C_no v_no p_no/\zBL H Q t C dx [.str "if",p_one,p_other,p_yes,p_no]
theorem zMd:FnScope ["self","one","other","yes","no"] ["self","one","other","yes","no"] (zM (za (top 67) 0)):=fs
theorem zLq{f fN fT C CN:Addr}{fd fdN fdT:FuncData}{NC:Addr->Prop}(F:Fun K "__init__" "Choice.__init__" (za (top 67) 0) f fd)(T:FC K C ["one","other","yes","no"])(mCN:mg "Node" =some (.ref CN))(cN:ClsM K CN "__init__" fN)(bN:zL K fdN ["self","parts"] [])(GN:FnOk P w K mg base CX0 1 fN fdN ["self","parts"] (zBv K))(hT: ∀C,NC C->Cls K C/\Meth K C "told" fT)(bT:zL K fdT ["self"] [])(GT:FnOk P w K mg base CX0 1 fT fdT ["self"] (zCO NC)):FnOk P w K mg base CX0 2 f fd ["self","one","other","yes","no"] (zGV NC C):=by
 refine F.ok zMd (fun vs H Q E h=>?_) (fun _ A _ s H vs Q E hr1 h=>?_)
 ·obtain ⟨t,dx,C_one,C_other,C_yes,C_no,v_one,v_other,v_yes,v_no,p_one,p_other,p_yes,p_no,rfl,_⟩:=h;rfl
 ·obtain ⟨t,dx,C_one,C_other,C_yes,C_no,v_one,v_other,v_yes,v_no,p_one,p_other,p_yes,p_no,rfl,ht,h_one,h_other,h_yes,h_no,q⟩:=h;have hr1:Room 1 _:=hr1;obtain ⟨t_one,d_one,f_one,rfl,e_one,n_one,l_one,s_one⟩:=h_one.ex;obtain ⟨t_other,d_other,f_other,rfl,e_other,n_other,l_other,s_other⟩:=h_other.ex;obtain ⟨t_yes,d_yes,f_yes,rfl,e_yes,n_yes,l_yes,s_yes⟩:=h_yes.ex;obtain ⟨t_no,d_no,f_no,rfl,e_no,n_no,l_no,s_no⟩:=h_no.ex;refine ⟨_,QB.out (zF
   (yO (zAq (zc (v:= .ref CN) rfl mCN rfl rfl) cN GN hr1 bN .nil zH (qc (qw 0 rfl) (qc (zJ (qc zG (qc (yK (qw 1 rfl) hT GT hr1 bT zH rfl) (qc (yK (qw 2 rfl) hT GT hr1 bT zH rfl) (qc (yK (qw 3 rfl) hT GT hr1 bT zH rfl) (qc (yK (qw 4 rfl) hT GT hr1 bT zH rfl) zA rfl) rfl) rfl) rfl) rfl)) zA rfl) rfl) rfl rfl rfl) rfl) (zF
   (yU (K:=K) rfl (qw 0 rfl) (qw 1 rfl) rfl) (zF
   (yU (K:=K) rfl (qw 0 rfl) (qw 2 rfl) rfl) (zF
   (yU (K:=K) rfl (qw 0 rfl) (qw 3 rfl) rfl) (zK
   (yU (K:=K) rfl (qw 0 rfl) (qw 4 rfl) rfl)))))),?_⟩
  refine ⟨_,rfl,_,rfl,t_one,C_one,d_one,f_one,rfl,e_one,n_one,s_one "told" (by decide),C_one,_,_,rfl,h_one,_,rfl,t_other,C_other,d_other,f_other,rfl,e_other,n_other,s_other "told" (by decide),C_other,_,_,rfl,h_other,_,rfl,t_yes,C_yes,d_yes,f_yes,rfl,e_yes,n_yes,s_yes "told" (by decide),C_yes,_,_,rfl,h_yes,_,rfl,t_no,C_no,d_no,f_no,rfl,e_no,n_no,s_no "told" (by decide),C_no,_,_,rfl,h_no,nw fun p H1 s1 e1=>⟨t,C,dx,_,rfl,s1 _ _ ht,T.cl,T.np,?_⟩⟩;refine ⟨_,rfl,_,rfl,t,C,dx,[("parts",.ref p)],rfl,zD,T.cl,T.na "one" (by decide),by show 1<1000;decide,?_⟩;rw [yt];refine ⟨_,rfl,_,rfl,t,C,dx,[("parts",.ref p),("one",.ref t_one)],rfl,zD,T.cl,T.na "other" (by decide),by show 2<1000;decide,?_⟩;rw [yt];refine ⟨_,rfl,_,rfl,t,C,dx,[("parts",.ref p),("one",.ref t_one),("other",.ref t_other)],rfl,zD,T.cl,T.na "yes" (by decide),by show 3<1000;decide,?_⟩;rw [yt];refine ⟨_,rfl,_,rfl,t,C,dx,[("parts",.ref p),("one",.ref t_one),("other",.ref t_other),("yes",.ref t_yes)],rfl,zD,T.cl,T.na "no" (by decide),by show 4<1000;decide,?_⟩;rw [yt];exact zAP (fs:= [("one",.ref t_one),("other",.ref t_other),("yes",.ref t_yes),("no",.ref t_no)]) q s1 ht e1 ["one","other","yes","no"] rfl (by decide)
def zFn(NC:Addr->Prop)(C:Addr):Sp:=fun vs H Q _=> ∃(t dx:Addr) (C_start C_body:Addr) (v_name v_start v_rounds v_body p_start p_body:V),vs= [.ref t,v_name,v_start,v_rounds,v_body] /\H t=some (.ins C dx [])/\Nd NC H C_start v_start p_start/\Nd NC H C_body v_body p_body/\zBL H Q t C dx [.str "loop",v_name,p_start,v_rounds,p_body]
theorem zOG:FnScope ["self","name","start","rounds","body"] ["self","name","start","rounds","body"] (zM (za (top 68) 0)):=fs
theorem zML{f fN fT C CN:Addr}{fd fdN fdT:FuncData}{NC:Addr->Prop}(F:Fun K "__init__" "Loop.__init__" (za (top 68) 0) f fd)(T:FC K C ["name","start","rounds","body"])(mCN:mg "Node" =some (.ref CN))(cN:ClsM K CN "__init__" fN)(bN:zL K fdN ["self","parts"] [])(GN:FnOk P w K mg base CX0 1 fN fdN ["self","parts"] (zBv K))(hT: ∀C,NC C->Cls K C/\Meth K C "told" fT)(bT:zL K fdT ["self"] [])(GT:FnOk P w K mg base CX0 1 fT fdT ["self"] (zCO NC)):FnOk P w K mg base CX0 2 f fd ["self","name","start","rounds","body"] (zFn NC C):=by
 refine F.ok zOG (fun vs H Q E h=>?_) (fun _ A _ s H vs Q E hr1 h=>?_)
 ·obtain ⟨t,dx,C_start,C_body,v_name,v_start,v_rounds,v_body,p_start,p_body,rfl,_⟩:=h;rfl
 ·obtain ⟨t,dx,C_start,C_body,v_name,v_start,v_rounds,v_body,p_start,p_body,rfl,ht,h_start,h_body,q⟩:=h;have hr1:Room 1 _:=hr1;obtain ⟨t_start,d_start,f_start,rfl,e_start,n_start,l_start,s_start⟩:=h_start.ex;obtain ⟨t_body,d_body,f_body,rfl,e_body,n_body,l_body,s_body⟩:=h_body.ex;refine ⟨_,QB.out (zF
   (yO (zAq (zc (v:= .ref CN) rfl mCN rfl rfl) cN GN hr1 bN .nil zH (qc (qw 0 rfl) (qc (zJ (qc zG (qc (qw 1 rfl) (qc (yK (qw 2 rfl) hT GT hr1 bT zH rfl) (qc (qw 3 rfl) (qc (yK (qw 4 rfl) hT GT hr1 bT zH rfl) zA rfl) rfl) rfl) rfl) rfl)) zA rfl) rfl) rfl rfl rfl) rfl) (zF
   (yU (K:=K) rfl (qw 0 rfl) (qw 1 rfl) rfl) (zF
   (yU (K:=K) rfl (qw 0 rfl) (qw 2 rfl) rfl) (zF
   (yU (K:=K) rfl (qw 0 rfl) (qw 3 rfl) rfl) (zK
   (yU (K:=K) rfl (qw 0 rfl) (qw 4 rfl) rfl)))))),?_⟩
  refine ⟨_,rfl,_,rfl,_,rfl,t_start,C_start,d_start,f_start,rfl,e_start,n_start,s_start "told" (by decide),C_start,_,_,rfl,h_start,_,rfl,_,rfl,t_body,C_body,d_body,f_body,rfl,e_body,n_body,s_body "told" (by decide),C_body,_,_,rfl,h_body,nw fun p H1 s1 e1=>⟨t,C,dx,_,rfl,s1 _ _ ht,T.cl,T.np,?_⟩⟩;refine ⟨_,rfl,_,rfl,t,C,dx,[("parts",.ref p)],rfl,zD,T.cl,T.na "name" (by decide),by show 1<1000;decide,?_⟩;rw [yt];refine ⟨_,rfl,_,rfl,t,C,dx,[("parts",.ref p),("name",v_name)],rfl,zD,T.cl,T.na "start" (by decide),by show 2<1000;decide,?_⟩;rw [yt];refine ⟨_,rfl,_,rfl,t,C,dx,[("parts",.ref p),("name",v_name),("start",.ref t_start)],rfl,zD,T.cl,T.na "rounds" (by decide),by show 3<1000;decide,?_⟩;rw [yt];refine ⟨_,rfl,_,rfl,t,C,dx,[("parts",.ref p),("name",v_name),("start",.ref t_start),("rounds",v_rounds)],rfl,zD,T.cl,T.na "body" (by decide),by show 4<1000;decide,?_⟩;rw [yt];exact zAP (fs:= [("name",v_name),("start",.ref t_start),("rounds",v_rounds),("body",.ref t_body)]) q s1 ht e1 ["name","start","rounds","body"] rfl (by decide)
def zQM(H:Hp)(Q:VK)(t C dx:Addr)(nm:V)(ps:List V):Prop:= ∀H' p q fs,(∀b o,H b=some o->b≠t->H' b=some o)->H' p=some (.tup [.str "call",nm,.ref q])->H' q=some (.tup ps)->H' t=some (.ins C dx fs)->fs.lookup ("parts" :Str)=some (.ref p)->(∀m∈shN,fs.lookup m=none)->Q .non H'
def zFv(NC:Addr->Prop)(C:Addr):Sp:=fun vs H Q _=> ∃(t dx a:Addr) (nm:V) (ns ps:List V),vs= [.ref t,nm,.ref a] /\H t=some (.ins C dx [])/\(H a=some (.lst ns)\/H a=some (.tup ns))/\ns.length<=10/\Paired (fun v p=> ∃C',Nd NC H C' v p) ns ps/\zQM H Q t C dx nm ps
theorem zNe:FnScope ["self","name","nodes"] ["self","name","nodes"] (zM (za (top 69) 0)):=fs
theorem zLe{f fN fT C CN:Addr}{fd fdN fdT:FuncData}{NC:Addr->Prop}(F:Fun K "__init__" "Call.__init__" (za (top 69) 0) f fd)(B:Bn mg)(T:FC K C ["name","nodes"])(mCN:mg "Node" =some (.ref CN))(cN:ClsM K CN "__init__" fN)(bN:zL K fdN ["self","parts"] [])(GN:FnOk P w K mg base CX0 1 fN fdN ["self","parts"] (zBv K))(hT: ∀C,NC C->Cls K C/\Meth K C "told" fT)(bT:zL K fdT ["self"] [])(GT:FnOk P w K mg base CX0 1 fT fdT ["self"] (zCO NC)):FnOk P w K mg base CX0 2 f fd ["self","name","nodes"] (zFv NC C):=by
 refine F.ok zNe (fun vs H Q E h=>?_) (fun _ A _ s H vs Q E hr1 h=>?_)
 ·obtain ⟨t,dx,a,nm,ns,ps,rfl,_⟩:=h;rfl
 ·obtain ⟨t,dx,a,nm,ns,ps,rfl,ht,ha,n10,hn,q⟩:=h;have hr1:Room 1 _:=hr1;have lp:=Paired.len hn;refine ⟨_,QB.out (zF
   (yO (zAq (zc (v:= .ref CN) rfl mCN rfl rfl) cN GN hr1 bN .nil zH (qc (qw 0 rfl) (qc (zJ (qc zG (qc (qw 1 rfl) (qc (zBw (zAK (K:=K) rfl) rfl B.tuple yT (qc (yu (cl:= []) ["node"] [] [] rfl (zPH (K:=K) rfl (qw 2 rfl)) rfl (by decide+kernel) rfl (by decide+kernel) (fun _ _ h=>nomatch h) rfl (fun j y i h=>nomatch h) (yJ rfl) (fun _ _ _ _=>(zq 0 (show (["node"] :List Str).Nodup by decide+kernel) rfl (.inl rfl) (.inr rfl))) (fun _ _ _ _=>yy) (fun _ _ _ _=>(yK (qw 0 rfl) hT GT hr1 bT zH rfl)) (fun _=>rfl)) zA rfl) rfl) zA rfl) rfl) rfl)) zA rfl) rfl) rfl rfl rfl) rfl) (zF
   (yU (K:=K) rfl (qw 0 rfl) (qw 1 rfl) rfl) (zK
   (yU (K:=K) rfl (qw 0 rfl) (zBw (zAK (K:=K) rfl) rfl B.tuple yT (qc (qw 2 rfl) zA rfl) rfl) rfl)))),?_⟩
  have fin: ∀(H3 H5:Hp) (p qa:Addr) (z:V),zB H H3->H3 p=some (.tup [.str "call",nm,.ref qa])->H3 qa=some (.tup ps)->zB (L2.upd H3 t (.ins C dx [("parts",.ref p),("name",nm)])) H5->Q .non (L2.upd H5 t (.ins C dx [("parts",.ref p),("name",nm),("nodes",z)])):=fun H3 H5 p qa z s03 ep eq s35=>by
   have g: ∀{b:Addr} {o:HO},H3 b=some o->b≠t->(L2.upd H5 t (.ins C dx [("parts",.ref p),("name",nm),("nodes",z)])) b=some o:=fun e n=>by rw [zQ n];exact s35 _ _ (by rw [zQ n];exact e)
   have np: ∀{b:Addr} {ys:List V},H3 b=some (.tup ys)->b≠t:=fun e y=>by rw [y,s03 _ _ ht] at e;cases e
   exact q _ p qa _ (fun b o hb hn=>g (s03 _ _ hb) hn) (g ep (np ep)) (g eq (np eq)) zD (by rw [List.lookup_cons];simp) (zKj ["parts","name","nodes"] rfl (by decide))
  rcases ha with ha | ha
  ·skip
   refine ⟨_,rfl,_,rfl,_,rfl,.inl ⟨a,rfl,⟨_,SqL.of ha⟩,fun D hD=>?_⟩⟩;refine zi ns.length (fun i ys H'=>i<=ns.length/\ys=ps.take i/\zB H H'/\H' D=some (.lst ys)) ⟨zRr _,by simp,zB.upd hD,zD⟩ (by rw [zRn];omega) ?_ ?_ ?_
   ·rintro i ys H' hi ⟨_,rfl,s1,e1⟩;exact ⟨by rw [List.length_take];omega,e1,fun h=>⟨_,_,SqL.of (s1 _ _ ha),zRc h⟩,fun h=>⟨_,SqL.of (s1 _ _ ha),by omega⟩⟩
   ·rintro i ys H' y H'' hi ⟨_,rfl,s1,e1⟩ ⟨rfl,hy⟩ pre hpre;obtain ⟨p0,rfl⟩:=yd hpre;have hy':=hy _ (SqL.of (s1 _ _ ha));rw [zRc hi] at hy';cases hy';obtain ⟨p,ep,C',hv⟩:=Paired.get' hn (zRc hi);have hv:=hv.same s1;obtain ⟨tn,dn,fn,en,e2,nc,l2,sh⟩:=hv.ex;refine ⟨⟨[some ns[i]],rfl,rfl⟩,zN ⟨_,rfl,tn,C',dn,fn,en,e2,nc,sh "told" (by decide),C',_,p,rfl,hv,e1,hi,?_,zB.store s1 hD,zD⟩⟩;rw [zRy,ep];rfl
   ·rintro ys H1 ⟨_,rfl,s1,e1⟩;rw [List.take_of_length_le (by omega)] at e1;refine ⟨D,ps,rfl,.inl ⟨SqL.of e1,fun qa hqa=>?_⟩⟩;obtain ⟨H2,g2,s2,e2⟩:=zAp hqa (.tup ps);rw [g2];refine nw fun p H3 s3 e3=>⟨t,C,dx,_,rfl,(s1.trans (s2.trans s3)) _ _ ht,T.cl,T.np,?_⟩;have s03:=s1.trans (s2.trans s3);refine ⟨_,rfl,_,rfl,t,C,dx,[("parts",.ref p)],rfl,zD,T.cl,T.na "name" (by decide),by show 1<1000;decide,?_⟩;rw [yt];have hat:a≠t:=fun z=>by rw [z,ht] at ha;cases ha
    have ha4:(L2.upd H3 t (.ins C dx (zAM "name" nm [("parts",.ref p)]))) a=_:=(zQ hat).trans (s03 _ _ ha);refine ⟨_,rfl,a,ns,rfl,.inl ⟨SqL.of ha4,fun l hl=>?_⟩⟩;obtain ⟨H5,g5,s5,e5⟩:=zAp hl (.tup ns);rw [g5];exact ⟨_,rfl,t,C,dx,_,rfl,s5 _ _ zD,T.cl,T.na "nodes" (by decide),by show 2<1000;decide,fin H3 H5 p qa _ s03 e3 (s3 _ _ e2) s5⟩
  ·skip
   refine ⟨_,rfl,_,rfl,_,rfl,.inr ⟨a,rfl,⟨_,SqT.of ha⟩,fun D hD=>?_⟩⟩;refine zi ns.length (fun i ys H'=>i<=ns.length/\ys=ps.take i/\zB H H'/\H' D=some (.lst ys)) ⟨zRr _,by simp,zB.upd hD,zD⟩ (by rw [zRn];omega) ?_ ?_ ?_
   ·rintro i ys H' hi ⟨_,rfl,s1,e1⟩;exact ⟨by rw [List.length_take];omega,e1,fun h=>⟨_,_,SqT.of (s1 _ _ ha),zRc h⟩,fun h=>⟨_,SqT.of (s1 _ _ ha),by omega⟩⟩
   ·rintro i ys H' y H'' hi ⟨_,rfl,s1,e1⟩ ⟨rfl,hy⟩ pre hpre;obtain ⟨p0,rfl⟩:=yd hpre;have hy':=hy _ (SqT.of (s1 _ _ ha));rw [zRc hi] at hy';cases hy';obtain ⟨p,ep,C',hv⟩:=Paired.get' hn (zRc hi);have hv:=hv.same s1;obtain ⟨tn,dn,fn,en,e2,nc,l2,sh⟩:=hv.ex;refine ⟨⟨[some ns[i]],rfl,rfl⟩,zN ⟨_,rfl,tn,C',dn,fn,en,e2,nc,sh "told" (by decide),C',_,p,rfl,hv,e1,hi,?_,zB.store s1 hD,zD⟩⟩;rw [zRy,ep];rfl
   ·rintro ys H1 ⟨_,rfl,s1,e1⟩;rw [List.take_of_length_le (by omega)] at e1;refine ⟨D,ps,rfl,.inl ⟨SqL.of e1,fun qa hqa=>?_⟩⟩;obtain ⟨H2,g2,s2,e2⟩:=zAp hqa (.tup ps);rw [g2];refine nw fun p H3 s3 e3=>⟨t,C,dx,_,rfl,(s1.trans (s2.trans s3)) _ _ ht,T.cl,T.np,?_⟩;have s03:=s1.trans (s2.trans s3);refine ⟨_,rfl,_,rfl,t,C,dx,[("parts",.ref p)],rfl,zD,T.cl,T.na "name" (by decide),by show 1<1000;decide,?_⟩;rw [yt];have hat:a≠t:=fun z=>by rw [z,ht] at ha;cases ha
    have ha4:(L2.upd H3 t (.ins C dx (zAM "name" nm [("parts",.ref p)]))) a=_:=(zQ hat).trans (s03 _ _ ha);exact ⟨_,rfl,a,ns,rfl,.inr ⟨SqT.of ha4,_,rfl,t,C,dx,_,rfl,zD,T.cl,T.na "nodes" (by decide),by show 2<1000;decide,fin H3 _ p qa _ s03 e3 (s3 _ _ e2) (zB.refl _)⟩⟩
structure Cz where
 (num nam neg sum pro pow cho loo cal:Addr)
def Cz.of(c:Cz):Ex->Addr
 | .num ..=>c.num
 | .nam _=>c.nam
 | .neg _=>c.neg
 | .bin w _ _=>if w= "plus" \/w= "minus" then c.sum else c.pro
 | .pow ..=>c.pow
 | .ite ..=>c.cho
 | .loop ..=>c.loo
 | .call1 ..=>c.cal
 | .call2 ..=>c.cal
 | .call3 ..=>c.cal
def NdX(NC:Addr->Prop)(c:Cz)(H:Hp)(e:Ex)(v:V):Prop:= ∃p,Nd NC H (c.of e) v p/\Xt H e p
theorem NdX.same{NC:Addr->Prop}{c:Cz}{H H':Hp}{e:Ex}{v:V}(h:NdX NC c H e v)(s:zB H H'):NdX NC c H' e v:=let ⟨p,a,b⟩:=h;⟨p,a.same s,b.same s⟩
def zj(H H':Hp):Prop:= ∀b o,H b=some o->(∀xs,o≠ .lst xs)->H' b=some o
theorem zj.t{H H':Hp}(s:zj H H'):zr H H':=fun b xs e=>s b _ e fun _ z=>by cases z
theorem zj.lst{H:Hp}{l:Addr}{xs:List V}{o:HO}(h:H l=some (.lst xs)):zj H (L2.upd H l o):=fun b u e n=>by rw [zQ fun z=>by rw [z,h] at e;cases e;exact n _ rfl];exact e
theorem NdX.sameN{NC:Addr->Prop}{c:Cz}{H H':Hp}{e:Ex}{v:V}(h:NdX NC c H e v)(s:zj H H'):NdX NC c H' e v:=let ⟨p,⟨t,dx,fs,a,e,b⟩,x⟩:=h;⟨p,⟨t,dx,fs,a,s _ _ e (fun _ z=>(by cases z)),b⟩,x.sameT s.t⟩
structure CzK(NC:Addr->Prop)(c:Cz):Prop where
 num:NC c.num
 nam:NC c.nam
 neg:NC c.neg
 sum:NC c.sum
 pro:NC c.pro
 pow:NC c.pow
 cho:NC c.cho
 loo:NC c.loo
 cal:NC c.cal
theorem CzK.of{NC:Addr->Prop}{c:Cz}(h:CzK NC c)(e:Ex):NC (c.of e):=by
 cases e with
 | num=>exact h.num
 | nam=>exact h.nam
 | neg=>exact h.neg
 | bin w=>
  show NC (if w= "plus" \/w= "minus" then c.sum else c.pro);by_cases z:w= "plus" \/w= "minus"
  ·rw [if_pos z];exact h.sum
  ·rw [if_neg z];exact h.pro
 | pow=>exact h.pow
 | ite=>exact h.cho
 | loop=>exact h.loo
 | call1=>exact h.cal
 | call2=>exact h.cal
 | call3=>exact h.cal
section
variable {F:V->Ex->Prop}{xs:List V}{a b c d:Ex}
theorem pd1(h:Paired F xs [a]): ∃x,xs= [x] /\F x a:=by
 cases h with
 | cons h r=>cases r;exact ⟨_,rfl,h⟩
theorem pd2(h:Paired F xs [a,b]): ∃x y,xs= [x,y] /\F x a/\F y b:=by
 cases h with
 | cons h r=>obtain ⟨y,rfl,k⟩:=pd1 r;exact ⟨_,_,rfl,h,k⟩
theorem pd3(h:Paired F xs [a,b,c]): ∃x y z,xs= [x,y,z] /\F x a/\F y b/\F z c:=by
 cases h with
 | cons h r=>obtain ⟨y,z,rfl,k⟩:=pd2 r;exact ⟨_,_,_,rfl,h,k⟩
theorem pd4(h:Paired F xs [a,b,c,d]): ∃x y z u,xs= [x,y,z,u] /\F x a/\F y b/\F z c/\F u d:=by
 cases h with
 | cons h r=>obtain ⟨y,z,u,rfl,k⟩:=pd3 r;exact ⟨_,_,_,_,rfl,h,k⟩
end
theorem zAI{H H':Hp}{x dx C:Addr}(hx:H x=none)(hdx:H dx=none)(keep: ∀b o,(L2.upd (L2.upd H dx (.own x)) x (.ins C dx [])) b=some o->b≠x->H' b=some o):zB H H':=fun b o e=>by
 have n1:b≠x:=fun z=>by rw [z,hx] at e;cases e
 have n2:b≠dx:=fun z=>by rw [z,hdx] at e;cases e
 exact keep b o (by rw [zQ n1,zQ n2];exact e) n1
theorem zV{H:Hp}{x dx C:Addr}(hx:H x=none)(hdx:H dx=none):zB H (L2.upd (L2.upd H dx (.own x)) x (.ins C dx [])):=fun b o e=>by
 have n1:b≠x:=fun z=>by rw [z,hx] at e;cases e
 have n2:b≠dx:=fun z=>by rw [z,hdx] at e;cases e
 rw [zQ n1,zQ n2];exact e
def zKO(NC:Addr->Prop)(c:Cz)(d:Nat):Sp:=fun vs H Q _=> ∃(x:V) (e:Ex),vs= [x] /\Xt H e x/\Ok e/\zO e<=d/\ ∀v H',zB H H'->NdX NC c H' e v->Q v H'
theorem zHa:FnScope ["told","word","kids"] ["told"] (zM zEK):=fs
theorem zPW{f fK fNum fNam fNeg fSum fPro fPow fCho fLoo fCal:Addr}{fd fdK fdNum fdNam fdNeg fdSum fdPro fdPow fdCho fdLoo fdCal:FuncData}{NC:Addr->Prop}{c:Cz}(FM:Fun K "made_of_told" "made_of_told" zEK f fd)(B:Bn mg)(ck:CzK NC c)
  (MNum:Mk K c.num fNum) (mNum:mg "Number" =some (.ref c.num)) (bNum:zL K fdNum ["self","amount","unit"] []) (GNum:FnOk P w K mg base CX0 2 fNum fdNum ["self","amount","unit"] (zGP NC c.num))
  (MNam:Mk K c.nam fNam) (mNam:mg "Name" =some (.ref c.nam)) (bNam:zL K fdNam ["self","name"] []) (GNam:FnOk P w K mg base CX0 2 fNam fdNam ["self","name"] (zGd NC c.nam))
  (MNeg:Mk K c.neg fNeg) (mNeg:mg "Negative" =some (.ref c.neg)) (bNeg:zL K fdNeg ["self","node"] []) (GNeg:FnOk P w K mg base CX0 2 fNeg fdNeg ["self","node"] (zFd NC c.neg))
  (MSum:Mk K c.sum fSum) (mSum:mg "Sum" =some (.ref c.sum)) (bSum:zL K fdSum ["self","one","other","sign"] []) (GSum:FnOk P w K mg base CX0 2 fSum fdSum ["self","one","other","sign"] (zFf NC c.sum))
  (MPro:Mk K c.pro fPro) (mPro:mg "Product" =some (.ref c.pro)) (bPro:zL K fdPro ["self","one","other","sign"] []) (GPro:FnOk P w K mg base CX0 2 fPro fdPro ["self","one","other","sign"] (zGM NC c.pro))
  (MPow:Mk K c.pow fPow) (mPow:mg "Power" =some (.ref c.pow)) (bPow:zL K fdPow ["self","node","exponent"] []) (GPow:FnOk P w K mg base CX0 2 fPow fdPow ["self","node","exponent"] (zGf NC c.pow))
  (MCho:Mk K c.cho fCho) (mCho:mg "Choice" =some (.ref c.cho)) (bCho:zL K fdCho ["self","one","other","yes","no"] []) (GCho:FnOk P w K mg base CX0 2 fCho fdCho ["self","one","other","yes","no"] (zGV NC c.cho))
  (MLoo:Mk K c.loo fLoo) (mLoo:mg "Loop" =some (.ref c.loo)) (bLoo:zL K fdLoo ["self","name","start","rounds","body"] []) (GLoo:FnOk P w K mg base CX0 2 fLoo fdLoo ["self","name","start","rounds","body"] (zFn NC c.loo))
  (MCal:Mk K c.cal fCal) (mCal:mg "Call" =some (.ref c.cal)) (bCal:zL K fdCal ["self","name","nodes"] []) (GCal:FnOk P w K mg base CX0 2 fCal fdCal ["self","name","nodes"] (zFv NC c.cal))
  (FK:Fun K "kids_of" "kids_of" zCP fK fdK) (bK:zL K fdK ["told"] []) (mK:mg "kids_of" =some (.ref fK)) (GK:FnOk P w K mg base CX0 1 fK fdK ["told"] zGO)
  (bM:zL K fd ["told"] []) (mM:mg "made_of_told" =some (.ref f)): ∀d,FnOk P w K mg base CX0 (4+d) f fd ["told"] (zKO NC c d):=by
 intro d
 induction d with
 | zero=>
  refine FM.ok zHa (fun vs H Q E h=>?_) (fun cdv A outer s H vs Q E hr h=>?_)
  ·obtain ⟨x,e,rfl,_⟩:=h;rfl
  ·obtain ⟨x,e,rfl,_,_,h,_⟩:=h;have:=zAw e;omega
 | succ d GM=>
  refine FM.ok zHa (fun vs H Q E h=>?_) (fun cdv A outer s H vs Q E hrM h=>?_)
  ·obtain ⟨x,e,rfl,_⟩:=h;rfl
  ·obtain ⟨x,e,rfl,hx,ok,dp,q⟩:=h;have hrM:Room (4+d) _:=hrM;have hr2:Room (2+1) _:=hrM.mono (by omega);have hr1:Room 1 _:=hrM.mono (by omega);refine ⟨_,QB.out (zF
   (zd 1 zHa.nd rfl (zY (K:=K) rfl (qw 0 rfl) zC (fun _ _=>rfl)) rfl) (zF
   (zf (zU zh (qw 1 rfl) zG rfl) (zK
    (zR (yQ MNum GNum hr2 rfl mNum bNum .nil zH (qc (zY (K:=K) rfl (qw 0 rfl) zC (fun _ _=>rfl)) (qc (zY (K:=K) rfl (qw 0 rfl) zC (fun _ _=>rfl)) zA rfl) rfl) rfl rfl rfl))) zZ) (zF
   (zf (zU zh (qw 1 rfl) zG rfl) (zK
    (zR (yQ MNam GNam hr2 rfl mNam bNam .nil zH (qc (zY (K:=K) rfl (qw 0 rfl) zC (fun _ _=>rfl)) zA rfl) rfl rfl rfl))) zZ) (zF
   (zCC (cl:= []) zBj 2 (by exact zHa.nd) rfl (Or.inl rfl) (.inr rfl) ["kid"] [] [] rfl (zAm (K:=K) rfl (zP GK hr1 rfl mK FK.kp bK .nil zH (qc (qw 0 rfl) zA rfl) rfl rfl rfl)) rfl (by decide+kernel) rfl (by decide+kernel) (fun _ _ h=>nomatch h) rfl (fun j y i h=>nomatch h) (yJ rfl) (fun _ _ _ _=>(zq 0 (show (["kid"] :List Str).Nodup by decide+kernel) rfl (.inl rfl) (.inr rfl))) (fun _ _ _ _=>yy) (fun C s₂ H₂ fp xe E hp=>(zP GM hrM rfl mM FM.kp bM .nil zH (qc (qw 0 rfl) zA rfl) rfl rfl rfl)) (fun _=>rfl) rfl) (zF
   (zf (zU zh (qw 1 rfl) zG rfl) (zK
    (zR (yQ MNeg GNeg hr2 rfl mNeg bNeg .nil zH (qc (zg (K:=K) rfl (qw 2 rfl) zC (fun _ _=>rfl)) zA rfl) rfl rfl rfl))) zZ) (zF
   (zf (t_w (zAF (zU zh (qw 1 rfl) zG rfl) (yz (zU zh (qw 1 rfl) zG rfl)))) (zK
    (zR (yQ MSum GSum hr2 rfl mSum bSum .nil zH (qc (zg (K:=K) rfl (qw 2 rfl) zC (fun _ _=>rfl)) (qc (zg (K:=K) rfl (qw 2 rfl) zC (fun _ _=>rfl)) (qc (qw 1 rfl) zA rfl) rfl) rfl) rfl rfl rfl))) zZ) (zF
   (zf (t_w (zAF (zU zh (qw 1 rfl) zG rfl) (yz (zU zh (qw 1 rfl) zG rfl)))) (zK
    (zR (yQ MPro GPro hr2 rfl mPro bPro .nil zH (qc (zg (K:=K) rfl (qw 2 rfl) zC (fun _ _=>rfl)) (qc (zg (K:=K) rfl (qw 2 rfl) zC (fun _ _=>rfl)) (qc (qw 1 rfl) zA rfl) rfl) rfl) rfl rfl rfl))) zZ) (zF
   (zf (zU zh (qw 1 rfl) zG rfl) (zK
    (zR (yQ MPow GPow hr2 rfl mPow bPow .nil zH (qc (zg (K:=K) rfl (qw 2 rfl) zC (fun _ _=>rfl)) (qc (zY (K:=K) rfl (qw 0 rfl) zC (fun _ _=>rfl)) zA rfl) rfl) rfl rfl rfl))) zZ) (zF
   (zf (zU zh (qw 1 rfl) zG rfl) (zK
    (zR (yQ MCho GCho hr2 rfl mCho bCho .nil zH (qc (zg (K:=K) rfl (qw 2 rfl) zC (fun _ _=>rfl)) (qc (zg (K:=K) rfl (qw 2 rfl) zC (fun _ _=>rfl)) (qc (zg (K:=K) rfl (qw 2 rfl) zC (fun _ _=>rfl)) (qc (zg (K:=K) rfl (qw 2 rfl) zC (fun _ _=>rfl)) zA rfl) rfl) rfl) rfl) rfl rfl rfl))) zZ) (zF
   (zf (zU zh (qw 1 rfl) zG rfl) (zK
    (zR (yQ MLoo GLoo hr2 rfl mLoo bLoo .nil zH (qc (zY (K:=K) rfl (qw 0 rfl) zC (fun _ _=>rfl)) (qc (zg (K:=K) rfl (qw 2 rfl) zC (fun _ _=>rfl)) (qc (zY (K:=K) rfl (qw 0 rfl) zC (fun _ _=>rfl)) (qc (zg (K:=K) rfl (qw 2 rfl) zC (fun _ _=>rfl)) zA rfl) rfl) rfl) rfl) rfl rfl rfl))) zZ) (zK
   (zR (yQ MCal GCal hr2 rfl mCal bCal .nil zH (qc (zY (K:=K) rfl (qw 0 rfl) zC (fun _ _=>rfl)) (qc (qw 2 rfl) zA rfl) rfl) rfl rfl rfl))))))))))))),?_⟩
   have done: ∀(H1 H':Hp) (x dx p:Addr) (fs:List (Str×V)),zB H H1->H1 x=none->H1 dx=none->(∀b o,(L2.upd (L2.upd H1 dx (.own x)) x (.ins (c.of e) dx [])) b=some o->b≠x->H' b=some o)->H' x=some (.ins (c.of e) dx fs)->fs.lookup ("parts" :Str)=some (.ref p)->(∀m∈shN,fs.lookup m=none)->(zB H1 H'->Xt H' e (.ref p))->Q (.ref x) H':=fun H1 H' x dx p fs s01 hx hdx keep et lp sh xt=>
    have s:=zAI hx hdx keep
    q (.ref x) H' (s01.trans s) ⟨.ref p,⟨x,dx,fs,rfl,et,ck.of e,lp,sh⟩,xt s⟩
   cases e with
   | num a b u=>
    obtain ⟨t,p0,y,rfl,h1,h2,h3⟩:=hx;exact ⟨_,rfl,t,_,_,_,rfl,rfl,SqT.of h1,rfl,⟨_,rfl,rfl,_,rfl,zN ⟨_,rfl,t,_,_,_,rfl,rfl,SqT.of h1,rfl,_,rfl,t,_,_,_,rfl,rfl,SqT.of h1,rfl,fun x dx hx hdx hne=>⟨x,dx,_,_,rfl,zD,fun H' p fs keep ep et lp sh=>⟨rfl,done H H' x dx p fs (zB.refl H) hx hdx keep et lp sh fun s=>⟨p,_,_,rfl,ep,s _ _ h2,h3.same s⟩⟩⟩⟩⟩⟩
   | nam n=>
    obtain ⟨t,rfl,h1⟩:=hx;exact ⟨_,rfl,t,_,_,_,rfl,rfl,SqT.of h1,rfl,⟨_,rfl,rfl,_,rfl,zE ⟨_,rfl,rfl,_,rfl,zN ⟨_,rfl,t,_,_,_,rfl,rfl,SqT.of h1,rfl,fun x dx hx hdx hne=>⟨x,dx,_,rfl,zD,fun H' p fs keep ep et lp sh=>⟨rfl,done H H' x dx p fs (zB.refl H) hx hdx keep et lp sh fun s=>⟨p,rfl,ep⟩⟩⟩⟩⟩⟩⟩
   | neg a=>
    have hx0:=hx;obtain ⟨t,x,rfl,h1,_⟩:=hx;refine ⟨_,rfl,t,_,_,_,rfl,rfl,SqT.of h1,rfl,⟨_,rfl,rfl,_,rfl,zE ⟨_,rfl,rfl,_,rfl,zE ?_⟩⟩⟩;obtain ⟨ks,fm,kd⟩:=zAS hx0 ok;refine ⟨_,rfl,_,ks,rfl,fm,fun l H1 s1 nl el=>⟨l,rfl,⟨_,SqL.of el⟩,fun D hD=>?_⟩⟩;have lk:=Paired.len kd;have k4:=fm.len;have nD:l≠D:=fun z=>by rw [z,hD] at el;cases el
    refine zi ks.length (fun i ys H'=>i<=ks.length/\ys.length=i/\zB H1 H'/\H' D=some (.lst ys)/\Paired (fun v e=>NdX NC c H' e v) ys ((zX (.neg a)).take i)) ⟨zRr _,rfl,zB.upd hD,zD,.nil⟩ (by rw [zRn];omega) ?_ ?_ ?_
    ·rintro i ys H' hi ⟨_,ly,s2,eD,_⟩;exact ⟨by omega,eD,fun h=>⟨_,_,SqL.of (s2 _ _ el),zRc h⟩,fun h=>⟨_,SqL.of (s2 _ _ el),by omega⟩⟩
    ·rintro i ys H' y H'' hi ⟨_,ly,s2,eD,pr⟩ ⟨rfl,hy⟩ pre hpre;obtain ⟨p0,rfl⟩:=yd hpre;have hy':=hy _ (SqL.of (s2 _ _ el));rw [zRc hi] at hy';cases hy';obtain ⟨k,ek,hk⟩:=Paired.get' kd (zRc hi);have hkm:=zSE ek;have dk:=yG hkm;refine ⟨⟨[some ks[i]],rfl,rfl⟩,zN ⟨_,rfl,ks[i],k,rfl,hk.same (s1.trans s2),yc ok hkm,by omega,fun v H3 s3 nd=>⟨s3 _ _ eD,hi,by simp [ly],zB.store (s2.trans s3) hD,zD,?_⟩⟩⟩;rw [zRy,ek];have sN:zj H3 (L2.upd H3 D (.lst (ys++ [v]))):=zj.lst (s3 _ _ eD);exact Paired.snoc' (Paired.mapM pr fun _ _ _ h=>(h.same s3).sameN sN) (nd.sameN sN)
    ·rintro ys H2 ⟨_,ly,s2,eD,pr⟩;rw [List.take_of_length_le (by omega)] at pr;have s02:=s1.trans s2;obtain ⟨v0,rfl,⟨p0,n0,x0⟩⟩:=pd1 pr;have h1:=s02 _ _ h1;exact ⟨_,rfl,rfl,_,rfl,zN ⟨_,rfl,D,_,_,_,rfl,rfl,SqL.of eD,rfl,fun x dx hx hdx hne=>⟨x,dx,_,_,_,rfl,zD,n0.same (zV hx hdx),fun H' p fs keep ep et lp sh=>⟨rfl,done H2 H' x dx p fs s02 hx hdx keep et lp sh fun s=>⟨p,_,rfl,ep,x0.same s⟩⟩⟩⟩⟩
   | bin w a b=>
    obtain ⟨hw,oka,okb⟩:=id ok;have hx0:=hx;obtain ⟨t,x,y,rfl,h1,_,_⟩:=hx;rcases hw with rfl | rfl | rfl | rfl
    ·refine ⟨_,rfl,t,_,_,_,rfl,rfl,SqT.of h1,rfl,⟨_,rfl,rfl,_,rfl,zE ⟨_,rfl,rfl,_,rfl,zE ?_⟩⟩⟩;obtain ⟨ks,fm,kd⟩:=zAS hx0 ok;refine ⟨_,rfl,_,ks,rfl,fm,fun l H1 s1 nl el=>⟨l,rfl,⟨_,SqL.of el⟩,fun D hD=>?_⟩⟩;have lk:=Paired.len kd;have k4:=fm.len;have nD:l≠D:=fun z=>by rw [z,hD] at el;cases el
     refine zi ks.length (fun i ys H'=>i<=ks.length/\ys.length=i/\zB H1 H'/\H' D=some (.lst ys)/\Paired (fun v e=>NdX NC c H' e v) ys ((zX (.bin "plus" a b)).take i)) ⟨zRr _,rfl,zB.upd hD,zD,.nil⟩ (by rw [zRn];omega) ?_ ?_ ?_
     ·rintro i ys H' hi ⟨_,ly,s2,eD,_⟩;exact ⟨by omega,eD,fun h=>⟨_,_,SqL.of (s2 _ _ el),zRc h⟩,fun h=>⟨_,SqL.of (s2 _ _ el),by omega⟩⟩
     ·rintro i ys H' y H'' hi ⟨_,ly,s2,eD,pr⟩ ⟨rfl,hy⟩ pre hpre;obtain ⟨p0,rfl⟩:=yd hpre;have hy':=hy _ (SqL.of (s2 _ _ el));rw [zRc hi] at hy';cases hy';obtain ⟨k,ek,hk⟩:=Paired.get' kd (zRc hi);have hkm:=zSE ek;have dk:=yG hkm;refine ⟨⟨[some ks[i]],rfl,rfl⟩,zN ⟨_,rfl,ks[i],k,rfl,hk.same (s1.trans s2),yc ok hkm,by omega,fun v H3 s3 nd=>⟨s3 _ _ eD,hi,by simp [ly],zB.store (s2.trans s3) hD,zD,?_⟩⟩⟩;rw [zRy,ek];have sN:zj H3 (L2.upd H3 D (.lst (ys++ [v]))):=zj.lst (s3 _ _ eD);exact Paired.snoc' (Paired.mapM pr fun _ _ _ h=>(h.same s3).sameN sN) (nd.sameN sN)
     ·rintro ys H2 ⟨_,ly,s2,eD,pr⟩;rw [List.take_of_length_le (by omega)] at pr;have s02:=s1.trans s2;obtain ⟨v0,v1,rfl,⟨p0,n0,x0⟩,⟨p1,n1,x1⟩⟩:=pd2 pr;exact ⟨_,rfl,rfl,_,rfl,zE ⟨_,rfl,rfl,_,rfl,zN (zN ⟨_,rfl,D,_,_,_,rfl,rfl,SqL.of eD,rfl,_,rfl,D,_,_,_,rfl,rfl,SqL.of eD,rfl,_,rfl,fun x dx hx hdx hne=>⟨x,dx,_,_,_,_,_,_,_,rfl,zD,n0.same (zV hx hdx),n1.same (zV hx hdx),fun H' p fs keep ep et lp sh=>⟨rfl,done H2 H' x dx p fs s02 hx hdx keep et lp sh fun s=>⟨p,_,_,rfl,ep,x0.same s,x1.same s⟩⟩⟩⟩)⟩⟩
    ·refine ⟨_,rfl,t,_,_,_,rfl,rfl,SqT.of h1,rfl,⟨_,rfl,rfl,_,rfl,zE ⟨_,rfl,rfl,_,rfl,zE ?_⟩⟩⟩;obtain ⟨ks,fm,kd⟩:=zAS hx0 ok;refine ⟨_,rfl,_,ks,rfl,fm,fun l H1 s1 nl el=>⟨l,rfl,⟨_,SqL.of el⟩,fun D hD=>?_⟩⟩;have lk:=Paired.len kd;have k4:=fm.len;have nD:l≠D:=fun z=>by rw [z,hD] at el;cases el
     refine zi ks.length (fun i ys H'=>i<=ks.length/\ys.length=i/\zB H1 H'/\H' D=some (.lst ys)/\Paired (fun v e=>NdX NC c H' e v) ys ((zX (.bin "minus" a b)).take i)) ⟨zRr _,rfl,zB.upd hD,zD,.nil⟩ (by rw [zRn];omega) ?_ ?_ ?_
     ·rintro i ys H' hi ⟨_,ly,s2,eD,_⟩;exact ⟨by omega,eD,fun h=>⟨_,_,SqL.of (s2 _ _ el),zRc h⟩,fun h=>⟨_,SqL.of (s2 _ _ el),by omega⟩⟩
     ·rintro i ys H' y H'' hi ⟨_,ly,s2,eD,pr⟩ ⟨rfl,hy⟩ pre hpre;obtain ⟨p0,rfl⟩:=yd hpre;have hy':=hy _ (SqL.of (s2 _ _ el));rw [zRc hi] at hy';cases hy';obtain ⟨k,ek,hk⟩:=Paired.get' kd (zRc hi);have hkm:=zSE ek;have dk:=yG hkm;refine ⟨⟨[some ks[i]],rfl,rfl⟩,zN ⟨_,rfl,ks[i],k,rfl,hk.same (s1.trans s2),yc ok hkm,by omega,fun v H3 s3 nd=>⟨s3 _ _ eD,hi,by simp [ly],zB.store (s2.trans s3) hD,zD,?_⟩⟩⟩;rw [zRy,ek];have sN:zj H3 (L2.upd H3 D (.lst (ys++ [v]))):=zj.lst (s3 _ _ eD);exact Paired.snoc' (Paired.mapM pr fun _ _ _ h=>(h.same s3).sameN sN) (nd.sameN sN)
     ·rintro ys H2 ⟨_,ly,s2,eD,pr⟩;rw [List.take_of_length_le (by omega)] at pr;have s02:=s1.trans s2;obtain ⟨v0,v1,rfl,⟨p0,n0,x0⟩,⟨p1,n1,x1⟩⟩:=pd2 pr;exact ⟨_,rfl,rfl,_,rfl,zE ⟨_,rfl,rfl,_,rfl,zE ⟨_,rfl,rfl,_,rfl,zN ⟨_,rfl,D,_,_,_,rfl,rfl,SqL.of eD,rfl,_,rfl,D,_,_,_,rfl,rfl,SqL.of eD,rfl,_,rfl,fun x dx hx hdx hne=>⟨x,dx,_,_,_,_,_,_,_,rfl,zD,n0.same (zV hx hdx),n1.same (zV hx hdx),fun H' p fs keep ep et lp sh=>⟨rfl,done H2 H' x dx p fs s02 hx hdx keep et lp sh fun s=>⟨p,_,_,rfl,ep,x0.same s,x1.same s⟩⟩⟩⟩⟩⟩⟩
    ·refine ⟨_,rfl,t,_,_,_,rfl,rfl,SqT.of h1,rfl,⟨_,rfl,rfl,_,rfl,zE ⟨_,rfl,rfl,_,rfl,zE ?_⟩⟩⟩;obtain ⟨ks,fm,kd⟩:=zAS hx0 ok;refine ⟨_,rfl,_,ks,rfl,fm,fun l H1 s1 nl el=>⟨l,rfl,⟨_,SqL.of el⟩,fun D hD=>?_⟩⟩;have lk:=Paired.len kd;have k4:=fm.len;have nD:l≠D:=fun z=>by rw [z,hD] at el;cases el
     refine zi ks.length (fun i ys H'=>i<=ks.length/\ys.length=i/\zB H1 H'/\H' D=some (.lst ys)/\Paired (fun v e=>NdX NC c H' e v) ys ((zX (.bin "times" a b)).take i)) ⟨zRr _,rfl,zB.upd hD,zD,.nil⟩ (by rw [zRn];omega) ?_ ?_ ?_
     ·rintro i ys H' hi ⟨_,ly,s2,eD,_⟩;exact ⟨by omega,eD,fun h=>⟨_,_,SqL.of (s2 _ _ el),zRc h⟩,fun h=>⟨_,SqL.of (s2 _ _ el),by omega⟩⟩
     ·rintro i ys H' y H'' hi ⟨_,ly,s2,eD,pr⟩ ⟨rfl,hy⟩ pre hpre;obtain ⟨p0,rfl⟩:=yd hpre;have hy':=hy _ (SqL.of (s2 _ _ el));rw [zRc hi] at hy';cases hy';obtain ⟨k,ek,hk⟩:=Paired.get' kd (zRc hi);have hkm:=zSE ek;have dk:=yG hkm;refine ⟨⟨[some ks[i]],rfl,rfl⟩,zN ⟨_,rfl,ks[i],k,rfl,hk.same (s1.trans s2),yc ok hkm,by omega,fun v H3 s3 nd=>⟨s3 _ _ eD,hi,by simp [ly],zB.store (s2.trans s3) hD,zD,?_⟩⟩⟩;rw [zRy,ek];have sN:zj H3 (L2.upd H3 D (.lst (ys++ [v]))):=zj.lst (s3 _ _ eD);exact Paired.snoc' (Paired.mapM pr fun _ _ _ h=>(h.same s3).sameN sN) (nd.sameN sN)
     ·rintro ys H2 ⟨_,ly,s2,eD,pr⟩;rw [List.take_of_length_le (by omega)] at pr;have s02:=s1.trans s2;obtain ⟨v0,v1,rfl,⟨p0,n0,x0⟩,⟨p1,n1,x1⟩⟩:=pd2 pr;exact ⟨_,rfl,rfl,_,rfl,zE ⟨_,rfl,rfl,_,rfl,zE ⟨_,rfl,rfl,_,rfl,zE ⟨_,rfl,rfl,_,rfl,zN (zN ⟨_,rfl,D,_,_,_,rfl,rfl,SqL.of eD,rfl,_,rfl,D,_,_,_,rfl,rfl,SqL.of eD,rfl,_,rfl,fun x dx hx hdx hne=>⟨x,dx,_,_,_,_,_,_,_,rfl,zD,n0.same (zV hx hdx),n1.same (zV hx hdx),fun H' p fs keep ep et lp sh=>⟨rfl,done H2 H' x dx p fs s02 hx hdx keep et lp sh fun s=>⟨p,_,_,rfl,ep,x0.same s,x1.same s⟩⟩⟩⟩)⟩⟩⟩⟩
    ·refine ⟨_,rfl,t,_,_,_,rfl,rfl,SqT.of h1,rfl,⟨_,rfl,rfl,_,rfl,zE ⟨_,rfl,rfl,_,rfl,zE ?_⟩⟩⟩;obtain ⟨ks,fm,kd⟩:=zAS hx0 ok;refine ⟨_,rfl,_,ks,rfl,fm,fun l H1 s1 nl el=>⟨l,rfl,⟨_,SqL.of el⟩,fun D hD=>?_⟩⟩;have lk:=Paired.len kd;have k4:=fm.len;have nD:l≠D:=fun z=>by rw [z,hD] at el;cases el
     refine zi ks.length (fun i ys H'=>i<=ks.length/\ys.length=i/\zB H1 H'/\H' D=some (.lst ys)/\Paired (fun v e=>NdX NC c H' e v) ys ((zX (.bin "over" a b)).take i)) ⟨zRr _,rfl,zB.upd hD,zD,.nil⟩ (by rw [zRn];omega) ?_ ?_ ?_
     ·rintro i ys H' hi ⟨_,ly,s2,eD,_⟩;exact ⟨by omega,eD,fun h=>⟨_,_,SqL.of (s2 _ _ el),zRc h⟩,fun h=>⟨_,SqL.of (s2 _ _ el),by omega⟩⟩
     ·rintro i ys H' y H'' hi ⟨_,ly,s2,eD,pr⟩ ⟨rfl,hy⟩ pre hpre;obtain ⟨p0,rfl⟩:=yd hpre;have hy':=hy _ (SqL.of (s2 _ _ el));rw [zRc hi] at hy';cases hy';obtain ⟨k,ek,hk⟩:=Paired.get' kd (zRc hi);have hkm:=zSE ek;have dk:=yG hkm;refine ⟨⟨[some ks[i]],rfl,rfl⟩,zN ⟨_,rfl,ks[i],k,rfl,hk.same (s1.trans s2),yc ok hkm,by omega,fun v H3 s3 nd=>⟨s3 _ _ eD,hi,by simp [ly],zB.store (s2.trans s3) hD,zD,?_⟩⟩⟩;rw [zRy,ek];have sN:zj H3 (L2.upd H3 D (.lst (ys++ [v]))):=zj.lst (s3 _ _ eD);exact Paired.snoc' (Paired.mapM pr fun _ _ _ h=>(h.same s3).sameN sN) (nd.sameN sN)
     ·rintro ys H2 ⟨_,ly,s2,eD,pr⟩;rw [List.take_of_length_le (by omega)] at pr;have s02:=s1.trans s2;obtain ⟨v0,v1,rfl,⟨p0,n0,x0⟩,⟨p1,n1,x1⟩⟩:=pd2 pr;exact ⟨_,rfl,rfl,_,rfl,zE ⟨_,rfl,rfl,_,rfl,zE ⟨_,rfl,rfl,_,rfl,zE ⟨_,rfl,rfl,_,rfl,zE ⟨_,rfl,rfl,_,rfl,zN ⟨_,rfl,D,_,_,_,rfl,rfl,SqL.of eD,rfl,_,rfl,D,_,_,_,rfl,rfl,SqL.of eD,rfl,_,rfl,fun x dx hx hdx hne=>⟨x,dx,_,_,_,_,_,_,_,rfl,zD,n0.same (zV hx hdx),n1.same (zV hx hdx),fun H' p fs keep ep et lp sh=>⟨rfl,done H2 H' x dx p fs s02 hx hdx keep et lp sh fun s=>⟨p,_,_,rfl,ep,x0.same s,x1.same s⟩⟩⟩⟩⟩⟩⟩⟩⟩
   | pow a k=>
    have hx0:=hx;obtain ⟨t,x,rfl,h1,_⟩:=hx;refine ⟨_,rfl,t,_,_,_,rfl,rfl,SqT.of h1,rfl,⟨_,rfl,rfl,_,rfl,zE ⟨_,rfl,rfl,_,rfl,zE ?_⟩⟩⟩;obtain ⟨ks,fm,kd⟩:=zAS hx0 ok;refine ⟨_,rfl,_,ks,rfl,fm,fun l H1 s1 nl el=>⟨l,rfl,⟨_,SqL.of el⟩,fun D hD=>?_⟩⟩;have lk:=Paired.len kd;have k4:=fm.len;have nD:l≠D:=fun z=>by rw [z,hD] at el;cases el
    refine zi ks.length (fun i ys H'=>i<=ks.length/\ys.length=i/\zB H1 H'/\H' D=some (.lst ys)/\Paired (fun v e=>NdX NC c H' e v) ys ((zX (.pow a k)).take i)) ⟨zRr _,rfl,zB.upd hD,zD,.nil⟩ (by rw [zRn];omega) ?_ ?_ ?_
    ·rintro i ys H' hi ⟨_,ly,s2,eD,_⟩;exact ⟨by omega,eD,fun h=>⟨_,_,SqL.of (s2 _ _ el),zRc h⟩,fun h=>⟨_,SqL.of (s2 _ _ el),by omega⟩⟩
    ·rintro i ys H' y H'' hi ⟨_,ly,s2,eD,pr⟩ ⟨rfl,hy⟩ pre hpre;obtain ⟨p0,rfl⟩:=yd hpre;have hy':=hy _ (SqL.of (s2 _ _ el));rw [zRc hi] at hy';cases hy';obtain ⟨k,ek,hk⟩:=Paired.get' kd (zRc hi);have hkm:=zSE ek;have dk:=yG hkm;refine ⟨⟨[some ks[i]],rfl,rfl⟩,zN ⟨_,rfl,ks[i],k,rfl,hk.same (s1.trans s2),yc ok hkm,by omega,fun v H3 s3 nd=>⟨s3 _ _ eD,hi,by simp [ly],zB.store (s2.trans s3) hD,zD,?_⟩⟩⟩;rw [zRy,ek];have sN:zj H3 (L2.upd H3 D (.lst (ys++ [v]))):=zj.lst (s3 _ _ eD);exact Paired.snoc' (Paired.mapM pr fun _ _ _ h=>(h.same s3).sameN sN) (nd.sameN sN)
    ·rintro ys H2 ⟨_,ly,s2,eD,pr⟩;rw [List.take_of_length_le (by omega)] at pr;have s02:=s1.trans s2;obtain ⟨v0,rfl,⟨p0,n0,x0⟩⟩:=pd1 pr;have h1:=s02 _ _ h1;exact ⟨_,rfl,rfl,_,rfl,zE ⟨_,rfl,rfl,_,rfl,zE ⟨_,rfl,rfl,_,rfl,zE ⟨_,rfl,rfl,_,rfl,zE ⟨_,rfl,rfl,_,rfl,zE ⟨_,rfl,rfl,_,rfl,zN ⟨_,rfl,D,_,_,_,rfl,rfl,SqL.of eD,rfl,_,rfl,t,_,_,_,rfl,rfl,SqT.of h1,rfl,fun x dx hx hdx hne=>⟨x,dx,_,_,_,_,rfl,zD,n0.same (zV hx hdx),fun H' p fs keep ep et lp sh=>⟨rfl,done H2 H' x dx p fs s02 hx hdx keep et lp sh fun s=>⟨p,_,rfl,ep,x0.same s⟩⟩⟩⟩⟩⟩⟩⟩⟩⟩
   | ite a b c' d'=>
    have hx0:=hx;obtain ⟨t,x,y,z,u,rfl,h1,_,_,_,_⟩:=hx;refine ⟨_,rfl,t,_,_,_,rfl,rfl,SqT.of h1,rfl,⟨_,rfl,rfl,_,rfl,zE ⟨_,rfl,rfl,_,rfl,zE ?_⟩⟩⟩;obtain ⟨ks,fm,kd⟩:=zAS hx0 ok;refine ⟨_,rfl,_,ks,rfl,fm,fun l H1 s1 nl el=>⟨l,rfl,⟨_,SqL.of el⟩,fun D hD=>?_⟩⟩;have lk:=Paired.len kd;have k4:=fm.len;have nD:l≠D:=fun z=>by rw [z,hD] at el;cases el
    refine zi ks.length (fun i ys H'=>i<=ks.length/\ys.length=i/\zB H1 H'/\H' D=some (.lst ys)/\Paired (fun v e=>NdX NC c H' e v) ys ((zX (Ex.ite a b c' d')).take i)) ⟨zRr _,rfl,zB.upd hD,zD,.nil⟩ (by rw [zRn];omega) ?_ ?_ ?_
    ·rintro i ys H' hi ⟨_,ly,s2,eD,_⟩;exact ⟨by omega,eD,fun h=>⟨_,_,SqL.of (s2 _ _ el),zRc h⟩,fun h=>⟨_,SqL.of (s2 _ _ el),by omega⟩⟩
    ·rintro i ys H' y H'' hi ⟨_,ly,s2,eD,pr⟩ ⟨rfl,hy⟩ pre hpre;obtain ⟨p0,rfl⟩:=yd hpre;have hy':=hy _ (SqL.of (s2 _ _ el));rw [zRc hi] at hy';cases hy';obtain ⟨k,ek,hk⟩:=Paired.get' kd (zRc hi);have hkm:=zSE ek;have dk:=yG hkm;refine ⟨⟨[some ks[i]],rfl,rfl⟩,zN ⟨_,rfl,ks[i],k,rfl,hk.same (s1.trans s2),yc ok hkm,by omega,fun v H3 s3 nd=>⟨s3 _ _ eD,hi,by simp [ly],zB.store (s2.trans s3) hD,zD,?_⟩⟩⟩;rw [zRy,ek];have sN:zj H3 (L2.upd H3 D (.lst (ys++ [v]))):=zj.lst (s3 _ _ eD);exact Paired.snoc' (Paired.mapM pr fun _ _ _ h=>(h.same s3).sameN sN) (nd.sameN sN)
    ·rintro ys H2 ⟨_,ly,s2,eD,pr⟩;rw [List.take_of_length_le (by omega)] at pr;have s02:=s1.trans s2;obtain ⟨v0,v1,v2,v3,rfl,⟨p0,n0,x0⟩,⟨p1,n1,x1⟩,⟨p2,n2,x2⟩,⟨p3,n3,x3⟩⟩:=pd4 pr;have h1:=s02 _ _ h1;exact ⟨_,rfl,rfl,_,rfl,zE ⟨_,rfl,rfl,_,rfl,zE ⟨_,rfl,rfl,_,rfl,zE ⟨_,rfl,rfl,_,rfl,zE ⟨_,rfl,rfl,_,rfl,zE ⟨_,rfl,rfl,_,rfl,zE ⟨_,rfl,rfl,_,rfl,zN ⟨_,rfl,D,_,_,_,rfl,rfl,SqL.of eD,rfl,_,rfl,D,_,_,_,rfl,rfl,SqL.of eD,rfl,_,rfl,D,_,_,_,rfl,rfl,SqL.of eD,rfl,_,rfl,D,_,_,_,rfl,rfl,SqL.of eD,rfl,fun x dx hx hdx hne=>⟨x,dx,_,_,_,_,_,_,_,_,_,_,_,_,rfl,zD,n0.same (zV hx hdx),n1.same (zV hx hdx),n2.same (zV hx hdx),n3.same (zV hx hdx),fun H' p fs keep ep et lp sh=>⟨rfl,done H2 H' x dx p fs s02 hx hdx keep et lp sh fun s=>⟨p,_,_,_,_,rfl,ep,x0.same s,x1.same s,x2.same s,x3.same s⟩⟩⟩⟩⟩⟩⟩⟩⟩⟩⟩
   | loop n a k b=>
    have hx0:=hx;obtain ⟨t,x,y,rfl,h1,_,_⟩:=hx;refine ⟨_,rfl,t,_,_,_,rfl,rfl,SqT.of h1,rfl,⟨_,rfl,rfl,_,rfl,zE ⟨_,rfl,rfl,_,rfl,zE ?_⟩⟩⟩;obtain ⟨ks,fm,kd⟩:=zAS hx0 ok;refine ⟨_,rfl,_,ks,rfl,fm,fun l H1 s1 nl el=>⟨l,rfl,⟨_,SqL.of el⟩,fun D hD=>?_⟩⟩;have lk:=Paired.len kd;have k4:=fm.len;have nD:l≠D:=fun z=>by rw [z,hD] at el;cases el
    refine zi ks.length (fun i ys H'=>i<=ks.length/\ys.length=i/\zB H1 H'/\H' D=some (.lst ys)/\Paired (fun v e=>NdX NC c H' e v) ys ((zX (.loop n a k b)).take i)) ⟨zRr _,rfl,zB.upd hD,zD,.nil⟩ (by rw [zRn];omega) ?_ ?_ ?_
    ·rintro i ys H' hi ⟨_,ly,s2,eD,_⟩;exact ⟨by omega,eD,fun h=>⟨_,_,SqL.of (s2 _ _ el),zRc h⟩,fun h=>⟨_,SqL.of (s2 _ _ el),by omega⟩⟩
    ·rintro i ys H' y H'' hi ⟨_,ly,s2,eD,pr⟩ ⟨rfl,hy⟩ pre hpre;obtain ⟨p0,rfl⟩:=yd hpre;have hy':=hy _ (SqL.of (s2 _ _ el));rw [zRc hi] at hy';cases hy';obtain ⟨k,ek,hk⟩:=Paired.get' kd (zRc hi);have hkm:=zSE ek;have dk:=yG hkm;refine ⟨⟨[some ks[i]],rfl,rfl⟩,zN ⟨_,rfl,ks[i],k,rfl,hk.same (s1.trans s2),yc ok hkm,by omega,fun v H3 s3 nd=>⟨s3 _ _ eD,hi,by simp [ly],zB.store (s2.trans s3) hD,zD,?_⟩⟩⟩;rw [zRy,ek];have sN:zj H3 (L2.upd H3 D (.lst (ys++ [v]))):=zj.lst (s3 _ _ eD);exact Paired.snoc' (Paired.mapM pr fun _ _ _ h=>(h.same s3).sameN sN) (nd.sameN sN)
    ·rintro ys H2 ⟨_,ly,s2,eD,pr⟩;rw [List.take_of_length_le (by omega)] at pr;have s02:=s1.trans s2;obtain ⟨v0,v1,rfl,⟨p0,n0,x0⟩,⟨p1,n1,x1⟩⟩:=pd2 pr;have h1:=s02 _ _ h1;exact ⟨_,rfl,rfl,_,rfl,zE ⟨_,rfl,rfl,_,rfl,zE ⟨_,rfl,rfl,_,rfl,zE ⟨_,rfl,rfl,_,rfl,zE ⟨_,rfl,rfl,_,rfl,zE ⟨_,rfl,rfl,_,rfl,zE ⟨_,rfl,rfl,_,rfl,zE ⟨_,rfl,rfl,_,rfl,zN ⟨_,rfl,t,_,_,_,rfl,rfl,SqT.of h1,rfl,_,rfl,D,_,_,_,rfl,rfl,SqL.of eD,rfl,_,rfl,t,_,_,_,rfl,rfl,SqT.of h1,rfl,_,rfl,D,_,_,_,rfl,rfl,SqL.of eD,rfl,fun x dx hx hdx hne=>⟨x,dx,_,_,_,_,_,_,_,_,rfl,zD,n0.same (zV hx hdx),n1.same (zV hx hdx),fun H' p fs keep ep et lp sh=>⟨rfl,done H2 H' x dx p fs s02 hx hdx keep et lp sh fun s=>⟨p,_,_,rfl,ep,x0.same s,x1.same s⟩⟩⟩⟩⟩⟩⟩⟩⟩⟩⟩⟩
   | call1 n a=>
    have hx0:=hx;obtain ⟨t,qa,x,rfl,h1,_⟩:=hx;refine ⟨_,rfl,t,_,_,_,rfl,rfl,SqT.of h1,rfl,⟨_,rfl,rfl,_,rfl,zE ⟨_,rfl,rfl,_,rfl,zE ?_⟩⟩⟩;obtain ⟨ks,fm,kd⟩:=zAS hx0 ok;refine ⟨_,rfl,_,ks,rfl,fm,fun l H1 s1 nl el=>⟨l,rfl,⟨_,SqL.of el⟩,fun D hD=>?_⟩⟩;have lk:=Paired.len kd;have k4:=fm.len;have nD:l≠D:=fun z=>by rw [z,hD] at el;cases el
    refine zi ks.length (fun i ys H'=>i<=ks.length/\ys.length=i/\zB H1 H'/\H' D=some (.lst ys)/\Paired (fun v e=>NdX NC c H' e v) ys ((zX (.call1 n a)).take i)) ⟨zRr _,rfl,zB.upd hD,zD,.nil⟩ (by rw [zRn];omega) ?_ ?_ ?_
    ·rintro i ys H' hi ⟨_,ly,s2,eD,_⟩;exact ⟨by omega,eD,fun h=>⟨_,_,SqL.of (s2 _ _ el),zRc h⟩,fun h=>⟨_,SqL.of (s2 _ _ el),by omega⟩⟩
    ·rintro i ys H' y H'' hi ⟨_,ly,s2,eD,pr⟩ ⟨rfl,hy⟩ pre hpre;obtain ⟨p0,rfl⟩:=yd hpre;have hy':=hy _ (SqL.of (s2 _ _ el));rw [zRc hi] at hy';cases hy';obtain ⟨k,ek,hk⟩:=Paired.get' kd (zRc hi);have hkm:=zSE ek;have dk:=yG hkm;refine ⟨⟨[some ks[i]],rfl,rfl⟩,zN ⟨_,rfl,ks[i],k,rfl,hk.same (s1.trans s2),yc ok hkm,by omega,fun v H3 s3 nd=>⟨s3 _ _ eD,hi,by simp [ly],zB.store (s2.trans s3) hD,zD,?_⟩⟩⟩;rw [zRy,ek];have sN:zj H3 (L2.upd H3 D (.lst (ys++ [v]))):=zj.lst (s3 _ _ eD);exact Paired.snoc' (Paired.mapM pr fun _ _ _ h=>(h.same s3).sameN sN) (nd.sameN sN)
    ·rintro ys H2 ⟨_,ly,s2,eD,pr⟩;rw [List.take_of_length_le (by omega)] at pr;have s02:=s1.trans s2;obtain ⟨v0,rfl,⟨p0,n0,x0⟩⟩:=pd1 pr;have h1:=s02 _ _ h1;exact ⟨_,rfl,rfl,_,rfl,zE ⟨_,rfl,rfl,_,rfl,zE ⟨_,rfl,rfl,_,rfl,zE ⟨_,rfl,rfl,_,rfl,zE ⟨_,rfl,rfl,_,rfl,zE ⟨_,rfl,rfl,_,rfl,zE ⟨_,rfl,rfl,_,rfl,zE ⟨_,rfl,rfl,_,rfl,zE ⟨_,rfl,t,_,_,_,rfl,rfl,SqT.of h1,rfl,_,rfl,fun x dx hx hdx hne=>⟨x,dx,D,_,_,[p0],rfl,zD,.inl ((zV hx hdx) _ _ eD),by simp,.cons ⟨_,n0.same (zV hx hdx)⟩ .nil,fun H' p q1 fs keep ep eq1 et lp sh=>⟨rfl,done H2 H' x dx p fs s02 hx hdx keep et lp sh fun s=>⟨p,q1,_,rfl,ep,eq1,x0.same s⟩⟩⟩⟩⟩⟩⟩⟩⟩⟩⟩⟩
   | call2 n a b=>
    have hx0:=hx;obtain ⟨t,qa,x,y,rfl,h1,_⟩:=hx;refine ⟨_,rfl,t,_,_,_,rfl,rfl,SqT.of h1,rfl,⟨_,rfl,rfl,_,rfl,zE ⟨_,rfl,rfl,_,rfl,zE ?_⟩⟩⟩;obtain ⟨ks,fm,kd⟩:=zAS hx0 ok;refine ⟨_,rfl,_,ks,rfl,fm,fun l H1 s1 nl el=>⟨l,rfl,⟨_,SqL.of el⟩,fun D hD=>?_⟩⟩;have lk:=Paired.len kd;have k4:=fm.len;have nD:l≠D:=fun z=>by rw [z,hD] at el;cases el
    refine zi ks.length (fun i ys H'=>i<=ks.length/\ys.length=i/\zB H1 H'/\H' D=some (.lst ys)/\Paired (fun v e=>NdX NC c H' e v) ys ((zX (.call2 n a b)).take i)) ⟨zRr _,rfl,zB.upd hD,zD,.nil⟩ (by rw [zRn];omega) ?_ ?_ ?_
    ·rintro i ys H' hi ⟨_,ly,s2,eD,_⟩;exact ⟨by omega,eD,fun h=>⟨_,_,SqL.of (s2 _ _ el),zRc h⟩,fun h=>⟨_,SqL.of (s2 _ _ el),by omega⟩⟩
    ·rintro i ys H' y H'' hi ⟨_,ly,s2,eD,pr⟩ ⟨rfl,hy⟩ pre hpre;obtain ⟨p0,rfl⟩:=yd hpre;have hy':=hy _ (SqL.of (s2 _ _ el));rw [zRc hi] at hy';cases hy';obtain ⟨k,ek,hk⟩:=Paired.get' kd (zRc hi);have hkm:=zSE ek;have dk:=yG hkm;refine ⟨⟨[some ks[i]],rfl,rfl⟩,zN ⟨_,rfl,ks[i],k,rfl,hk.same (s1.trans s2),yc ok hkm,by omega,fun v H3 s3 nd=>⟨s3 _ _ eD,hi,by simp [ly],zB.store (s2.trans s3) hD,zD,?_⟩⟩⟩;rw [zRy,ek];have sN:zj H3 (L2.upd H3 D (.lst (ys++ [v]))):=zj.lst (s3 _ _ eD);exact Paired.snoc' (Paired.mapM pr fun _ _ _ h=>(h.same s3).sameN sN) (nd.sameN sN)
    ·rintro ys H2 ⟨_,ly,s2,eD,pr⟩;rw [List.take_of_length_le (by omega)] at pr;have s02:=s1.trans s2;obtain ⟨v0,v1,rfl,⟨p0,n0,x0⟩,⟨p1,n1,x1⟩⟩:=pd2 pr;have h1:=s02 _ _ h1;exact ⟨_,rfl,rfl,_,rfl,zE ⟨_,rfl,rfl,_,rfl,zE ⟨_,rfl,rfl,_,rfl,zE ⟨_,rfl,rfl,_,rfl,zE ⟨_,rfl,rfl,_,rfl,zE ⟨_,rfl,rfl,_,rfl,zE ⟨_,rfl,rfl,_,rfl,zE ⟨_,rfl,rfl,_,rfl,zE ⟨_,rfl,t,_,_,_,rfl,rfl,SqT.of h1,rfl,_,rfl,fun x dx hx hdx hne=>⟨x,dx,D,_,_,[p0,p1],rfl,zD,.inl ((zV hx hdx) _ _ eD),by simp,.cons ⟨_,n0.same (zV hx hdx)⟩ (.cons ⟨_,n1.same (zV hx hdx)⟩ .nil),fun H' p q1 fs keep ep eq1 et lp sh=>⟨rfl,done H2 H' x dx p fs s02 hx hdx keep et lp sh fun s=>⟨p,q1,_,_,rfl,ep,eq1,x0.same s,x1.same s⟩⟩⟩⟩⟩⟩⟩⟩⟩⟩⟩⟩
   | call3 n a b g=>
    have hx0:=hx;obtain ⟨t,qa,x,y,z,rfl,h1,_⟩:=hx;refine ⟨_,rfl,t,_,_,_,rfl,rfl,SqT.of h1,rfl,⟨_,rfl,rfl,_,rfl,zE ⟨_,rfl,rfl,_,rfl,zE ?_⟩⟩⟩;obtain ⟨ks,fm,kd⟩:=zAS hx0 ok;refine ⟨_,rfl,_,ks,rfl,fm,fun l H1 s1 nl el=>⟨l,rfl,⟨_,SqL.of el⟩,fun D hD=>?_⟩⟩;have lk:=Paired.len kd;have k4:=fm.len;have nD:l≠D:=fun z=>by rw [z,hD] at el;cases el
    refine zi ks.length (fun i ys H'=>i<=ks.length/\ys.length=i/\zB H1 H'/\H' D=some (.lst ys)/\Paired (fun v e=>NdX NC c H' e v) ys ((zX (.call3 n a b g)).take i)) ⟨zRr _,rfl,zB.upd hD,zD,.nil⟩ (by rw [zRn];omega) ?_ ?_ ?_
    ·rintro i ys H' hi ⟨_,ly,s2,eD,_⟩;exact ⟨by omega,eD,fun h=>⟨_,_,SqL.of (s2 _ _ el),zRc h⟩,fun h=>⟨_,SqL.of (s2 _ _ el),by omega⟩⟩
    ·rintro i ys H' y H'' hi ⟨_,ly,s2,eD,pr⟩ ⟨rfl,hy⟩ pre hpre;obtain ⟨p0,rfl⟩:=yd hpre;have hy':=hy _ (SqL.of (s2 _ _ el));rw [zRc hi] at hy';cases hy';obtain ⟨k,ek,hk⟩:=Paired.get' kd (zRc hi);have hkm:=zSE ek;have dk:=yG hkm;refine ⟨⟨[some ks[i]],rfl,rfl⟩,zN ⟨_,rfl,ks[i],k,rfl,hk.same (s1.trans s2),yc ok hkm,by omega,fun v H3 s3 nd=>⟨s3 _ _ eD,hi,by simp [ly],zB.store (s2.trans s3) hD,zD,?_⟩⟩⟩;rw [zRy,ek];have sN:zj H3 (L2.upd H3 D (.lst (ys++ [v]))):=zj.lst (s3 _ _ eD);exact Paired.snoc' (Paired.mapM pr fun _ _ _ h=>(h.same s3).sameN sN) (nd.sameN sN)
    ·rintro ys H2 ⟨_,ly,s2,eD,pr⟩;rw [List.take_of_length_le (by omega)] at pr;have s02:=s1.trans s2;obtain ⟨v0,v1,v2,rfl,⟨p0,n0,x0⟩,⟨p1,n1,x1⟩,⟨p2,n2,x2⟩⟩:=pd3 pr;have h1:=s02 _ _ h1;exact ⟨_,rfl,rfl,_,rfl,zE ⟨_,rfl,rfl,_,rfl,zE ⟨_,rfl,rfl,_,rfl,zE ⟨_,rfl,rfl,_,rfl,zE ⟨_,rfl,rfl,_,rfl,zE ⟨_,rfl,rfl,_,rfl,zE ⟨_,rfl,rfl,_,rfl,zE ⟨_,rfl,rfl,_,rfl,zE ⟨_,rfl,t,_,_,_,rfl,rfl,SqT.of h1,rfl,_,rfl,fun x dx hx hdx hne=>⟨x,dx,D,_,_,[p0,p1,p2],rfl,zD,.inl ((zV hx hdx) _ _ eD),by simp,.cons ⟨_,n0.same (zV hx hdx)⟩ (.cons ⟨_,n1.same (zV hx hdx)⟩ (.cons ⟨_,n2.same (zV hx hdx)⟩ .nil)),fun H' p q1 fs keep ep eq1 et lp sh=>⟨rfl,done H2 H' x dx p fs s02 hx hdx keep et lp sh fun s=>⟨p,q1,_,_,_,rfl,ep,eq1,x0.same s,x1.same s,x2.same s⟩⟩⟩⟩⟩⟩⟩⟩⟩⟩⟩⟩
def XAt(H:Hp)(e C:Addr)(fs:List (Str×V)):Prop:= ∃dx,dx≠e/\H e=some (XO e C (some dx))/\H dx=some (XD dx fs)
theorem lk1(n:Str)(x:V):([(n,x)] :List (Str×V)).lookup n=some x:=by simp [List.lookup]
structure FunD(K:zSS)(x qual:Str)(st:Stmt)(dV:Value)(f:Addr)(fd:FuncData):Prop where
 ex: ∃(oc:Value) (od:Option Addr) (kV doc pm:Value) (an:Option Addr) (cdv ct:Value) (osl:Array (Option Value)),
  fd=PySem.W.fnOf x qual (yY st) (yN st) (zM st) dV kV doc pm an cdv ct/\K.lookup f=some ⟨oc,od,.func fd,osl⟩/\PySem.W.codeIn K cdv qual=true
 kp:PySem.W.keepIn K (.ref f)=true
theorem Fun.toD{x qual:Str}{st:Stmt}{f:Addr}{fd:FuncData}(F:Fun K x qual st f fd):FunD K x qual st .none f fd:=⟨F.ex,F.kp⟩
theorem FunD.okXD{x qual:Str}{st:Stmt}{dV:Value}{f:Addr}{fd:FuncData}{N ps:List Str}{k:Nat}{sp:Sp}(F:FunD K x qual st dV f fd)(S:FnScope N ps (zM st))(len: ∀vs H Q E,sp vs H Q E->vs.length=ps.length)
  (hbody: ∀(cdv:Value) (A:Around) (outer:List Env) (s:Shared) (H:Hp) (vs:List V) (Q:VK) (E:XK),Room k (A.deeper (envOfC qual (zM st) s.heap.objs.size f cdv))->sp vs H Q E->
   ∃t,PSs (zBy (zBf P w) P w K mg base N qual (zM st) f cdv A outer s H E) (yN st) t/\t {nx:=fun _ H'=>Q .non H',rt:=Q} (zAT N vs) H):FnOk P w K mg base (zBf P w) (k+1) f fd ps sp:=by
 obtain ⟨oc,od,kV,doc,pm,an,cdv,ct,osl,rfl,lk,hcd⟩:=F.ex;refine zKm lk hcd S len fun A outer s H vs Q E hr hsp=>?_;exact hbody cdv A outer s H vs Q E hr hsp
def zKI(C:Addr)(n1:Str):Sp:=fun vs H Q _=> ∃p x,vs= [.ref p,x] /\H p=some (XO p C none)/\ ∀H',XAt H' p C [(n1,x)] ->(∀b o,H b=some o->b≠p->H' b=some o)->Q .non H'
structure RX1(K:zSS)(mg:Str->Option Value)(nm:Str)(C f:Addr)(n1:Str):Prop where
 mx:MkX K C f
 xc:XCls K C
 a1:ye K C n1
 mg:mg nm=some (.ref C)
def Rf1(H:Hp)(E:XK)(C:Addr)(n1:Str)(x:V):Prop:= ∀H' dx,zB H H'->H' dx=some (XD dx [(n1,x)])->E (.ref C) (some dx) H'
theorem Rf1.same{H H1:Hp}{E:XK}{C:Addr}{n1:Str}{x:V}(h:Rf1 H E C n1 x)(s:zB H H1):Rf1 H1 E C n1 x:=fun H' dx s' e=>h H' dx (s.trans s') e
theorem zNg{H:Hp}{E E1:XK}{C:Addr}{n1:Str}{x:V}(hE:Rf1 H E C n1 x)(ea:Addr)(he:H ea=none):
  zKI C n1 [.ref ea,x] (L2.upd H ea (XO ea C none)) (fun r H2=>r= .non/\ ∃a dx,V.ref ea= .ref a/\H2 a=some (XO a C (some dx))/\E (.ref C) (some dx) (off H2 a)) E1:=by
 refine ⟨ea,x,rfl,zD,fun H' ⟨dx,ne,h1,h2⟩ kp=>⟨rfl,ea,dx,rfl,h1,hE _ _ (fun b o h=>?_) ?_⟩⟩
 ·have hb:=zm h he;rw [zAh hb];exact kp b o (by rw [zQ hb];exact h) hb
 ·rw [zAh ne];exact h2
theorem zQx:FnScope ["self","at"] ["self","at"] (zM (za (top 8) 0)):=fs
theorem zQH{f C:Addr}{fd:FuncData}(F:Fun K "__init__" "BadText.__init__" (za (top 8) 0) f fd)(R:RX1 K mg "BadText" C f "at"):FnOk P w K mg base CX0 1 f fd ["self","at"] (zKI C "at"):=by
 refine F.ok zQx (fun vs H Q E h=>?_) (fun _ A _ s H vs Q E hr h=>?_)
 ·obtain ⟨p,x,rfl,_⟩:=h;rfl
 ·obtain ⟨p,x,rfl,hp,k⟩:=h;refine ⟨_,zAE (zJy (pv 0) (pv 1) rfl),?_⟩;refine ⟨_,rfl,_,rfl,p,C,rfl,hp,R.xc,R.a1,fun dx hdx hne=>?_⟩;refine k _ ⟨dx,hne,by rw [zD],by rw [zQ hne,zD]⟩ fun b o e hb=>?_;rw [zQ hb,zQ (zm e hdx)];exact e
section
variable {NC:Addr->Prop}{c:Cz}{f fK fM fL fT fKd fSz fDp:Addr}{fd fdK fdM fdL:FuncData}
def zOL(NC:Addr->Prop)(c:Cz):Sp:=fun vs H Q _=> ∃(v:V) (e:Ex),vs= [v] /\NdX NC c H e v/\Ok e/\zO e<=10/\ ∀l ys H',zB H H'->H l=none->H' l=some (.lst ys)->Paired (fun v e=>NdX NC c H' e v) ys (zX e)->Q (.ref l) H'
theorem zQm:FnScope ["self"] ["self"] (zM (za (top 60) 2)):=fs
theorem zPK(F:Fun K "kids" "Node.kids" (za (top 60) 2) f fd)
  (FK:Fun K "kids_of" "kids_of" zCP fK fdK) (bK:zL K fdK ["told"] []) (mK:mg "kids_of" =some (.ref fK)) (GK:FnOk P w K mg base CX0 1 fK fdK ["told"] zGO)
  (FM:Fun K "made_of_told" "made_of_told" zEK fM fdM) (bM:zL K fdM ["told"] []) (mM:mg "made_of_told" =some (.ref fM)) (GM:FnOk P w K mg base CX0 14 fM fdM ["told"] (zKO (NK K fT fKd fSz fDp) c 10)):FnOk P w K mg base CX0 15 f fd ["self"] (zOL (NK K fT fKd fSz fDp) c):=by
 refine F.ok zQm (fun vs H Q E h=>?_) (fun _ A _ s H vs Q E hrM h=>?_)
 ·obtain ⟨v,e,rfl,_⟩:=h;rfl
 ·obtain ⟨v,e,rfl,⟨p,⟨t,dx,fs,rfl,et,nk,lp,_⟩,hx⟩,ok,dp,q⟩:=h;have hrM:Room 14 _:=hrM;have hr1:Room 1 _:=hrM.mono (by decide);refine ⟨_,QB.out (zK
   (zR (yu (cl:= []) ["kid"] [] [] rfl (zAm (K:=K) rfl (zP GK hr1 rfl mK FK.kp bK .nil zH (qc (zFT (K:=K) rfl (qw 0 rfl) rfl) zA rfl) rfl rfl rfl)) rfl (by decide+kernel) rfl (by decide+kernel) (fun _ _ h=>nomatch h) rfl (fun j y i h=>nomatch h) (yJ rfl) (fun _ _ _ _=>(zq 0 (show (["kid"] :List Str).Nodup by decide+kernel) rfl (.inl rfl) (.inr rfl))) (fun _ _ _ _=>yy) (fun _ _ _ _=>(zP GM hrM rfl mM FM.kp bM .nil zH (qc (qw 0 rfl) zA rfl) rfl rfl rfl)) (fun _=>rfl)))),?_⟩
  obtain ⟨ks,fm,kd⟩:=zAS hx ok;refine ⟨_,rfl,t,_,dx,fs,p,rfl,et,nk.cl,nk.np,lp,_,ks,rfl,fm,fun l H1 s1 nl el=>⟨l,rfl,⟨_,SqL.of el⟩,fun D hD=>?_⟩⟩;have lk:=Paired.len kd;have k4:=fm.len;refine zi ks.length (fun i ys H'=>i<=ks.length/\ys.length=i/\zB H1 H'/\H' D=some (.lst ys)/\Paired (fun v e=>NdX (NK K fT fKd fSz fDp) c H' e v) ys ((zX e).take i)) ⟨zRr _,rfl,zB.upd hD,zD,.nil⟩ (by rw [zRn];omega) ?_ ?_ ?_
  ·rintro i ys H' hi ⟨_,ly,s2,eD,_⟩;exact ⟨by omega,eD,fun h=>⟨_,_,SqL.of (s2 _ _ el),zRc h⟩,fun h=>⟨_,SqL.of (s2 _ _ el),by omega⟩⟩
  ·rintro i ys H' y H'' hi ⟨_,ly,s2,eD,pr⟩ ⟨rfl,hy⟩ pre hpre;obtain ⟨p0,rfl⟩:=yd hpre;have hy':=hy _ (SqL.of (s2 _ _ el));rw [zRc hi] at hy';cases hy';obtain ⟨k,ek,hk⟩:=Paired.get' kd (zRc hi);have hkm:=zSE ek;have dk:=yG hkm;refine ⟨⟨[some ks[i]],rfl,rfl⟩,zN ⟨_,rfl,ks[i],k,rfl,hk.same (s1.trans s2),yc ok hkm,by omega,fun v H3 s3 nd=>⟨s3 _ _ eD,hi,by simp [ly],zB.store (s2.trans s3) hD,zD,?_⟩⟩⟩;rw [zRy,ek];have sN:zj H3 (L2.upd H3 D (.lst (ys++ [v]))):=zj.lst (s3 _ _ eD);exact Paired.snoc' (Paired.mapM pr fun _ _ _ h=>(h.same s3).sameN sN) (nd.sameN sN)
  ·rintro ys H2 ⟨_,ly,s2,eD,pr⟩;rw [List.take_of_length_le (by omega)] at pr;exact q D ys H2 (s1.trans s2) (zB.none s1 hD) eD pr
def zHg(NC:Addr->Prop)(c:Cz)(g:Ex->Nat):Sp:=fun vs H Q _=> ∃(v:V) (e:Ex),vs= [v] /\NdX NC c H e v/\Ok e/\zI e<=1000/\ ∀H',zB H H'->Q (.int (g e:Nat)) H'
theorem zPl:FnScope ["self"] ["self"] (zM (za (top 60) 3)):=fs
theorem zOp(F:Fun K "size" "Node.size" (za (top 60) 3) f fd)(B:Bn mg)
  (FL:Fun K "levels_of" "levels_of" zGc fL fdL) (bL:zL K fdL ["told"] []) (mL:mg "levels_of" =some (.ref fL)) (GL:FnOk P w K mg base CX0 2 fL fdL ["told"] zIB):FnOk P w K mg base CX0 3 f fd ["self"] (zHg (NK K fT fKd fSz fDp) c zI):=by
 refine F.ok zPl (fun vs H Q E h=>?_) (fun _ A _ s H vs Q E hr2 h=>?_)
 ·obtain ⟨v,e,rfl,_⟩:=h;rfl
 ·obtain ⟨v,e,rfl,⟨p,⟨t,dx,fs,rfl,et,nk,lp,_⟩,hx⟩,ok,n0,q⟩:=h;have hr2:Room 2 _:=hr2;refine ⟨_,QB.out (zK
   (zR (zk (zu (K:=K) rfl) rfl B.len yM (qc (zP GL hr2 rfl mL FL.kp bL .nil zH (qc (zFT (K:=K) rfl (qw 0 rfl) rfl) zA rfl) rfl rfl rfl) zA rfl) rfl))),?_⟩
  refine ⟨_,rfl,t,_,dx,fs,p,rfl,et,nk.cl,nk.np,lp,p,e,rfl,zo hx ok,yR ok,n0,fun l ls H1 s1 nl el hl _ _=>⟨l,_,rfl,.inl (SqL.of el),?_⟩⟩;rw [zRj,hl];exact q H1 s1
theorem zQD:FnScope ["self"] ["self"] (zM (za (top 60) 4)):=fs
theorem zOk(F:Fun K "depth" "Node.depth" (za (top 60) 4) f fd)(B:Bn mg)
  (FL:Fun K "levels_of" "levels_of" zGc fL fdL) (bL:zL K fdL ["told"] []) (mL:mg "levels_of" =some (.ref fL)) (GL:FnOk P w K mg base CX0 2 fL fdL ["told"] zIB):FnOk P w K mg base CX0 3 f fd ["self"] (zHg (NK K fT fKd fSz fDp) c zO):=by
 refine F.ok zQD (fun vs H Q E h=>?_) (fun _ A _ s H vs Q E hr2 h=>?_)
 ·obtain ⟨v,e,rfl,_⟩:=h;rfl
 ·obtain ⟨v,e,rfl,⟨p,⟨t,dx,fs,rfl,et,nk,lp,_⟩,hx⟩,ok,n0,q⟩:=h;have hr2:Room 2 _:=hr2;refine ⟨_,QB.out (zK
   (zR (zk (zJa rfl) rfl B.max zFj (qc (zP GL hr2 rfl mL FL.kp bL .nil zH (qc (zFT (K:=K) rfl (qw 0 rfl) rfl) zA rfl) rfl rfl rfl) zA rfl) rfl))),?_⟩
  refine ⟨_,rfl,t,_,dx,fs,p,rfl,et,nk.cl,nk.np,lp,p,e,rfl,zo hx ok,yR ok,n0,fun l ls H1 s1 nl el hl hb hm=>⟨l,ls,rfl,el,by have:=zAN e;omega,fun M hM hx=>?_⟩⟩;have a:=(hb M hM).2;have b:=hx _ hm;rw [show M=((zO e:Nat):Int) by omega];exact q H1 s1
def zJc(NC:Addr->Prop)(c:Cz)(BT:Addr):Sp:=fun vs H Q E=> ∃(x:V),vs= [x] /\((∃e,Xt H e x/\Ok e/\zI e<=40/\zO e<=10/\ ∀v H',zB H H'->NdX NC c H' e v->Q v H')\/ ∃e,Yt H e x/\zI e<=1000/\exB e=false/\Rf1 H E BT "at" .non)
theorem zRM:FnScope ["told"] ["told"] (zM zCz):=fs
theorem zPj{fI fBT BT:Addr}{fdI fdBT:FuncData}(F:Fun K "node_of" "node_of" zCz f fd)
  (FI:Fun K "is_expression" "is_expression" zFF fI fdI) (bI:zL K fdI ["thing"] []) (mI:mg "is_expression" =some (.ref fI)) (GI:FnOk P w K mg base CX0 8 fI fdI ["thing"] zMV)
  (FM:Fun K "made_of_told" "made_of_told" zEK fM fdM) (bM:zL K fdM ["told"] []) (mM:mg "made_of_told" =some (.ref fM)) (GM:FnOk P w K mg base CX0 14 fM fdM ["told"] (zKO NC c 10))
  (XBT:RX1 K mg "BadText" BT fBT "at") (bBT:zL K fdBT ["self","at"] []) (GBT:FnOk P w K mg base CX0 1 fBT fdBT ["self","at"] (zKI BT "at")):FnOk P w K mg base (zBf P w) 15 f fd ["told"] (zJc NC c BT):=by
 refine FunD.okXD (Fun.toD F) zRM (fun vs H Q E h=>?_) (fun _ A _ s H vs Q E hr14 h=>?_)
 ·obtain ⟨x,rfl,_⟩:=h;rfl
 ·obtain ⟨x,rfl,h⟩:=h;have hr14:Room 14 _:=hr14;have hr8:Room 8 _:=hr14.mono (by decide);have hr2:Room 2 _:=hr14.mono (by decide);refine ⟨_,QB.out (zF
   (zf (yf (yW (zP GI hr8 rfl mI FI.kp bI .nil zH (qc (qw 0 rfl) zA rfl) rfl rfl rfl) (fun _=>rfl))) (zK
    (zKK XBT.mx GBT hr2 rfl XBT.mg bBT zH zGQ rfl (qc zBp zA rfl) rfl rfl rfl)) zZ) (zK
   (zR (zP GM hr14 rfl mM FM.kp bM .nil zH (qc (qw 0 rfl) zA rfl) rfl rfl rfl)))),?_⟩
  rcases h with ⟨e,hx,ok,n4,d1,q⟩|⟨e,hy,n0,ex,q⟩
  ·refine ⟨_,rfl,x,e,rfl,zo hx ok,by omega,fun H1 s1=>?_⟩;rw [show exB e=true by unfold exB;rw [yR ok,zRz n4,zRz d1];rfl];exact ⟨_,rfl,zE ⟨_,rfl,x,e,rfl,hx.same s1,ok,d1,fun v H2 s2 nd=>q v H2 (s1.trans s2) nd⟩⟩
  ·refine ⟨_,rfl,x,e,rfl,hy,n0,fun H1 s1=>?_⟩;rw [ex];exact ⟨_,rfl,zN ⟨bs 1,fun ea he=>zNg (q.same s1) ea he⟩⟩
end
theorem zFs{n:Str}(h:Nm n):ltS "" n:=by
 unfold Nm ya at h;simp only [zSU,decide_eq_true_eq] at h;have h1:=h.1.1.1;unfold ltS;have hl:n.length=n.cps.toList.length:=by simp [Str.length]
 cases e:n.cps.toList with
 | nil=>rw [hl,e] at h1;simp at h1
 | cons a l=>exact List.nil_lt_cons a l
theorem zIz: ∀{us:Us} {a:Str},(us.map (·.1)).Pairwise ltS->(∀p∈us,Nm p.1/\p.2≠0/\ltS a p.1)->UpU a us
 | [],_,_,_=>trivial
 | p::us,a,h,k=>by
  obtain ⟨h1,h2,h3⟩:=k p (List.mem_cons_self ..);rw [zSX,List.pairwise_cons] at h;exact ⟨h1,h2,h3,zIz h.2 fun q hq=>⟨(k q (zSI _ hq)).1,(k q (zSI _ hq)).2.1,h.1 _ (List.mem_map_of_mem hq)⟩⟩
theorem zAJ{xs:List V}{m n:Int}{p:V->Prop}(hx: ∀v∈xs,p v)(hl:(xs.length:Int)=m)(hm:0<m): ∃v,atI xs (n % m)=some v/\p v:=by
 have h0:=zRt n (by omega:m≠0);have h1:=zRo n hm;obtain ⟨j,hj⟩: ∃j:Nat,n % m=j:=⟨(n % m).toNat,by omega⟩;have hj2:j<xs.length:=by omega
 exact ⟨xs[j],by rw [hj];exact ym (zRc hj2),hx _ (zSF hj2)⟩
theorem hd{t u:TS}{D:Ends}{σ:L2.St}{H:Hp}(h: ∀U:L2.St->Hp->Prop,(∀σ' H',u D σ' H'->U σ' H')->t {D with nx:=U} σ H):zHh t u D σ H:=h (u D) fun _ _ z=>z
structure UtOk(H:Hp)(p:Addr)(ks:List Str)(us:Us):Prop where
 un:Un H (.ref p) us
 gd:GoodU us
 sub: ∀q∈us,q.1∈ks
def zMu:Sp:=fun vs H Q _=> ∃(n:Int) (a:Addr) (ks:List Str),vs= [.int n,.ref a] /\H a=some (.lst (ks.map V.str))/\ks.length<=40/\ks.Nodup/\(∀k∈ks,Nm k)/\ ∀H' p us,zB H H'->UtOk H' p ks us->Q (.ref p) H'
theorem zEU:FnScope ["_law_number_here","_law_names_here","_law_pairs","_law_k","_law_name","_law_own"] ["_law_number_here","_law_names_here"] (zM zFG):=fs
theorem zPO{f fM:Addr}{fd fdM:FuncData}(F:Fun K "_law_unit" "_law_unit" zFG f fd)(B:Bn mg)
  (FM:Fun K "_law_mixed" "_law_mixed" zEc fM fdM) (bM:zL K fdM ["_law_number_here","_law_k"] []) (mM:mg "_law_mixed" =some (.ref fM)) (GM:FnOk P w K mg base CX0 1 fM fdM ["_law_number_here","_law_k"] zFR):
  FnOk P w K mg base CX0 2 f fd ["_law_number_here","_law_names_here"] zMu:=by
 refine F.ok zEU (fun vs H Q E h=>?_) (fun _ A _ s H vs Q E hr1 h=>?_)
 ·obtain ⟨n,a,ks,rfl,_⟩:=h;rfl
 ·obtain ⟨n,a,ks,rfl,ea,kl,nd,nm,q⟩:=h;refine ⟨_,QB.out (zF
   (zd 2 zEU.nd rfl (zW zA) rfl) (zF
   (zBi PassesOwn.never rfl (zMt (K:=K) rfl rfl B.enumerate (qc (zk (zGG (K:=K) rfl) rfl B.sorted zIZ (qc (qw 1 rfl) zA rfl) rfl) zA rfl) rfl) (zDo (K:=K) (n:=2) rfl rfl (zAX (zq 3 zEU.nd rfl (Or.inl rfl) (.inr rfl)) (zAX (zq 4 zEU.nd rfl (Or.inl rfl) (.inr rfl)) zEA rfl) rfl) rfl rfl) (zF
    (zd 5 zEU.nd rfl (zCY (zw (yA (zP GM hr1 rfl mM FM.kp bM .nil zH (qc (qw 0 rfl) (qc (qw 3 rfl) zA rfl) rfl) rfl rfl rfl) zC) zC) zC) rfl) (zF
    (zf (zU zh (qw 5 rfl) zC rfl) (zK
     (zd 5 zEU.nd rfl (zg (K:=K) rfl (zW (qc zC (qc (zDD zC) (qc zC zA rfl) rfl) rfl)) (zw (yA (zP GM hr1 rfl mM FM.kp bM .nil zH (qc (qw 0 rfl) (qc (qw 3 rfl) zA rfl) rfl) rfl rfl rfl) zC) zC) (fun _ _=>rfl)) rfl)) zZ) (zK
    (zf (t_w (zFU (zU zCX (qw 5 rfl) zC rfl) (zFY (zU zDG (zw (zP GM hr1 rfl mM FM.kp bM .nil zH (qc (qw 0 rfl) (qc (qw 3 rfl) zA rfl) rfl) rfl rfl rfl) zC) zC rfl)))) (zK
     (yO (yo (K:=K) rfl (qw 2 rfl) (zJ (qc (qw 4 rfl) (qc (qw 5 rfl) zA rfl) rfl)) rfl rfl rfl) rfl)) zZ)))) (fun _=>rfl)) (zK
   (zR (zBw (zAK (K:=K) rfl) rfl B.tuple yT (qc (qw 2 rfl) zA rfl) rfl))))),?_⟩
  refine nwf fun l H1 hl s1 e1=>?_;refine ⟨_,rfl,a,ks,rfl,SqL.of (s1 _ _ ea),by omega,fun l2 ks' hl2 pm so=>?_⟩;obtain ⟨H2,g2,s2,e2⟩:=zAp hl2 (.lst (ks'.map V.str));rw [g2];have s02:=s1.trans s2;have nd':ks'.Nodup:=pm.nodup_iff.mpr nd;have pw:=zIh so nd';have ll:ks'.length=ks.length:=pm.length_eq;refine ⟨l2,rfl,⟨_,SqL.of e2⟩,?_⟩;refine zAz ks'.length (fun i σ H'=> ∃(x y z:Option V) (ts:List Addr) (us:Us),σ= [some (.int n),some (.ref a),some (.ref l),x,y,z] /\i<=ks'.length/\zB H H'/\H' l2=some (.lst (ks'.map V.str))/\H' l=some (.lst (ts.map V.ref))/\ts.length<=i/\
   Paired (fun t (p:Str×Int)=>H' t=some (.tup [.str p.1,.int p.2])) ts us/\(us.map (·.1)).Sublist (ks'.take i)/\ ∀p∈us,p.2≠0/\ -9<=p.2/\p.2<=9)
   ⟨_,_,_,[],[],rfl,zRr _,s02,e2,s2 _ _ e1,zRg _,.nil,List.nil_sublist _,fun p hp=>by simp at hp⟩ ?_ ?_ ?_ ?_
  ·rintro i σ H' hi ⟨x,y,z,ts,us,rfl,_,s3,e3,_⟩;exact ⟨_,.str ks'[i],SqL.of e3,by simp [hi]⟩
  ·rintro σ H' ⟨x,y,z,ts,us,rfl,_,s3,e3,_⟩;exact ⟨_,SqL.of e3,by simp⟩
  ·rintro i σ H' v H4 hi ⟨x,y,z,ts,us,rfl,_,s3,e3,e4,tl,pu,su,ex⟩ ⟨pt,u,hu,npt,rfl,rfl⟩;have hu':=hu _ (SqL.of e3);rw [zRh,zRc hi] at hu';cases hu';obtain ⟨H5,g5,s5,e5⟩:=zAp npt (.tup [.int (i:Int),.str ks'[i]]);rw [g5];refine ⟨pt,_,rfl,SqT.of e5,rfl,_,_,rfl,_,_,rfl,rfl,hd fun Z hz=>?_⟩;have hi0:(0:Int)<=(i:Int)/\(i:Int)<=1000:=⟨by omega,by omega⟩;refine ⟨_,rfl,_,rfl,n,i,rfl,hi0.1,hi0.2,fun r r0 r1=>⟨_,_,rfl,rfl,⟨by decide,by decide⟩,_,_,rfl,rfl,by decide,_,_,rfl,rfl,hz _ _ ?_⟩⟩;refine hd fun Z hz=>?_;have nl:l2≠l:=fun z=>by rw [z,e1] at hl2;cases hl2
   have nxt: ∀(own:Int) (H6:Hp),zB H' H6-> ∃(x y z:Option V) (ts:List Addr) (us:Us),[some (.int n),some (.ref a),some (.ref l),some (.int (i:Int)),some (.str ks'[i]),some (.int own)] = [some (.int n),some (.ref a),some (.ref l),x,y,z] /\i+1<=ks'.length/\zB H H6/\H6 l2=some (.lst (ks'.map V.str))/\H6 l=some (.lst (ts.map V.ref))/\ts.length<=i+1/\
     Paired (fun t (p:Str×Int)=>H6 t=some (.tup [.str p.1,.int p.2])) ts us/\(us.map (·.1)).Sublist (ks'.take (i+1))/\ ∀p∈us,p.2≠0/\ -9<=p.2/\p.2<=9:=fun own H6 sk=>
    ⟨_,_,_,ts,us,rfl,hi,s3.trans sk,sk _ _ e3,sk _ _ e4,by omega,Paired.mapM pu fun _ _ _ e=>sk _ _ e,su.trans (List.take_sublist_take_left (by omega)),ex⟩
   have fin: ∀(own:Int) (H6:Hp),zB H5 H6-> -9<=own->own<=9->Z [some (.int n),some (.ref a),some (.ref l),some (.int (i:Int)),some (.str ks'[i]),some (.int own)] H6:=fun own H6 s6 o1 o2=>hz _ _ (by
    have sk:zB H' H6:=s5.trans s6;refine ⟨_,rfl,rfl,_,rfl,yE (fun c=>?_) (fun c=>?_)⟩
    ·refine ⟨_,rfl,_,rfl,n,i,rfl,hi0.1,hi0.2,fun r r0 r1=>⟨_,_,rfl,rfl,by decide,_,_,rfl,rfl,_,rfl,yE (fun c2=>?_) (fun c2=>?_)⟩⟩
     ·refine ⟨_,rfl,.inl ⟨rfl,_,SqL.of (sk _ _ e4)⟩,_,rfl,_,rfl,nw fun pn H7 s7 e7=>?_⟩;have s37:=sk.trans s7;have el:=s37 _ _ e4;refine ⟨l,_,_,rfl,rfl,el,by rw [zRn];simp;omega,?_⟩;have T8:zr H7 (L2.upd H7 l (.lst (ts.map V.ref++ [.ref pn]))):=zr.lst el;have own0:own≠0:=fun z=>by rw [z] at c;simp at c
      refine ⟨_,_,_,ts++ [pn],us++ [(ks'[i],own)],rfl,hi,zB.store (s3.trans s37) hl,by rw [zQ nl];exact s37 _ _ e3,by rw [zD,zRx];rfl,by simp;omega,Paired.snoc' (Paired.mapM pu fun _ _ _ e=>T8 _ _ (s37 _ _ e)) (T8 _ _ e7),?_,fun p hp=>?_⟩
      ·rw [zRx,zRy,zRc hi];exact su.append (List.Sublist.refl _)
      ·rcases zSW.mp hp with hp | hp
       ·exact ex p hp
       ·rw [zSY] at hp;subst hp;exact ⟨own0,o1,o2⟩
     ·exact nxt own H6 sk
    ·exact nxt own H6 sk)
   refine ⟨_,rfl,rfl,_,rfl,yE (fun c=>?_) (fun c=>fin _ _ (zB.refl _) (by omega) (by omega))⟩;refine ⟨_,rfl,bs 3,fun d hd'=>?_⟩;obtain ⟨H6,g6,s6,e6⟩:=zAp hd' (.lst [.int 9,.int (-9),.int 1]);rw [g6];refine ⟨_,rfl,_,rfl,n,i,rfl,hi0.1,hi0.2,fun r2 r20 r21=>⟨_,_,rfl,rfl,⟨by decide,by decide⟩,_,_,rfl,rfl,by decide,?_⟩⟩;obtain ⟨v,ev,o,rfl,o1,o2⟩:=zAJ (n:=r2/45) (p:=fun v=> ∃o:Int,v= .int o/\ -9<=o/\o<=9) (xs:= [.int 9,.int (-9),.int 1]) (m:=3) (fun v hv=>by
    simp at hv;rcases hv with rfl | rfl | rfl
    ·exact ⟨9,rfl,by decide,by decide⟩
    ·exact ⟨-9,rfl,by decide,by decide⟩
    ·exact ⟨1,rfl,by decide,by decide⟩) rfl (by decide)
   exact ⟨d,_,_,_,rfl,rfl,SqL.of e6,ev,fin _ _ s6 o1 o2⟩
  ·rintro σ H' ⟨x,y,z,ts,us,rfl,_,s3,e3,e4,tl,pu,su,ex⟩;rw [List.take_of_length_le (zRg _)] at su;refine ⟨_,rfl,l,_,rfl,.inl ⟨SqL.of e4,fun p hp=>?_⟩⟩;obtain ⟨H6,g6,s6,e6⟩:=zAp hp (.tup (ts.map V.ref));rw [g6];have mem: ∀p∈us,p.1∈ks':=fun p hp=>su.subset (List.mem_map_of_mem hp);have mem': ∀p∈us,p.1∈ks:=fun p hp=>pm.mem_iff.mp (mem p hp);refine q H6 p us (s3.trans s6) ⟨⟨p,ts,rfl,e6,Paired.mapM pu fun _ _ _ e=>s6 _ _ e⟩,⟨zIz (pw.sublist su) fun p hp=>⟨nm _ (mem' p hp),(ex p hp).1,zFs (nm _ (mem' p hp))⟩,fun p hp=>(ex p hp).2,?_⟩,mem'⟩;have:=su.length_le;simp at this;omega
def zOj:Sp:=fun vs H Q _=> ∃n:Int,vs= [.int n] /\0<=n/\ ∀p H' (a b:Int),zB H H'->H' p=some (.tup [.int a,.int b])->0<=a->0<b->Int.gcd a b=1->Q (.ref p) H'
theorem zGb:FnScope ["_law_number_here","_law_above","_law_below","_law_one","_law_other"] ["_law_number_here"] (zM zHX):=fs
theorem zQF{f:Addr}{fd:FuncData}(F:Fun K "_law_amount" "_law_amount" zHX f fd)(B:Bn mg):FnOk P w K mg base CX0 1 f fd ["_law_number_here"] zOj:=by
 refine F.ok zGb (fun vs H Q E h=>?_) (fun _ A _ s H vs Q E hr1 h=>?_)
 ·obtain ⟨n,rfl,_⟩:=h;rfl
 ·obtain ⟨n,rfl,n0,q⟩:=h;refine ⟨_,QB.out (zF
   (zd 1 zGb.nd rfl (zg (K:=K) rfl (zW (qc (zw (yA (qw 0 rfl) zC) zC) (qc (zw (yA (qw 0 rfl) zC) zC) (qc zC (qc (zw (yA (qw 0 rfl) zC) (zHs zC zC)) (qc zC (qc zC zA rfl) rfl) rfl) rfl) rfl) rfl)) (zw (qw 0 rfl) zC) (fun _ _=>rfl)) rfl) (zF
   (zd 2 zGb.nd rfl (zg (K:=K) rfl (zW (qc zC (qc zC (qc (yx zC (zw (yA (qw 0 rfl) zC) zC)) (qc (yx zC (zw (zw (yA (qw 0 rfl) zC) (zHs zC zC)) (zCY (zHs zC zC) zC))) zA rfl) rfl) rfl) rfl)) (zw (yA (qw 0 rfl) zC) zC) (fun _ _=>rfl)) rfl) (zF
   (zKo (i:=3) (j:=4) rfl zGb.nd rfl rfl (by decide) rfl rfl (qc (qw 1 rfl) (qc (qw 2 rfl) zA rfl) rfl) rfl rfl) (zF
   (zCw PassesOwn.never (zU zBt (qw 4 rfl) zC rfl) (zK
    (zKo (i:=3) (j:=4) rfl zGb.nd rfl rfl (by decide) rfl rfl (qc (qw 4 rfl) (qc (zCY (qw 3 rfl) (zHU (yA (qw 3 rfl) (qw 4 rfl)) (qw 4 rfl))) zA rfl) rfl) rfl rfl))) (zK
   (zR (zJ (qc (yA (qw 1 rfl) (zk (zEi rfl) rfl B.max zFj (qc zC (qc (qw 3 rfl) zA rfl) rfl) rfl)) (qc (yA (qw 2 rfl) (zk (zEi rfl) rfl B.max zFj (qc zC (qc (qw 3 rfl) zA rfl) rfl) rfl)) zA rfl) rfl)))))))),?_⟩
  refine hd fun Z hz=>?_;refine ⟨_,rfl,_,_,rfl,rfl,⟨by decide,by decide⟩,_,_,rfl,rfl,by decide,_,rfl,_,_,rfl,rfl,⟨by decide,by decide⟩,_,_,rfl,rfl,by decide,_,rfl,_,_,rfl,rfl,⟨by decide,by decide⟩,_,_,rfl,rfl,⟨by decide,by decide,by decide⟩,_,_,rfl,rfl,by decide,nw fun l H1 s1 e1=>?_⟩;have h9:(10:Int)^(9:Int).toNat=1000000000:=by decide
  obtain ⟨v,ev,A,rfl,A1⟩:=zAJ (n:=n) (p:=fun v=> ∃o:Nat,v= .int (o:Int)/\o<1000000000) (xs:= [.int (n/6 % 4),.int (n/6 % 100),.int 0,.int (n/6 % 10^(9:Int).toNat),.int 1,.int 12]) (m:=6) (fun v hv=>by
   have z: ∀(o:Int),v= .int o->0<=o->o<1000000000-> ∃o:Nat,v= .int (o:Int)/\o<1000000000:=fun o e h1 h2=>⟨o.toNat,by rw [e,Int.toNat_of_nonneg h1],by omega⟩;simp only [zST,zSc,or_false] at hv;rw [h9] at hv;rcases hv with h | h | h | h | h | h<;>exact z _ h (by omega) (by omega)) rfl (by decide)
  refine ⟨_,rfl,_,_,rfl,rfl,by decide,l,_,_,_,rfl,rfl,SqL.of e1,ev,hz _ _ (hd fun Z hz=>?_)⟩;refine ⟨_,rfl,_,_,rfl,rfl,⟨by decide,by decide⟩,_,_,rfl,rfl,by decide,_,_,rfl,rfl,?_⟩;refine ⟨_,rfl,_,_,rfl,rfl,⟨by decide,by decide⟩,_,_,rfl,rfl,⟨by decide,by decide,by decide⟩,_,_,rfl,rfl,by decide,_,_,rfl,rfl,⟨by decide,by decide,by decide⟩,_,_,rfl,rfl,_,_,rfl,rfl,by decide,_,_,rfl,rfl,nw fun l2 H2 s2 e2=>?_⟩;obtain ⟨v,ev2,Bl,rfl,B0,B1⟩:=zAJ (n:=n/7) (p:=fun v=> ∃o:Nat,v= .int (o:Int)/\0<o/\o<1000000000) (xs:= [.int 1,.int 1,.int (1+n/600 % 9),.int (1+n/24 % 10^(9:Int).toNat %(10^(9:Int).toNat - 1))]) (m:=4) (fun v hv=>by
   have z: ∀(o:Int),v= .int o->1<=o->o<1000000000-> ∃o:Nat,v= .int (o:Int)/\0<o/\o<1000000000:=fun o e h1 h2=>⟨o.toNat,by rw [e,Int.toNat_of_nonneg (by omega)],by omega,by omega⟩;simp only [zST,zSc,or_false] at hv;rw [h9] at hv;rcases hv with h | h | h | h<;>exact z _ h (by omega) (by omega)) rfl (by decide)
  refine ⟨_,rfl,_,_,rfl,rfl,⟨by decide,by decide⟩,_,_,rfl,rfl,by decide,l2,_,_,_,rfl,rfl,SqL.of e2,ev2,hz _ _ (hd fun Z hz=>?_)⟩;have s02:=s1.trans s2;refine ⟨_,rfl,_,rfl,_,_,rfl,hz _ _ (hd fun Z hz=>?_)⟩;refine ⟨fun m σ H'=> ∃x y:Nat,σ= [some (.int n),some (.int (A:Int)),some (.int (Bl:Int)),some (.int (x:Int)),some (.int (y:Int))] /\H'=H2/\x<1000000000/\y<1000000000/\Nat.gcd x y=Nat.gcd A Bl/\y=m,⟨_,A,Bl,rfl,rfl,A1,B1,rfl,rfl⟩,?_⟩;rintro m σ H' ⟨x,y,rfl,rfl,hx,hy,hg,rfl⟩;refine ⟨_,rfl,_,_,rfl,rfl,_,rfl,yE (fun cc=>?_) (fun cc=>?_)⟩
  ·have y0:0<y:=by simpa using cc
   refine ⟨fun σ' H''=> ∃m',m'<y/\ ∃x y:Nat,σ'= [some (.int n),some (.int (A:Int)),some (.int (Bl:Int)),some (.int (x:Int)),some (.int (y:Int))] /\H''=H'/\x<1000000000/\y<1000000000/\Nat.gcd x y=Nat.gcd A Bl/\y=m',fun _ _ z=>z,?_⟩;refine ⟨_,rfl,_,rfl,_,rfl,_,rfl,_,_,rfl,rfl,⟨by omega,by omega⟩,_,rfl,_,_,rfl,rfl,?_,_,_,rfl,rfl,_,_,rfl,?_⟩
   ·exact .inr ⟨by omega,by omega⟩
   ·have hm:=Nat.mod_lt x y0;refine ⟨x % y,hm,y,x % y,?_,rfl,hy,by omega,?_,rfl⟩
    ·have e:(x:Int) -(x:Int)/(y:Int)*(y:Int)=((x % y:Nat):Int):=by
      have:=Int.emod_def (x:Int) (y:Int);rw [Int.mul_comm] at this;rw [Int.natCast_emod];omega
     rw [e];rfl
    ·rw [<-hg,Nat.gcd_comm x y,Nat.gcd_rec y x,Nat.gcd_comm]
  ·have y0:y=0:=by
    have: ¬(0<(y:Int)):=by simpa using cc
    omega
   subst y0;rw [Nat.gcd_zero_right] at hg;refine hz _ _ ?_;have g0:0<x:=by rw [hg];exact Nat.gcd_pos_of_pos_right _ B0
   have e:(if (x:Int)>1 then (x:Int) else 1)=(x:Int):=by
    by_cases h:(x:Int)>1
    ·rw [if_pos h]
    ·rw [if_neg h];omega
   refine ⟨_,rfl,_,rfl,1,x,rfl,?_⟩;rw [e];refine ⟨_,_,rfl,rfl,⟨by omega,by omega⟩,_,rfl,_,rfl,1,x,rfl,?_⟩;rw [e];refine ⟨_,_,rfl,rfl,⟨by omega,by omega⟩,nw fun p H3 s3 e3=>?_⟩;have c1:(A:Int)/(x:Int)=((A/x:Nat):Int):=by rw [Int.natCast_ediv]
   have c2:(Bl:Int)/(x:Int)=((Bl/x:Nat):Int):=by rw [Int.natCast_ediv]
   rw [c1,c2] at e3;refine q p H3 _ _ (s02.trans s3) e3 (Int.natCast_nonneg _) ?_ ?_
   ·have:=Nat.div_pos (a:=Bl) (b:=x) (by rw [hg];exact Nat.gcd_le_right _ B0) g0;exact Int.natCast_pos.mpr this
   ·rw [Int.gcd_natCast_natCast];have:=Nat.coprime_div_gcd_div_gcd (m:=A) (n:=Bl) (by rw [<-hg];exact g0);rw [<-hg] at this;exact this
inductive Lf (U N:List Str):Ex->Prop
 | nam {s:Str} (h:s∈N):Lf U N (.nam s)
 | num {a b:Int} {u:Option Us} (ok:OkN a b u) (hs: ∀us,u=some us-> ∀p∈us,p.1∈U):Lf U N (.num a b u)
structure Nms(H:Hp)(a:Addr)(N:List Str):Prop where
 at_:H a=some (.lst (N.map V.str))
 le:N.length<=40
 nm: ∀n∈N,Nm n
theorem Nms.same{H H':Hp}{a:Addr}{N:List Str}(h:Nms H a N)(s:zB H H'):Nms H' a N:=⟨s _ _ h.at_,h.le,h.nm⟩
def zJx:Sp:=fun vs H Q _=> ∃(n:Int) (u a:Addr) (U N:List Str),vs= [.int n,.ref u,.ref a] /\0<=n/\Nms H u U/\U.Nodup/\Nms H a N/\ ∀H' v e,zB H H'->Xt H' e v->Lf U N e->Q v H'
theorem zMw:FnScope ["_law_number_here","_law_units","_law_names_here","_law_unit_here"] ["_law_number_here","_law_units","_law_names_here"] (zM zDr):=fs
theorem zEx:GoodU [] :=⟨trivial,fun p hp=>by simp at hp,by simp⟩
theorem zPf{f fU fA:Addr}{fd fdU fdA:FuncData}(F:Fun K "_law_leaf" "_law_leaf" zDr f fd)(B:Bn mg)
  (FU:Fun K "_law_unit" "_law_unit" zFG fU fdU) (bU:zL K fdU ["_law_number_here","_law_names_here"] []) (mU:mg "_law_unit" =some (.ref fU)) (GU:FnOk P w K mg base CX0 2 fU fdU ["_law_number_here","_law_names_here"] zMu)
  (FA:Fun K "_law_amount" "_law_amount" zHX fA fdA) (bA:zL K fdA ["_law_number_here"] []) (mA:mg "_law_amount" =some (.ref fA)) (GA:FnOk P w K mg base CX0 1 fA fdA ["_law_number_here"] zOj):
  FnOk P w K mg base CX0 3 f fd ["_law_number_here","_law_units","_law_names_here"] zJx:=by
 refine F.ok zMw (fun vs H Q E h=>?_) (fun _ A _ s H vs Q E hr2 h=>?_)
 ·obtain ⟨n,u,a,U,N,rfl,_⟩:=h;rfl
 ·obtain ⟨n,u,a,U,N,rfl,n0,hU,ndU,hN,q⟩:=h;have hr2:Room 2 _:=hr2;have hr1:Room 1 _:=hr2.mono (by decide);have huN:=Nat.lt_of_succ_lt (zBK hr2);refine ⟨_,QB.out (zF
   (zf (t_w (zFU (zU zh (zw (qw 0 rfl) zC) zC rfl) (zFY (zU (zDh huN) (qw 2 rfl) (zW zA) rfl)))) (zK
    (zR (zJ (qc zG (qc (zg (K:=K) rfl (qw 2 rfl) (zw (yA (qw 0 rfl) zC) (zk (zu (K:=K) rfl) rfl B.len yM (qc (qw 2 rfl) zA rfl) rfl)) (fun _ _=>rfl)) zA rfl) rfl)))) zZ) (zF
   (zf (zU zh (zw (yA (qw 0 rfl) zC) zC) zC rfl) (zK
    (zR (zJ (qc zG (qc (zJ (qc zC (qc zC zA rfl) rfl)) (qc (zg (K:=K) rfl (zW (qc zBp (qc (zJ zA) zA rfl) rfl)) (zw (yA (qw 0 rfl) zC) zC) (fun _ _=>rfl)) zA rfl) rfl) rfl)))) zZ) (zF
   (zd 3 zMw.nd rfl (zg (K:=K) rfl (zW (qc (zJ zA) (qc (zP GU hr2 rfl mU FU.kp bU .nil zH (qc (yA (qw 0 rfl) zC) (qc (qw 1 rfl) zA rfl) rfl) rfl rfl rfl) zA rfl) rfl)) (zw (yA (qw 0 rfl) zC) zC) (fun _ _=>rfl)) rfl) (zK
   (zR (zJ (qc zG (qc (zP GA hr1 rfl mA FA.kp bA .nil zH (qc (yA (qw 0 rfl) zC) zA rfl) rfl rfl rfl) (qc (qw 3 rfl) zA rfl) rfl) rfl))))))),?_⟩
  refine hd fun Z hz=>?_;have fin: ∀H1,zB H H1->Z [some (.int n),some (.ref u),some (.ref a),none] H1:=fun H1 s1=>hz _ _ (by
   have hU1:=hU.same s1;refine hd fun Z hz=>?_;refine ⟨_,rfl,_,_,rfl,rfl,⟨by decide,by decide⟩,_,_,rfl,rfl,by decide,rfl,_,rfl,yE (fun c=>?_) (fun c=>hz _ _ (hd fun Z hz=>?_))⟩
   ·refine nw fun p0 H2 s2 e2=>?_;refine nwf fun em H3 hem s3 e3=>?_;refine nwf fun l H4 hl s4 e4=>?_;obtain ⟨v,ev,hv⟩:=zAJ (n:=n/12) (p:=fun v=>v= .non\/v= .ref em) (xs:= [.non,.ref em]) (m:=2) (fun v hv=>by simpa using hv) rfl (by decide);refine ⟨_,rfl,_,_,rfl,rfl,⟨by decide,by decide⟩,_,_,rfl,rfl,by decide,l,_,_,_,rfl,rfl,SqL.of e4,ev,nwf fun t H5 ht s5 e5=>?_⟩;have s15:=s1.trans (s2.trans (s3.trans (s4.trans s5)));rcases hv with rfl | rfl
    ·exact q H5 _ (.num 0 1 none) s15 ⟨t,p0,_,rfl,e5,(s3.trans (s4.trans s5)) _ _ e2,rfl⟩ (.num ⟨by decide,by decide,by decide,rfl,rfl⟩ fun us h=>by cases h)
    ·exact q H5 _ (.num 0 1 (some [])) s15 ⟨t,p0,_,rfl,e5,(s3.trans (s4.trans s5)) _ _ e2,em,[],rfl,(s4.trans s5) _ _ e3,.nil⟩ (.num ⟨by decide,by decide,by decide,zEx⟩ fun us h=>by cases h;exact fun p hp=>by simp at hp)
   ·refine nw fun em H2 s2 e2=>?_;refine ⟨_,rfl,_,_,rfl,rfl,⟨by decide,by decide⟩,_,rfl,_,u,U,rfl,s2 _ _ hU1.at_,hU.le,ndU,hU.nm,fun H3 p us s3 hp=>nw fun l H4 s4 e4=>?_⟩;obtain ⟨v,ev,hv⟩:=zAJ (n:=n/12) (p:=fun v=> ∃us,Un H4 v us/\GoodU us/\ ∀q∈us,q.1∈U) (xs:= [.ref em,.ref p]) (m:=2) (fun v hv=>by
     simp only [zST,zSc,or_false] at hv;rcases hv with rfl | rfl
     ·exact ⟨[],⟨em,[],rfl,(s3.trans s4) _ _ e2,.nil⟩,zEx,fun q hq=>by simp at hq⟩
     ·exact ⟨us,hp.un.same s4,hp.gd,hp.sub⟩) rfl (by decide)
    obtain ⟨us,hu,gu,su⟩:=hv;refine ⟨_,rfl,_,_,rfl,rfl,⟨by decide,by decide⟩,_,_,rfl,rfl,by decide,l,_,_,_,rfl,rfl,SqL.of e4,ev,hz _ _ ?_⟩;refine ⟨_,rfl,_,_,rfl,rfl,⟨by decide,by decide⟩,_,rfl,by omega,fun p1 H5 a b s5 e5 a0 b0 gc=>⟨_,rfl,nw fun t H6 s6 e6=>?_⟩⟩;exact q H6 _ (.num a b (some us)) (s1.trans (s2.trans (s3.trans (s4.trans (s5.trans s6))))) ⟨t,p1,_,rfl,e6,s6 _ _ e5,hu.same (s5.trans s6)⟩ (.num ⟨a0,b0,gc,gu⟩ fun us' h=>by cases h;exact su))
  refine ⟨_,rfl,_,_,rfl,rfl,by decide,rfl,_,rfl,yE (fun c=>?_) (fun c=>zE (fin _ (zB.refl _)))⟩;refine ⟨_,rfl,nw fun l H1 s1 e1=>?_⟩;refine ⟨a,l,_,rfl,rfl,SqL.of (s1 _ _ hN.at_),SqL.of e1,_,rfl,yE (fun c2=>?_) (fun c2=>fin _ s1)⟩;have hne:N≠ [] :=fun z=>by rw [z] at c2;simp at c2
  have hlen:0<N.length:=List.length_pos_iff.mpr hne;refine ⟨_,rfl,_,rfl,_,_,rfl,rfl,⟨by decide,by decide⟩,_,rfl,a,_,rfl,.inl (SqL.of (s1 _ _ hN.at_)),_,_,rfl,rfl,by simp;omega,?_⟩;obtain ⟨v,ev,x,rfl,hx⟩:=zAJ (n:=n/2) (p:=fun v=> ∃x,v= .str x/\x∈N) (xs:=N.map V.str) (m:=((N.map V.str).length:Int)) (fun v hv=>by
   obtain ⟨x,hx,rfl⟩:=zSZ.mp hv;exact ⟨x,rfl,hx⟩) rfl (by simp;omega)
  refine ⟨a,_,_,_,rfl,rfl,SqL.of (s1 _ _ hN.at_),ev,nw fun t H2 s2 e2=>?_⟩;exact q H2 _ (.nam x) (s1.trans s2) ⟨t,rfl,e2⟩ (.nam hx)
def But(ex:List Addr)(H H':Hp):Prop:= ∀b u,H b=some u->b∉ex->H' b=some u
theorem zB.but{H H':Hp}(s:zB H H')(ex:List Addr):But ex H H':=fun b u e _=>s b u e
theorem But.trans{ex:List Addr}{H H1 H2:Hp}(a:But ex H H1)(b:But ex H1 H2):But ex H H2:=fun c u e z=>b c u (a c u e z) z
theorem But.same{ex:List Addr}{H0 H H':Hp}(s:zB H0 H)(b:But ex H H')(hn: ∀a∈ex,H0 a=none):zB H0 H':=fun c u e=>b c u (s c u e) fun z=>by rw [hn c z] at e;cases e
theorem SqL.but{K:zSS}{H H':Hp}{p a:Addr}{xs:List V}(h:SqL K H a xs)(b:But [p] H H')(hn:a≠p):SqL K H' a xs:=by
 rcases h with (h |⟨o,h⟩)| h
 ·exact .inl (.inl (b _ _ h (by simpa using hn)))
 ·exact .inl (.inr ⟨o,b _ _ h (by simpa using hn)⟩)
 ·exact .inr h
theorem But.upd{H:Hp}{p:Addr}{o:HO}:But [p] H (L2.upd H p o):=fun b u e z=>by rw [zQ (by simpa using z)];exact e
def Scr(K:zSS)(H:Hp)(a p:Addr)(ns:List Int):Prop:=(SqL K H a (ns.map V.int)/\a≠p)\/ ∀H',SqL K H' a (ns.map V.int)
theorem Scr.sq{K:zSS}{H:Hp}{a p:Addr}{ns:List Int}(h:Scr K H a p ns):SqL K H a (ns.map V.int):=h.elim (fun h=>h.1) fun h=>h H
theorem Scr.but{K:zSS}{H H':Hp}{a p:Addr}{ns:List Int}(h:Scr K H a p ns)(b:But [p] H H'):Scr K H' a p ns:=h.elim (fun h=> .inl ⟨SqL.but h.1 b h.2,h.2⟩) .inr
theorem Scr.of{K:zSS}{H:Hp}{a p:Addr}{ns:List Int}(h:SqL K H a (ns.map V.int))(hp:H p=none):Scr K H a p ns:=by
 rcases id h with (e |⟨o,e⟩)| e
 ·exact .inl ⟨h,fun z=>by rw [z,hp] at e;cases e⟩
 ·exact .inl ⟨h,fun z=>by rw [z,hp] at e;cases e⟩
 ·exact .inr fun _=> .inr e
theorem fr6{Pp:Str->Nat->Prop}{y0 y1 y2 y3 y4 y5:Str}{n0 n1 n2 n3 n4 n5:Nat}(h0:Pp y0 n0)(h1:Pp y1 n1)(h2:Pp y2 n2)(h3:Pp y3 n3)(h4:Pp y4 n4)(h5:Pp y5 n5): ∀(j:Nat) (y':Str) (i':Nat),[y0,y1,y2,y3,y4,y5][j]?=some y'-> [n0,n1,n2,n3,n4,n5][j]?=some i'->Pp y' i':=by
 intro j y' i' a b
 match j,a,b with
 | 0,a,b=>simp at a b;subst a b;exact h0
 | 1,a,b=>simp at a b;subst a b;exact h1
 | 2,a,b=>simp at a b;subst a b;exact h2
 | 3,a,b=>simp at a b;subst a b;exact h3
 | 4,a,b=>simp at a b;subst a b;exact h4
 | 5,a,b=>simp at a b;subst a b;exact h5
 | j+6,a,b=>simp at a
inductive Gen (U:List Str) (Cs:List (Str×Nat)):List Str->Ex->Prop
 | leaf {N:List Str} {e:Ex} (h:Lf U N e):Gen U Cs N e
 | neg {N:List Str} {e:Ex} (h:Gen U Cs N e):Gen U Cs N (.neg e)
 | bin {N:List Str} {w:Str} {e f:Ex} (hw:zAn w) (h:Gen U Cs N e) (g:Gen U Cs N f):Gen U Cs N (.bin w e f)
 | pow {N:List Str} {e:Ex} {k:Int} (h:Gen U Cs N e) (k0: -5<=k) (k1:k<=5):Gen U Cs N (.pow e k)
 | ite {N:List Str} {a b c d:Ex} (h1:Gen U Cs N a) (h2:Gen U Cs N b) (h3:Gen U Cs N c) (h4:Gen U Cs N d):Gen U Cs N (.ite a b c d)
 | loop {N:List Str} {s:Str} {e f:Ex} {k:Int} (hs:s∈N\/s= "last") (h:Gen U Cs N e) (k0:0<=k) (k1:k<=12) (g:Gen U Cs (N++ [s]) f):Gen U Cs N (.loop s e k f)
 | call1 {N:List Str} {s:Str} {e:Ex} (hc:(s,1)∈Cs) (h:Gen U Cs N e):Gen U Cs N (.call1 s e)
 | call2 {N:List Str} {s:Str} {e f:Ex} (hc:(s,2)∈Cs) (h:Gen U Cs N e) (g:Gen U Cs N f):Gen U Cs N (.call2 s e f)
 | call3 {N:List Str} {s:Str} {e f g:Ex} (hc:(s,3)∈Cs) (h1:Gen U Cs N e) (h2:Gen U Cs N f) (h3:Gen U Cs N g):Gen U Cs N (.call3 s e f g)
def zv:Ex->Nat
 | .num ..=>0
 | .nam _=>0
 | .neg e=>1+zv e
 | .bin _ e f=>1+(zv e+zv f)
 | .pow e _=>1+zv e
 | .ite a b c d=>1+(zv a+(zv b+(zv c+zv d)))
 | .loop _ e _ f=>1+(zv e+zv f)
 | .call1 _ e=>1+zv e
 | .call2 _ e f=>1+(zv e+zv f)
 | .call3 _ e f g=>1+(zv e+(zv f+zv g))
theorem zDl(e:Ex):zv e<=zI e:=by induction e<;>simp only [zv,zI] <;>omega
theorem zBD(e:Ex):zI e<=1+4*zv e:=by induction e<;>simp only [zv,zI] <;>omega
structure EnvAt(H:Hp)(u a c:Addr)(U N:List Str)(Cs:List (Str×Nat)):Prop where
 u:Nms H u U
 nd:U.Nodup
 n:Nms H a N
 c: ∃ts:List Addr,H c=some (.lst (ts.map V.ref))/\Paired (fun t (p:Str×Nat)=>H t=some (.tup [.str p.1,.int (p.2:Int)])) ts Cs
 cl:Cs.length<=40
 c3: ∀p∈Cs,1<=p.2/\p.2<=3
theorem Nms.but{H H':Hp}{a l:Addr}{N:List Str}{x y:Int}(h:Nms H a N)(b:But [l] H H')(hl:H l=some (.lst [.int x,.int y])):Nms H' a N:=by
 refine ⟨b _ _ h.at_ fun z=>?_,h.le,h.nm⟩;have z:a=l:=by simpa using z
 have e:=h.at_;rw [z,hl] at e;cases N with
 | nil=>cases e
 | cons n N=>cases e
theorem zr.of_but{H H':Hp}{l:Addr}{xs:List V}(b:But [l] H H')(hl:H l=some (.lst xs)):zr H H':=fun c ys e=>b c _ e fun z=>by
 have z:c=l:=by simpa using z
 rw [z,hl] at e;cases e
theorem EnvAt.but{H H':Hp}{u a c l:Addr}{U N:List Str}{Cs:List (Str×Nat)}{x y:Int}(h:EnvAt H u a c U N Cs)(b:But [l] H H')(hl:H l=some (.lst [.int x,.int y])):EnvAt H' u a c U N Cs:=by
 refine ⟨h.u.but b hl,h.nd,h.n.but b hl,?_,h.cl,h.c3⟩;obtain ⟨ts,e,p⟩:=h.c;refine ⟨ts,b _ _ e fun z=>?_,Paired.mapM p fun _ _ _ e=>zr.of_but b hl _ _ e⟩;have z:c=l:=by simpa using z
 rw [z,hl] at e;cases ts with
 | nil=>cases e
 | cons n ts=>cases e
theorem EnvAt.same{H H':Hp}{u a c:Addr}{U N:List Str}{Cs:List (Str×Nat)}(h:EnvAt H u a c U N Cs)(s:zB H H'):EnvAt H' u a c U N Cs:=
 ⟨h.u.same s,h.nd,h.n.same s,let ⟨ts,e,p⟩:=h.c;⟨ts,s _ _ e,Paired.mapM p fun _ _ _ e=>s _ _ e⟩,h.cl,h.c3⟩
structure Pre(K:zSS)(H:Hp)(sA l u a c:Addr)(ns:List Int)(a0 a1 dp:Int)(U N:List Str)(Cs:List (Str×Nat))(d:Nat):Prop where
 sc:Scr K H sA l ns
 nl:ns.length<=63
 at_:H l=some (.lst [.int a0,.int a1])
 p1:0<=a1
 le:a1<=a0
 r1:a0+1<=1000
 r2:a0+1+4*(8 -(a0 - a1))<=1000
 d1:1<=dp
 dd:dp<=d
 ev:EnvAt H u a c U N Cs
 ln:(N.length:Int)+dp<=40
structure Post(H H':Hp)(l:Addr)(v:V)(e:Ex)(a0 a1 dp:Int)(U N:List Str)(Cs:List (Str×Nat)):Prop where
 but:But [l] H H'
 at_: ∃x:Int,H' l=some (.lst [.int x,.int a1])/\x=a0+zI e
 xt:Xt H' e v
 gen:Gen U Cs N e
 dp:(zO e:Int)<=dp
 inn:zv e=0\/(zv e:Int)+(a0 - a1)<=8
structure Kids(H H':Hp)(l:Addr)(ys:List V)(es:List Ex)(x a0 a1 dp:Int)(U N:List Str)(Cs:List (Str×Nat)):Prop where
 xt:XtL H' ys es
 but:But [l] H H'
 at_:H' l=some (.lst [.int x,.int a1])
 sum:x=a0+1+((es.map zI).sum:Nat)
 inn:(es.map zv).sum=0\/((es.map zv).sum:Nat)+(a0+1 - a1)<=8
 nsum:(es.map zI).sum<=es.length+4*(es.map zv).sum
 isum:(es.map zv).sum<=(es.map zI).sum
 all: ∀e∈es,Gen U Cs N e/\(zO e:Int)<=dp - 1
theorem Kids.snoc{H H' H'':Hp}{l D:Addr}{ys:List V}{es:List Ex}{x a0 a1 dp:Int}{U N:List Str}{Cs:List (Str×Nat)}{v:V}{e:Ex}(h:Kids H H' l ys es x a0 a1 dp U N Cs)(p:Post H' H'' l v e x a1 (dp - 1) U N Cs)
  (hD:H D=none) (hDl:l≠D) (eD:H'' D=some (.lst ys)): ∃y,Kids H (L2.upd H'' D (.lst (ys++ [v]))) l (ys++ [v]) (es++ [e]) y a0 a1 dp U N Cs:=by
 obtain ⟨y,ey,hy⟩:=p.at_;have T:zr H'' (L2.upd H'' D (.lst (ys++ [v]))):=zr.lst eD;have T1:=zr.of_but p.but h.at_;have i1:=h.inn;have i2:=p.inn;have n1:=h.nsum;have n2:=zBD e;have n3:=zDl e;have n4:=h.isum;have n5:=h.sum;refine ⟨y,Paired.snoc' (Paired.mapM h.xt fun _ _ _ k=>(Xt.sameT T1 k).sameT T) (p.xt.sameT T),fun b o hb z=>?_,by rw [zQ hDl];exact ey,?_,?_,?_,?_,?_⟩
 ·rw [zQ (zm hb hD)];exact (h.but.trans p.but) b o hb z
 ·rw [zRx,List.sum_append];simp only [zSX,List.map_nil,List.sum_cons,List.sum_nil];omega
 ·rw [zRx,List.sum_append];simp only [zSX,List.map_nil,List.sum_cons,List.sum_nil];omega
 ·rw [zRx,List.sum_append,zRx,List.sum_append];simp only [zSX,List.map_nil,List.sum_cons,List.sum_nil,zSC,zSa,List.length_nil];omega
 ·rw [zRx,List.sum_append,zRx,List.sum_append];simp only [zSX,List.map_nil,List.sum_cons,List.sum_nil];omega
 ·intro k hk;rcases zSW.mp hk with hk | hk
  ·exact h.all k hk
  ·rw [zSY] at hk;subst hk;exact ⟨p.gen,p.dp⟩
def zOe(K:zSS)(d:Nat):Sp:=fun vs H Q _=> ∃(sA l u a c:Addr) (ns:List Int) (a0 a1 dp:Int) (U N:List Str) (Cs:List (Str×Nat)),vs= [.ref sA,.ref l,.int dp,.ref u,.ref a,.ref c] /\Pre K H sA l u a c ns a0 a1 dp U N Cs d/\
 ∀v H' e,Post H H' l v e a0 a1 dp U N Cs->Q v H'
theorem zAg:FnScope ["_law_script","_law_at","_law_deep","_law_units","_law_names_here","_law_calls","_law_number_here","_law_way","_law_more","_law_less","_law_one","_law_word","_law_start","_law_name","_law_body","_law_count","_law_nodes"] ["_law_script","_law_at","_law_deep","_law_units","_law_names_here","_law_calls"] (zM zIQ):=fs
theorem zFI{H:Hp}{ys:List V}{es:List Ex}{n:Nat}(p:XtL H ys es)(h:es.length=n+1): ∃x y es' ys',es=x::es'/\ys=y::ys'/\Xt H x y/\XtL H ys' es'/\es'.length=n:=by
 cases p with
 | nil=>cases h
 | cons a b=>exact ⟨_,_,_,_,rfl,rfl,a,b,Nat.succ.inj h⟩
theorem xl1{H:Hp}{ys:List V}{es:List Ex}(p:XtL H ys es)(h:es.length=1): ∃x1 y1,es= [x1] /\ys= [y1] /\Xt H x1 y1:=by
 obtain ⟨x,y,es',ys',rfl,rfl,a,b,c⟩:=zFI p h;cases b with
 | nil=>exact ⟨x,y,rfl,rfl,a⟩
 | cons _ _=>cases c
theorem xl2{H:Hp}{ys:List V}{es:List Ex}(p:XtL H ys es)(h:es.length=2): ∃x1 x2 y1 y2,es= [x1,x2] /\ys= [y1,y2] /\Xt H x1 y1/\Xt H x2 y2:=by
 obtain ⟨x,y,es',ys',rfl,rfl,a,b,c⟩:=zFI p h;obtain ⟨x1,y1,rfl,rfl,t1⟩:=xl1 b c;exact ⟨_,_,_,_,rfl,rfl,a,t1⟩
theorem xl3{H:Hp}{ys:List V}{es:List Ex}(p:XtL H ys es)(h:es.length=3): ∃x1 x2 x3 y1 y2 y3,es= [x1,x2,x3] /\ys= [y1,y2,y3] /\Xt H x1 y1/\Xt H x2 y2/\Xt H x3 y3:=by
 obtain ⟨x,y,es',ys',rfl,rfl,a,b,c⟩:=zFI p h;obtain ⟨x1,x2,y1,y2,rfl,rfl,t1⟩:=xl2 b c;exact ⟨_,_,_,_,_,_,rfl,rfl,a,t1⟩
theorem xl4{H:Hp}{ys:List V}{es:List Ex}(p:XtL H ys es)(h:es.length=4): ∃x1 x2 x3 x4 y1 y2 y3 y4,es= [x1,x2,x3,x4] /\ys= [y1,y2,y3,y4] /\Xt H x1 y1/\Xt H x2 y2/\Xt H x3 y3/\Xt H x4 y4:=by
 obtain ⟨x,y,es',ys',rfl,rfl,a,b,c⟩:=zFI p h;obtain ⟨x1,x2,x3,y1,y2,y3,rfl,rfl,t1⟩:=xl3 b c;exact ⟨_,_,_,_,_,_,_,_,rfl,rfl,a,t1⟩
theorem zPG{f fNu fL:Addr}{fd fdNu fdL:FuncData}(FX:Fun K "_law_expression" "_law_expression" zIQ f fd)(B:Bn mg)
  (FNu:Fun K "_law_number" "_law_number" zFe fNu fdNu) (bNu:zL K fdNu ["_law_script","_law_k"] []) (mNu:mg "_law_number" =some (.ref fNu)) (GNu:FnOk P w K mg base CX0 2 fNu fdNu ["_law_script","_law_k"] (zHw K))
  (FL:Fun K "_law_leaf" "_law_leaf" zDr fL fdL) (bL:zL K fdL ["_law_number_here","_law_units","_law_names_here"] []) (mL:mg "_law_leaf" =some (.ref fL)) (GL:FnOk P w K mg base CX0 3 fL fdL ["_law_number_here","_law_units","_law_names_here"] zJx)
  (bX:zL K fd ["_law_script","_law_at","_law_deep","_law_units","_law_names_here","_law_calls"] []) (mX:mg "_law_expression" =some (.ref f)):
  ∀d,FnOk P w K mg base CX0 (4+d) f fd ["_law_script","_law_at","_law_deep","_law_units","_law_names_here","_law_calls"] (zOe K d):=by
 intro d
 induction d with
 | zero=>
  refine FX.ok zAg (fun vs H Q E h=>?_) (fun cdv A outer s H vs Q E hr h=>?_)
  ·obtain ⟨sA,l,u,a,c,ns,a0,a1,dp,U,N,Cs,rfl,_⟩:=h;rfl
  ·obtain ⟨sA,l,u,a,c,ns,a0,a1,dp,U,N,Cs,rfl,pr,_⟩:=h;have:=pr.d1;have:=pr.dd;omega
 | succ d GX=>
  refine FX.ok zAg (fun vs H Q E h=>?_) (fun cdv A outer s H vs Q E hrX h=>?_)
  ·obtain ⟨sA,l,u,a,c,ns,a0,a1,dp,U,N,Cs,rfl,_⟩:=h;rfl
  ·obtain ⟨sA,l,u,a,c,ns,a0,a1,dp,U,N,Cs,rfl,pr,q⟩:=h;have hrX:Room (4+d) _:=hrX;have hr3:Room 3 _:=hrX.mono (by omega);have hr2:Room 2 _:=hrX.mono (by omega);have huN:=Nat.lt_of_succ_lt (zBK hrX);refine ⟨_,QB.out (zF
   (zNj (qx 1 rfl) zC (yx (zg (K:=K) rfl (qx 1 rfl) zC (fun _ _=>rfl)) zC) rfl) (zF
   (zd 6 zAg.nd rfl (zP GNu hr2 rfl mNu FNu.kp bNu .nil zH (qc (qx 0 rfl) (qc (zg (K:=K) rfl (qx 1 rfl) zC (fun _ _=>rfl)) zA rfl) rfl) rfl rfl rfl) rfl) (zF
   (zd 7 zAg.nd rfl (zw (qw 6 rfl) zC) rfl) (zF
   (zd 8 zAg.nd rfl (yA (qw 6 rfl) zC) rfl) (zF
   (zf (t_w (zAF (zU zDG (qw 2 rfl) zC rfl) (zAF (zU zBt (zCY (zg (K:=K) rfl (qx 1 rfl) zC (fun _ _=>rfl)) (zg (K:=K) rfl (qx 1 rfl) zC (fun _ _=>rfl))) zC rfl) (yz (zU zDG (qw 7 rfl) zC rfl))))) (zK
    (zR (zP GL hr3 rfl mL FL.kp bL .nil zH (qc (qw 8 rfl) (qc (qx 3 rfl) (qc (qx 4 rfl) zA rfl) rfl) rfl) rfl rfl rfl))) zZ) (zF
   (zBs 9 zAg.nd rfl (Or.inr rfl) (zCY (qw 2 rfl) zC) rfl (.inl rfl)) (zF
   (zf (zU zh (qw 7 rfl) zC rfl) (zK
    (zR (zJ (qc zG (qc (zP GX hrX rfl mX FX.kp bX .nil zH (qc (qx 0 rfl) (qc (qx 1 rfl) (qc (qx 9 rfl) (qc (qx 3 rfl) (qc (qx 4 rfl) (qc (qx 5 rfl) zA rfl) rfl) rfl) rfl) rfl) rfl) rfl rfl rfl) zA rfl) rfl)))) zZ) (zF
   (zf (zU zDG (qw 7 rfl) zC rfl) (zF
    (zd 10 zAg.nd rfl (zP GX hrX rfl mX FX.kp bX .nil zH (qc (qx 0 rfl) (qc (qx 1 rfl) (qc (qx 9 rfl) (qc (qx 3 rfl) (qc (qx 4 rfl) (qc (qx 5 rfl) zA rfl) rfl) rfl) rfl) rfl) rfl) rfl rfl rfl) rfl) (zF
    (zd 11 zAg.nd rfl (zg (K:=K) rfl (zW (qc zG (qc zG (qc zG (qc zG zA rfl) rfl) rfl) rfl)) (zw (qw 8 rfl) zC) (fun _ _=>rfl)) rfl) (zK
    (zR (zJ (qc (qw 11 rfl) (qc (qw 10 rfl) (qc (zP GX hrX rfl mX FX.kp bX .nil zH (qc (qx 0 rfl) (qc (qx 1 rfl) (qc (qx 9 rfl) (qc (qx 3 rfl) (qc (qx 4 rfl) (qc (qx 5 rfl) zA rfl) rfl) rfl) rfl) rfl) rfl) rfl rfl rfl) zA rfl) rfl) rfl)))))) zZ) (zF
   (zf (zU zh (qw 7 rfl) zC rfl) (zK
    (zR (zJ (qc zG (qc (zP GX hrX rfl mX FX.kp bX .nil zH (qc (qx 0 rfl) (qc (qx 1 rfl) (qc (qx 9 rfl) (qc (qx 3 rfl) (qc (qx 4 rfl) (qc (qx 5 rfl) zA rfl) rfl) rfl) rfl) rfl) rfl) rfl rfl rfl) (qc (zCY (zw (qw 8 rfl) zC) zC) zA rfl) rfl) rfl)))) zZ) (zF
   (zf (zU zh (qw 7 rfl) zC rfl) (zK
    (zR (zAW (zBR (K:=K) rfl) (zJ (qc zG zA rfl)) (zBw (zAK (K:=K) rfl) rfl B.tuple yT (qc (yu ["_law_k"] ["_law_script","_law_at","_law_units","_law_names_here","_law_calls","_law_less"] [0,1,3,4,5,9] rfl (zBd rfl B.range (qc zC zA rfl) rfl) rfl (by decide+kernel) rfl (by decide+kernel) (yC rfl (yC rfl (yC rfl (yC rfl (yC rfl (yC rfl lk0)))))) rfl (fr6 ⟨rfl,rfl,rfl,_,rfl,rfl⟩ ⟨rfl,rfl,rfl,_,rfl,rfl⟩ ⟨rfl,rfl,rfl,_,rfl,rfl⟩ ⟨rfl,rfl,rfl,_,rfl,rfl⟩ ⟨rfl,rfl,rfl,_,rfl,rfl⟩ ⟨rfl,rfl,rfl,_,rfl,rfl⟩) (yJ rfl) (fun _ _ _ _=>(zq 0 (show (["_law_k","_law_script","_law_at","_law_units","_law_names_here","_law_calls","_law_less"] :List Str).Nodup by decide+kernel) rfl (.inl rfl) (.inr rfl))) (fun _ _ _ _=>yy) (fun _ _ _ _=>(zP GX hrX rfl mX FX.kp bX .nil zH (qc (qx 1 rfl) (qc (qx 2 rfl) (qc (qx 6 rfl) (qc (qx 3 rfl) (qc (qx 4 rfl) (qc (qx 5 rfl) zA rfl) rfl) rfl) rfl) rfl) rfl) rfl rfl rfl)) (fun _=>rfl)) zA rfl) rfl)))) zZ) (zF
   (zf (zU zh (qw 7 rfl) zC rfl) (zF
    (zd 12 zAg.nd rfl (zP GX hrX rfl mX FX.kp bX .nil zH (qc (qx 0 rfl) (qc (qx 1 rfl) (qc (qx 9 rfl) (qc (qx 3 rfl) (qc (qx 4 rfl) (qc (qx 5 rfl) zA rfl) rfl) rfl) rfl) rfl) rfl) rfl rfl rfl) rfl) (zF
    (zd 13 zAg.nd rfl (zg (K:=K) rfl (yq (qx 4 rfl) (zW (qc zG zA rfl))) (zw (qw 8 rfl) (yx (zk (zu (K:=K) rfl) rfl B.len yM (qc (qx 4 rfl) zA rfl) rfl) zC)) (fun _ _=>rfl)) rfl) (zF
    (zd 14 zAg.nd rfl (zP GX hrX rfl mX FX.kp bX .nil zH (qc (qx 0 rfl) (qc (qx 1 rfl) (qc (qx 9 rfl) (qc (qx 3 rfl) (qc (yq (qx 4 rfl) (zW (qc (qw 13 rfl) zA rfl))) (qc (qx 5 rfl) zA rfl) rfl) rfl) rfl) rfl) rfl) rfl rfl rfl) rfl) (zK
    (zR (zJ (qc zG (qc (qw 13 rfl) (qc (qw 12 rfl) (qc (zw (yA (qw 8 rfl) zC) zC) (qc (qw 14 rfl) zA rfl) rfl) rfl) rfl) rfl))))))) zZ) (zF
   (zf (zU (zCM huN) (qx 5 rfl) (zW zA) rfl) (zK
    (zR (zP GL hr3 rfl mL FL.kp bL .nil zH (qc (qw 8 rfl) (qc (qx 3 rfl) (qc (qx 4 rfl) zA rfl) rfl) rfl) rfl rfl rfl))) zZ) (zF
   (zPT (zg (K:=K) rfl (qx 5 rfl) (zw (qw 8 rfl) (zk (zu (K:=K) rfl) rfl B.len yM (qc (qx 5 rfl) zA rfl) rfl)) (fun _ _=>rfl)) (zDo (K:=K) rfl rfl (zAX (zq 13 zAg.nd rfl (Or.inl rfl) (.inr rfl)) (zAX (zq 15 zAg.nd rfl (Or.inl rfl) (.inr rfl)) zEA rfl) rfl) rfl rfl) rfl rfl rfl) (zF
   (zCC zBj 16 (by exact zAg.nd) rfl (Or.inl rfl) (.inr rfl) ["_law_k"] ["_law_script","_law_at","_law_units","_law_names_here","_law_calls","_law_less"] [0,1,3,4,5,9] rfl (zBd rfl B.range (qc (qw 15 rfl) zA rfl) rfl) rfl (by decide+kernel) rfl (by decide+kernel) (yC rfl (yC rfl (yC rfl (yC rfl (yC rfl (yC rfl lk0)))))) rfl (fr6 ⟨rfl,rfl,rfl,_,rfl,rfl⟩ ⟨rfl,rfl,rfl,_,rfl,rfl⟩ ⟨rfl,rfl,rfl,_,rfl,rfl⟩ ⟨rfl,rfl,rfl,_,rfl,rfl⟩ ⟨rfl,rfl,rfl,_,rfl,rfl⟩ ⟨rfl,rfl,rfl,_,rfl,rfl⟩) (yJ rfl) (fun _ _ _ _=>(zq 0 (show (["_law_k","_law_script","_law_at","_law_units","_law_names_here","_law_calls","_law_less"] :List Str).Nodup by decide+kernel) rfl (.inl rfl) (.inr rfl))) (fun _ _ _ _=>yy) (fun C s₂ H₂ fp xe E hp=>(zP GX hrX rfl mX FX.kp bX .nil zH (qc (qx 1 rfl) (qc (qx 2 rfl) (qc (qx 6 rfl) (qc (qx 3 rfl) (qc (qx 4 rfl) (qc (qx 5 rfl) zA rfl) rfl) rfl) rfl) rfl) rfl) rfl rfl rfl)) (fun _=>rfl) rfl) (zK
   (zR (zJ (qc zG (qc (qw 13 rfl) (qc (zBw (zAK (K:=K) rfl) rfl B.tuple yT (qc (qw 16 rfl) zA rfl) rfl) zA rfl) rfl) rfl)))))))))))))))))),?_⟩
   refine hd fun Z hz=>?_;refine ⟨_,rfl,l,_,_,_,rfl,rfl,SqL.of pr.at_,rfl,_,_,rfl,rfl,_,rfl,l,_,0,0,rfl,rfl,pr.at_,rfl,hz _ _ (hd fun Z hz=>?_)⟩;obtain ⟨H1,g1,b1,e1⟩: ∃H1,L2.upd H l (.lst (List.set [V.int a0,.int a1] 0 (.int (a0+1))))=H1/\But [l] H H1/\H1 l=some (.lst [.int (a0+1),.int a1]):=⟨_,rfl,But.upd,zD⟩;rw [g1];have hp1:=pr.p1;have hle:=pr.le;have hr1':=pr.r1;have hr2':=pr.r2;have hd1:=pr.d1;have hdd:=pr.dd;have hln:=pr.ln;refine ⟨_,rfl,_,rfl,l,_,_,_,rfl,rfl,SqL.of e1,rfl,sA,ns,a0+1,rfl,(pr.sc.but b1).sq,pr.nl,by omega,by omega,fun r H2 s2 r0 r1=>hz _ _ (hd fun Z hz=>?_)⟩;refine ⟨_,rfl,_,_,rfl,rfl,by decide,hz _ _ (hd fun Z hz=>?_)⟩;refine ⟨_,rfl,_,_,rfl,rfl,⟨by decide,by decide⟩,hz _ _ (hd fun Z hz=>?_)⟩;have e2:=s2 _ _ e1;have b2:But [l] H H2:=b1.trans (zB.but s2 _);have ev2:=pr.ev.but b2 pr.at_;have sc2:=pr.sc.but b2;have m0:0<=r/13:=Int.ediv_nonneg r0 (by decide);have leafF: ∀H3 v e,zB H2 H3->Xt H3 e v->Lf U N e->Q v H3:=fun H3 v e s3 hx hl=>q v H3 e ⟨b2.trans (zB.but s3 _),⟨_,s3 _ _ e2,by cases hl<;>rfl⟩,hx,.leaf hl,by cases hl<;>(simp only [zO];omega),.inl (by cases hl<;>rfl)⟩;have w0:=zRt r (show (13:Int)≠0 by decide);have w1:=zRo r (show (0:Int)<13 by decide);refine ⟨_,rfl,_,_,rfl,rfl,_,rfl,yE (fun c1=>zN ⟨_,rfl,_,rfl,_,rfl,r/13,u,a,U,N,rfl,m0,ev2.u,ev2.nd,ev2.n,fun H3 v e s3 hx hl=>leafF H3 v e s3 hx hl⟩) (fun c1=>?_)⟩;refine ⟨_,rfl,l,_,_,_,rfl,rfl,SqL.of e2,rfl,_,rfl,l,_,_,_,rfl,rfl,SqL.of e2,rfl,_,_,rfl,rfl,_,_,rfl,rfl,_,rfl,yE (fun c2=>zN ⟨_,rfl,_,rfl,_,rfl,r/13,u,a,U,N,rfl,m0,ev2.u,ev2.nd,ev2.n,fun H3 v e s3 hx hl=>leafF H3 v e s3 hx hl⟩) (fun c2=>?_)⟩;refine ⟨_,rfl,_,_,rfl,rfl,_,rfl,yE (fun c3=>⟨_,rfl,_,rfl,_,rfl,r/13,u,a,U,N,rfl,m0,ev2.u,ev2.nd,ev2.n,fun H3 v e s3 hx hl=>leafF H3 v e s3 hx hl⟩) (fun c3=>hz _ _ (hd fun Z hz=>?_))⟩;have d2:2<=dp:=by
    have: ¬dp<2:=by simpa using c1
    omega
   have a8:a0+1 - a1<=8:=by
    have: ¬(a0+1 - a1>8):=by simpa using c2
    omega
   refine ⟨_,rfl,_,_,rfl,rfl,hz _ _ (hd fun Z hz=>?_)⟩;have kid: ∀(H3:Hp) (x:Int) (a':Addr) (N':List Str),But [l] H H3->H3 l=some (.lst [.int x,.int a1])->a0+1<=x->x+1<=1000->x+1+4*(8 -(x - a1))<=1000->EnvAt H3 u a' c U N' Cs->N'.length<=N.length+1->Pre K H3 sA l u a' c ns x a1 (dp - 1) U N' Cs d:=
    fun H3 x a' N' b3 e3 h1 h2 h3 ev ln=>⟨pr.sc.but b3,pr.nl,e3,hp1,by omega,h2,h3,by omega,by omega,ev,by omega⟩
   have evB: ∀H3,But [l] H H3->EnvAt H3 u a c U N Cs:=fun H3 b3=>pr.ev.but b3 pr.at_;refine ⟨_,rfl,rfl,_,rfl,yE (fun c4=>?_) (fun c4=>hz _ _ (hd fun Z hz=>?_))⟩
   ·refine ⟨_,rfl,_,rfl,_,rfl,_,rfl,_,rfl,_,rfl,sA,l,u,a,c,ns,a0+1,a1,dp - 1,U,N,Cs,rfl,kid H2 (a0+1) a N b2 e2 (by omega) (by omega) (by omega) ev2 (by omega),fun v H3 e po=>nwf fun t H4 ht s4 e4=>?_⟩;obtain ⟨x,ex,hx⟩:=po.at_;refine q _ H4 (.neg e) ⟨(b2.trans po.but).trans (zB.but s4 _),⟨x,s4 _ _ ex,by simp only [zI];omega⟩,⟨t,v,rfl,e4,po.xt.same s4⟩,.neg po.gen,?_,?_⟩
    ·have:=po.dp;simp only [zO];omega
    ·have:=po.inn;simp only [zv];omega
   refine ⟨_,rfl,_,_,rfl,rfl,_,rfl,yE (fun c5=>hd fun Z hz=>?_) (fun c5=>hz _ _ (hd fun Z hz=>?_))⟩
   ·refine ⟨_,rfl,_,rfl,_,rfl,_,rfl,_,rfl,_,rfl,sA,l,u,a,c,ns,a0+1,a1,dp - 1,U,N,Cs,rfl,kid H2 (a0+1) a N b2 e2 (by omega) (by omega) (by omega) ev2 (by omega),fun v H3 e po=>hz _ _ (hd fun Z hz=>?_)⟩;obtain ⟨x,ex,hx⟩:=po.at_;have b3:=b2.trans po.but;refine nw fun wl H4 s4 e4=>?_;obtain ⟨wv,ewv,wd,rfl,hw⟩:=zAJ (n:=r/13) (p:=fun v=> ∃wd,v= .str wd/\zAn wd) (xs:= [.str "plus",.str "minus",.str "times",.str "over"]) (m:=4) (fun v hv=>by
     simp only [zST,zSc,or_false] at hv;rcases hv with rfl | rfl | rfl | rfl
     ·exact ⟨_,rfl,.inl rfl⟩
     ·exact ⟨_,rfl,.inr (.inl rfl)⟩
     ·exact ⟨_,rfl,.inr (.inr (.inl rfl))⟩
     ·exact ⟨_,rfl,.inr (.inr (.inr rfl))⟩) rfl (by decide)
    refine ⟨_,rfl,_,_,rfl,rfl,by decide,wl,_,_,_,rfl,rfl,SqL.of e4,ewv,hz _ _ ?_⟩;have b4:=b3.trans (zB.but s4 [l]);have in1:=po.inn;have il:=zDl e;have ni:=zBD e;have dp1:=po.dp;refine ⟨_,rfl,_,rfl,_,rfl,_,rfl,_,rfl,_,rfl,_,rfl,_,rfl,sA,l,u,a,c,ns,x,a1,dp - 1,U,N,Cs,rfl,kid H4 x a N b4 (s4 _ _ ex) (by omega) (by omega) (by omega) (evB H4 b4) (by omega),fun v2 H5 e2 po2=>nwf fun t H6 ht s6 e6=>?_⟩;obtain ⟨x2,ex2,hx2⟩:=po2.at_;have xt4:Xt H6 e v:=((po.xt.same s4).sameT (zr.of_but po2.but (s4 _ _ ex))).same s6;have dp2:=po2.dp;have in2:=po2.inn;refine q _ H6 (.bin wd e e2) ⟨(b4.trans po2.but).trans (zB.but s6 _),⟨x2,s6 _ _ ex2,by simp only [zI];omega⟩,⟨t,v,v2,rfl,e6,xt4,po2.xt.same s6⟩,.bin hw po.gen po2.gen,?_,?_⟩
    ·simp only [zO];omega
    ·simp only [zv];omega
   refine ⟨_,rfl,rfl,_,rfl,yE (fun c6=>?_) (fun c6=>hz _ _ (hd fun Z hz=>?_))⟩
   ·refine ⟨_,rfl,_,rfl,_,rfl,_,rfl,_,rfl,_,rfl,sA,l,u,a,c,ns,a0+1,a1,dp - 1,U,N,Cs,rfl,kid H2 (a0+1) a N b2 e2 (by omega) (by omega) (by omega) ev2 (by omega),fun v H3 e po=>⟨_,rfl,_,_,rfl,rfl,by decide,_,_,rfl,rfl,nwf fun t H4 ht s4 e4=>?_⟩⟩;obtain ⟨x,ex,hx⟩:=po.at_;refine q _ H4 (.pow e (r/13 % 11 - 5)) ⟨(b2.trans po.but).trans (zB.but s4 _),⟨x,s4 _ _ ex,by simp only [zI];omega⟩,⟨t,v,rfl,e4,po.xt.same s4⟩,.pow po.gen (by omega) (by omega),?_,?_⟩
    ·have:=po.dp;simp only [zO];omega
    ·have:=po.inn;simp only [zv];omega
   refine ⟨_,rfl,rfl,_,rfl,yE (fun c7=>?_) (fun c7=>hz _ _ (hd fun Z hz=>?_))⟩
   ·refine nw fun p1 H3 s3 e3=>?_;refine ⟨4,rfl,by decide,by decide,fun D hD=>?_⟩;have b3:=b2.trans (zB.but s3 [l]);have el3:=s3 _ _ e2;have hDl:l≠D:=fun z=>by rw [<-z,el3] at hD;cases hD
    refine zi 4 (fun i ys H'=> ∃es x,es.length=i/\i<=4/\Kids H3 H' l ys es x a0 a1 dp U N Cs/\H' D=some (.lst ys)) ⟨[],a0+1,rfl,zRr _,⟨.nil,zB.but (zB.upd hD) _,by rw [zQ hDl];exact el3,by simp,.inl rfl,by simp,by simp,fun e he=>by simp at he⟩,zD⟩ (by rw [zRn];omega) ?_ ?_ ?_
    ·rintro i ys H' hi ⟨es,x,hl,_,kd,eD⟩;have:=Paired.len kd.xt;exact ⟨by omega,eD,fun h=>h,fun h=>Nat.le_of_eq h.symm⟩
    ·rintro i ys H' y H'' hi ⟨es,x,hl,_,kd,eD⟩ ⟨rfl,rfl⟩ pre hpre;obtain ⟨p0,rfl⟩:=yd hpre;refine ⟨⟨[some (.int (0+(i:Int)))],rfl,rfl⟩,zN ?_⟩;have k1:=kd.inn;have k2:=kd.nsum;have k3:=kd.isum;have k4:=kd.sum;refine ⟨_,rfl,_,rfl,_,rfl,_,rfl,_,rfl,_,rfl,sA,l,u,a,c,ns,x,a1,dp - 1,U,N,Cs,rfl,kid _ x a N (b3.trans kd.but) kd.at_ (by omega) (by omega) (by omega) (evB _ (b3.trans kd.but)) (by omega),fun v H5 e po=>?_⟩;have eD5:=po.but D _ eD (by simpa using Ne.symm hDl);obtain ⟨y,kd'⟩:=Kids.snoc kd po hD hDl eD5;exact ⟨eD5,es++ [e],y,by simp [hl],hi,kd',zD⟩
    ·rintro ys H' ⟨es,x,hl,_,kd,eD⟩;obtain ⟨x1,x2,x3,x4,y1,y2,y3,y4,rfl,rfl,t1,t2,t3,t4⟩:=xl4 kd.xt hl;refine ⟨D,_,rfl,.inl ⟨SqL.of eD,fun p2 hp2=>?_⟩⟩;obtain ⟨H5,g5,s5,e5⟩:=zAp hp2 (.tup [y1,y2,y3,y4]);rw [g5];have e35:=s5 _ _ (kd.but _ _ e3 (by simpa using fun z:p1=l=>by rw [z,el3] at e3;cases e3));refine ⟨p1,p2,_,_,rfl,rfl,SqT.of e35,SqT.of e5,bs 5,fun z=>(by cases z),fun _ z=>(by cases z),fun _ _ t ht=>?_⟩;obtain ⟨H6,g6,s6,e6⟩:=zAp ht (.tup ([.str "if"] ++ [y1,y2,y3,y4]));rw [g6];have s56:=s5.trans s6;have k1:=kd.inn;have k4:=kd.sum;simp only [zSX,List.map_nil,List.sum_cons,List.sum_nil] at k1 k4;have d1:=(kd.all x1 (by simp)).2;have d2:=(kd.all x2 (by simp)).2;have d3:=(kd.all x3 (by simp)).2;have d4:=(kd.all x4 (by simp)).2;refine q _ H6 (.ite x1 x2 x3 x4) ⟨(b3.trans kd.but).trans (zB.but s56 _),⟨x,s56 _ _ kd.at_,by simp only [zI];omega⟩,⟨t,y1,y2,y3,y4,rfl,e6,t1.same s56,t2.same s56,t3.same s56,t4.same s56⟩,.ite (kd.all x1 (by simp)).1 (kd.all x2 (by simp)).1 (kd.all x3 (by simp)).1 (kd.all x4 (by simp)).1,?_,?_⟩
     ·simp only [zO];omega
     ·simp only [zv];omega
   refine ⟨_,rfl,rfl,_,rfl,yE (fun c8=>hd fun Z hz=>?_) (fun c8=>hz _ _ (hd fun Z hz=>?_))⟩
   ·refine ⟨_,rfl,_,rfl,_,rfl,_,rfl,_,rfl,_,rfl,sA,l,u,a,c,ns,a0+1,a1,dp - 1,U,N,Cs,rfl,kid H2 (a0+1) a N b2 e2 (by omega) (by omega) (by omega) ev2 (by omega),fun v H3 e po=>hz _ _ (hd fun Z hz=>?_)⟩;obtain ⟨x,ex,hx⟩:=po.at_;have b3:=b2.trans po.but;have in1:=po.inn;have il:=zDl e;have ni:=zBD e;have dp1:=po.dp;have ev3:=evB H3 b3;have nle:=ev3.n.le;refine ⟨_,rfl,nw fun ll H4 s4 e4=>?_⟩;refine cls (s4 _ _ ev3.n.at_) e4 (by rw [zRn];simp;omega) fun cl H5 s5 e5=>?_;have s35:=s4.trans s5;obtain ⟨nv,env,nm,rfl,hnm⟩:=zAJ (n:=r/13) (p:=fun v=> ∃nm,v= .str nm/\(nm∈N\/nm= "last")) (xs:=N.map V.str++ [.str "last"]) (m:=((N.map V.str).length:Int)+1) (fun v hv=>by
     rcases zSW.mp hv with h | h
     ·obtain ⟨y,hy,rfl⟩:=zSZ.mp h;exact ⟨y,rfl,.inl hy⟩
     ·simp at h;exact ⟨_,h,.inr rfl⟩) (by simp) (by omega)
    refine ⟨_,rfl,_,rfl,a,_,rfl,.inl (SqL.of (s35 _ _ ev3.n.at_)),_,_,rfl,rfl,_,_,rfl,rfl,by omega,cl,_,_,_,rfl,rfl,SqL.of e5,env,hz _ _ (hd fun Z hz=>?_)⟩;refine ⟨_,rfl,_,rfl,_,rfl,_,rfl,_,rfl,_,rfl,nw fun l2 H6 s6 e6=>?_⟩;have s36:=s35.trans s6;refine cls (s36 _ _ ev3.n.at_) e6 (by rw [zRn];simp;omega) fun a2 H7 s7 e7=>?_;have s37:=s36.trans s7;have b7:=b3.trans (zB.but s37 [l]);have ev7:=ev3.same s37;have hnn:Nm nm:=by
     rcases hnm with h | h
     ·exact ev3.n.nm _ h
     ·rw [h];show ya (.str "last")=true;decide+kernel
    have ev8:EnvAt H7 u a2 c U (N++ [nm]) Cs:=⟨ev7.u,ev7.nd,⟨by rw [zRx];exact e7,by simp;omega,fun n hn=>by
     rcases zSW.mp hn with h | h
     ·exact ev3.n.nm _ h
     ·rw [zSY] at h;rw [h];exact hnn⟩,ev7.c,ev7.cl,ev7.c3⟩
    refine ⟨_,rfl,sA,l,u,a2,c,ns,x,a1,dp - 1,U,N++ [nm],Cs,rfl,kid H7 x a2 (N++ [nm]) b7 (s37 _ _ ex) (by omega) (by omega) (by omega) ev8 (by simp),fun v2 H8 e2 po2=>hz _ _ ?_⟩;obtain ⟨x2,ex2,hx2⟩:=po2.at_;have dp2:=po2.dp;have in2:=po2.inn;refine ⟨_,rfl,_,rfl,_,rfl,_,_,rfl,rfl,⟨by decide,by decide⟩,_,_,rfl,rfl,by decide,_,rfl,nwf fun t H9 ht s9 e9=>?_⟩;have xt4:Xt H9 e v:=((po.xt.same s37).sameT (zr.of_but po2.but (s37 _ _ ex))).same s9;refine q _ H9 (.loop nm e (r/13/9 % 13) e2) ⟨(b7.trans po2.but).trans (zB.but s9 _),⟨x2,s9 _ _ ex2,by simp only [zI];omega⟩,⟨t,v,v2,rfl,e9,xt4,po2.xt.same s9⟩,.loop hnm po.gen (by omega) (by omega) po2.gen,?_,?_⟩
    ·simp only [zO];omega
    ·simp only [zv];omega
   refine ⟨_,rfl,nw fun nl H3 s3 e3=>?_⟩;have b3:=b2.trans (zB.but s3 [l]);have ev3:=evB H3 b3;obtain ⟨ts,ec,pc⟩:=ev3.c;have lc:=Paired.len pc;refine ⟨c,nl,_,rfl,rfl,SqL.of ec,SqL.of e3,_,rfl,yE (fun c9=>⟨_,rfl,_,rfl,_,rfl,r/13,u,a,U,N,rfl,m0,ev3.u,ev3.nd,ev3.n,fun H4 v e s4 hx hl=>leafF H4 v e (s3.trans s4) hx hl⟩) (fun c9=>hz _ _ (hd fun Z hz=>?_))⟩;have tne:ts≠ [] :=fun z=>by rw [z] at c9;simp at c9
   have tl:0<ts.length:=List.length_pos_iff.mpr tne;obtain ⟨tv,etv,ct,rfl,p,hp,ect⟩:=zAJ (n:=r/13) (p:=fun v=> ∃t:Addr,v= .ref t/\ ∃p∈Cs,H3 t=some (.tup [.str p.1,.int (p.2:Int)])) (xs:=ts.map V.ref) (m:=((ts.map V.ref).length:Int)) (fun v hv=>by
    obtain ⟨t,ht,rfl⟩:=zSZ.mp hv;obtain ⟨i,hi,e⟩:=List.getElem_of_mem ht;obtain ⟨p,ep,h⟩:=Paired.get' pc (zSd.mpr ⟨hi,e⟩);exact ⟨t,rfl,p,zSE ep,h⟩) rfl (by simp;omega)
   obtain ⟨nm,kn⟩:=p;have ect:H3 ct=some (.tup [.str nm,.int (kn:Int)]):=ect;obtain ⟨kn1,kn3⟩:=ev3.c3 _ hp;have kn1:1<=kn:=kn1;have kn3:kn<=3:=kn3;refine ⟨_,rfl,_,rfl,_,rfl,c,_,rfl,.inl (SqL.of ec),_,_,rfl,rfl,by simp;omega,c,_,_,_,rfl,rfl,SqL.of ec,etv,ct,_,rfl,SqT.of ect,rfl,_,_,rfl,_,_,rfl,rfl,hz _ _ (hd fun Z hz=>?_)⟩;refine ⟨_,rfl,(kn:Int),rfl,by omega,by omega,fun D hD=>?_⟩;have el3:=s3 _ _ e2;have hDl:l≠D:=fun z=>by rw [<-z,el3] at hD;cases hD
   refine zi kn (fun i ys H'=> ∃es x,es.length=i/\i<=kn/\Kids H3 H' l ys es x a0 a1 dp U N Cs/\H' D=some (.lst ys)) ⟨[],a0+1,rfl,zRr _,⟨.nil,zB.but (zB.upd hD) _,by rw [zQ hDl];exact el3,by simp,.inl rfl,by simp,by simp,fun e he=>by simp at he⟩,zD⟩ (by rw [zRn];omega) ?_ ?_ ?_
   ·rintro i ys H' hi ⟨es,x,hl,_,kd,eD⟩;have:=Paired.len kd.xt;exact ⟨by omega,eD,fun h=>h,fun h=>Nat.le_of_eq h.symm⟩
   ·rintro i ys H' y H'' hi ⟨es,x,hl,_,kd,eD⟩ ⟨rfl,rfl⟩ pre hpre;obtain ⟨p0,rfl⟩:=yd hpre;refine ⟨⟨[some (.int (0+(i:Int)))],rfl,rfl⟩,zN ?_⟩;have k1:=kd.inn;have k2:=kd.nsum;have k3:=kd.isum;have k4:=kd.sum;refine ⟨_,rfl,_,rfl,_,rfl,_,rfl,_,rfl,_,rfl,sA,l,u,a,c,ns,x,a1,dp - 1,U,N,Cs,rfl,kid _ x a N (b3.trans kd.but) kd.at_ (by omega) (by omega) (by omega) (evB _ (b3.trans kd.but)) (by omega),fun v H5 e po=>?_⟩;have eD5:=po.but D _ eD (by simpa using Ne.symm hDl);obtain ⟨y,kd'⟩:=Kids.snoc kd po hD hDl eD5;exact ⟨eD5,es++ [e],y,by simp [hl],hi,kd',zD⟩
   ·rintro ys H' ⟨es,x,hl,_,kd,eD⟩;refine hz _ _ ?_;refine ⟨_,rfl,_,rfl,D,_,rfl,.inl ⟨SqL.of eD,fun p2 hp2=>?_⟩⟩;obtain ⟨H5,g5,s5,e5⟩:=zAp hp2 (.tup ys);rw [g5];refine nw fun t H6 s6 e6=>?_;have s56:=s5.trans s6;have e56:=s6 _ _ e5;have k1:=kd.inn;have k4:=kd.sum;have b6:=(b3.trans kd.but).trans (zB.but s56 [l]);have at6:=s56 _ _ kd.at_;have hk:kn=1\/kn=2\/kn=3:=by omega
    rcases hk with rfl | rfl | rfl
    ·obtain ⟨x1,y1,rfl,rfl,t1⟩:=xl1 kd.xt hl;simp only [zSX,List.map_nil,List.sum_cons,List.sum_nil] at k1 k4;have d1:=(kd.all x1 (by simp)).2;refine q _ H6 (.call1 nm x1) ⟨b6,⟨x,at6,by simp only [zI];omega⟩,⟨t,p2,y1,rfl,e6,e56,t1.same s56⟩,.call1 hp (kd.all x1 (by simp)).1,?_,?_⟩
     ·simp only [zO];omega
     ·simp only [zv];omega
    ·obtain ⟨x1,x2,y1,y2,rfl,rfl,t1,t2⟩:=xl2 kd.xt hl;simp only [zSX,List.map_nil,List.sum_cons,List.sum_nil] at k1 k4;have d1:=(kd.all x1 (by simp)).2;have d2:=(kd.all x2 (by simp)).2;refine q _ H6 (.call2 nm x1 x2) ⟨b6,⟨x,at6,by simp only [zI];omega⟩,⟨t,p2,y1,y2,rfl,e6,e56,t1.same s56,t2.same s56⟩,.call2 hp (kd.all x1 (by simp)).1 (kd.all x2 (by simp)).1,?_,?_⟩
     ·simp only [zO];omega
     ·simp only [zv];omega
    ·obtain ⟨x1,x2,x3,y1,y2,y3,rfl,rfl,t1,t2,t3⟩:=xl3 kd.xt hl;simp only [zSX,List.map_nil,List.sum_cons,List.sum_nil] at k1 k4;have d1:=(kd.all x1 (by simp)).2;have d2:=(kd.all x2 (by simp)).2;have d3:=(kd.all x3 (by simp)).2;refine q _ H6 (.call3 nm x1 x2 x3) ⟨b6,⟨x,at6,by simp only [zI];omega⟩,⟨t,p2,y1,y2,y3,rfl,e6,e56,t1.same s56,t2.same s56,t3.same s56⟩,.call3 hp (kd.all x1 (by simp)).1 (kd.all x2 (by simp)).1 (kd.all x3 (by simp)).1,?_,?_⟩
     ·simp only [zO];omega
     ·simp only [zv];omega
def Lt(c:Nat):Prop:=97<=c/\c<=122
theorem zJE(c:Nat):zAa ⟨#[c]⟩=true↔Lt c:=by
 unfold zAa Lt;have e1:("a" :Str).cps.toList= [97] :=by decide+kernel
 have e9:("z" :Str).cps.toList= [122] :=by decide+kernel
 rw [e1,e9];simp only [zSU,zSe,decide_eq_false_iff_not];constructor
 ·rintro ⟨h1,h2⟩;constructor
  ·rcases Nat.lt_or_ge c 97 with z | z
   ·exact absurd (List.Lex.rel z: [c] < [97]) h1
   ·exact z
  ·rcases Nat.lt_or_ge 122 c with z | z
   ·exact absurd (List.Lex.rel z: [122] < [c]) h2
   ·exact z
 ·rintro ⟨h1,h2⟩;constructor
  ·intro z;rcases List.cons_lt_cons_iff.mp z with y |⟨_,y⟩
   ·omega
   ·exact List.not_lt_nil _ y
  ·intro z;rcases List.cons_lt_cons_iff.mp z with y |⟨_,y⟩
   ·omega
   ·exact List.not_lt_nil _ y
theorem zDU: ∀cs:List Nat,(Str.join Str.empty (cs.map fun c=>(⟨#[c]⟩:Str))).cps.toList=cs
 | [] =>rfl
 | [c] =>rfl
 | c::d::cs=>by
  have ih:=zDU (d::cs);show ((⟨#[c]⟩:Str)++Str.empty++Str.join Str.empty ((d::cs).map fun c=>(⟨#[c]⟩:Str))).cps.toList=_;rw [Str.cps_append,Str.cps_append,Array.toList_append,Array.toList_append,ih];rfl
theorem zCV(cs:List Nat):(Txt.join "" (cs.map fun c=>(⟨#[c]⟩:Str))).cps.toList=cs:=by
 have e0:("" :Str)=Str.empty:=by decide+kernel
 have e:Txt.join "" (cs.map fun c=>(⟨#[c]⟩:Str))=Str.join Str.empty (cs.map fun c=>(⟨#[c]⟩:Str)):=by rw [e0];exact StrLaws.glued_eq_join _ _
 rw [e];exact zDU cs
theorem zDd: ∀i:Fin 26,("abcdefghijklmnopqrstuvwxyz" :Str).cps.toList[(i:Nat)]?=some (97+(i:Nat)):=by decide+kernel
theorem zBQ(x:Str):x.length=x.cps.toList.length:=Array.length_toList.symm
theorem fr4{Pp:Str->Nat->Prop}{y0 y1 y2 y3:Str}{n0 n1 n2 n3:Nat}(h0:Pp y0 n0)(h1:Pp y1 n1)(h2:Pp y2 n2)(h3:Pp y3 n3): ∀(j:Nat) (y':Str) (i':Nat),[y0,y1,y2,y3][j]?=some y'-> [n0,n1,n2,n3][j]?=some i'->Pp y' i':=by
 intro j y' i' a b
 match j,a,b with
 | 0,a,b=>simp at a b;subst a b;exact h0
 | 1,a,b=>simp at a b;subst a b;exact h1
 | 2,a,b=>simp at a b;subst a b;exact h2
 | 3,a,b=>simp at a b;subst a b;exact h3
 | j+4,a,b=>simp at a
def so(cs:List Nat):Str:=⟨cs.toArray⟩
theorem zEP(cs:List Nat):(so cs).cps.toList=cs:=by simp [so]
theorem zBZ(cs:List Nat):(so cs).length=cs.length:=by rw [zBQ,zEP]
theorem zGF{a b:List Nat}(h:so a=so b):a=b:=by rw [<-zEP a,h,zEP]
theorem zKZ{x:Str}{cs:List Nat}(h:x.cps.toList=cs):x=so cs:=by
 cases x with
 | mk a=>simp at h;subst h;simp [so]
theorem zJL(x:Str)(ws:List Str):inV (.str x) (ws.map V.str)=decide (x∈ws):=by
 unfold inV;rw [zSb,List.any_eq_true,decide_eq_true_eq];constructor
 ·rintro ⟨y,hy,h⟩;obtain ⟨z,hz,rfl⟩:=zSZ.mp hy;have e:z=x:=by simpa [eqV] using h
  rw [<-e];exact hz
 ·intro h;exact ⟨.str x,List.mem_map_of_mem h,by simp [eqV]⟩
theorem zKx{cs:List Nat}(h1:1<=cs.length)(h8:cs.length<=8)(hl: ∀c∈cs,Lt c)(hw:so cs∉zDF):Nm (so cs):=by
 unfold Nm ya;simp only [zSU,decide_eq_true_eq,List.all_eq_true,zSe];refine ⟨⟨⟨by rw [zBZ];exact h1,by rw [zBZ];exact h8⟩,fun c hc=>(zJE c).mpr (hl c (by rw [zEP] at hc;exact hc))⟩,?_⟩;rw [zJL,zSA hw]
theorem zCo{f:Nat->Str}{n:Nat}(h: ∀i j,i<j->j<n->f i≠f j):((List.range n).map f).Nodup:=by
 rw [List.Nodup,List.pairwise_map];exact (List.pairwise_lt_range (n:=n)).imp_of_mem fun {a b} _ hb hab=>h a b hab (List.mem_range.mp hb)
def zAO:List Str:= ["unit","take","let","fun","show","if","then","else","loop","for","do","last","none","nonea","noneb","nothing","more"]
theorem zJM: ∀x∈zDF,x∈zAO:=by decide+kernel
theorem zIe: ∀x∈zDF,2<=x.length:=by decide+kernel
def zCl(xs:List Nat)(lo hi:Option Int):List Nat:=(xs.drop (HT.sIx xs.length 0 lo)).take (HT.sIx xs.length xs.length hi - HT.sIx xs.length 0 lo)
theorem zLT(a b:Str):(a++b).length=a.length+b.length:=by
 rw [zBQ,zBQ,zBQ,Str.cps_append,Array.toList_append,zSC]
theorem zQT:("last" :Str).length=4:=by decide+kernel
structure Eight(N:List Str):Prop where
 len:N.length=8
 nd:N.Nodup
 nm: ∀x∈N,Nm x
 la: ∀x∈N,x≠ "last"
 two: ∀x∈N,∀y∈N,x.length=2->y.length=2->x=y
theorem zOC:Eight ["a","b","c","d","e","g","h","i"] :=
 ⟨rfl,by decide+kernel,(by decide+kernel: ∀x∈(["a","b","c","d","e","g","h","i"] :List Str),ya (.str x)=true),by decide+kernel,by decide+kernel⟩
def zNO:Sp:=fun vs H Q _=> ∃n:Int,vs= [.int n] /\0<=n/\ ∀l N H',zB H H'->H l=none->H' l=some (.lst (N.map V.str))->Eight N->Q (.ref l) H'
theorem zBu:FnScope ["_law_number_here","_law_letters","_law_word","_law_found","_law_at","_law_ahead","_law_behind","_law_words"] ["_law_number_here"] (zM zEQ):=fs
theorem zQR{f fM:Addr}{fd fdM:FuncData}(F:Fun K "_law_names" "_law_names" zEQ f fd)(B:Bn mg)
  (FM:Fun K "_law_mixed" "_law_mixed" zEc fM fdM) (bM:zL K fdM ["_law_number_here","_law_k"] []) (mM:mg "_law_mixed" =some (.ref fM)) (GM:FnOk P w K mg base CX0 1 fM fdM ["_law_number_here","_law_k"] zFR):
  FnOk P w K mg base CX0 2 f fd ["_law_number_here"] zNO:=by
 refine F.ok zBu (fun vs H Q E h=>?_) (fun _ A _ s H vs Q E hr1 h=>?_)
 ·obtain ⟨n,rfl,_⟩:=h;rfl
 ·obtain ⟨n,rfl,n0,q⟩:=h;have hr1:Room 1 _:=hr1;have huN:=Nat.lt_of_succ_lt (zBK hr1);refine ⟨_,QB.out (zF
   (zBs 1 zBu.nd rfl (Or.inr rfl) zG rfl (.inl rfl)) (zF
   (zf (zU zh (zw (qx 0 rfl) zC) zC rfl) (zK
    (zR (yu ["_law_k"] ["_law_number_here","_law_letters"] [0,1] rfl (zBd rfl B.range (qc zC zA rfl) rfl) rfl (by decide+kernel) rfl (by decide+kernel) (yC rfl (yC rfl lk0)) rfl (fr2 ⟨rfl,rfl,rfl,_,rfl,rfl⟩ ⟨rfl,rfl,rfl,_,rfl,rfl⟩) (yJ rfl) (fun _ _ _ _=>(zq 0 (show (["_law_k","_law_number_here","_law_letters"] :List Str).Nodup by decide+kernel) rfl (.inl rfl) (.inr rfl))) (fun _ _ _ _=>yy) (fun _ _ _ _=>(zHb (qx 2 rfl) (zw (yx (yA (qx 1 rfl) zC) (zHU zC (qw 0 rfl))) zC) (fun _ _=>rfl))) (fun _=>rfl)))) zZ) (zF
   (zBs 2 zBu.nd rfl (Or.inr rfl) (yu ["_law_j"] ["_law_number_here","_law_letters"] [0,1] rfl (zBd rfl B.range (qc zC zA rfl) rfl) rfl (by decide+kernel) rfl (by decide+kernel) (yC rfl (yC rfl lk0)) rfl (fr2 ⟨rfl,rfl,rfl,_,rfl,rfl⟩ ⟨rfl,rfl,rfl,_,rfl,rfl⟩) (yJ rfl) (fun _ _ _ _=>(zq 0 (show (["_law_j","_law_number_here","_law_letters"] :List Str).Nodup by decide+kernel) rfl (.inl rfl) (.inr rfl))) (fun _ _ _ _=>yy) (fun _ _ _ _=>(zHb (qx 2 rfl) (zw (zP GM hr1 rfl mM FM.kp bM .nil zH (qc (qx 1 rfl) (qc (qw 0 rfl) zA rfl) rfl) rfl rfl rfl) zC) (fun _ _=>rfl))) (fun _=>rfl)) rfl (.inl rfl)) (zF
   (zf (zU zh (zw (qx 0 rfl) zC) zC rfl) (zK
    (zCC zBj 3 (by exact zBu.nd) rfl (Or.inl rfl) (.inr rfl) ["_law_k"] ["_law_word"] [2] rfl (zBd rfl B.range (qc zC zA rfl) rfl) rfl (by decide+kernel) rfl (by decide+kernel) (yC rfl lk0) rfl (fr1 ⟨rfl,rfl,rfl,_,rfl,rfl⟩) (yJ rfl) (fun _ _ _ _=>(zq 0 (show (["_law_k","_law_word"] :List Str).Nodup by decide+kernel) rfl (.inl rfl) (.inr rfl))) (fun _ _ _ _=>yy) (fun C s₂ H₂ fp xe E hp=>(zGN (K:=K) rfl zG (zCZ (K:=K) rfl (qx 1 rfl) zAH (yp (yx (qw 0 rfl) zC))) rfl rfl rfl)) (fun _=>rfl) rfl)) (zF
    (zd 4 zBu.nd rfl (zw (yA (qx 0 rfl) zC) zC) rfl) (zF
    (zBs 5 zBu.nd rfl (Or.inr rfl) (zGN (K:=K) rfl zG (zCZ (K:=K) rfl (qx 2 rfl) zAH (yp (qw 4 rfl))) rfl rfl rfl) rfl (.inl rfl)) (zF
    (zBs 6 zBu.nd rfl (Or.inr rfl) (zGN (K:=K) rfl zG (zCZ (K:=K) rfl (qx 2 rfl) (yp (yx (qw 4 rfl) zC)) zAH) rfl rfl rfl) rfl (.inl rfl)) (zK
    (zCC zBj 3 (by exact zBu.nd) rfl (Or.inl rfl) (.inr rfl) ["_law_k"] ["_law_number_here","_law_letters","_law_ahead","_law_behind"] [0,1,5,6] rfl (zBd rfl B.range (qc zC zA rfl) rfl) rfl (by decide+kernel) rfl (by decide+kernel) (yC rfl (yC rfl (yC rfl (yC rfl lk0)))) rfl (fr4 ⟨rfl,rfl,rfl,_,rfl,rfl⟩ ⟨rfl,rfl,rfl,_,rfl,rfl⟩ ⟨rfl,rfl,rfl,_,rfl,rfl⟩ ⟨rfl,rfl,rfl,_,rfl,rfl⟩) (yJ rfl) (fun _ _ _ _=>(zq 0 (show (["_law_k","_law_number_here","_law_letters","_law_ahead","_law_behind"] :List Str).Nodup by decide+kernel) rfl (.inl rfl) (.inr rfl))) (fun _ _ _ _=>yy) (fun C s₂ H₂ fp xe E hp=>(zAW zDu (zAW zDu (qx 3 rfl) (zHb (qx 2 rfl) (zw (yx (yA (qx 1 rfl) zC) (zHU zC (qw 0 rfl))) zC) (fun _ _=>rfl))) (qx 4 rfl))) (fun _=>rfl) rfl)))))) (zF
   (zBs 7 zBu.nd rfl (Or.inr rfl) (zW (qc zG (qc zG (qc zG (qc zG (qc zG (qc zG (qc zG (qc zG (qc zG (qc zG (qc zG (qc zG zA rfl) rfl) rfl) rfl) rfl) rfl) rfl) rfl) rfl) rfl) rfl) rfl)) rfl (.inl rfl)) (zF
   (zBs 7 zBu.nd rfl (Or.inr rfl) (yq (qx 7 rfl) (zW (qc zG (qc zG (qc zG (qc zG (qc zG zA rfl) rfl) rfl) rfl) rfl))) rfl (.inl rfl)) (zF
   (zf (zU (zDh huN) (yu ["_law_name"] ["_law_words"] [7] rfl (zAm (K:=K) rfl (qw 3 rfl)) rfl (by decide+kernel) rfl (by decide+kernel) (yC rfl lk0) rfl (fr1 ⟨rfl,rfl,rfl,_,rfl,rfl⟩) (yJ rfl) (fun _ _ _ _=>(zq 0 (show (["_law_name","_law_words"] :List Str).Nodup by decide+kernel) rfl (.inl rfl) (.inr rfl))) (fun _ _ _ _=>(zGZ (zU (zCm (K:=K) rfl) (qw 0 rfl) (qx 1 rfl) rfl))) (fun _ _ _ _=>(qw 0 rfl)) (fun _=>rfl)) (zW zA) rfl) (zK
    (zR (zW (qc zG (qc zG (qc zG (qc zG (qc zG (qc zG (qc zG (qc zG zA rfl) rfl) rfl) rfl) rfl) rfl) rfl) rfl)))) zZ) (zK
   (zR (qw 3 rfl)))))))))),?_⟩
  refine hd fun Z hz=>hz _ _ (hd fun Z hz=>?_);refine ⟨_,rfl,_,_,rfl,rfl,by decide,rfl,_,rfl,yE (fun c=>?_) (fun c=>hz _ _ (hd fun Z hz=>?_))⟩
  ·refine ⟨8,rfl,by decide,by decide,fun D hD=>?_⟩;refine zi 8 (fun i ys H'=>i<=8/\ys=((List.range i).map fun k:Nat=>so [97+((n/3+3*(k:Int))% 26).toNat]).map V.str/\H'=L2.upd H D (.lst ys)) ⟨zRr _,rfl,rfl⟩ (bs 8) ?_ ?_ ?_
   ·rintro i ys H' hi ⟨_,rfl,rfl⟩;exact ⟨by simp,zD,fun h=>h,fun h=>Nat.le_of_eq h.symm⟩
   ·rintro i ys H' x H'' hi ⟨_,rfl,rfl⟩ ⟨rfl,rfl⟩ pre hpre;obtain ⟨p0,rfl⟩:=yd hpre;refine ⟨⟨[some (.int (0+(i:Int)))],rfl,rfl⟩,zN ?_⟩;have m0:=zRt (n/3+3*(0+(i:Int))) (show (26:Int)≠0 by decide);have m1:=zRo (n/3+3*(0+(i:Int))) (show (0:Int)<26 by decide);have ev:atI ("abcdefghijklmnopqrstuvwxyz" :Str).cps.toList ((n/3+3*(0+(i:Int)))% 26)=some (97+((n/3+3*(i:Int))% 26).toNat):=by
     rw [Int.zero_add] at m0 m1⊢;obtain ⟨j,hj⟩: ∃j:Nat,(n/3+3*(i:Int))% 26=j:=⟨((n/3+3*(i:Int))% 26).toNat,by omega⟩;rw [hj];exact ym (zDd ⟨j,by omega⟩)
    refine ⟨_,rfl,_,rfl,_,_,rfl,rfl,⟨by decide,by decide⟩,_,rfl,_,_,rfl,rfl,.inl ⟨by decide,by decide⟩,_,_,rfl,rfl,_,_,rfl,rfl,by decide,_,_,_,rfl,rfl,by decide+kernel,ev,zD,hi,?_,by rw [zCu]⟩;rw [List.range_succ,zRx,zRx];rfl
   ·rintro ys H' ⟨_,rfl,rfl⟩;refine q D _ _ (zB.upd hD) hD zD ⟨by simp,zCo fun i j hij hj z=>?_,fun x hx=>?_,fun x hx=>?_,fun x hx=>?_⟩
    ·have:=zGF z;simp at this;omega
    ·obtain ⟨k,hk,rfl⟩:=zSZ.mp hx;have m0:=zRt (n/3+3*(k:Int)) (show (26:Int)≠0 by decide);have m1:=zRo (n/3+3*(k:Int)) (show (0:Int)<26 by decide);refine zKx (by simp) (by simp) (fun c hc=>?_) fun z=>?_
     ·simp at hc;subst hc;exact ⟨by omega,by omega⟩
     ·have:=zIe _ z;rw [zBZ] at this;simp at this
    ·obtain ⟨k,hk,rfl⟩:=zSZ.mp hx;intro z;have:=congrArg Str.length z;rw [zBZ,zQT] at this;simp at this
    ·intro y hy h2;obtain ⟨k,hk,rfl⟩:=zSZ.mp hx;rw [zBZ] at h2;simp at h2
  refine ⟨8,rfl,by decide,by decide,fun D hD=>?_⟩;refine zi 8 (fun i ys H'=> ∃cs:List Nat,i<=8/\cs.length=i/\(∀c∈cs,Lt c)/\ys=(cs.map fun c=>(⟨#[c]⟩:Str)).map V.str/\H'=L2.upd H D (.lst ys)) ⟨[],by decide,rfl,fun _ h=>(nomatch h),rfl,rfl⟩ (bs 8) ?_ ?_ ?_
  ·rintro i ys H' hi ⟨cs,_,hc,_,rfl,rfl⟩;exact ⟨by simp [hc],zD,fun h=>h,fun h=>Nat.le_of_eq h.symm⟩
  ·rintro i ys H' x H'' hi ⟨cs,_,hc,hl,rfl,rfl⟩ ⟨rfl,rfl⟩ pre hpre;obtain ⟨p0,rfl⟩:=yd hpre;refine ⟨⟨[some (.int (0+(i:Int)))],rfl,rfl⟩,zN ?_⟩;refine ⟨_,rfl,_,rfl,_,rfl,n,0+(i:Int),rfl,by omega,by omega,fun r r0 r1=>?_⟩;have m0:0<=r % 26:=zRt r (by decide);have m1:r % 26<26:=zRo r (by decide);obtain ⟨j,hj⟩: ∃j:Nat,r % 26=j:=⟨(r % 26).toNat,by omega⟩;have hj2:j<26:=by omega
   refine ⟨_,_,rfl,rfl,by decide,_,_,97+j,rfl,rfl,by decide+kernel,?_,zD,cs++ [97+j],hi,by simp [hc],?_,?_,?_⟩
   ·rw [hj];exact ym (zDd ⟨j,hj2⟩)
   ·intro c hc2;rcases zSW.mp hc2 with z | z
    ·exact hl c z
    ·rw [zSY.mp z];exact ⟨by omega,by omega⟩
   ·simp
   ·rw [zCu]
  ·rintro ys H' ⟨cs,_,hc,hl,rfl,rfl⟩;obtain ⟨H1,g1,s1,e1⟩:=zAp hD (.lst ((cs.map fun c=>(⟨#[c]⟩:Str)).map V.str));rw [g1];refine hz _ _ (hd fun Z hz=>?_);have fin: ∀(x y z:Option V) (l:Addr) (N:List Str) (H':Hp),zB H H'->H l=none->H' l=some (.lst (N.map V.str))->N.length=8->N.Nodup->(∀x∈N,∃cs,x=so cs/\1<=cs.length/\cs.length<=8/\ ∀c∈cs,Lt c)->(∀x∈N,∀y∈N,x.length=2->y.length=2->x=y)->
     Z [some (.int n),some (.str "abcdefghijklmnopqrstuvwxyz"),some (.ref D),some (.ref l),x,y,z,none] H':=fun x y z l N H' s' nl el N8 nd hN tw=>hz _ _ (hd fun Z hz=>by
    refine nw fun w1 H3 s3 e3=>?_;refine hz _ _ (hd fun Z hz=>?_);refine ⟨_,rfl,nw fun w2 H4 s4 e4=>?_⟩;refine cl (s4 _ _ e3) e4 fun w3 H5 s5 e5=>?_;have e5:H5 w3=some (.lst (zAO.map V.str)):=e5;have s35:=s3.trans (s4.trans s5);refine hz _ _ (hd fun Z hz=>?_);refine ⟨_,rfl,l,rfl,⟨_,SqL.of (s35 _ _ el)⟩,fun D2 hD2=>?_⟩;refine zi N.length (fun i ys H'=>i<=N.length/\ys=((N.take i).filter fun x=>decide (x∈zAO)).map V.str/\zB H5 H'/\H' D2=some (.lst ys)) ⟨zRr _,rfl,zB.upd hD2,zD⟩ (by rw [N8];exact bs 8) ?_ ?_ ?_
    ·rintro i ys H6 hi ⟨_,rfl,s6,e6⟩;refine ⟨?_,e6,fun h=>⟨_,.str N[i],SqL.of (s6 _ _ (s35 _ _ el)),by simp [h]⟩,fun h=>⟨_,SqL.of (s6 _ _ (s35 _ _ el)),by simp [h]⟩⟩;rw [zRj];exact zRq (List.length_filter_le ..) (by simp;omega)
    ·rintro i ys H6 y H7 hi ⟨_,rfl,s6,e6⟩ ⟨rfl,hy⟩ pre hpre;obtain ⟨p0,rfl⟩:=yd hpre;have hy':=hy _ (SqL.of (s6 _ _ (s35 _ _ el)));rw [zRh,zRc hi] at hy';cases hy';have tk:N.take (i+1)=N.take i++ [N[i]] :=by rw [zRy,zRc hi];rfl
     refine ⟨⟨[some (.str N[i])],rfl,rfl⟩,_,rfl,_,rfl,w3,_,rfl,.inl (SqL.of (s6 _ _ e5)),rfl,by decide+kernel,_,rfl,?_⟩;show if (inV (.str N[i]) (zAO.map V.str))=true then _ else _;rw [zJL];refine yE (fun cc=>?_) (fun cc=>?_)
     ·refine ⟨_,rfl,e6,hi,?_,zB.store s6 hD2,zD⟩;rw [tk,List.filter_append,zRx];simp only [List.filter_cons,cc,List.filter_nil,if_true];rfl
     ·refine ⟨hi,?_,s6,e6⟩;rw [tk,List.filter_append,zRx];simp only [List.filter_cons,cc,List.filter_nil];simp
    ·rintro ys H6 ⟨_,rfl,s6,e6⟩;rw [List.take_of_length_le (zRg _)] at e6;refine nw fun em H7 s7 e7=>?_;have s07:=s'.trans (s35.trans (s6.trans s7));refine ⟨D2,em,_,rfl,rfl,SqL.of (s7 _ _ e6),SqL.of e7,_,rfl,yE (fun cc=>?_) (fun cc=>hz _ _ ?_)⟩
     ·refine ⟨bs 8,fun r8 hr8=>?_⟩;exact q r8 ["a","b","c","d","e","g","h","i"] _ (s07.trans (zB.upd hr8)) (zB.none s07 hr8) zD zOC
     ·have emp:N.filter (fun x=>decide (x∈zAO))= [] :=by
       have:((N.filter fun x=>decide (x∈zAO)).map V.str).isEmpty=true:=by simpa using cc
       simpa using this
      have no: ∀x∈N,x∉zAO:=fun x hx hw=>by
       have:x∈N.filter (fun x=>decide (x∈zAO)):=List.mem_filter.mpr ⟨hx,by simpa using hw⟩;rw [emp] at this;cases this
      refine ⟨_,rfl,q l N H7 s07 nl (s7 _ _ (s6 _ _ (s35 _ _ el))) ⟨N8,nd,fun x hx=>?_,fun x hx z=>no x hx (by rw [z];decide+kernel),tw⟩⟩;obtain ⟨cs,rfl,h1,h8,hl⟩:=hN x hx;exact zKx h1 h8 hl fun z=>no _ hx (zJM _ z))
   have cv: ∀(lo hi:Option Int),zAV ((cs.map fun c=>(⟨#[c]⟩:Str)).map V.str) lo hi=((zCl cs lo hi).map fun c=>(⟨#[c]⟩:Str)).map V.str:=fun lo hi=>by
    unfold zAV zCl;simp only [zRj,List.map_drop,List.map_take]
   have jn: ∀ds:List Nat,ds.length<=8->((ds.map fun c=>(⟨#[c]⟩:Str)).map (·.length)).sum+(ds.map fun c=>(⟨#[c]⟩:Str)).length*("" :Str).length<=16777216:=fun ds h=>by
    have z:=StrLaws.sumLen_le (B:=1) (ds.map fun c=>(⟨#[c]⟩:Str)) (fun y hy=>by obtain ⟨c,_,rfl⟩:=zSZ.mp hy;exact zRg 1);rw [zRj] at z⊢;have e0:("" :Str).length=0:=by decide+kernel
    rw [e0];omega
   refine ⟨_,rfl,_,_,rfl,rfl,by decide,rfl,_,rfl,yE (fun c3=>?_) (fun c3=>hd fun Z2 hz2=>?_)⟩
   ·refine ⟨8,rfl,by decide,by decide,fun D2 hD2=>?_⟩;have nD2:=zB.none s1 hD2;refine zi 8 (fun i ys H'=>i<=8/\ys=((List.range i).map fun k:Nat=>so (cs.take (k+1))).map V.str/\zB H1 H'/\H' D2=some (.lst ys)) ⟨zRr _,rfl,zB.upd hD2,zD⟩ (bs 8) ?_ ?_ ?_
    ·rintro i ys H' hi ⟨_,rfl,s2,e2⟩;exact ⟨by simp,e2,fun h=>h,fun h=>Nat.le_of_eq h.symm⟩
    ·rintro i ys H' x H'' hi ⟨_,rfl,s2,e2⟩ ⟨rfl,rfl⟩ pre hpre;obtain ⟨p0,rfl⟩:=yd hpre;refine ⟨⟨[some (.int (0+(i:Int)))],rfl,rfl⟩,zN ?_⟩;refine ⟨rfl,_,rfl,_,rfl,_,_,rfl,rfl,_,rfl,D,_,rfl,SqL.of (s2 _ _ e1),fun p hp=>?_⟩;have hcut:zCl cs none (some (0+(i:Int)+1))=cs.take (i+1):=by
      unfold zCl;rw [show (0+(i:Int)+1)=((i+1:Nat):Int) by omega,HT.sIx_nat,HT.sIx_none,hc,List.drop_zero];congr 1;omega
     obtain ⟨H3,g3,s3,e3⟩:=zAp hp (.lst (zAV ((cs.map fun c=>(⟨#[c]⟩:Str)).map V.str) none (some (0+(i:Int)+1))));rw [g3];rw [cv,hcut] at e3;refine ⟨_,p,_,rfl,rfl,SqL.of e3,jn _ (by rw [List.length_take];omega),s3 _ _ e2,hi,?_,zB.store (s2.trans s3) hD2,zD⟩;rw [List.range_succ,zRx,zRx,zKZ (zCV (cs.take (i+1)))];rfl
    ·rintro ys H' ⟨_,rfl,s2,e2⟩;refine fin _ _ _ D2 _ H' (s1.trans s2) nD2 e2 (by simp) (zCo fun i j hij hj z=>?_) (fun x hx=>?_) fun x hx y hy hx2 hy2=>?_
     ·have:=congrArg List.length (zGF z);rw [List.length_take,List.length_take,hc] at this;omega
     ·obtain ⟨k,hk,rfl⟩:=zSZ.mp hx;have hk':=List.mem_range.mp hk;exact ⟨_,rfl,by rw [List.length_take,hc];omega,by rw [List.length_take,hc];omega,fun c h=>hl c (List.mem_of_mem_take h)⟩
     ·obtain ⟨k,hk,rfl⟩:=zSZ.mp hx;obtain ⟨k',hk',rfl⟩:=zSZ.mp hy;have h1:=List.mem_range.mp hk;have h2:=List.mem_range.mp hk';rw [zBZ,List.length_take,hc] at hx2 hy2;have:k=k':=by omega
      rw [this]
   ·have a0:0<=n/3 % 8:=zRt _ (by decide);have a1:n/3 % 8<8:=zRo _ (by decide);obtain ⟨at',hat⟩: ∃k:Nat,n/3 % 8=(k:Int):=⟨(n/3 % 8).toNat,by omega⟩;have at8:at'<8:=by omega
    refine ⟨_,rfl,_,_,rfl,rfl,⟨by decide,by decide⟩,_,_,rfl,rfl,by decide,hz2 _ _ (hd fun Z3 hz3=>?_)⟩;rw [hat];refine ⟨rfl,_,rfl,_,rfl,_,rfl,sll e1 fun p H3 s3 e3=>?_⟩;have hcut:zCl cs none (some (at':Int))=cs.take at':=by
     unfold zCl;rw [HT.sIx_nat,HT.sIx_none,hc,List.drop_zero];congr 1;omega
    rw [cv,hcut] at e3;refine ⟨_,p,_,rfl,rfl,SqL.of e3,jn _ (by rw [List.length_take];omega),hz3 _ _ (hd fun Z4 hz4=>?_)⟩;refine ⟨rfl,_,rfl,_,rfl,_,_,rfl,rfl,_,rfl,sll (s3 _ _ e1) fun p2 H4 s4 e4=>?_⟩;have hcut2:zCl cs (some ((at':Int)+1)) none=cs.drop (at'+1):=by
     unfold zCl;rw [show ((at':Int)+1)=((at'+1:Nat):Int) by omega,HT.sIx_nat,HT.sIx_none,hc,show min (at'+1) 8=at'+1 by omega];exact List.take_of_length_le (by rw [List.length_drop,hc];exact zRg _)
    rw [cv,hcut2] at e4;refine ⟨_,p2,_,rfl,rfl,SqL.of e4,jn _ (by rw [List.length_drop,hc];omega),hz4 _ _ ?_⟩;have hA:=zCV (cs.take at');have hB:=zCV (cs.drop (at'+1));generalize Txt.join "" ((cs.take at').map fun c=>(⟨#[c]⟩:Str))=SA at hA⊢;generalize Txt.join "" ((cs.drop (at'+1)).map fun c=>(⟨#[c]⟩:Str))=SB at hB⊢;refine ⟨8,rfl,by decide,by decide,fun D2 hD2=>?_⟩;have s14:=s3.trans s4;have nD2:=zB.none (s1.trans s14) hD2;refine zi 8 (fun i ys H'=>i<=8/\ys=((List.range i).map fun k:Nat=>so (cs.take at'++([97+((n/24+3*(k:Int))% 26).toNat] ++cs.drop (at'+1)))).map V.str/\zB H4 H'/\H' D2=some (.lst ys)) ⟨zRr _,rfl,zB.upd hD2,zD⟩ (bs 8) ?_ ?_ ?_
    ·rintro i ys H' hi ⟨_,rfl,s2,e2⟩;exact ⟨by simp,e2,fun h=>h,fun h=>Nat.le_of_eq h.symm⟩
    ·rintro i ys H' x H'' hi ⟨_,rfl,s2,e2⟩ ⟨rfl,rfl⟩ pre hpre;obtain ⟨p0,rfl⟩:=yd hpre;refine ⟨⟨[some (.int (0+(i:Int)))],rfl,rfl⟩,zN ?_⟩;have m0:=zRt (n/24+3*(0+(i:Int))) (show (26:Int)≠0 by decide);have m1:=zRo (n/24+3*(0+(i:Int))) (show (0:Int)<26 by decide);have ev:atI ("abcdefghijklmnopqrstuvwxyz" :Str).cps.toList ((n/24+3*(0+(i:Int)))% 26)=some (97+((n/24+3*(i:Int))% 26).toNat):=by
      rw [Int.zero_add] at m0 m1⊢;obtain ⟨j,hj⟩: ∃j:Nat,(n/24+3*(i:Int))% 26=j:=⟨((n/24+3*(i:Int))% 26).toNat,by omega⟩;rw [hj];exact ym (zDd ⟨j,by omega⟩)
     have lA:SA.length=at':=by rw [zBQ,hA,List.length_take,hc];omega
     have lB:SB.length=8 -(at'+1):=by rw [zBQ,hB,List.length_drop,hc]
     have l1:(⟨#[97+((n/24+3*(i:Int))% 26).toNat]⟩:Str).length=1:=rfl;refine ⟨_,rfl,_,rfl,_,rfl,_,_,rfl,rfl,⟨by decide,by decide⟩,_,rfl,_,_,rfl,rfl,.inl ⟨by decide,by decide⟩,_,_,rfl,rfl,_,_,rfl,rfl,by decide,_,_,_,rfl,rfl,by decide+kernel,ev,_,_,rfl,rfl,by rw [lA,l1,zRn];omega,_,rfl,_,_,rfl,rfl,by rw [zLT,lA,l1,lB,zRn];omega,e2,hi,?_,zB.store s2 hD2,zD⟩;rw [List.range_succ,zRx,zRx];congr 1;rw [List.map_singleton,List.map_singleton];congr 2;apply zKZ;rw [Str.cps_append,Str.cps_append,Array.toList_append,Array.toList_append,hA,hB,List.append_assoc]
    ·rintro ys H' ⟨_,rfl,s2,e2⟩;refine fin _ _ _ D2 _ H' ((s1.trans s14).trans s2) nD2 e2 (by simp) (zCo fun i j hij hj z=>?_) (fun x hx=>?_) fun x hx y hy hx2 hy2=>?_
     ·have:=zGF z;have:=List.append_cancel_left this;simp at this;omega
     ·obtain ⟨k,hk,rfl⟩:=zSZ.mp hx;have m0:=zRt (n/24+3*(k:Int)) (show (26:Int)≠0 by decide);have m1:=zRo (n/24+3*(k:Int)) (show (0:Int)<26 by decide);refine ⟨_,rfl,by simp;omega,by simp [hc];omega,fun c h=>?_⟩;simp only [zSW,zSY] at h;rcases h with h | h | h
      ·exact hl c (List.mem_of_mem_take h)
      ·subst h;exact ⟨by omega,by omega⟩
      ·exact hl c (List.mem_of_mem_drop h)
     ·obtain ⟨k,hk,rfl⟩:=zSZ.mp hx;rw [zBZ] at hx2;simp [hc] at hx2;omega
def zGL:Sp:=fun vs H Q _=> ∃(x:V) (e:Ex),vs= [x] /\Xt H e x/\Ok e/\ ∀l xs H',zB H H'->H l=none->H' l=some (.lst xs)->XtL H' xs (zX e)->Q (.ref l) H'
theorem zRD:FnScope ["_law_told"] ["_law_told"] (zM zBJ):=fs
theorem Xt.tup{H:Hp}{e:Ex}{v:V}(h:Xt H e v): ∃t xs,v= .ref t/\H t=some (.tup xs):=by
 cases e with
 | num=>obtain ⟨t,p,y,e,h,_⟩:=h;exact ⟨t,_,e,h⟩
 | nam=>obtain ⟨t,e,h⟩:=h;exact ⟨t,_,e,h⟩
 | neg=>obtain ⟨t,x,e,h,_⟩:=h;exact ⟨t,_,e,h⟩
 | bin=>obtain ⟨t,x,y,e,h,_⟩:=h;exact ⟨t,_,e,h⟩
 | pow=>obtain ⟨t,x,e,h,_⟩:=h;exact ⟨t,_,e,h⟩
 | ite=>obtain ⟨t,x,y,z,u,e,h,_⟩:=h;exact ⟨t,_,e,h⟩
 | loop=>obtain ⟨t,x,y,e,h,_⟩:=h;exact ⟨t,_,e,h⟩
 | call1=>obtain ⟨t,q,x,e,h,_⟩:=h;exact ⟨t,_,e,h⟩
 | call2=>obtain ⟨t,q,x,y,e,h,_⟩:=h;exact ⟨t,_,e,h⟩
 | call3=>obtain ⟨t,q,x,y,z,e,h,_⟩:=h;exact ⟨t,_,e,h⟩
inductive Tups (H:Hp):List V->List V->Prop
 | nil:Tups H [] []
 | yes {t:Addr} {ys xs zs:List V} (h:H t=some (.tup ys)) (r:Tups H xs zs):Tups H (.ref t::xs) (.ref t::zs)
 | no {i:Int} {xs zs:List V} (r:Tups H xs zs):Tups H (.int i::xs) zs
theorem zQK{H:Hp}{a b:Ex}{x y:V}(h:Xt H a x)(k:Xt H b y):Tups H [x,y] [x,y] :=by
 obtain ⟨ta,_,rfl,ea⟩:=Xt.tup h;obtain ⟨tb,_,rfl,eb⟩:=Xt.tup k;exact .yes ea (.yes eb .nil)
theorem Tups.det{H:Hp}{xs zs us:List V}(h:Tups H xs zs)(k:Tups H xs us):zs=us:=by
 induction h generalizing us with
 | nil=>cases k;rfl
 | yes h r ih=>cases k with | yes _ k=>rw [ih k]
 | no r ih=>cases k with | no k=>exact ih k
theorem Tups.app{H:Hp}{xs zs xs' zs':List V}(h:Tups H xs zs)(k:Tups H xs' zs'):Tups H (xs++xs') (zs++zs'):=by
 induction h with
 | nil=>exact k
 | yes h r ih=>exact .yes h ih
 | no r ih=>exact .no ih
theorem Tups.at_{H:Hp}{xs zs:List V}(h:Tups H xs zs){i:Nat}{x:V}(e:xs[i]?=some x):(∃t ys,x= .ref t/\H t=some (.tup ys))\/ ∃j,x= .int j:=by
 induction h generalizing i with
 | nil=>simp at e
 | yes h r ih=>
  cases i with
  | zero=>simp at e;subst e;exact .inl ⟨_,_,rfl,h⟩
  | succ i=>exact ih (by simpa using e)
 | no r ih=>
  cases i with
  | zero=>simp at e;subst e;exact .inr ⟨_,rfl⟩
  | succ i=>exact ih (by simpa using e)
theorem zPV{f:Addr}{fd:FuncData}(F:Fun K "_law_kids" "_law_kids" zBJ f fd)(B:Bn mg):FnOk P w K mg base CX0 1 f fd ["_law_told"] zGL:=by
 refine F.ok zRD (fun vs H Q E h=>?_) (fun cdv A outer s H vs Q E hr h=>?_)
 ·obtain ⟨x,e,rfl,_⟩:=h;rfl
 ·obtain ⟨x,e,rfl,hx,ok,q⟩:=h;obtain ⟨t2,hq2,ht2⟩: ∃t2:TS,QB (zBy CX0 P w K mg base ["_law_told"] "_law_kids" (zM zBJ) f cdv A outer s H E).nox ((yN zBJ).drop 3) t2/\
    ∀(t:Addr) (wd:Str) (xs zs:List V) (H1:Hp),H1 t=some (.tup (.str wd::xs))->xs.length<=10->Tups H1 xs zs->(∀l H',zB H1 H'->H1 l=none->H' l=some (.lst zs)->Q (.ref l) H')->t2 {nx:=fun _ H'=>Q .non H',rt:=Q} [some (.ref t)] H1:=by
   refine ⟨_,(zK
   (zR (yu (cl:= []) ["_law_part"] [] [] rfl (zHl (K:=K) rfl (zCN (K:=K) rfl (qw 0 rfl) (yp zC) zAH)) rfl (by decide+kernel) rfl (by decide+kernel) (fun _ _ h=>nomatch h) rfl (fun j y i h=>nomatch h) (yJ rfl) (fun _ _ _ _=>(zq 0 (show (["_law_part"] :List Str).Nodup by decide+kernel) rfl (.inl rfl) (.inr rfl))) (fun _ _ _ _=>(zGZ (yW (zk (zn (K:=K) rfl) rfl B.isi zS (qc (qw 0 rfl) (qc (zAG (v:= .ty "tuple") rfl B.tuple yT rfl (by decide) rfl) zA rfl) rfl) rfl) (fun _=>rfl)))) (fun _ _ _ _=>(qw 0 rfl)) (fun _=>rfl)))),?_⟩
   intro t wd xs zs H1 et xl tp q;refine ⟨_,rfl,_,rfl,t,_,rfl,SqT.of et,fun z=>?_,fun p hp=>?_⟩
   ·have z:=z.1;rw [show (1:Int)=((1:Nat):Int) from rfl,HT.sIx_nat] at z;simp at z
   obtain ⟨H2,g2,s2,e2⟩:=zAp hp (.tup (zAV (.str wd::xs) (some 1) none));rw [g2];have ec:zAV (.str wd::xs) (some 1) none=xs:=by
    unfold zAV;simp [HT.sIx]
   rw [ec] at e2;refine ⟨p,rfl,⟨_,SqT.of e2⟩,fun D hD=>?_⟩;have nD:H1 D=none:=zB.none s2 hD;refine zi xs.length (fun i ys H'=>i<=xs.length/\ys.length<=i/\Tups H1 (xs.take i) ys/\zB H2 H'/\H' D=some (.lst ys)) ⟨zRr _,zRg _,by simpa using .nil,zB.upd hD,zD⟩ (by rw [zRn];omega) ?_ ?_ ?_
   ·rintro i ys H' hi ⟨_,yl,_,s3,eD⟩;exact ⟨yl,eD,fun h=>⟨_,_,SqT.of (s3 _ _ e2),zRc h⟩,fun h=>⟨_,SqT.of (s3 _ _ e2),by omega⟩⟩
   ·rintro i ys H' y H'' hi ⟨_,yl,tu,s3,eD⟩ ⟨rfl,hy⟩ pre hpre;obtain ⟨p0,rfl⟩:=yd hpre;have hy':=hy _ (SqT.of (s3 _ _ e2));rw [zRc hi] at hy';cases hy';have tk:xs.take (i+1)=xs.take i++ [xs[i]] :=by rw [zRy,zRc hi];rfl
    rcases tp.at_ (zRc hi) with ⟨ta,zs',e,et'⟩|⟨j,e⟩
    ·refine ⟨⟨[some xs[i]],rfl,rfl⟩,_,rfl,_,.ty "tuple",_,.type "tuple",_,rfl,rfl,?_,zy K,_,rfl,zN ?_⟩
     ·rw [e];exact .tup (s3 _ _ (s2 _ _ et'))
     ·refine ⟨_,rfl,eD,hi,by simp;omega,?_,zB.store s3 hD,zD⟩;rw [tk];exact tu.app (by rw [e];exact .yes et' .nil)
    ·refine ⟨⟨[some xs[i]],rfl,rfl⟩,_,rfl,_,.ty "tuple",_,.type "tuple",_,rfl,rfl,?_,zAY K,_,rfl,zE ?_⟩
     ·rw [e];exact .int j
     ·refine ⟨hi,by omega,?_,s3,eD⟩;rw [tk];have:=tu.app (.no (i:=j) .nil);rw [zSB] at this;rw [e];exact this
   ·rintro ys H' ⟨_,yl,tu,s3,eD⟩;rw [List.take_of_length_le (zRg _)] at tu;rw [tu.det tp] at eD;exact q D H' (s2.trans s3) nD eD
  refine ⟨_,QB.out (zF
   (zf (zU (zCm (K:=K) rfl) (zY (K:=K) rfl (qw 0 rfl) zC (fun _ _=>rfl)) (zJ (qc zG (qc zG zA rfl) rfl)) rfl) (zK
    (zR (zW zA))) zZ) (zF
   (zf (zU zh (zY (K:=K) rfl (qw 0 rfl) zC (fun _ _=>rfl)) zG rfl) (zK
    (zR (zBw (zBI (K:=K) rfl) rfl B.list zCE (qc (zY (K:=K) rfl (qw 0 rfl) zC (fun _ _=>rfl)) zA rfl) rfl))) zZ) (zF
   (zf (zU zh (zY (K:=K) rfl (qw 0 rfl) zC (fun _ _=>rfl)) zG rfl) (zK
    (zR (zW (qc (zY (K:=K) rfl (qw 0 rfl) zC (fun _ _=>rfl)) (qc (zY (K:=K) rfl (qw 0 rfl) zC (fun _ _=>rfl)) zA rfl) rfl)))) zZ) hq2))),?_⟩
  cases e with
  | num a b u=>
   obtain ⟨t,p1,y,rfl,h1,h2,h3⟩:=hx;exact ⟨_,rfl,t,_,_,_,rfl,rfl,SqT.of h1,rfl,bs 2,fun p hp=>⟨p,_,rfl,.inr (SqT.of zD),rfl,rfl,_,rfl,zN ⟨bs 0,fun l hl=>q l [] _ ((zB.upd hp).trans (zB.upd hl)) (zB.none (zB.upd hp) hl) zD .nil⟩⟩⟩
  | nam n=>
   obtain ⟨t,rfl,h1⟩:=hx;exact ⟨_,rfl,t,_,_,_,rfl,rfl,SqT.of h1,rfl,bs 2,fun p hp=>⟨p,_,rfl,.inr (SqT.of zD),rfl,rfl,_,rfl,zN ⟨bs 0,fun l hl=>q l [] _ ((zB.upd hp).trans (zB.upd hl)) (zB.none (zB.upd hp) hl) zD .nil⟩⟩⟩
  | call1 n e=>
   obtain ⟨t,q1,x,rfl,h1,h0,h2⟩:=hx;refine ⟨_,rfl,t,_,_,_,rfl,rfl,SqT.of h1,rfl,bs 2,fun p hp=>⟨p,_,rfl,.inr (SqT.of zD),rfl,rfl,_,rfl,zE ⟨_,rfl,t,_,_,_,rfl,rfl,SqT.of (zB.upd hp _ _ h1),rfl,rfl,_,rfl,zN ⟨_,rfl,t,_,_,_,rfl,rfl,SqT.of (zB.upd hp _ _ h1),rfl,q1,_,rfl,.inr (SqT.of (zB.upd hp _ _ h0)),fun l hl=>?_⟩⟩⟩⟩;have s2:=(zB.upd hp (o:= .tup [.str "number",.str "name"])).trans (zB.upd hl (o:= .lst [x]));exact q l [x] _ s2 (zB.none (zB.upd hp) hl) zD (.cons (h2.same s2) .nil)
  | call2 n e f=>
   obtain ⟨t,q1,x,y,rfl,h1,h0,h2,h3⟩:=hx;refine ⟨_,rfl,t,_,_,_,rfl,rfl,SqT.of h1,rfl,bs 2,fun p hp=>⟨p,_,rfl,.inr (SqT.of zD),rfl,rfl,_,rfl,zE ⟨_,rfl,t,_,_,_,rfl,rfl,SqT.of (zB.upd hp _ _ h1),rfl,rfl,_,rfl,zN ⟨_,rfl,t,_,_,_,rfl,rfl,SqT.of (zB.upd hp _ _ h1),rfl,q1,_,rfl,.inr (SqT.of (zB.upd hp _ _ h0)),fun l hl=>?_⟩⟩⟩⟩;have s2:=(zB.upd hp (o:= .tup [.str "number",.str "name"])).trans (zB.upd hl (o:= .lst [x,y]));exact q l [x,y] _ s2 (zB.none (zB.upd hp) hl) zD (.cons (h2.same s2) (.cons (h3.same s2) .nil))
  | call3 n e f g=>
   obtain ⟨t,q1,x,y,z,rfl,h1,h0,h2,h3,h4⟩:=hx;refine ⟨_,rfl,t,_,_,_,rfl,rfl,SqT.of h1,rfl,bs 2,fun p hp=>⟨p,_,rfl,.inr (SqT.of zD),rfl,rfl,_,rfl,zE ⟨_,rfl,t,_,_,_,rfl,rfl,SqT.of (zB.upd hp _ _ h1),rfl,rfl,_,rfl,zN ⟨_,rfl,t,_,_,_,rfl,rfl,SqT.of (zB.upd hp _ _ h1),rfl,q1,_,rfl,.inr (SqT.of (zB.upd hp _ _ h0)),fun l hl=>?_⟩⟩⟩⟩;have s2:=(zB.upd hp (o:= .tup [.str "number",.str "name"])).trans (zB.upd hl (o:= .lst [x,y,z]));exact q l [x,y,z] _ s2 (zB.none (zB.upd hp) hl) zD (.cons (h2.same s2) (.cons (h3.same s2) (.cons (h4.same s2) .nil)))
  | loop n e k f=>
   obtain ⟨t,x,y,rfl,h1,h2,h3⟩:=hx;refine ⟨_,rfl,t,_,_,_,rfl,rfl,SqT.of h1,rfl,bs 2,fun p hp=>⟨p,_,rfl,.inr (SqT.of zD),rfl,rfl,_,rfl,zE ⟨_,rfl,t,_,_,_,rfl,rfl,SqT.of (zB.upd hp _ _ h1),rfl,rfl,_,rfl,zE ⟨_,rfl,t,_,_,_,rfl,rfl,SqT.of (zB.upd hp _ _ h1),rfl,rfl,_,rfl,zN ⟨_,rfl,t,_,_,_,rfl,rfl,SqT.of (zB.upd hp _ _ h1),rfl,_,rfl,t,_,_,_,rfl,rfl,SqT.of (zB.upd hp _ _ h1),rfl,bs 2,fun l hl=>?_⟩⟩⟩⟩⟩;have s2:=(zB.upd hp (o:= .tup [.str "number",.str "name"])).trans (zB.upd hl (o:= .lst [x,y]));exact q l [x,y] _ s2 (zB.none (zB.upd hp) hl) zD (.cons (h2.same s2) (.cons (h3.same s2) .nil))
  | neg e=>
   obtain ⟨t,x,rfl,h1,h2⟩:=hx;refine ⟨_,rfl,t,_,_,_,rfl,rfl,SqT.of h1,rfl,bs 2,fun p hp=>⟨p,_,rfl,.inr (SqT.of zD),rfl,rfl,_,rfl,zE ⟨_,rfl,t,_,_,_,rfl,rfl,SqT.of (zB.upd hp _ _ h1),rfl,rfl,_,rfl,zE ⟨_,rfl,t,_,_,_,rfl,rfl,SqT.of (zB.upd hp _ _ h1),rfl,rfl,_,rfl,zE (ht2 t _ [x] [x] _ (zB.upd hp _ _ h1) (by simp) ?_ fun l H' s' nl el=>?_)⟩⟩⟩⟩
   ·obtain ⟨ta,ws,rfl,ea⟩:=Xt.tup h2;exact .yes (zB.upd hp _ _ ea) .nil
   ·have s2:=(zB.upd hp (o:= .tup [.str "number",.str "name"])).trans s';exact q l [x] H' s2 (zB.none (zB.upd hp) nl) el (.cons (h2.same s2) .nil)
  | pow e k=>
   obtain ⟨t,x,rfl,h1,h2⟩:=hx;refine ⟨_,rfl,t,_,_,_,rfl,rfl,SqT.of h1,rfl,bs 2,fun p hp=>⟨p,_,rfl,.inr (SqT.of zD),rfl,rfl,_,rfl,zE ⟨_,rfl,t,_,_,_,rfl,rfl,SqT.of (zB.upd hp _ _ h1),rfl,rfl,_,rfl,zE ⟨_,rfl,t,_,_,_,rfl,rfl,SqT.of (zB.upd hp _ _ h1),rfl,rfl,_,rfl,zE (ht2 t _ [x,.int k] [x] _ (zB.upd hp _ _ h1) (by simp) ?_ fun l H' s' nl el=>?_)⟩⟩⟩⟩
   ·obtain ⟨ta,ws,rfl,ea⟩:=Xt.tup h2;exact .yes (zB.upd hp _ _ ea) (.no .nil)
   ·have s2:=(zB.upd hp (o:= .tup [.str "number",.str "name"])).trans s';exact q l [x] H' s2 (zB.none (zB.upd hp) nl) el (.cons (h2.same s2) .nil)
  | bin wd e f=>
   obtain ⟨t,x,y,rfl,h1,h2,h3⟩:=hx;obtain ⟨hw,_⟩:=ok;rcases hw with rfl | rfl | rfl | rfl
   all_goals exact ⟨_,rfl,t,_,_,_,rfl,rfl,SqT.of h1,rfl,bs 2,fun p hp=>⟨p,_,rfl,.inr (SqT.of zD),rfl,rfl,_,rfl,zE ⟨_,rfl,t,_,_,_,rfl,rfl,SqT.of (zB.upd hp _ _ h1),rfl,rfl,_,rfl,zE ⟨_,rfl,t,_,_,_,rfl,rfl,SqT.of (zB.upd hp _ _ h1),rfl,rfl,_,rfl,zE (ht2 t _ [x,y] [x,y] _ (zB.upd hp _ _ h1) (by simp) (zQK (h2.same (zB.upd hp)) (h3.same (zB.upd hp))) fun l H' s' nl el=>q l [x,y] H' ((zB.upd hp).trans s') (zB.none (zB.upd hp) nl) el (.cons (h2.same ((zB.upd hp).trans s')) (.cons (h3.same ((zB.upd hp).trans s')) .nil)))⟩⟩⟩⟩
  | ite a b c d=>
   obtain ⟨t,x,y,z,u,rfl,h1,h2,h3,h4,h5⟩:=hx;refine ⟨_,rfl,t,_,_,_,rfl,rfl,SqT.of h1,rfl,bs 2,fun p hp=>⟨p,_,rfl,.inr (SqT.of zD),rfl,rfl,_,rfl,zE ⟨_,rfl,t,_,_,_,rfl,rfl,SqT.of (zB.upd hp _ _ h1),rfl,rfl,_,rfl,zE ⟨_,rfl,t,_,_,_,rfl,rfl,SqT.of (zB.upd hp _ _ h1),rfl,rfl,_,rfl,zE (ht2 t _ [x,y,z,u] [x,y,z,u] _ (zB.upd hp _ _ h1) (by simp) ?_ fun l H' s' nl el=>?_)⟩⟩⟩⟩
   ·obtain ⟨ta,ws,rfl,ea⟩:=Xt.tup h2;obtain ⟨tb,_,rfl,eb⟩:=Xt.tup h3;obtain ⟨tc,_,rfl,ec⟩:=Xt.tup h4;obtain ⟨td,_,rfl,ed⟩:=Xt.tup h5;exact .yes (zB.upd hp _ _ ea) (.yes (zB.upd hp _ _ eb) (.yes (zB.upd hp _ _ ec) (.yes (zB.upd hp _ _ ed) .nil)))
   ·have s2:=(zB.upd hp (o:= .tup [.str "number",.str "name"])).trans s';exact q l [x,y,z,u] H' s2 (zB.none (zB.upd hp) nl) el (.cons (h2.same s2) (.cons (h3.same s2) (.cons (h4.same s2) (.cons (h5.same s2) .nil))))
inductive Alk (H:Hp):Nat->V->V->Prop
 | int {n:Nat} (i:Int):Alk H (n+1) (.int i) (.int i)
 | str {n:Nat} (x:Str):Alk H (n+1) (.str x) (.str x)
 | non {n:Nat}:Alk H (n+1) .non .non
 | tup {n:Nat} {a b:Addr} {xs ys:List V} (ha:H a=some (.tup xs)) (hb:H b=some (.tup ys)) (hl:xs.length=ys.length) (h9:xs.length<=1000) (h: ∀(i:Nat) x y,xs[i]?=some x->ys[i]?=some y->Alk H n x y):Alk H (n+1) (.ref a) (.ref b)
theorem Alk.same{H H':Hp}{n:Nat}{x y:V}(h:Alk H n x y)(s:zB H H'):Alk H' n x y:=by
 induction h with
 | int i=>exact .int i
 | str x=>exact .str x
 | non=>exact .non
 | tup ha hb hl h9 h ih=>exact .tup (s _ _ ha) (s _ _ hb) hl h9 ih
theorem Alk.mono{H:Hp}{n:Nat}{x y:V}(h:Alk H n x y): ∀{m:Nat},n<=m->Alk H m x y:=by
 induction h with
 | int i=>exact fun {m} z=>by obtain ⟨k,rfl⟩: ∃k,m=k+1:=⟨m - 1,by omega⟩;exact .int i
 | str x=>exact fun {m} z=>by obtain ⟨k,rfl⟩: ∃k,m=k+1:=⟨m - 1,by omega⟩;exact .str x
 | non=>exact fun {m} z=>by obtain ⟨k,rfl⟩: ∃k,m=k+1:=⟨m - 1,by omega⟩;exact .non
 | tup ha hb hl h9 h ih=>exact fun {m} z=>by obtain ⟨k,rfl⟩: ∃k,m=k+1:=⟨m - 1,by omega⟩;exact .tup ha hb hl h9 fun i x y a b=>ih i x y a b (by omega)
inductive AlkL (H:Hp) (n:Nat):List V->List V->Prop
 | nil:AlkL H n [] []
 | cons {x y:V} {xs ys:List V} (h:Alk H n x y) (t:AlkL H n xs ys):AlkL H n (x::xs) (y::ys)
theorem AlkL.at_{H:Hp}{n:Nat}{xs ys:List V}(h:AlkL H n xs ys):xs.length=ys.length/\ ∀(i:Nat) x y,xs[i]?=some x->ys[i]?=some y->Alk H n x y:=by
 induction h with
 | nil=>exact ⟨rfl,fun i x y e=>by simp at e⟩
 | cons h t ih=>
  refine ⟨by simp [ih.1],fun i x y a b=>?_⟩;cases i with
  | zero=>simp at a b;subst a b;exact h
  | succ i=>exact ih.2 i x y (by simpa using a) (by simpa using b)
theorem AlkL.tup{H:Hp}{n:Nat}{a b:Addr}{xs ys:List V}(h:AlkL H n xs ys)(ha:H a=some (.tup xs))(hb:H b=some (.tup ys))(h9:xs.length<=1000):Alk H (n+1) (.ref a) (.ref b):= .tup ha hb h.at_.1 h9 h.at_.2
def zMv(n:Nat):Sp:=fun vs H Q _=> ∃x y,vs= [x,y] /\Alk H n x y/\ ∀H',zB H H'->Q (.bl true) H'
theorem zOc:FnScope ["_law_found","_law_due"] ["_law_found","_law_due"] (zM zEJ):=fs
theorem zDx(K:zSS):PySem.W.kitOne K (.type "str") (.type "bool")=some false:=by kernel_rfl
theorem zDT(K:zSS):PySem.W.kitOne K (.type "NoneType") (.type "bool")=some false:=by kernel_rfl
theorem zQG{f:Addr}{fd:FuncData}(FA:Fun K "_law_alike" "_law_alike" zEJ f fd)(B:Bn mg)(hZ:mg "zip" =none)(bA:zL K fd ["_law_found","_law_due"] [])(mA:mg "_law_alike" =some (.ref f)): ∀n,FnOk P w K mg base CX0 (2+n) f fd ["_law_found","_law_due"] (zMv n):=by
 intro n
 induction n with
 | zero=>
  refine FA.ok zOc (fun vs H Q E h=>?_) (fun cdv A outer s H vs Q E hr h=>?_)
  ·obtain ⟨x,y,rfl,_⟩:=h;rfl
  ·obtain ⟨x,y,rfl,h,_⟩:=h;cases h
 | succ n GA=>
  refine FA.ok zOc (fun vs H Q E h=>?_) (fun cdv A outer s H vs Q E hrA h=>?_)
  ·obtain ⟨x,y,rfl,_⟩:=h;rfl
  ·obtain ⟨x,y,rfl,ha,q⟩:=h;have hrA:Room (2+n) _:=hrA;refine ⟨_,QB.out (zF
   (zf (yW (zk (zn (K:=K) rfl) rfl B.isi zS (qc (qw 1 rfl) (qc (zAG (v:= .ty "tuple") rfl B.tuple yT rfl (by decide) rfl) zA rfl) rfl) rfl) (fun _=>rfl)) (zF
    (zf (t_w (zAF (yf (yW (zk (zn (K:=K) rfl) rfl B.isi zS (qc (qw 0 rfl) (qc (zAG (v:= .ty "tuple") rfl B.tuple yT rfl (by decide) rfl) zA rfl) rfl) rfl) (fun _=>rfl))) (yz (zU zCX (zk (zu (K:=K) rfl) rfl B.len yM (qc (qw 0 rfl) zA rfl) rfl) (zk (zu (K:=K) rfl) rfl B.len yM (qc (qw 1 rfl) zA rfl) rfl) rfl)))) (zK
     (zR yh)) zZ) (zK
    (zR (zk (zCg (K:=K) rfl rfl) rfl B.all zGH (qc (yu (cl:= []) ["_law_one","_law_other"] [] [] rfl (zRN rfl hZ (qc (qw 0 rfl) (qc (qw 1 rfl) zA rfl) rfl) rfl rfl) rfl (by decide+kernel) rfl (by decide+kernel) (fun _ _ h=>nomatch h) rfl (fun j y i h=>nomatch h) (yJ rfl) (fun _ _ _ _=>(zDo (K:=K) (n:=2) rfl rfl (zAX (zq 0 (show (["_law_one","_law_other"] :List Str).Nodup by decide+kernel) rfl (.inl rfl) (.inr rfl)) (zAX (zq 1 (show (["_law_one","_law_other"] :List Str).Nodup by decide+kernel) rfl (.inl rfl) (.inr rfl)) zEA rfl) rfl) rfl rfl)) (fun _ _ _ _=>yy) (fun _ _ _ _=>(zP GA hrA rfl mA FA.kp bA .nil zH (qc (qw 0 rfl) (qc (qw 1 rfl) zA rfl) rfl) rfl rfl rfl)) (fun _=>rfl)) zA rfl) rfl)))) zZ) (zK
   (zR (zAo (zCK zh (zk (zn (K:=K) rfl) rfl B.isi zS (qc (qw 0 rfl) (qc (zAG (v:= .ty "bool") rfl B.bool zEW rfl (by decide) rfl) zA rfl) rfl) rfl) (zk (zn (K:=K) rfl) rfl B.isi zS (qc (qw 1 rfl) (qc (zAG (v:= .ty "bool") rfl B.bool zEW rfl (by decide) rfl) zA rfl) rfl) rfl) rfl) (zBO (zCK zh (qw 0 rfl) (qw 1 rfl) rfl)))))),?_⟩
   cases ha with
   | @tup _ a b xs ys ha hb hl h9 hh=>
    refine ⟨_,rfl,_,.ty "tuple",_,.type "tuple",_,rfl,rfl,.tup hb,zy K,_,rfl,zN ?_⟩;refine ⟨_,rfl,_,.ty "tuple",_,.type "tuple",_,rfl,rfl,.tup ha,zy K,_,rfl,zE ⟨_,rfl,a,_,rfl,.inr (SqT.of ha),_,rfl,b,_,rfl,.inr (SqT.of hb),rfl,_,rfl,?_⟩⟩;rw [hl,zRz rfl];refine zE ⟨_,rfl,_,rfl,a,b,rfl,⟨_,ha⟩,⟨_,hb⟩,fun D hD=>?_⟩;refine zi xs.length (fun i zs H'=>i<=xs.length/\zs=List.replicate i (.bl true)/\zB H H'/\H' D=some (.lst zs)) ⟨zRr _,rfl,zB.upd hD,zD⟩ (by rw [zRn];omega) ?_ ?_ ?_
    ·rintro i zs H' hi ⟨_,ez,s1,eD⟩;refine ⟨by rw [ez];simp,eD,fun h=>⟨_,_,_,_,s1 _ _ ha,s1 _ _ hb,zRc h,zRc (by omega)⟩,fun h=>⟨_,_,s1 _ _ ha,s1 _ _ hb,.inl (by omega)⟩⟩
    ·rintro i zs H' v H'' hi ⟨_,ez,s1,eD⟩ ⟨t,x,y,hx,hy,nt,rfl,rfl⟩ pre hpre;have hx:=hx _ (s1 _ _ ha);have hy:=hy _ (s1 _ _ hb);have s2:=zB.upd (o:= .tup [x,y]) nt;obtain ⟨p0,p1,rfl⟩:=yZ hpre;refine ⟨t,_,rfl,SqT.of zD,rfl,x,[y],rfl,y,[],rfl,rfl,⟨[some x,some y],rfl,rfl⟩,zN ⟨_,rfl,_,rfl,x,y,rfl,((hh i x y hx hy).same s1).same s2,fun H3 s3=>⟨s3 _ _ (s2 _ _ eD),hi,?_,zB.store ((s1.trans s2).trans s3) hD,zD⟩⟩⟩;rw [ez,List.replicate_succ']
    ·rintro zs H' ⟨_,ez,s1,eD⟩;refine ⟨D,List.replicate xs.length true,rfl,SqL.of (by rw [List.map_replicate,<-ez];exact eD),?_⟩;rw [show (List.replicate xs.length true).all id=true by simp];exact q H' s1
   | int i=>
    refine ⟨_,rfl,_,.ty "tuple",_,.type "tuple",_,rfl,rfl,.int i,zAY K,_,rfl,zE ⟨_,rfl,_,.ty "bool",_,.type "bool",_,rfl,rfl,.int i,zCT K,_,rfl,_,.ty "bool",_,.type "bool",_,rfl,rfl,.int i,zCT K,rfl,_,rfl,zN ⟨_,rfl,_,rfl,rfl,?_⟩⟩⟩;rw [zRz rfl];exact q H (zB.refl H)
   | str i=>
    refine ⟨_,rfl,_,.ty "tuple",_,.type "tuple",_,rfl,rfl,.str i,zBB K,_,rfl,zE ⟨_,rfl,_,.ty "bool",_,.type "bool",_,rfl,rfl,.str i,zDx K,_,rfl,_,.ty "bool",_,.type "bool",_,rfl,rfl,.str i,zDx K,rfl,_,rfl,zN ⟨_,rfl,_,rfl,rfl,?_⟩⟩⟩;rw [zRz rfl];exact q H (zB.refl H)
   | non=>
    refine ⟨_,rfl,_,.ty "tuple",_,.type "tuple",_,rfl,rfl,.non,zAl K,_,rfl,zE ⟨_,rfl,_,.ty "bool",_,.type "bool",_,rfl,rfl,.non,zDT K,_,rfl,_,.ty "bool",_,.type "bool",_,rfl,rfl,.non,zDT K,rfl,_,rfl,zN ⟨_,rfl,_,rfl,rfl,?_⟩⟩⟩;rw [zRz rfl];exact q H (zB.refl H)
theorem bz0{xs:List V}(_:Unit)(h:xs.length<=1000:=by exact Nat.le_of_ble_eq_true rfl):xs.length<=1000:=h
theorem zNV{H:Hp}{us:Us}{x y:V}(hx:Un H x us)(hy:Un H y us)(h9:us.length<=1000):Alk H 3 x y:=by
 obtain ⟨u,ts,rfl,h1,h2⟩:=hx;obtain ⟨v,rs,rfl,g1,g2⟩:=hy;have l1:=Paired.len h2;have l2:=Paired.len g2;refine AlkL.tup (n:=2) ?_ h1 g1 (by rw [zRj];omega);clear h1 g1 l1 l2 h9
 induction h2 generalizing rs with
 | nil=>cases g2;exact .nil
 | cons e r ih=>
  cases g2 with
  | cons e' r'=>exact .cons (AlkL.tup (.cons (.str _) (.cons (.int _) .nil)) e e' (bz0 ())) (ih _ r')
theorem zPE{H:Hp}{e:Ex}: ∀{x y:V},Xt H e x->Xt H e y->Ok e->Alk H (2*zO e+2) x y:=by
 induction e with
 | num a b u=>
  intro x y hx hy ok;obtain ⟨t,p,z,rfl,h1,h2,h3⟩:=hx;obtain ⟨t',p',z',rfl,g1,g2,g3⟩:=hy;have hz:Alk H 3 z z':=by
   cases u with
   | none=>rw [show z= .non from h3,show z'= .non from g3];exact .non
   | some us=>exact zNV h3 g3 (zRq (GoodU.le ok.2.2.2) (by decide))
  exact AlkL.tup (n:=3) (.cons (.str _) (.cons (AlkL.tup (n:=2) (.cons (.int _) (.cons (.int _) .nil)) h2 g2 (bz0 ())) (.cons hz .nil))) h1 g1 (bz0 ())
 | nam s=>
  intro x y hx hy ok;obtain ⟨t,rfl,h1⟩:=hx;obtain ⟨t',rfl,g1⟩:=hy;exact AlkL.tup (n:=3) (.cons (.str _) (.cons (.str _) .nil)) h1 g1 (bz0 ())
 | neg e ih=>
  intro x y hx hy ok;obtain ⟨t,a,rfl,h1,h2⟩:=hx;obtain ⟨t',a',rfl,g1,g2⟩:=hy;exact (AlkL.tup (n:=2*zO e+2) (.cons (.str _) (.cons (ih h2 g2 ok) .nil)) h1 g1 (bz0 ())).mono (by simp only [zO];omega)
 | pow e k ih=>
  intro x y hx hy ok;obtain ⟨t,a,rfl,h1,h2⟩:=hx;obtain ⟨t',a',rfl,g1,g2⟩:=hy;exact (AlkL.tup (n:=2*zO e+2) (.cons (.str _) (.cons (ih h2 g2 ok.1) (.cons (.int _) .nil))) h1 g1 (bz0 ())).mono (by simp only [zO];omega)
 | bin w e f ih ih2=>
  intro x y hx hy ok;obtain ⟨t,a,b,rfl,h1,h2,h3⟩:=hx;obtain ⟨t',a',b',rfl,g1,g2,g3⟩:=hy;exact (AlkL.tup (n:=2*max (zO e) (zO f)+2) (.cons (.str _) (.cons ((ih h2 g2 ok.2.1).mono (by omega)) (.cons ((ih2 h3 g3 ok.2.2).mono (by omega)) .nil))) h1 g1 (bz0 ())).mono (by simp only [zO];omega)
 | ite a b c d i1 i2 i3 i4=>
  intro x y hx hy ok;obtain ⟨t,x,y,z,u,rfl,h1,h2,h3,h4,h5⟩:=hx;obtain ⟨t',x',y',z',u',rfl,g1,g2,g3,g4,g5⟩:=hy;obtain ⟨o1,o2,o3,o4⟩:=ok;exact (AlkL.tup (n:=2*(max (zO a) (max (zO b) (max (zO c) (zO d))))+2) (.cons (.str _) (.cons ((i1 h2 g2 o1).mono (by omega)) (.cons ((i2 h3 g3 o2).mono (by omega)) (.cons ((i3 h4 g4 o3).mono (by omega)) (.cons ((i4 h5 g5 o4).mono (by omega)) .nil))))) h1 g1 (bz0 ())).mono (by simp only [zO];omega)
 | loop s e k f ih ih2=>
  intro x y hx hy ok;obtain ⟨t,a,b,rfl,h1,h2,h3⟩:=hx;obtain ⟨t',a',b',rfl,g1,g2,g3⟩:=hy;obtain ⟨_,o1,_,_,o2⟩:=ok;exact (AlkL.tup (n:=2*max (zO e) (zO f)+2) (.cons (.str _) (.cons (.str _) (.cons ((ih h2 g2 o1).mono (by omega)) (.cons (.int _) (.cons ((ih2 h3 g3 o2).mono (by omega)) .nil))))) h1 g1 (bz0 ())).mono (by simp only [zO];omega)
 | call1 s e ih=>
  intro x y hx hy ok;obtain ⟨t,q,a,rfl,h1,h0,h2⟩:=hx;obtain ⟨t',q',a',rfl,g1,g0,g2⟩:=hy;exact (AlkL.tup (n:=2*zO e+3) (.cons (.str _) (.cons (.str _) (.cons (AlkL.tup (.cons (ih h2 g2 ok.2) .nil) h0 g0 (bz0 ())) .nil))) h1 g1 (bz0 ())).mono (by simp only [zO];omega)
 | call2 s e f ih ih2=>
  intro x y hx hy ok;obtain ⟨t,q,a,b,rfl,h1,h0,h2,h3⟩:=hx;obtain ⟨t',q',a',b',rfl,g1,g0,g2,g3⟩:=hy;exact (AlkL.tup (n:=2*max (zO e) (zO f)+3) (.cons (.str _) (.cons (.str _) (.cons (AlkL.tup (.cons ((ih h2 g2 ok.2.1).mono (by omega)) (.cons ((ih2 h3 g3 ok.2.2).mono (by omega)) .nil)) h0 g0 (bz0 ())) .nil))) h1 g1 (bz0 ())).mono (by simp only [zO];omega)
 | call3 s e f g ih ih2 ih3=>
  intro x y hx hy ok;obtain ⟨t,q,a,b,c,rfl,h1,h0,h2,h3,h4⟩:=hx;obtain ⟨t',q',a',b',c',rfl,g1,g0,g2,g3,g4⟩:=hy;obtain ⟨_,o1,o2,o3⟩:=ok;exact (AlkL.tup (n:=2*(max (zO e) (max (zO f) (zO g)))+3) (.cons (.str _) (.cons (.str _) (.cons (AlkL.tup (.cons ((ih h2 g2 o1).mono (by omega)) (.cons ((ih2 h3 g3 o2).mono (by omega)) (.cons ((ih3 h4 g4 o3).mono (by omega)) .nil))) h0 g0 (bz0 ())) .nil))) h1 g1 (bz0 ())).mono (by simp only [zO];omega)
def md:List Ex->Nat
 | [] =>0
 | e::es=>max (zO e) (md es)
def sn(es:List Ex):Nat:=(es.map zI).sum
theorem zOz(a b:List Ex):md (a++b)=max (md a) (md b):=by
 induction a with
 | nil=>simp [md]
 | cons e a ih=>show max (zO e) (md (a++b))=max (max (zO e) (md a)) (md b);rw [ih];omega
theorem zLg(e:Ex):zO e=1+md (zX e):=by cases e<;>simp [md,zX,zO]
theorem zFx(a b:List Ex):sn (a++b)=sn a+sn b:=by simp [sn]
theorem zLU(e:Ex)(b:List Ex):sn (e::b)=zI e+sn b:=by simp [sn]
theorem zGB(es:List Ex):sn es=es.length+sn (es.flatMap zX):=by
 induction es with
 | nil=>rfl
 | cons e es ih=>
  rw [List.flatMap_cons,zFx,zSa,zLU,ih,zAR e];show 1+sn (zX e)+_=_;omega
theorem zJr{es:List Ex}(h:es≠ []):md es=1+md (es.flatMap zX):=by
 induction es with
 | nil=>exact absurd rfl h
 | cons e es ih=>
  rw [List.flatMap_cons,zOz];show max (zO e) (md es)=_;rw [zLg e];by_cases hz:es= []
  ·subst hz;simp [md]
  ·rw [ih hz];omega
theorem zOK(es:List Ex):es.length<=sn es:=by rw [zGB];omega
theorem zIc(es:List Ex):(es.flatMap zX).length<=4*es.length:=by
 induction es with
 | nil=>exact zRg _
 | cons e es ih=>
  have:=zAd e;rw [List.flatMap_cons,zSC,zSa];omega
def CoJ(H:Hp)(x:V)(e0:Ex)(m:Nat)(σ:L2.St)(H':Hp):Prop:= ∃(lv:Addr) (xs:List V) (es:List Ex) (a d:Nat) (s4 s5:Option V),σ= [some x,some (.ref lv),some (.int a),some (.int d),s4,s5] /\zB H H'/\H' lv=some (.lst xs)/\XtL H' xs es/\(∀e∈es,Ok e)/\a+sn es=zI e0/\d+md es=zO e0/\m=sn es
def zMr:Sp:=fun vs H Q _=> ∃(x:V) (e:Ex),vs= [x] /\Xt H e x/\Ok e/\zI e<=1000/\ ∀l H',zB H H'->H' l=some (.lst [.int (zI e:Nat),.int (zO e:Nat)])->Q (.ref l) H'
theorem zCe:FnScope ["_law_told","_law_level","_law_many","_law_deep","_law_below","_law_one"] ["_law_told"] (zM zCs):=fs
theorem zPt{f fK:Addr}{fd fdK:FuncData}(F:Fun K "_law_counts" "_law_counts" zCs f fd)(B:Bn mg)
  (FK:Fun K "_law_kids" "_law_kids" zBJ fK fdK) (bK:zL K fdK ["_law_told"] []) (mK:mg "_law_kids" =some (.ref fK)) (GK:FnOk P w K mg base CX0 1 fK fdK ["_law_told"] zGL):FnOk P w K mg base CX0 2 f fd ["_law_told"] zMr:=by
 refine F.ok zCe (fun vs H Q E h=>?_) (fun _ A _ s H vs Q E hr1 h=>?_)
 ·obtain ⟨x,e,rfl,_⟩:=h;rfl
 ·obtain ⟨x,e0,rfl,hx,ok,n0,q⟩:=h;have hr1:Room 1 _:=hr1;have huN:=Nat.lt_of_succ_lt (zBK hr1);refine ⟨_,QB.out (zF
   (zNA (i:=1) (j:=2) (k:=3) rfl zCe.nd rfl rfl rfl (by decide) rfl rfl rfl (qc (zW (qc (qw 0 rfl) zA rfl)) (qc zC (qc zC zA rfl) rfl) rfl) rfl rfl) (zF
   (zCw PassesOwn.never (zU (zDh huN) (qw 1 rfl) (zW zA) rfl) (zF
    (zd 2 zCe.nd rfl (yx (qw 2 rfl) (zk (zu (K:=K) rfl) rfl B.len yM (qc (qw 1 rfl) zA rfl) rfl)) rfl) (zF
    (zd 3 zCe.nd rfl (yx (qw 3 rfl) zC) rfl) (zF
    (zd 4 zCe.nd rfl (zW zA) rfl) (zF
    (zBi PassesOwn.never rfl (zAm (K:=K) rfl (qw 1 rfl)) (zq 5 zCe.nd rfl (Or.inl rfl) (.inr rfl)) (zK
     (zd 4 zCe.nd rfl (yq (qw 4 rfl) (zP GK hr1 rfl mK FK.kp bK .nil zH (qc (qw 5 rfl) zA rfl) rfl rfl rfl)) rfl)) (fun _=>rfl)) (zK
    (zd 1 zCe.nd rfl (qw 4 rfl) rfl))))))) (zK
   (zR (zW (qc (qw 2 rfl) (qc (qw 3 rfl) zA rfl) rfl)))))),?_⟩
  refine ⟨_,rfl,nw fun lv H1 s1 e1=>⟨_,_,_,rfl,?_⟩⟩;refine ⟨fun m σ H'=>CoJ H x e0 m σ H',⟨_,lv,[x],[e0],0,0,none,none,rfl,s1,e1,.cons (hx.same s1) .nil,fun e he=>by rw [zSY.mp he];exact ok,by simp [sn],by simp [md],rfl⟩,?_⟩;rintro m σ H' ⟨lv,xs,es,a,d,s4,s5,rfl,sm,el,hxs,hok,hn,hd,rfl⟩;refine ⟨_,rfl,nw fun ln H3 s3 e3=>⟨lv,ln,xs,rfl,rfl,SqL.of (s3 _ _ el),SqL.of e3,_,rfl,yE (fun cc=>?_) (fun cc=>?_)⟩⟩
  ·have hne:es≠ [] :=fun z=>by subst z;cases hxs;simp at cc
   have lx:=Paired.len hxs;have ls:=zOK es;refine ⟨fun σ' H''=> ∃m',m'<sn es/\CoJ H x e0 m' σ' H'',fun _ _ z=>z,?_⟩;have el3:=s3 _ _ el;have hxs3:=XtL.same hxs s3;refine ⟨_,rfl,_,rfl,lv,xs,rfl,.inl (SqL.of el3),_,_,rfl,rfl,_,rfl,_,_,rfl,rfl,nw fun lb H4 s4 e4=>⟨_,rfl,lv,rfl,⟨_,SqL.of (s4 _ _ el3)⟩,?_⟩⟩;refine zAz xs.length (fun i σ H''=> ∃(lb:Addr) (ys:List V) (s5:Option V),σ= [some x,some (.ref lv),some (.int ((a:Int)+(xs.length:Int))),some (.int ((d:Int)+1)),some (.ref lb),s5] /\i<=xs.length/\zB H3 H''/\H'' lb=some (.lst ys)/\XtL H'' ys ((es.take i).flatMap zX))
    ⟨lb,[],s5,rfl,zRr _,s4,e4,.nil⟩ ?_ ?_ ?_ ?_
   ·rintro i σ H'' hi ⟨lb,ys,s5,rfl,_,s5',_⟩;exact ⟨_,_,SqL.of (s5' _ _ el3),zRc hi⟩
   ·rintro σ H'' ⟨lb,ys,s5,rfl,_,s5',_⟩;exact ⟨_,SqL.of (s5' _ _ el3),zRg _⟩
   ·rintro i σ H5 y H6 hi ⟨lb,ys,s5,rfl,_,s5',elb,hys⟩ ⟨rfl,hy⟩;have hy':=hy _ (SqL.of (s5' _ _ el3));rw [zRc hi] at hy';cases hy';obtain ⟨k,ek,hk⟩:=Paired.get' hxs3 (zRc hi);have bl:=zIc (es.take i);have k4:=zAd k;have ly:=Paired.len hys;rw [List.length_take] at bl;refine ⟨_,rfl,_,rfl,_,k,rfl,hk.same s5',hok _ (zSE ek),fun l zs H7 s7 nl el7 hz=>?_⟩;have lz:=Paired.len hz;refine cls (s7 _ _ elb) el7 (by rw [zRn];omega) fun p G sG eG=>⟨p,_,_,rfl,hi,s5'.trans (s7.trans sG),eG,?_⟩;rw [zRy,ek,List.flatMap_append];exact Paired.app (XtL.same hys (s7.trans sG)) (by rw [Option.toList_some,List.flatMap_singleton];exact XtL.same hz sG)
   ·rintro σ H5 ⟨lb,ys,s5,rfl,_,s5',elb,hys⟩;rw [List.take_of_length_le (by omega)] at hys;have sb:=zGB es;have mb:=zJr hne;refine ⟨_,rfl,sn (es.flatMap zX),?_,lb,ys,_,a+xs.length,d+1,_,_,rfl,sm.trans (s3.trans s5'),elb,hys,fun e he=>?_,by omega,by omega,rfl⟩
    ·have:0<es.length:=List.length_pos_iff.mpr hne;omega
    ·obtain ⟨k,hk,hek⟩:=List.mem_flatMap.mp he;exact yc (hok k hk) hek
  ·have hx0:xs= [] :=by
    cases xs with
    | nil=>rfl
    | cons a l=>exact absurd (by simp) cc
   subst hx0;cases hxs;have hn:a+0=zI e0:=hn;have hd:d+0=zO e0:=hd;refine ⟨_,rfl,_,rfl,nw fun l H4 s4 e4=>q l H4 (sm.trans (s3.trans s4)) ?_⟩;rw [<-hn,<-hd];exact e4
def knd:Ex->Nat
 | .num ..=>0
 | .nam _=>1
 | .neg _=>2
 | .bin w _ _=>if w= "plus" \/w= "minus" then 3 else 4
 | .pow ..=>5
 | .ite ..=>6
 | .loop ..=>7
 | .call1 ..=>8
 | .call2 ..=>8
 | .call3 ..=>8
def wd:Ex->Str
 | .num ..=> "number"
 | .nam _=> "name"
 | .neg _=> "negative"
 | .bin w _ _=>w
 | .pow ..=> "power"
 | .ite ..=> "if"
 | .loop ..=> "loop"
 | .call1 ..=> "call"
 | .call2 ..=> "call"
 | .call3 ..=> "call"
theorem zPb{H:Hp}{e:Ex}{x:V}(h:Xt H e x): ∃t r,x= .ref t/\H t=some (.tup (.str (wd e)::r)):=by
 cases e with
 | num=>obtain ⟨t,p,y,e,h,_⟩:=h;exact ⟨t,_,e,h⟩
 | nam=>obtain ⟨t,e,h⟩:=h;exact ⟨t,_,e,h⟩
 | neg=>obtain ⟨t,x,e,h,_⟩:=h;exact ⟨t,_,e,h⟩
 | bin=>obtain ⟨t,x,y,e,h,_⟩:=h;exact ⟨t,_,e,h⟩
 | pow=>obtain ⟨t,x,e,h,_⟩:=h;exact ⟨t,_,e,h⟩
 | ite=>obtain ⟨t,x,y,z,u,e,h,_⟩:=h;exact ⟨t,_,e,h⟩
 | loop=>obtain ⟨t,x,y,e,h,_⟩:=h;exact ⟨t,_,e,h⟩
 | call1=>obtain ⟨t,q,x,e,h,_⟩:=h;exact ⟨t,_,e,h⟩
 | call2=>obtain ⟨t,q,x,y,e,h,_⟩:=h;exact ⟨t,_,e,h⟩
 | call3=>obtain ⟨t,q,x,y,z,e,h,_⟩:=h;exact ⟨t,_,e,h⟩
def WS:List (List Str):= [["number"],["name"],["negative"],["plus","minus"],["times","over"],["power"],["if"],["loop"],["call"]]
theorem zOy{e:Ex}(ok:Ok e):WS.map (fun ws=>inV (.str (wd e)) (ws.map V.str))= [knd e==0,knd e==1,knd e==2,knd e==3,knd e==4,knd e==5,knd e==6,knd e==7,knd e==8] :=by
 cases e with
 | bin w=>
  obtain ⟨hw,_⟩:=ok;rcases hw with rfl | rfl | rfl | rfl<;>rfl
 | _=>rfl
structure Kin(K:zSS)(c:Cz)(CN:Addr):Prop where
 ty: ∀(e:Ex) (H:Hp) (a dx:Addr) (fs:List (Str×V)),H a=some (.ins (c.of e) dx fs)->TyOf K H (.ref a) (.ref (c.of e))
 one: ∀e,PySem.W.kitOne K (.ref (c.of e)) (.ref CN)=some true
 num: ∀e,PySem.W.kitOne K (.ref (c.of e)) (.ref c.num)=some (knd e==0)
 nam: ∀e,PySem.W.kitOne K (.ref (c.of e)) (.ref c.nam)=some (knd e==1)
 neg: ∀e,PySem.W.kitOne K (.ref (c.of e)) (.ref c.neg)=some (knd e==2)
 sum: ∀e,PySem.W.kitOne K (.ref (c.of e)) (.ref c.sum)=some (knd e==3)
 pro: ∀e,PySem.W.kitOne K (.ref (c.of e)) (.ref c.pro)=some (knd e==4)
 pow: ∀e,PySem.W.kitOne K (.ref (c.of e)) (.ref c.pow)=some (knd e==5)
 cho: ∀e,PySem.W.kitOne K (.ref (c.of e)) (.ref c.cho)=some (knd e==6)
 loo: ∀e,PySem.W.kitOne K (.ref (c.of e)) (.ref c.loo)=some (knd e==7)
 cal: ∀e,PySem.W.kitOne K (.ref (c.of e)) (.ref c.cal)=some (knd e==8)
def Bt1(l:Addr)(H H':Hp):Prop:= ∀b o,b≠l->H b=some o->H' b=some o
theorem Bt1.trans{l:Addr}{H H1 H2:Hp}(a:Bt1 l H H1)(b:Bt1 l H1 H2):Bt1 l H H2:=fun c o n e=>b c o n (a c o n e)
theorem zB.bt1{l:Addr}{H H':Hp}(s:zB H H'):Bt1 l H H':=fun c o _ e=>s c o e
theorem Bt1.n{l:Addr}{H H':Hp}{xs:List V}(s:Bt1 l H H')(e:H l=some (.lst xs)):zj H H':=fun b o h n=>s b o (fun z=>by rw [z,e] at h;cases h;exact n _ rfl) h
theorem NdX.one{NC:Addr->Prop}{c:Cz}{H:Hp}{es:List Ex}{ys:List V}{t:Addr}(h:Paired (fun v e=>NdX NC c H e v) ys es): ∀x∈ys++ [.ref t],zCW x=true:=by
 induction h with
 | nil=>simp [zCW]
 | cons a _ ih=>
  obtain ⟨p,⟨t,dx,fs,rfl,_⟩,_⟩:=a;intro x hx;rcases zST.mp hx with rfl | hx
  ·rfl
  ·exact ih x hx
structure Hld(H:Hp)(lh:Addr)(ts:List Addr):Prop where
 l:H lh=some (.lst (ts.map V.ref))
 h: ∀t∈ts,∃a b xs,H t=some (.tup [.ref a,.ref b])/\H a=some (.lst xs)/\H b=some (.lst xs)/\a≠lh/\b≠lh/\ ∀x∈xs,zCW x=true
theorem Hld.same{H H':Hp}{lh:Addr}{ts:List Addr}(h:Hld H lh ts)(s:zB H H'):Hld H' lh ts:=⟨s _ _ h.l,fun t ht=>let ⟨a,b,xs,e1,e2,e3,r⟩:=h.h t ht;⟨a,b,xs,s _ _ e1,s _ _ e2,s _ _ e3,r⟩⟩
theorem Hld.add{H:Hp}{lh t a b:Addr}{ts:List Addr}{xs:List V}(h:Hld H lh ts)(e1:H t=some (.tup [.ref a,.ref b]))(e2:H a=some (.lst xs))(e3:H b=some (.lst xs))(na:a≠lh)(nb:b≠lh)(lx: ∀x∈xs,zCW x=true):Hld (L2.upd H lh (.lst (ts.map V.ref++ [.ref t]))) lh (ts++ [t]):=by
 have nt: ∀{t:Addr} {ys:List V},H t=some (.tup ys)->t≠lh:=fun e z=>by rw [z,h.l] at e;cases e
 refine ⟨by rw [zD,zRx];rfl,fun u hu=>?_⟩;rcases zSW.mp hu with z | z
 ·obtain ⟨a,b,xs,e1,e2,e3,na,nb,r⟩:=h.h u z;exact ⟨a,b,xs,by rw [zQ (nt e1)];exact e1,by rw [zQ na];exact e2,by rw [zQ nb];exact e3,na,nb,r⟩
 ·rw [zSY.mp z];exact ⟨a,b,xs,by rw [zQ (nt e1)];exact e1,by rw [zQ na];exact e2,by rw [zQ nb];exact e3,na,nb,lx⟩
theorem zGU(K:zSS):PySem.W.kitOne K (.type "list") (.type "list")=some true:=by kernel_rfl
theorem zRH{x:V}{r:List V}:atI (x::r) 0=some x:=ym (j:=0) rfl
theorem zPs{e:Ex}(ok:Ok e):WS.map (fun ws=>V.bl (inV (.str (wd e)) (ws.map V.str)))= [.bl (knd e==0),.bl (knd e==1),.bl (knd e==2),.bl (knd e==3),.bl (knd e==4),.bl (knd e==5),.bl (knd e==6),.bl (knd e==7),.bl (knd e==8)] :=by
 have h:=congrArg (List.map V.bl) (zOy ok);rw [List.map_map] at h;exact h
theorem zLh(l:List Ex)(i:Nat):sn (l.take i)<=sn l:=by
 have h:=zFx (l.take i) (l.drop i);rw [List.take_append_drop] at h;omega
theorem zPh{l:List Ex}{i:Nat}{k:Ex}(e:l[i]?=some k):sn (l.take (i+1))=sn (l.take i)+zI k:=by
 rw [zRy,e,zFx];simp [sn]
def zOH(NC:Addr->Prop)(c:Cz)(d:Nat):Sp:=fun vs H Q _=> ∃(v x:V) (lh:Addr) (e:Ex) (ts:List Addr),vs= [v,x,.ref lh] /\NdX NC c H e v/\Xt H e x/\Ok e/\zO e<=d/\zO e<=10/\zI e<=100/\Hld H lh ts/\ts.length+zI e<=1000/\
 ∀H' ts',Bt1 lh H H'->Hld H' lh ts'->ts'.length=ts.length+zI e->Q (.bl true) H'
theorem zCU:FnScope ["_law_node","_law_told","_law_held","_law_kinds","_law_words","_law_kids_here","_law_kid","_law_due"] ["_law_node","_law_told","_law_held"] (zM lIs):=fs
theorem zPg{f fT fKd fSz fDp fA fC fK CN:Addr}{fd fdT fdKd fdSz fdDp fdA fdC fdK:FuncData}{c:Cz}(FI:Fun K "_law_is" "_law_is" lIs f fd)(B:Bn mg)(hZ:mg "zip" =none)(kn:Kin K c CN)
  (mNumber:mg "Number" =some (.ref c.num)) (mName:mg "Name" =some (.ref c.nam)) (mNegative:mg "Negative" =some (.ref c.neg)) (mSum:mg "Sum" =some (.ref c.sum)) (mProduct:mg "Product" =some (.ref c.pro)) (mPower:mg "Power" =some (.ref c.pow)) (mChoice:mg "Choice" =some (.ref c.cho)) (mLoop:mg "Loop" =some (.ref c.loo)) (mCall:mg "Call" =some (.ref c.cal)) (mCN:mg "Node" =some (.ref CN))
  (bT:zL K fdT ["self"] []) (GT:FnOk P w K mg base CX0 1 fT fdT ["self"] (zCO (NK K fT fKd fSz fDp)))
  (bKd:zL K fdKd ["self"] []) (GKd:FnOk P w K mg base CX0 15 fKd fdKd ["self"] (zOL (NK K fT fKd fSz fDp) c))
  (bSz:zL K fdSz ["self"] []) (GSz:FnOk P w K mg base CX0 3 fSz fdSz ["self"] (zHg (NK K fT fKd fSz fDp) c zI))
  (bDp:zL K fdDp ["self"] []) (GDp:FnOk P w K mg base CX0 3 fDp fdDp ["self"] (zHg (NK K fT fKd fSz fDp) c zO))
  (FA:Fun K "_law_alike" "_law_alike" zEJ fA fdA) (bA:zL K fdA ["_law_found","_law_due"] []) (mA:mg "_law_alike" =some (.ref fA)) (GA:FnOk P w K mg base CX0 24 fA fdA ["_law_found","_law_due"] (zMv 22))
  (FC:Fun K "_law_counts" "_law_counts" zCs fC fdC) (bC:zL K fdC ["_law_told"] []) (mC:mg "_law_counts" =some (.ref fC)) (GC:FnOk P w K mg base CX0 2 fC fdC ["_law_told"] zMr)
  (FK:Fun K "_law_kids" "_law_kids" zBJ fK fdK) (bK:zL K fdK ["_law_told"] []) (mK:mg "_law_kids" =some (.ref fK)) (GK:FnOk P w K mg base CX0 1 fK fdK ["_law_told"] zGL)
  (bI:zL K fd ["_law_node","_law_told","_law_held"] []) (mI:mg "_law_is" =some (.ref f)): ∀d,FnOk P w K mg base CX0 (30+d) f fd ["_law_node","_law_told","_law_held"] (zOH (NK K fT fKd fSz fDp) c d):=by
 intro d
 induction d with
 | zero=>
  refine FI.ok zCU (fun vs H Q E h=>?_) (fun cdv A outer s H vs Q E hr h=>?_)
  ·obtain ⟨v,x,lh,e,ts,rfl,_⟩:=h;rfl
  ·obtain ⟨v,x,lh,e,ts,rfl,_,_,_,h,_⟩:=h;have:=zAw e;omega
 | succ d GI=>
  refine FI.ok zCU (fun vs H Q E h=>?_) (fun cdv A outer s H vs Q E hrI h=>?_)
  ·obtain ⟨v,x,lh,e,ts,rfl,_⟩:=h;rfl
  ·obtain ⟨v,x,lh,e,ts,rfl,hv,hx,ok,dp,d10,n0,hd,ht,q⟩:=h;have hrI:Room (30+d) _:=hrI;have hrA:Room 24 _:=hrI.mono (by omega);have hr15:Room 15 _:=hrI.mono (by omega);have hr3:Room 3 _:=hrI.mono (by omega);have hr2:Room 2 _:=hrI.mono (by omega);have hr1:Room 1 _:=hrI.mono (by omega);have huN:=Nat.lt_of_succ_lt (zBK hr1);have hT: ∀C,NK K fT fKd fSz fDp C->Cls K C/\Meth K C "told" fT:=fun C h=>⟨h.cl,h.td⟩;have hKd: ∀C,NK K fT fKd fSz fDp C->Cls K C/\Meth K C "kids" fKd:=fun C h=>⟨h.cl,h.kd⟩;have hSz: ∀C,NK K fT fKd fSz fDp C->Cls K C/\Meth K C "size" fSz:=fun C h=>⟨h.cl,h.sz⟩;have hDp: ∀C,NK K fT fKd fSz fDp C->Cls K C/\Meth K C "depth" fDp:=fun C h=>⟨h.cl,h.dp⟩;refine ⟨_,QB.out (zF
   (zd 3 zCU.nd rfl (zW (qc (zk (zn (K:=K) rfl) rfl B.isi zS (qc (qw 0 rfl) (qc (zc (v:= .ref c.num) rfl mNumber rfl rfl) zA rfl) rfl) rfl) (qc (zk (zn (K:=K) rfl) rfl B.isi zS (qc (qw 0 rfl) (qc (zc (v:= .ref c.nam) rfl mName rfl rfl) zA rfl) rfl) rfl) (qc (zk (zn (K:=K) rfl) rfl B.isi zS (qc (qw 0 rfl) (qc (zc (v:= .ref c.neg) rfl mNegative rfl rfl) zA rfl) rfl) rfl) (qc (zk (zn (K:=K) rfl) rfl B.isi zS (qc (qw 0 rfl) (qc (zc (v:= .ref c.sum) rfl mSum rfl rfl) zA rfl) rfl) rfl) zA rfl) rfl) rfl) rfl)) rfl) (zF
   (zd 3 zCU.nd rfl (yq (qw 3 rfl) (zW (qc (zk (zn (K:=K) rfl) rfl B.isi zS (qc (qw 0 rfl) (qc (zc (v:= .ref c.pro) rfl mProduct rfl rfl) zA rfl) rfl) rfl) (qc (zk (zn (K:=K) rfl) rfl B.isi zS (qc (qw 0 rfl) (qc (zc (v:= .ref c.pow) rfl mPower rfl rfl) zA rfl) rfl) rfl) (qc (zk (zn (K:=K) rfl) rfl B.isi zS (qc (qw 0 rfl) (qc (zc (v:= .ref c.cho) rfl mChoice rfl rfl) zA rfl) rfl) rfl) zA rfl) rfl) rfl))) rfl) (zF
   (zd 3 zCU.nd rfl (yq (qw 3 rfl) (zW (qc (zk (zn (K:=K) rfl) rfl B.isi zS (qc (qw 0 rfl) (qc (zc (v:= .ref c.loo) rfl mLoop rfl rfl) zA rfl) rfl) rfl) (qc (zk (zn (K:=K) rfl) rfl B.isi zS (qc (qw 0 rfl) (qc (zc (v:= .ref c.cal) rfl mCall rfl rfl) zA rfl) rfl) rfl) zA rfl) rfl))) rfl) (zF
   (zd 4 zCU.nd rfl (zW (qc (zW (qc zG zA rfl)) (qc (zW (qc zG zA rfl)) (qc (zW (qc zG zA rfl)) (qc (zW (qc zG (qc zG zA rfl) rfl)) (qc (zW (qc zG (qc zG zA rfl) rfl)) (qc (zW (qc zG zA rfl)) (qc (zW (qc zG zA rfl)) (qc (zW (qc zG zA rfl)) zA rfl) rfl) rfl) rfl) rfl) rfl) rfl) rfl)) rfl) (zF
   (zf (t_w (zAF (zU (zIk (K:=K) rfl huN) (qw 3 rfl) (yu ["_law_some"] ["_law_told"] [1] rfl (zAm (K:=K) rfl (yq (qw 4 rfl) (zW (qc (zW (qc zG zA rfl)) zA rfl)))) rfl (by decide+kernel) rfl (by decide+kernel) (yC rfl lk0) rfl (fr1 ⟨rfl,rfl,rfl,_,rfl,rfl⟩) (yJ rfl) (fun _ _ _ _=>(zq 0 (show (["_law_some","_law_told"] :List Str).Nodup by decide+kernel) rfl (.inl rfl) (.inr rfl))) (fun _ _ _ _=>yy) (fun _ _ _ _=>(zCK (zCm (K:=K) rfl) (zY (K:=K) rfl (qx 1 rfl) zC (fun _ _=>rfl)) (qw 0 rfl) rfl)) (fun _=>rfl)) rfl) (yz (yf (yW (zk (zn (K:=K) rfl) rfl B.isi zS (qc (qw 0 rfl) (qc (zc (v:= .ref CN) rfl mCN rfl rfl) zA rfl) rfl) rfl) (fun _=>rfl)))))) (zK
    (zR yh)) zZ) (zF
   (zf (t_w (zAF (yf (yW (zP GA hrA rfl mA FA.kp bA .nil zH (qc (yK (qw 0 rfl) hT GT hr1 bT zH rfl) (qc (qx 1 rfl) zA rfl) rfl) rfl rfl rfl) (fun _=>rfl))) (yz (zU (zLm (K:=K) rfl huN) (zW (qc (yK (qw 0 rfl) hSz GSz hr3 bSz zH rfl) (qc (yK (qw 0 rfl) hDp GDp hr3 bDp zH rfl) zA rfl) rfl)) (zP GC hr2 rfl mC FC.kp bC .nil zH (qc (qx 1 rfl) zA rfl) rfl rfl rfl) rfl)))) (zK
    (zR yh)) zZ) (zF
   (zd 5 zCU.nd rfl (yK (qw 0 rfl) hKd GKd hr15 bKd zH rfl) rfl) (zF
   (zf (t_w (zAF (yf (yW (zk (zn (K:=K) rfl) rfl B.isi zS (qc (qw 5 rfl) (qc (zAG (v:= .ty "list") rfl B.list zCE rfl (by decide) rfl) zA rfl) rfl) rfl) (fun _=>rfl))) (yz (zU zCX (zk (zu (K:=K) rfl) rfl B.len yM (qc (qw 5 rfl) zA rfl) rfl) (zk (zu (K:=K) rfl) rfl B.len yM (qc (zP GK hr1 rfl mK FK.kp bK .nil zH (qc (qx 1 rfl) zA rfl) rfl rfl rfl) zA rfl) rfl) rfl)))) (zK
    (zR yh)) zZ) (zF
   (yO (yo (K:=K) rfl (qw 5 rfl) (qw 0 rfl) rfl rfl rfl) rfl) (zF
   (yO (yo (K:=K) rfl (qw 2 rfl) (zJ (qc (qw 5 rfl) (qc (zBw (zBI (K:=K) rfl) rfl B.list zCE (qc (qw 5 rfl) zA rfl) rfl) zA rfl) rfl)) rfl rfl rfl) rfl) (zF
   (zBi PassesOwn.never rfl (zPx (K:=K) rfl rfl hZ (qc (yK (qw 0 rfl) hKd GKd hr15 bKd zH rfl) (qc (zP GK hr1 rfl mK FK.kp bK .nil zH (qc (qx 1 rfl) zA rfl) rfl rfl rfl) zA rfl) rfl) rfl rfl) (zDo (K:=K) (n:=2) rfl rfl (zAX (zq 6 zCU.nd rfl (Or.inl rfl) (.inr rfl)) (zAX (zq 7 zCU.nd rfl (Or.inl rfl) (.inr rfl)) zEA rfl) rfl) rfl rfl) (zK
    (zf (yf (yW (zP GI hrI rfl mI FI.kp bI .nil zH (qc (qw 6 rfl) (qc (qw 7 rfl) (qc (qw 2 rfl) zA rfl) rfl) rfl) rfl rfl rfl) (fun _=>rfl))) (zK
     (zR yh)) zZ)) (fun _=>rfl)) (zK
   (zR (zCK zh (zk (zu (K:=K) rfl) rfl B.len yM (qc (yK (qw 0 rfl) hKd GKd hr15 bKd zH rfl) zA rfl) rfl) (zk (zu (K:=K) rfl) rfl B.len yM (qc (zP GK hr1 rfl mK FK.kp bK .nil zH (qc (qx 1 rfl) zA rfl) rfl rfl rfl) zA rfl) rfl) rfl)))))))))))))),?_⟩
   obtain ⟨p,⟨t,dx,fs,rfl,et,nk,lp,sh⟩,hp⟩:=id hv;obtain ⟨tx,rx,rfl,etx⟩:=zPb hx;have ty: ∀H',zB H H'->TyOf K H' (.ref t) (.ref (c.of e)):=fun H' s=>kn.ty e H' t dx fs (s _ _ et);refine ⟨_,rfl,_,.ref c.num,_,.ref c.num,_,rfl,rfl,ty H (zB.refl H),kn.num e,_,rfl,_,.ref c.nam,_,.ref c.nam,_,rfl,rfl,ty H (zB.refl H),kn.nam e,_,rfl,_,.ref c.neg,_,.ref c.neg,_,rfl,rfl,ty H (zB.refl H),kn.neg e,_,rfl,_,.ref c.sum,_,.ref c.sum,_,rfl,rfl,ty H (zB.refl H),kn.sum e,nw fun l1 H1 s1 e1=>?_⟩;refine ⟨_,rfl,_,rfl,_,.ref c.pro,_,.ref c.pro,_,rfl,rfl,ty H1 s1,kn.pro e,_,rfl,_,.ref c.pow,_,.ref c.pow,_,rfl,rfl,ty H1 s1,kn.pow e,_,rfl,_,.ref c.cho,_,.ref c.cho,_,rfl,rfl,ty H1 s1,kn.cho e,nw fun l2 H2 s2 e2=>cl (s2 _ _ e1) e2 fun l3 H3 s3 e3=>?_⟩;have s03:=s1.trans (s2.trans s3);refine ⟨_,rfl,_,rfl,_,.ref c.loo,_,.ref c.loo,_,rfl,rfl,ty H3 s03,kn.loo e,_,rfl,_,.ref c.cal,_,.ref c.cal,_,rfl,rfl,ty H3 s03,kn.cal e,nw fun l4 H4 s4 e4=>cl (s4 _ _ e3) e4 fun l5 H5 s5 e5=>?_⟩;have s05:=s03.trans (s4.trans s5);clear e1 e2 e3 e4 s1 s2 s3 s4 s5 s03;refine nw fun w0 G0 r0 f0=>nw fun w1 G1 r1 f1=>nw fun w2 G2 r2 f2=>nw fun w3 G3 r3 f3=>nw fun w4 G4 r4 f4=>nw fun w5 G5 r5 f5=>nw fun w6 G6 r6 f6=>nw fun w7 G7 r7 f7=>nw fun wl G8 r8 f8=>?_;refine ⟨_,rfl,_,rfl,nw fun w8 G9 r9 f9=>nw fun wm G10 r10 f10=>cl (r10 _ _ (r9 _ _ f8)) f10 fun lw G11 r11 f11=>⟨lw,rfl,⟨_,SqL.of f11⟩,fun D hD=>?_⟩⟩;have sg:zB H5 G11:=r0.trans (r1.trans (r2.trans (r3.trans (r4.trans (r5.trans (r6.trans (r7.trans (r8.trans (r9.trans (r10.trans r11))))))))));have g9:=r10.trans r11;have g8:=r9.trans g9;have g7:=r8.trans g8;have g6:=r7.trans g7;have g5:=r6.trans g6;have g4:=r5.trans g5;have g3:=r4.trans g4;have g2:=r3.trans g3;have g1:=r2.trans g2;have g0:=r1.trans g1;have pw:Paired (fun a (ws:List Str)=>G11 a=some (.lst (ws.map V.str))) [w0,w1,w2,w3,w4,w5,w6,w7,w8] WS:= .cons (g0 _ _ f0) (.cons (g1 _ _ f1) (.cons (g2 _ _ f2) (.cons (g3 _ _ f3) (.cons (g4 _ _ f4) (.cons (g5 _ _ f5) (.cons (g6 _ _ f6) (.cons (g7 _ _ f7) (.cons (g9 _ _ f9) .nil))))))));have s11:zB H G11:=s05.trans sg;have e5:=sg _ _ e5;clear f0 f1 f2 f3 f4 f5 f6 f7 f8 f9 f10 r0 r1 r2 r3 r4 r5 r6 r7 r8 r9 r10 r11 g0 g1 g2 g3 g4 g5 g6 g7 g8 g9 sg s05;have f11:G11 lw=some (.lst ([w0,w1,w2,w3,w4,w5,w6,w7,w8].map V.ref)):=f11;have lw9:([w0,w1,w2,w3,w4,w5,w6,w7,w8] :List Addr).length=9:=rfl;generalize ([w0,w1,w2,w3,w4,w5,w6,w7,w8] :List Addr)=wss at pw f11 lw9;refine zi 9 (fun i ys H'=>i<=9/\ys=(WS.take i).map (fun ws=>V.bl (inV (.str (wd e)) (ws.map V.str)))/\zB G11 H'/\H' D=some (.lst ys)) ⟨zRr _,rfl,zB.upd hD,zD⟩ (by rw [zRn];omega) ?_ ?_ ?_
   ·rintro i ys H' hi ⟨_,ey,s1,eD⟩;refine ⟨by rw [ey,zRj,List.length_take];omega,eD,fun h=>⟨_,_,SqL.of (s1 _ _ f11),zRc (by rw [zRj];omega)⟩,fun h=>⟨_,SqL.of (s1 _ _ f11),by rw [zRj];omega⟩⟩
   ·rintro i ys H' y H'' hi ⟨_,ey,s1,eD⟩ ⟨rfl,hy⟩ pre hpre;obtain ⟨p0,rfl⟩:=yd hpre;have hy':=hy _ (SqL.of (s1 _ _ f11));have li:i<wss.length:=by omega
    rw [zRh,zRc li] at hy';cases hy';obtain ⟨ws,ew,hw⟩:=Paired.get' pw (zRc li);refine ⟨⟨[some (.ref wss[i])],rfl,rfl⟩,zN ⟨_,rfl,tx,_,_,_,rfl,rfl,SqT.of (s1 _ _ (s11 _ _ etx)),zRH,_,rfl,wss[i],_,rfl,.inl (SqL.of (s1 _ _ hw)),(show zBC (V.str (wd e))=true from rfl),by simp [zBC],eD,hi,?_,zB.store s1 hD,zD⟩⟩;rw [ey,zRy,ew,zRx];rfl
   ·rintro ys H6 ⟨_,ey,s6,eD⟩;rw [show WS.take 9=WS from rfl,zPs ok] at ey;subst ey;clear pw f11 lw9 hD;have s06:=s11.trans s6;refine ⟨l5,D,_,rfl,rfl,SqL.of (s6 _ _ e5),SqL.of eD,by simp [zCW],_,rfl,zE ⟨_,rfl,_,.ref CN,_,.ref CN,_,rfl,rfl,ty H6 s06,kn.one e,_,rfl,zE ?_⟩⟩;clear e5 eD s6 s11;have sM: ∀m∈shN,fs.lookup m=none:=sh;have ndP: ∀H',zB H H'->Nd (NK K fT fKd fSz fDp) H' (c.of e) (.ref t) p:=fun H' s=>⟨t,dx,fs,rfl,s _ _ et,nk,lp,sh⟩;refine ⟨_,rfl,t,_,dx,fs,rfl,s06 _ _ et,nk,sM _ (by simp [shN]),_,_,p,rfl,ndP H6 s06,_,rfl,p,_,rfl,(zPE (hp.same s06) (hx.same s06) ok).mono (by omega),fun H7 s7=>⟨_,rfl,zE ?_⟩⟩;have s07:=s06.trans s7;refine ⟨_,rfl,t,_,dx,fs,rfl,s07 _ _ et,nk,sM _ (by simp [shN]),_,e,rfl,hv.same s07,ok,by omega,fun H8 s8=>?_⟩;have s08:=s07.trans s8;refine ⟨_,rfl,t,_,dx,fs,rfl,s08 _ _ et,nk,sM _ (by simp [shN]),_,e,rfl,hv.same s08,ok,by omega,fun H9 s9=>nw fun la H10 s10 e10=>?_⟩;have s0a:=(s08.trans s9).trans s10;refine ⟨_,rfl,_,e,rfl,hx.same s0a,ok,by omega,fun lb H11 s11 e11=>⟨la,lb,_,rfl,rfl,SqL.of (s11 _ _ e10),SqL.of e11,by simp [zDp],_,rfl,zE ?_⟩⟩;have s0b:=s0a.trans s11;clear s06 s7 s07 s8 s08 s9 s10 e10 s0a s11 e11;refine ⟨_,rfl,t,_,dx,fs,rfl,s0b _ _ et,nk,sM _ (by simp [shN]),_,e,rfl,hv.same s0b,ok,d10,fun kh ks H12 s12 nk12 ek12 pk12=>?_⟩;have s0c:=s0b.trans s12;refine ⟨_,rfl,_,.ty "list",_,.type "list",_,rfl,rfl,.lst ek12,zGU K,_,rfl,zE ⟨_,rfl,kh,_,rfl,.inl (SqL.of ek12),_,rfl,_,e,rfl,hx.same s0c,ok,fun ly ys H13 s13 nly ely hk13=>⟨ly,_,rfl,.inl (SqL.of ely),rfl,_,rfl,?_⟩⟩⟩;have lk1:=Paired.len pk12;have lk2:=Paired.len hk13;have k4:=zAd e;rw [show ks.length=ys.length by omega,zRz rfl];refine zE ?_;have ek13:=s13 _ _ ek12;refine ⟨_,rfl,.inl ⟨rfl,_,SqL.of ek13⟩,_,rfl,kh,_,_,rfl,rfl,ek13,by rw [zRn];omega,?_⟩;have s0e:zB H (L2.upd H13 kh (.lst (ks++ [.ref t]))):=zB.store (s0c.trans s13) (zB.none s0b nk12);have e14:(L2.upd H13 kh (.lst (ks++ [.ref t]))) kh=some (.lst (ks++ [.ref t])):=zD;have nkh:kh≠lh:=fun z=>by
     have h:=s0b _ _ hd.l;rw [<-z,nk12] at h;cases h
    generalize L2.upd H13 kh (.lst (ks++ [.ref t]))=H14 at s0e e14;have one:=NdX.one (t:=t) pk12;clear ek13 ek12 s12 s13 nly ely hk13 pk12 s0c nk12 s0b;have hd14:=hd.same s0e;refine ⟨_,rfl,.inl ⟨rfl,_,SqL.of hd14.l⟩,_,rfl,_,rfl,kh,_,rfl,.inl (SqL.of e14),fun cp hcp=>nw fun tp H16 s16 e16=>?_⟩;have s15:zB H14 (L2.upd H14 cp (.lst (ks++ [.ref t]))):=zB.upd hcp;have e15:(L2.upd H14 cp (.lst (ks++ [.ref t]))) cp=some (.lst (ks++ [.ref t])):=zD;generalize L2.upd H14 cp (.lst (ks++ [.ref t]))=H15 at s15 e15 s16;have ncp:cp≠lh:=fun z=>by rw [z,hd14.l] at hcp;cases hcp
    have s46:=s15.trans s16;have s0g:=s0e.trans s46;have hd16:=hd14.same s46;refine ⟨lh,_,_,rfl,rfl,hd16.l,by rw [zRn,zRj];omega,?_⟩;have hd17:=hd16.add e16 (s46 _ _ e14) (s16 _ _ e15) nkh ncp one;have n17:zj H16 (L2.upd H16 lh (.lst (ts.map V.ref++ [.ref tp]))):=zj.lst hd16.l;have b17:Bt1 lh H (L2.upd H16 lh (.lst (ts.map V.ref++ [.ref tp]))):=fun b o n e=>by rw [zQ n];exact s0g _ _ e
    have hv17:=(hv.same s0g).sameN n17;have hx17:=(hx.same s0g).sameT n17.t;have et17:=n17 _ _ (s0g _ _ et) fun _ z=>by cases z
    generalize L2.upd H16 lh (.lst (ts.map V.ref++ [.ref tp]))=H17 at hd17 n17 b17 hv17 hx17 et17;clear n17 hd16 s0g s46 ncp s15 e15 hd14 s16 e16 e14 s0e hcp;refine ⟨_,rfl,t,_,dx,fs,rfl,et17,nk,sM _ (by simp [shN]),_,e,rfl,hv17,ok,d10,fun l1 ys1 H18 s18 n18 e18 pk18=>⟨_,rfl,_,e,rfl,hx17.same s18,ok,fun l2 xs2 H19 s19 n19 e19 hk19=>⟨l1,l2,rfl,⟨_,SqL.of (s19 _ _ e18)⟩,⟨_,SqL.of e19⟩,?_⟩⟩⟩;have e18:=s19 _ _ e18;have pk19:Paired (fun v e=>NdX (NK K fT fKd fSz fDp) c H19 e v) ys1 (zX e):=Paired.mapM pk18 fun _ _ _ h=>h.same s19;have s79:=s18.trans s19;have hd19:=hd17.same s79;have nl1:l1≠lh:=fun z=>by rw [z,hd17.l] at n18;cases n18
    have nl2:l2≠lh:=fun z=>by rw [z,s18 _ _ hd17.l] at n19;cases n19
    have lk3:=Paired.len pk19;have lk4:=Paired.len hk19;clear pk18 n18 n19 s18 s19;have nk1:=zAR e;have nk1:zI e=1+sn (zX e):=nk1;refine zAz (zX e).length (fun i σ H'=> ∃(ts':List Addr) (s6 s7:Option V),σ= [some (.ref t),some (.ref tx),some (.ref lh),some (.ref l5),some (.ref wl),some (.ref kh),s6,s7] /\i<=(zX e).length/\Bt1 lh H19 H'/\Hld H' lh ts'/\ts'.length=ts.length+1+sn ((zX e).take i))
     ⟨_,none,none,rfl,zRr _,fun b o n e=>e,hd19,by simp [sn]⟩ ?_ ?_ ?_ ?_
    ·rintro i σ H' hi ⟨ts',s6,s7,rfl,_,b1,_⟩;exact ⟨_,_,_,_,SqL.of (b1 _ _ nl1 e18),SqL.of (b1 _ _ nl2 e19),zRc (by omega),zRc (by omega)⟩
    ·rintro σ H' ⟨ts',s6,s7,rfl,_,b1,_⟩;exact ⟨_,_,SqL.of (b1 _ _ nl1 e18),SqL.of (b1 _ _ nl2 e19),.inl (by omega)⟩
    ·rintro i σ H' y H'' hi ⟨ts',s6,s7,rfl,_,b1,hd',lt'⟩ ⟨tz,kid,due,hkid,hdue,ntz,rfl,rfl⟩;have hkid:=hkid _ (SqL.of (b1 _ _ nl1 e18));have hdue:=hdue _ (SqL.of (b1 _ _ nl2 e19));obtain ⟨k,ek,hk⟩:=Paired.get' pk19 hkid;obtain ⟨k',ek',hk'⟩:=Paired.get' hk19 hdue;rw [ek] at ek';cases ek';have hkm:=zSE ek;have dk:=yG hkm;have sk:=zPh ek;have st:=zLh (zX e) (i+1);have nB:=b1.n hd19.l;have sz:=zB.upd (o:= .tup [kid,due]) ntz;refine ⟨tz,_,rfl,SqT.of zD,rfl,kid,[due],rfl,due,[],rfl,rfl,?_⟩;refine ⟨_,rfl,_,rfl,_,rfl,kid,due,lh,k,ts',rfl,(hk.sameN nB).same sz,Xt.same sz (hk'.sameT nB.t),yc ok hkm,by omega,by omega,by omega,hd'.same sz,by omega,fun H3 ts3 b3 hd3 lt3=>⟨_,rfl,zE ⟨ts3,_,_,rfl,hi,b1.trans ((zB.bt1 sz).trans b3),hd3,by omega⟩⟩⟩
    ·rintro σ H' ⟨ts',s6,s7,rfl,_,b1,hd',lt'⟩;rw [List.take_of_length_le (zRg _)] at lt';have nB:=b1.n hd19.l;have et20:=nB _ _ (s79 _ _ et17) fun _ z=>by cases z
     refine ⟨_,rfl,t,_,dx,fs,rfl,et20,nk,sM _ (by simp [shN]),_,e,rfl,(hv17.same s79).sameN nB,ok,d10,fun l1 ys1 H20 s20 n20 e20 pk20=>⟨l1,_,rfl,.inl (SqL.of e20),_,rfl,_,e,rfl,((hx17.same s79).sameT nB.t).same s20,ok,fun l2 xs2 H21 s21 n21 e21 hk21=>⟨l2,_,rfl,.inl (SqL.of e21),rfl,?_⟩⟩⟩;have lk5:=Paired.len pk20;have lk6:=Paired.len hk21;rw [show ys1.length=xs2.length by omega,zRz rfl];exact q H21 ts' (b17.trans ((zB.bt1 s79).trans (b1.trans ((zB.bt1 s20).trans (zB.bt1 s21))))) (hd'.same (s20.trans s21)) (by omega)
def zBn:Nat->Ex->Ex
 | 0,e=>e
 | n+1,e=> .neg (zBn n e)
def wid:Nat->Nat->Ex->Ex
 | 0,_,e=>e
 | d+1,n,e=>if n<=1 then e else .bin "plus" (wid d (n/2) e) (wid d (n - n/2) e)
def cap:Nat->Nat
 | 0=>0
 | d+1=>2^d
theorem zBS{e:Ex}(h:Ok e): ∀n,Ok (zBn n e)
 | 0=>h
 | n+1=>zBS h n
theorem zCA{e:Ex}(h:Ok e): ∀d n,Ok (wid d n e)
 | 0,_=>h
 | d+1,n=>by
  show Ok (if n<=1 then e else .bin "plus" (wid d (n/2) e) (wid d (n - n/2) e));by_cases z:n<=1
  ·rw [if_pos z];exact h
  ·rw [if_neg z];exact ⟨.inl rfl,zCA h d _,zCA h d _⟩
def zOX:Sp:=fun vs H Q _=> ∃(x:V) (k:Nat) (e:Ex),vs= [x,.int k] /\Xt H e x/\k<=100/\ ∀y H',zB H H'->Xt H' (zBn k e) y->Q y H'
theorem zKH:FnScope ["_law_told","_law_many","_law_k"] ["_law_told","_law_many"] (zM zCv):=fs
theorem zPS{f:Addr}{fd:FuncData}(F:Fun K "_law_within" "_law_within" zCv f fd)(B:Bn mg):FnOk P w K mg base CX0 1 f fd ["_law_told","_law_many"] zOX:=by
 refine F.ok zKH (fun vs H Q E h=>?_) (fun _ A _ s H vs Q E hr h=>?_)
 ·obtain ⟨x,k,e,rfl,_⟩:=h;rfl
 ·obtain ⟨x,k,e,rfl,hx,k9,q⟩:=h;refine ⟨_,QB.out (zF
   (zBi PassesOwn.never rfl (zBd rfl B.range (qc (qw 1 rfl) zA rfl) rfl) (zq 2 zKH.nd rfl (Or.inl rfl) (.inr rfl)) (zK
    (zd 0 zKH.nd rfl (zJ (qc zG (qc (qw 0 rfl) zA rfl) rfl)) rfl)) (fun _=>rfl)) (zK
   (zR (qw 0 rfl)))),?_⟩
  refine ⟨_,rfl,_,rfl,by omega,by omega,?_⟩;rw [Int.toNat_natCast];refine zAz k (fun i σ H'=> ∃(y:V) (s2:Option V),σ= [some y,some (.int k),s2] /\zB H H'/\Xt H' (zBn i e) y) ⟨x,none,rfl,zB.refl H,hx⟩ ?_ ?_ ?_ ?_
  ·rintro i σ H' hi _;exact hi
  ·rintro σ H' _;exact zRg _
  ·rintro i σ H' y H'' hi ⟨z,s2,rfl,s1,hz⟩ ⟨rfl,rfl⟩;exact ⟨_,rfl,nw fun p G s2 e2=>⟨_,_,rfl,s1.trans s2,p,z,rfl,e2,hz.same s2⟩⟩
  ·rintro σ H' ⟨z,s2,rfl,s1,hz⟩;exact ⟨_,rfl,q z H' s1 hz⟩
def zNJ(d:Nat):Sp:=fun vs H Q _=> ∃(n:Nat) (x:V) (e:Ex),vs= [.int n,x] /\1<=n/\n<=cap d/\n<=1000/\Xt H e x/\ ∀y H',zB H H'->Xt H' (wid d n e) y->Q y H'
theorem zMz:FnScope ["_law_many","_law_leaf_here"] ["_law_many","_law_leaf_here"] (zM zFK):=fs
theorem zQB{f:Addr}{fd:FuncData}(FW:Fun K "_law_wide" "_law_wide" zFK f fd)(bW:zL K fd ["_law_many","_law_leaf_here"] [])(mW:mg "_law_wide" =some (.ref f)): ∀d,FnOk P w K mg base CX0 (1+d) f fd ["_law_many","_law_leaf_here"] (zNJ d):=by
 intro d
 induction d with
 | zero=>
  refine FW.ok zMz (fun vs H Q E h=>?_) (fun cdv A outer s H vs Q E hr h=>?_)
  ·obtain ⟨n,x,e,rfl,_⟩:=h;rfl
  ·obtain ⟨n,x,e,rfl,h1,h2,_⟩:=h;have h2:n<=0:=h2;omega
 | succ d GW=>
  refine FW.ok zMz (fun vs H Q E h=>?_) (fun cdv A outer s H vs Q E hrW h=>?_)
  ·obtain ⟨n,x,e,rfl,_⟩:=h;rfl
  ·obtain ⟨n,x,e,rfl,h1,h2,h3,hx,q⟩:=h;have hrW:Room (1+d) _:=hrW;refine ⟨_,QB.out (zF
   (zf (zU zh (qw 0 rfl) zC rfl) (zK
    (zR (qw 1 rfl))) zZ) (zK
   (zR (zJ (qc zG (qc (zP GW hrW rfl mW FW.kp bW .nil zH (qc (yA (qw 0 rfl) zC) (qc (qw 1 rfl) zA rfl) rfl) rfl rfl rfl) (qc (zP GW hrW rfl mW FW.kp bW .nil zH (qc (zCY (qw 0 rfl) (yA (qw 0 rfl) zC)) (qc (qw 1 rfl) zA rfl) rfl) rfl rfl rfl) zA rfl) rfl) rfl))))),?_⟩
   have ew:wid (d+1) n e=if n<=1 then e else .bin "plus" (wid d (n/2) e) (wid d (n - n/2) e):=rfl;by_cases z:n=1
   ·subst z;rw [if_pos (zRg 1)] at ew;rw [ew] at q;exact ⟨_,rfl,rfl,_,rfl,zN ⟨_,rfl,q x H (zB.refl H) hx⟩⟩
   ·rw [if_neg (by omega)] at ew;rw [ew] at q;have h2:n<=2^d:=h2;obtain ⟨d',rfl⟩: ∃d',d=d'+1:=⟨d - 1,by
     cases d with
     | zero=>simp at h2;omega
     | succ d=>omega⟩
    have hc:cap (d'+1)=2^d':=rfl;rw [Nat.pow_succ] at h2;refine ⟨_,rfl,rfl,_,rfl,?_⟩;rw [zSA (show¬(V.int (n:Int)=V.int 1) from fun h=>z (by injection h with h;omega))];refine zE ⟨_,rfl,_,_,rfl,rfl,⟨by decide,by decide⟩,_,rfl,n/2,x,e,?_,by omega,by omega,by omega,hx,fun y H1 s1 hy=>?_⟩
    ·rw [show ((n:Int)/2)=((n/2:Nat):Int) by omega];rfl
    refine ⟨_,rfl,_,rfl,_,_,rfl,rfl,⟨by decide,by decide⟩,_,_,rfl,rfl,_,rfl,n - n/2,x,e,?_,by omega,by omega,by omega,hx.same s1,fun u H2 s2 hu=>nw fun p H3 s3 e3=>q _ H3 (s1.trans (s2.trans s3)) ⟨p,y,u,rfl,e3,hy.same (s2.trans s3),hu.same s3⟩⟩;rw [show ((n:Int) -(n:Int)/2)=((n - n/2:Nat):Int) by omega];rfl
def zGE(NC:Addr->Prop)(c:Cz):Sp:=fun vs H Q _=> ∃(x:V) (e:Ex),vs= [x] /\Xt H e x/\Ok e/\zI e<=40/\zO e<=10/\ ∀v H',zB H H'->NdX NC c H' e v->Q v H'
theorem zPL{NC:Addr->Prop}{c:Cz}{BT f:Addr}{fd:FuncData}(G:FnOk P w K mg base (zBf P w) 15 f fd ["told"] (zJc NC c BT)):FnOk P w K mg base CX0 15 f fd ["told"] (zGE NC c):=FnOk.calm G fun vs H Q E ⟨x,e,r,h⟩=>⟨x,r,.inl ⟨e,h⟩⟩
theorem zJd:FnScope ["_law_told","_law_kids_here","_law_found"] ["_law_told"] (zM zFH):=fs
theorem zIq{e k:Ex}(h:k∈zX e):zI k<=zI e:=by
 cases e<;>simp [zX] at h<;>simp only [zI] <;>first | omega |(rcases h with rfl | rfl | rfl | rfl<;>omega)|(rcases h with rfl | rfl | rfl<;>omega)|(rcases h with rfl | rfl<;>omega)|(subst h;omega)
theorem zPe{f fK fNo fNum fNam fNeg fSum fPro fPow fCho fLoo fCal:Addr}{fd fdK fdNo fdNum fdNam fdNeg fdSum fdPro fdPow fdCho fdLoo fdCal:FuncData}{NC:Addr->Prop}{c:Cz}(F:Fun K "_law_made" "_law_made" zFH f fd)(B:Bn mg)(ck:CzK NC c)
  (MNum:Mk K c.num fNum) (mNum:mg "Number" =some (.ref c.num)) (bNum:zL K fdNum ["self","amount","unit"] []) (GNum:FnOk P w K mg base CX0 2 fNum fdNum ["self","amount","unit"] (zGP NC c.num))
  (MNam:Mk K c.nam fNam) (mNam:mg "Name" =some (.ref c.nam)) (bNam:zL K fdNam ["self","name"] []) (GNam:FnOk P w K mg base CX0 2 fNam fdNam ["self","name"] (zGd NC c.nam))
  (MNeg:Mk K c.neg fNeg) (mNeg:mg "Negative" =some (.ref c.neg)) (bNeg:zL K fdNeg ["self","node"] []) (GNeg:FnOk P w K mg base CX0 2 fNeg fdNeg ["self","node"] (zFd NC c.neg))
  (MSum:Mk K c.sum fSum) (mSum:mg "Sum" =some (.ref c.sum)) (bSum:zL K fdSum ["self","one","other","sign"] []) (GSum:FnOk P w K mg base CX0 2 fSum fdSum ["self","one","other","sign"] (zFf NC c.sum))
  (MPro:Mk K c.pro fPro) (mPro:mg "Product" =some (.ref c.pro)) (bPro:zL K fdPro ["self","one","other","sign"] []) (GPro:FnOk P w K mg base CX0 2 fPro fdPro ["self","one","other","sign"] (zGM NC c.pro))
  (MPow:Mk K c.pow fPow) (mPow:mg "Power" =some (.ref c.pow)) (bPow:zL K fdPow ["self","node","exponent"] []) (GPow:FnOk P w K mg base CX0 2 fPow fdPow ["self","node","exponent"] (zGf NC c.pow))
  (MCho:Mk K c.cho fCho) (mCho:mg "Choice" =some (.ref c.cho)) (bCho:zL K fdCho ["self","one","other","yes","no"] []) (GCho:FnOk P w K mg base CX0 2 fCho fdCho ["self","one","other","yes","no"] (zGV NC c.cho))
  (MLoo:Mk K c.loo fLoo) (mLoo:mg "Loop" =some (.ref c.loo)) (bLoo:zL K fdLoo ["self","name","start","rounds","body"] []) (GLoo:FnOk P w K mg base CX0 2 fLoo fdLoo ["self","name","start","rounds","body"] (zFn NC c.loo))
  (MCal:Mk K c.cal fCal) (mCal:mg "Call" =some (.ref c.cal)) (bCal:zL K fdCal ["self","name","nodes"] []) (GCal:FnOk P w K mg base CX0 2 fCal fdCal ["self","name","nodes"] (zFv NC c.cal))
  (FK:Fun K "_law_kids" "_law_kids" zBJ fK fdK) (bK:zL K fdK ["_law_told"] []) (mK:mg "_law_kids" =some (.ref fK)) (GK:FnOk P w K mg base CX0 1 fK fdK ["_law_told"] zGL)
  (FNo:Fun K "node_of" "node_of" zCz fNo fdNo) (bNo:zL K fdNo ["told"] []) (mNo:mg "node_of" =some (.ref fNo)) (GNo:FnOk P w K mg base CX0 15 fNo fdNo ["told"] (zGE NC c)):FnOk P w K mg base CX0 16 f fd ["_law_told"] (zGE NC c):=by
 refine F.ok zJd (fun vs H Q E h=>?_) (fun _ A _ s H vs Q E hr15 h=>?_)
 ·obtain ⟨x,e,rfl,_⟩:=h;rfl
 ·obtain ⟨x,e,rfl,hx,ok,n4,d1,q⟩:=h;have hr15:Room 15 _:=hr15;have hr2:Room (2+1) _:=hr15.mono (by decide);have hr1:Room 1 _:=hr15.mono (by decide);refine ⟨_,QB.out (zF
   (zCC (cl:= []) zBj 1 (by exact zJd.nd) rfl (Or.inl rfl) (.inr rfl) ["_law_kid"] [] [] rfl (zAm (K:=K) rfl (zP GK hr1 rfl mK FK.kp bK .nil zH (qc (qw 0 rfl) zA rfl) rfl rfl rfl)) rfl (by decide+kernel) rfl (by decide+kernel) (fun _ _ h=>nomatch h) rfl (fun j y i h=>nomatch h) (yJ rfl) (fun _ _ _ _=>(zq 0 (show (["_law_kid"] :List Str).Nodup by decide+kernel) rfl (.inl rfl) (.inr rfl))) (fun _ _ _ _=>yy) (fun C s₂ H₂ fp xe E hp=>(zP GNo hr15 rfl mNo FNo.kp bNo .nil zH (qc (qw 0 rfl) zA rfl) rfl rfl rfl)) (fun _=>rfl) rfl) (zF
   (zf (zU zh (zY (K:=K) rfl (qw 0 rfl) zC (fun _ _=>rfl)) zG rfl) (zK
    (zR (yQ MNum GNum hr2 rfl mNum bNum .nil zH (qc (zY (K:=K) rfl (qw 0 rfl) zC (fun _ _=>rfl)) (qc (zY (K:=K) rfl (qw 0 rfl) zC (fun _ _=>rfl)) zA rfl) rfl) rfl rfl rfl))) zZ) (zF
   (zf (zU zh (zY (K:=K) rfl (qw 0 rfl) zC (fun _ _=>rfl)) zG rfl) (zK
    (zR (yQ MNam GNam hr2 rfl mNam bNam .nil zH (qc (zY (K:=K) rfl (qw 0 rfl) zC (fun _ _=>rfl)) zA rfl) rfl rfl rfl))) zZ) (zF
   (zf (zU zh (zY (K:=K) rfl (qw 0 rfl) zC (fun _ _=>rfl)) zG rfl) (zK
    (zR (yQ MNeg GNeg hr2 rfl mNeg bNeg .nil zH (qc (zg (K:=K) rfl (qw 1 rfl) zC (fun _ _=>rfl)) zA rfl) rfl rfl rfl))) zZ) (zF
   (zf (zU (zCm (K:=K) rfl) (zY (K:=K) rfl (qw 0 rfl) zC (fun _ _=>rfl)) (zJ (qc zG (qc zG zA rfl) rfl)) rfl) (zK
    (zR (yQ MSum GSum hr2 rfl mSum bSum .nil zH (qc (zg (K:=K) rfl (qw 1 rfl) zC (fun _ _=>rfl)) (qc (zg (K:=K) rfl (qw 1 rfl) zC (fun _ _=>rfl)) (qc (zY (K:=K) rfl (qw 0 rfl) zC (fun _ _=>rfl)) zA rfl) rfl) rfl) rfl rfl rfl))) zZ) (zF
   (zf (zU (zCm (K:=K) rfl) (zY (K:=K) rfl (qw 0 rfl) zC (fun _ _=>rfl)) (zJ (qc zG (qc zG zA rfl) rfl)) rfl) (zK
    (zR (yQ MPro GPro hr2 rfl mPro bPro .nil zH (qc (zg (K:=K) rfl (qw 1 rfl) zC (fun _ _=>rfl)) (qc (zg (K:=K) rfl (qw 1 rfl) zC (fun _ _=>rfl)) (qc (zY (K:=K) rfl (qw 0 rfl) zC (fun _ _=>rfl)) zA rfl) rfl) rfl) rfl rfl rfl))) zZ) (zF
   (zf (zU zh (zY (K:=K) rfl (qw 0 rfl) zC (fun _ _=>rfl)) zG rfl) (zK
    (zR (yQ MPow GPow hr2 rfl mPow bPow .nil zH (qc (zg (K:=K) rfl (qw 1 rfl) zC (fun _ _=>rfl)) (qc (zY (K:=K) rfl (qw 0 rfl) zC (fun _ _=>rfl)) zA rfl) rfl) rfl rfl rfl))) zZ) (zF
   (zf (zU zh (zY (K:=K) rfl (qw 0 rfl) zC (fun _ _=>rfl)) zG rfl) (zK
    (zR (yQ MCho GCho hr2 rfl mCho bCho .nil zH (qc (zg (K:=K) rfl (qw 1 rfl) zC (fun _ _=>rfl)) (qc (zg (K:=K) rfl (qw 1 rfl) zC (fun _ _=>rfl)) (qc (zg (K:=K) rfl (qw 1 rfl) zC (fun _ _=>rfl)) (qc (zg (K:=K) rfl (qw 1 rfl) zC (fun _ _=>rfl)) zA rfl) rfl) rfl) rfl) rfl rfl rfl))) zZ) (zF
   (zf (zU zh (zY (K:=K) rfl (qw 0 rfl) zC (fun _ _=>rfl)) zG rfl) (zK
    (zR (yQ MLoo GLoo hr2 rfl mLoo bLoo .nil zH (qc (zY (K:=K) rfl (qw 0 rfl) zC (fun _ _=>rfl)) (qc (zg (K:=K) rfl (qw 1 rfl) zC (fun _ _=>rfl)) (qc (zY (K:=K) rfl (qw 0 rfl) zC (fun _ _=>rfl)) (qc (zg (K:=K) rfl (qw 1 rfl) zC (fun _ _=>rfl)) zA rfl) rfl) rfl) rfl) rfl rfl rfl))) zZ) (zF
   (zd 2 zJd.nd rfl (yQ MCal GCal hr2 rfl mCal bCal .nil zH (qc (zY (K:=K) rfl (qw 0 rfl) zC (fun _ _=>rfl)) (qc (zQW (zU zCX (zk (zu (K:=K) rfl) rfl B.len yM (qc (qw 1 rfl) zA rfl) rfl) zC rfl) (qw 1 rfl) (zBw (zAK (K:=K) rfl) rfl B.tuple yT (qc (qw 1 rfl) zA rfl) rfl)) zA rfl) rfl) rfl rfl rfl) rfl) (zF
   (yO (yo (K:=K) rfl (qw 1 rfl) (yQ MNam GNam hr2 rfl mNam bNam .nil zH (qc zG zA rfl) rfl rfl rfl) rfl rfl rfl) rfl) (zK
   (zR (qw 2 rfl)))))))))))))),?_⟩
  have done: ∀(H1 H':Hp) (x dx p:Addr) (fs:List (Str×V)),zB H H1->H1 x=none->H1 dx=none->(∀b o,(L2.upd (L2.upd H1 dx (.own x)) x (.ins (c.of e) dx [])) b=some o->b≠x->H' b=some o)->H' x=some (.ins (c.of e) dx fs)->fs.lookup ("parts" :Str)=some (.ref p)->(∀m∈shN,fs.lookup m=none)->(zB H1 H'->Xt H' e (.ref p))->Q (.ref x) H':=fun H1 H' x dx p fs s01 hx hdx keep et lp sh xt=>
   have s:=zAI hx hdx keep
   q (.ref x) H' (s01.trans s) ⟨.ref p,⟨x,dx,fs,rfl,et,ck.of e,lp,sh⟩,xt s⟩
  refine ⟨_,rfl,x,e,rfl,hx,ok,fun l ks H1 s1 nl el kd=>⟨l,rfl,⟨_,SqL.of el⟩,fun D hD=>?_⟩⟩;have lk:=Paired.len kd;have k4:=zAd e;refine zi ks.length (fun i ys H'=>i<=ks.length/\ys.length=i/\zB H1 H'/\H' D=some (.lst ys)/\Paired (fun v e=>NdX NC c H' e v) ys ((zX e).take i)) ⟨zRr _,rfl,zB.upd hD,zD,.nil⟩ (by rw [zRn];omega) ?_ ?_ ?_
  ·rintro i ys H' hi ⟨_,ly,s2,eD,_⟩;exact ⟨by omega,eD,fun h=>⟨_,_,SqL.of (s2 _ _ el),zRc h⟩,fun h=>⟨_,SqL.of (s2 _ _ el),by omega⟩⟩
  ·rintro i ys H' y H'' hi ⟨_,ly,s2,eD,pr⟩ ⟨rfl,hy⟩ pre hpre;obtain ⟨p0,rfl⟩:=yd hpre;have hy':=hy _ (SqL.of (s2 _ _ el));rw [zRc hi] at hy';cases hy';obtain ⟨k,ek,hk⟩:=Paired.get' kd (zRc hi);have hkm:=zSE ek;have dk:=yG hkm;have nk:=zIq hkm;refine ⟨⟨[some ks[i]],rfl,rfl⟩,zN ⟨_,rfl,ks[i],k,rfl,hk.same s2,yc ok hkm,by omega,by omega,fun v H3 s3 nd=>⟨s3 _ _ eD,hi,by simp [ly],zB.store (s2.trans s3) hD,zD,?_⟩⟩⟩;rw [zRy,ek];have sN:zj H3 (L2.upd H3 D (.lst (ys++ [v]))):=zj.lst (s3 _ _ eD);exact Paired.snoc' (Paired.mapM pr fun _ _ _ h=>(h.same s3).sameN sN) (nd.sameN sN)
  ·rintro ys H2 ⟨_,ly,s2,eD,pr⟩;rw [List.take_of_length_le (by omega)] at pr;have s02:=s1.trans s2;have nD:H D=none:=zB.none s1 hD;clear kd el nl s1 s2 hD;cases e with
   | num a b u=>
    obtain ⟨t,p0,y,rfl,h1,h2,h3⟩:=hx;refine ⟨_,rfl,t,_,_,_,rfl,rfl,SqT.of (s02 _ _ h1),rfl,rfl,_,rfl,zN ?_⟩;exact ⟨_,rfl,t,_,_,_,rfl,rfl,SqT.of (s02 _ _ h1),rfl,_,rfl,t,_,_,_,rfl,rfl,SqT.of (s02 _ _ h1),rfl,fun x dx hx hdx hne=>⟨x,dx,_,_,rfl,zD,fun H' p fs keep ep et lp sh=>⟨rfl,done H2 H' x dx p fs s02 hx hdx keep et lp sh fun s=>⟨p,_,_,rfl,ep,s _ _ (s02 _ _ h2),(h3.same s02).same s⟩⟩⟩⟩
   | nam n=>
    obtain ⟨t,rfl,h1⟩:=hx;refine ⟨_,rfl,t,_,_,_,rfl,rfl,SqT.of (s02 _ _ h1),rfl,rfl,_,rfl,zE ?_⟩;refine ⟨_,rfl,t,_,_,_,rfl,rfl,SqT.of (s02 _ _ h1),rfl,rfl,_,rfl,zN ?_⟩;exact ⟨_,rfl,t,_,_,_,rfl,rfl,SqT.of (s02 _ _ h1),rfl,fun x dx hx hdx hne=>⟨x,dx,_,rfl,zD,fun H' p fs keep ep et lp sh=>⟨rfl,done H2 H' x dx p fs s02 hx hdx keep et lp sh fun s=>⟨p,rfl,ep⟩⟩⟩⟩
   | neg a=>
    obtain ⟨t,x,rfl,h1,_⟩:=hx;obtain ⟨v0,rfl,⟨p0,n0,x0⟩⟩:=pd1 pr;refine ⟨_,rfl,t,_,_,_,rfl,rfl,SqT.of (s02 _ _ h1),rfl,rfl,_,rfl,zE ?_⟩;refine ⟨_,rfl,t,_,_,_,rfl,rfl,SqT.of (s02 _ _ h1),rfl,rfl,_,rfl,zE ?_⟩;refine ⟨_,rfl,t,_,_,_,rfl,rfl,SqT.of (s02 _ _ h1),rfl,rfl,_,rfl,zN ?_⟩;exact ⟨_,rfl,D,_,_,_,rfl,rfl,SqL.of eD,rfl,fun x dx hx hdx hne=>⟨x,dx,_,_,_,rfl,zD,n0.same (zV hx hdx),fun H' p fs keep ep et lp sh=>⟨rfl,done H2 H' x dx p fs s02 hx hdx keep et lp sh fun s=>⟨p,_,rfl,ep,x0.same s⟩⟩⟩⟩
   | bin w a b=>
    obtain ⟨hw,oka,okb⟩:=id ok;obtain ⟨t,x,y,rfl,h1,_,_⟩:=hx;obtain ⟨v0,v1,rfl,⟨p0,n0,x0⟩,⟨p1,n1,x1⟩⟩:=pd2 pr;rcases hw with rfl | rfl | rfl | rfl
    ·have zz:=trivial;refine ⟨_,rfl,t,_,_,_,rfl,rfl,SqT.of (s02 _ _ h1),rfl,rfl,_,rfl,zE ?_⟩;refine ⟨_,rfl,t,_,_,_,rfl,rfl,SqT.of (s02 _ _ h1),rfl,rfl,_,rfl,zE ?_⟩;refine ⟨_,rfl,t,_,_,_,rfl,rfl,SqT.of (s02 _ _ h1),rfl,rfl,_,rfl,zE ?_⟩;refine ⟨_,rfl,t,_,_,_,rfl,rfl,SqT.of (s02 _ _ h1),rfl,nw fun qq1 G1 r1 f1=>⟨qq1,_,rfl,.inr (SqT.of f1),rfl,rfl,_,rfl,zN ?_⟩⟩;have sc1:=s02.trans r1;have s21:=r1;exact ⟨_,rfl,D,_,_,_,rfl,rfl,SqL.of (s21 _ _ eD),rfl,_,rfl,D,_,_,_,rfl,rfl,SqL.of (s21 _ _ eD),rfl,_,rfl,t,_,_,_,rfl,rfl,SqT.of (sc1 _ _ h1),rfl,fun x dx hx hdx hne=>⟨x,dx,_,_,_,_,_,_,_,rfl,zD,(n0.same s21).same (zV hx hdx),(n1.same s21).same (zV hx hdx),fun H' p fs keep ep et lp sh=>⟨rfl,done G1 H' x dx p fs sc1 hx hdx keep et lp sh fun s=>⟨p,_,_,rfl,ep,(x0.same s21).same s,(x1.same s21).same s⟩⟩⟩⟩
    ·have zz:=trivial;refine ⟨_,rfl,t,_,_,_,rfl,rfl,SqT.of (s02 _ _ h1),rfl,rfl,_,rfl,zE ?_⟩;refine ⟨_,rfl,t,_,_,_,rfl,rfl,SqT.of (s02 _ _ h1),rfl,rfl,_,rfl,zE ?_⟩;refine ⟨_,rfl,t,_,_,_,rfl,rfl,SqT.of (s02 _ _ h1),rfl,rfl,_,rfl,zE ?_⟩;refine ⟨_,rfl,t,_,_,_,rfl,rfl,SqT.of (s02 _ _ h1),rfl,nw fun qq1 G1 r1 f1=>⟨qq1,_,rfl,.inr (SqT.of f1),rfl,rfl,_,rfl,zN ?_⟩⟩;have sc1:=s02.trans r1;have s21:=r1;exact ⟨_,rfl,D,_,_,_,rfl,rfl,SqL.of (s21 _ _ eD),rfl,_,rfl,D,_,_,_,rfl,rfl,SqL.of (s21 _ _ eD),rfl,_,rfl,t,_,_,_,rfl,rfl,SqT.of (sc1 _ _ h1),rfl,fun x dx hx hdx hne=>⟨x,dx,_,_,_,_,_,_,_,rfl,zD,(n0.same s21).same (zV hx hdx),(n1.same s21).same (zV hx hdx),fun H' p fs keep ep et lp sh=>⟨rfl,done G1 H' x dx p fs sc1 hx hdx keep et lp sh fun s=>⟨p,_,_,rfl,ep,(x0.same s21).same s,(x1.same s21).same s⟩⟩⟩⟩
    ·have zz:=trivial;refine ⟨_,rfl,t,_,_,_,rfl,rfl,SqT.of (s02 _ _ h1),rfl,rfl,_,rfl,zE ?_⟩;refine ⟨_,rfl,t,_,_,_,rfl,rfl,SqT.of (s02 _ _ h1),rfl,rfl,_,rfl,zE ?_⟩;refine ⟨_,rfl,t,_,_,_,rfl,rfl,SqT.of (s02 _ _ h1),rfl,rfl,_,rfl,zE ?_⟩;refine ⟨_,rfl,t,_,_,_,rfl,rfl,SqT.of (s02 _ _ h1),rfl,nw fun qq1 G1 r1 f1=>⟨qq1,_,rfl,.inr (SqT.of f1),rfl,rfl,_,rfl,zE ?_⟩⟩;have sc1:=s02.trans r1;have s21:=r1;refine ⟨_,rfl,t,_,_,_,rfl,rfl,SqT.of (sc1 _ _ h1),rfl,nw fun qq2 G2 r2 f2=>⟨qq2,_,rfl,.inr (SqT.of f2),rfl,rfl,_,rfl,zN ?_⟩⟩;have sc2:=sc1.trans r2;have s22:=s21.trans r2;exact ⟨_,rfl,D,_,_,_,rfl,rfl,SqL.of (s22 _ _ eD),rfl,_,rfl,D,_,_,_,rfl,rfl,SqL.of (s22 _ _ eD),rfl,_,rfl,t,_,_,_,rfl,rfl,SqT.of (sc2 _ _ h1),rfl,fun x dx hx hdx hne=>⟨x,dx,_,_,_,_,_,_,_,rfl,zD,(n0.same s22).same (zV hx hdx),(n1.same s22).same (zV hx hdx),fun H' p fs keep ep et lp sh=>⟨rfl,done G2 H' x dx p fs sc2 hx hdx keep et lp sh fun s=>⟨p,_,_,rfl,ep,(x0.same s22).same s,(x1.same s22).same s⟩⟩⟩⟩
    ·have zz:=trivial;refine ⟨_,rfl,t,_,_,_,rfl,rfl,SqT.of (s02 _ _ h1),rfl,rfl,_,rfl,zE ?_⟩;refine ⟨_,rfl,t,_,_,_,rfl,rfl,SqT.of (s02 _ _ h1),rfl,rfl,_,rfl,zE ?_⟩;refine ⟨_,rfl,t,_,_,_,rfl,rfl,SqT.of (s02 _ _ h1),rfl,rfl,_,rfl,zE ?_⟩;refine ⟨_,rfl,t,_,_,_,rfl,rfl,SqT.of (s02 _ _ h1),rfl,nw fun qq1 G1 r1 f1=>⟨qq1,_,rfl,.inr (SqT.of f1),rfl,rfl,_,rfl,zE ?_⟩⟩;have sc1:=s02.trans r1;have s21:=r1;refine ⟨_,rfl,t,_,_,_,rfl,rfl,SqT.of (sc1 _ _ h1),rfl,nw fun qq2 G2 r2 f2=>⟨qq2,_,rfl,.inr (SqT.of f2),rfl,rfl,_,rfl,zN ?_⟩⟩;have sc2:=sc1.trans r2;have s22:=s21.trans r2;exact ⟨_,rfl,D,_,_,_,rfl,rfl,SqL.of (s22 _ _ eD),rfl,_,rfl,D,_,_,_,rfl,rfl,SqL.of (s22 _ _ eD),rfl,_,rfl,t,_,_,_,rfl,rfl,SqT.of (sc2 _ _ h1),rfl,fun x dx hx hdx hne=>⟨x,dx,_,_,_,_,_,_,_,rfl,zD,(n0.same s22).same (zV hx hdx),(n1.same s22).same (zV hx hdx),fun H' p fs keep ep et lp sh=>⟨rfl,done G2 H' x dx p fs sc2 hx hdx keep et lp sh fun s=>⟨p,_,_,rfl,ep,(x0.same s22).same s,(x1.same s22).same s⟩⟩⟩⟩
   | pow a k=>
    obtain ⟨t,x,rfl,h1,_⟩:=hx;obtain ⟨v0,rfl,⟨p0,n0,x0⟩⟩:=pd1 pr;refine ⟨_,rfl,t,_,_,_,rfl,rfl,SqT.of (s02 _ _ h1),rfl,rfl,_,rfl,zE ?_⟩;refine ⟨_,rfl,t,_,_,_,rfl,rfl,SqT.of (s02 _ _ h1),rfl,rfl,_,rfl,zE ?_⟩;refine ⟨_,rfl,t,_,_,_,rfl,rfl,SqT.of (s02 _ _ h1),rfl,rfl,_,rfl,zE ?_⟩;refine ⟨_,rfl,t,_,_,_,rfl,rfl,SqT.of (s02 _ _ h1),rfl,nw fun qq1 G1 r1 f1=>⟨qq1,_,rfl,.inr (SqT.of f1),rfl,rfl,_,rfl,zE ?_⟩⟩;have sc1:=s02.trans r1;have s21:=r1;refine ⟨_,rfl,t,_,_,_,rfl,rfl,SqT.of (sc1 _ _ h1),rfl,nw fun qq2 G2 r2 f2=>⟨qq2,_,rfl,.inr (SqT.of f2),rfl,rfl,_,rfl,zE ?_⟩⟩;have sc2:=sc1.trans r2;have s22:=s21.trans r2;refine ⟨_,rfl,t,_,_,_,rfl,rfl,SqT.of (sc2 _ _ h1),rfl,rfl,_,rfl,zN ?_⟩;exact ⟨_,rfl,D,_,_,_,rfl,rfl,SqL.of (s22 _ _ eD),rfl,_,rfl,t,_,_,_,rfl,rfl,SqT.of (sc2 _ _ h1),rfl,fun x dx hx hdx hne=>⟨x,dx,_,_,_,_,rfl,zD,(n0.same s22).same (zV hx hdx),fun H' p fs keep ep et lp sh=>⟨rfl,done G2 H' x dx p fs sc2 hx hdx keep et lp sh fun s=>⟨p,_,rfl,ep,(x0.same s22).same s⟩⟩⟩⟩
   | ite a b g h=>
    obtain ⟨t,x,y,z,u,rfl,h1,_⟩:=hx;obtain ⟨v0,v1,v2,v3,rfl,⟨p0,n0,x0⟩,⟨p1,n1,x1⟩,⟨p2,n2,x2⟩,⟨p3,n3,x3⟩⟩:=pd4 pr;refine ⟨_,rfl,t,_,_,_,rfl,rfl,SqT.of (s02 _ _ h1),rfl,rfl,_,rfl,zE ?_⟩;refine ⟨_,rfl,t,_,_,_,rfl,rfl,SqT.of (s02 _ _ h1),rfl,rfl,_,rfl,zE ?_⟩;refine ⟨_,rfl,t,_,_,_,rfl,rfl,SqT.of (s02 _ _ h1),rfl,rfl,_,rfl,zE ?_⟩;refine ⟨_,rfl,t,_,_,_,rfl,rfl,SqT.of (s02 _ _ h1),rfl,nw fun qq1 G1 r1 f1=>⟨qq1,_,rfl,.inr (SqT.of f1),rfl,rfl,_,rfl,zE ?_⟩⟩;have sc1:=s02.trans r1;have s21:=r1;refine ⟨_,rfl,t,_,_,_,rfl,rfl,SqT.of (sc1 _ _ h1),rfl,nw fun qq2 G2 r2 f2=>⟨qq2,_,rfl,.inr (SqT.of f2),rfl,rfl,_,rfl,zE ?_⟩⟩;have sc2:=sc1.trans r2;have s22:=s21.trans r2;refine ⟨_,rfl,t,_,_,_,rfl,rfl,SqT.of (sc2 _ _ h1),rfl,rfl,_,rfl,zE ?_⟩;refine ⟨_,rfl,t,_,_,_,rfl,rfl,SqT.of (sc2 _ _ h1),rfl,rfl,_,rfl,zN ?_⟩;exact ⟨_,rfl,D,_,_,_,rfl,rfl,SqL.of (s22 _ _ eD),rfl,_,rfl,D,_,_,_,rfl,rfl,SqL.of (s22 _ _ eD),rfl,_,rfl,D,_,_,_,rfl,rfl,SqL.of (s22 _ _ eD),rfl,_,rfl,D,_,_,_,rfl,rfl,SqL.of (s22 _ _ eD),rfl,fun x dx hx hdx hne=>⟨x,dx,_,_,_,_,_,_,_,_,_,_,_,_,rfl,zD,(n0.same s22).same (zV hx hdx),(n1.same s22).same (zV hx hdx),(n2.same s22).same (zV hx hdx),(n3.same s22).same (zV hx hdx),fun H' p fs keep ep et lp sh=>⟨rfl,done G2 H' x dx p fs sc2 hx hdx keep et lp sh fun s=>⟨p,_,_,_,_,rfl,ep,(x0.same s22).same s,(x1.same s22).same s,(x2.same s22).same s,(x3.same s22).same s⟩⟩⟩⟩
   | loop n a k b=>
    obtain ⟨t,x,y,rfl,h1,_⟩:=hx;obtain ⟨v0,v1,rfl,⟨p0,n0,x0⟩,⟨p1,n1,x1⟩⟩:=pd2 pr;refine ⟨_,rfl,t,_,_,_,rfl,rfl,SqT.of (s02 _ _ h1),rfl,rfl,_,rfl,zE ?_⟩;refine ⟨_,rfl,t,_,_,_,rfl,rfl,SqT.of (s02 _ _ h1),rfl,rfl,_,rfl,zE ?_⟩;refine ⟨_,rfl,t,_,_,_,rfl,rfl,SqT.of (s02 _ _ h1),rfl,rfl,_,rfl,zE ?_⟩;refine ⟨_,rfl,t,_,_,_,rfl,rfl,SqT.of (s02 _ _ h1),rfl,nw fun qq1 G1 r1 f1=>⟨qq1,_,rfl,.inr (SqT.of f1),rfl,rfl,_,rfl,zE ?_⟩⟩;have sc1:=s02.trans r1;have s21:=r1;refine ⟨_,rfl,t,_,_,_,rfl,rfl,SqT.of (sc1 _ _ h1),rfl,nw fun qq2 G2 r2 f2=>⟨qq2,_,rfl,.inr (SqT.of f2),rfl,rfl,_,rfl,zE ?_⟩⟩;have sc2:=sc1.trans r2;have s22:=s21.trans r2;refine ⟨_,rfl,t,_,_,_,rfl,rfl,SqT.of (sc2 _ _ h1),rfl,rfl,_,rfl,zE ?_⟩;refine ⟨_,rfl,t,_,_,_,rfl,rfl,SqT.of (sc2 _ _ h1),rfl,rfl,_,rfl,zE ?_⟩;refine ⟨_,rfl,t,_,_,_,rfl,rfl,SqT.of (sc2 _ _ h1),rfl,rfl,_,rfl,zN ?_⟩;exact ⟨_,rfl,t,_,_,_,rfl,rfl,SqT.of (sc2 _ _ h1),rfl,_,rfl,D,_,_,_,rfl,rfl,SqL.of (s22 _ _ eD),rfl,_,rfl,t,_,_,_,rfl,rfl,SqT.of (sc2 _ _ h1),rfl,_,rfl,D,_,_,_,rfl,rfl,SqL.of (s22 _ _ eD),rfl,fun x dx hx hdx hne=>⟨x,dx,_,_,_,_,_,_,_,_,rfl,zD,(n0.same s22).same (zV hx hdx),(n1.same s22).same (zV hx hdx),fun H' p fs keep ep et lp sh=>⟨rfl,done G2 H' x dx p fs sc2 hx hdx keep et lp sh fun s=>⟨p,_,_,rfl,ep,(x0.same s22).same s,(x1.same s22).same s⟩⟩⟩⟩
   | call1 n a=>
    obtain ⟨t,qa,x,rfl,h1,_⟩:=hx;obtain ⟨v0,rfl,⟨p0,n0,x0⟩⟩:=pd1 pr;refine ⟨_,rfl,t,_,_,_,rfl,rfl,SqT.of (s02 _ _ h1),rfl,rfl,_,rfl,zE ?_⟩;refine ⟨_,rfl,t,_,_,_,rfl,rfl,SqT.of (s02 _ _ h1),rfl,rfl,_,rfl,zE ?_⟩;refine ⟨_,rfl,t,_,_,_,rfl,rfl,SqT.of (s02 _ _ h1),rfl,rfl,_,rfl,zE ?_⟩;refine ⟨_,rfl,t,_,_,_,rfl,rfl,SqT.of (s02 _ _ h1),rfl,nw fun qq1 G1 r1 f1=>⟨qq1,_,rfl,.inr (SqT.of f1),rfl,rfl,_,rfl,zE ?_⟩⟩;have sc1:=s02.trans r1;have s21:=r1;refine ⟨_,rfl,t,_,_,_,rfl,rfl,SqT.of (sc1 _ _ h1),rfl,nw fun qq2 G2 r2 f2=>⟨qq2,_,rfl,.inr (SqT.of f2),rfl,rfl,_,rfl,zE ?_⟩⟩;have sc2:=sc1.trans r2;have s22:=s21.trans r2;refine ⟨_,rfl,t,_,_,_,rfl,rfl,SqT.of (sc2 _ _ h1),rfl,rfl,_,rfl,zE ?_⟩;refine ⟨_,rfl,t,_,_,_,rfl,rfl,SqT.of (sc2 _ _ h1),rfl,rfl,_,rfl,zE ?_⟩;refine ⟨_,rfl,t,_,_,_,rfl,rfl,SqT.of (sc2 _ _ h1),rfl,rfl,_,rfl,zE ?_⟩;have eD2:=s22 _ _ eD;refine ⟨_,rfl,t,_,_,_,rfl,rfl,SqT.of (sc2 _ _ h1),rfl,_,rfl,D,_,rfl,.inl (SqL.of eD2),rfl,_,rfl,zN ⟨_,rfl,fun x dx hx hdx hne=>⟨x,dx,D,_,_,[p0],rfl,zD,.inl ((zV hx hdx) _ _ eD2),by simp,.cons ⟨_,(n0.same s22).same (zV hx hdx)⟩ .nil,fun H' p q1 fs keep ep eq1 et lp sh=>⟨rfl,?_⟩⟩⟩⟩;have s5:=zAI hx hdx keep;have s6:=sc2.trans s5;have nd:NdX NC c H' (.call1 n a) (.ref x):=⟨.ref p,⟨x,dx,fs,rfl,et,ck.of _,lp,sh⟩,⟨p,q1,_,rfl,ep,eq1,((x0.same s22).same s5)⟩⟩;have eD5:=s5 _ _ eD2;refine ⟨_,rfl,.inl ⟨rfl,_,SqL.of eD5⟩,fun x' dx' hx' hdx' hne'=>⟨x',dx',_,rfl,zD,fun H'' p' fs' keep' ep' et' lp' sh'=>⟨rfl,?_⟩⟩⟩;have s7:=zAI hx' hdx' keep';have eD7:=s7 _ _ eD5;exact ⟨D,_,_,rfl,rfl,eD7,by rw [zRn];simp,_,rfl,q (.ref x) _ (zB.store (s6.trans s7) nD) ((nd.same s7).sameN (zj.lst eD7))⟩
   | call2 n a b=>
    obtain ⟨t,qa,x,y,rfl,h1,_⟩:=hx;obtain ⟨v0,v1,rfl,⟨p0,n0,x0⟩,⟨p1,n1,x1⟩⟩:=pd2 pr;refine ⟨_,rfl,t,_,_,_,rfl,rfl,SqT.of (s02 _ _ h1),rfl,rfl,_,rfl,zE ?_⟩;refine ⟨_,rfl,t,_,_,_,rfl,rfl,SqT.of (s02 _ _ h1),rfl,rfl,_,rfl,zE ?_⟩;refine ⟨_,rfl,t,_,_,_,rfl,rfl,SqT.of (s02 _ _ h1),rfl,rfl,_,rfl,zE ?_⟩;refine ⟨_,rfl,t,_,_,_,rfl,rfl,SqT.of (s02 _ _ h1),rfl,nw fun qq1 G1 r1 f1=>⟨qq1,_,rfl,.inr (SqT.of f1),rfl,rfl,_,rfl,zE ?_⟩⟩;have sc1:=s02.trans r1;have s21:=r1;refine ⟨_,rfl,t,_,_,_,rfl,rfl,SqT.of (sc1 _ _ h1),rfl,nw fun qq2 G2 r2 f2=>⟨qq2,_,rfl,.inr (SqT.of f2),rfl,rfl,_,rfl,zE ?_⟩⟩;have sc2:=sc1.trans r2;have s22:=s21.trans r2;refine ⟨_,rfl,t,_,_,_,rfl,rfl,SqT.of (sc2 _ _ h1),rfl,rfl,_,rfl,zE ?_⟩;refine ⟨_,rfl,t,_,_,_,rfl,rfl,SqT.of (sc2 _ _ h1),rfl,rfl,_,rfl,zE ?_⟩;refine ⟨_,rfl,t,_,_,_,rfl,rfl,SqT.of (sc2 _ _ h1),rfl,rfl,_,rfl,zE ?_⟩;have eD2:=s22 _ _ eD;refine ⟨_,rfl,t,_,_,_,rfl,rfl,SqT.of (sc2 _ _ h1),rfl,_,rfl,D,_,rfl,.inl (SqL.of eD2),rfl,_,rfl,zE ⟨_,rfl,D,_,rfl,.inl ⟨SqL.of eD2,fun lt hlt=>?_⟩⟩⟩;have s3:=zB.upd (o:= .tup [v0,v1]) hlt;refine fun x dx hx hdx hne=>⟨x,dx,lt,_,_,[p0,p1],rfl,zD,.inr ((zV hx hdx) _ _ zD),by simp,.cons ⟨_,((n0.same s22).same s3).same (zV hx hdx)⟩ (.cons ⟨_,((n1.same s22).same s3).same (zV hx hdx)⟩ .nil),fun H' p q1 fs keep ep eq1 et lp sh=>⟨rfl,?_⟩⟩;have s5:=s3.trans (zAI hx hdx keep);have s6:=sc2.trans s5;have nd:NdX NC c H' (.call2 n a b) (.ref x):=⟨.ref p,⟨x,dx,fs,rfl,et,ck.of _,lp,sh⟩,⟨p,q1,_,_,rfl,ep,eq1,((x0.same s22).same s5),((x1.same s22).same s5)⟩⟩;have eD5:=s5 _ _ eD2;refine ⟨_,rfl,.inl ⟨rfl,_,SqL.of eD5⟩,fun x' dx' hx' hdx' hne'=>⟨x',dx',_,rfl,zD,fun H'' p' fs' keep' ep' et' lp' sh'=>⟨rfl,?_⟩⟩⟩;have s7:=zAI hx' hdx' keep';have eD7:=s7 _ _ eD5;exact ⟨D,_,_,rfl,rfl,eD7,by rw [zRn];simp,_,rfl,q (.ref x) _ (zB.store (s6.trans s7) nD) ((nd.same s7).sameN (zj.lst eD7))⟩
   | call3 n a b g=>
    obtain ⟨t,qa,x,y,z,rfl,h1,_⟩:=hx;obtain ⟨v0,v1,v2,rfl,⟨p0,n0,x0⟩,⟨p1,n1,x1⟩,⟨p2,n2,x2⟩⟩:=pd3 pr;refine ⟨_,rfl,t,_,_,_,rfl,rfl,SqT.of (s02 _ _ h1),rfl,rfl,_,rfl,zE ?_⟩;refine ⟨_,rfl,t,_,_,_,rfl,rfl,SqT.of (s02 _ _ h1),rfl,rfl,_,rfl,zE ?_⟩;refine ⟨_,rfl,t,_,_,_,rfl,rfl,SqT.of (s02 _ _ h1),rfl,rfl,_,rfl,zE ?_⟩;refine ⟨_,rfl,t,_,_,_,rfl,rfl,SqT.of (s02 _ _ h1),rfl,nw fun qq1 G1 r1 f1=>⟨qq1,_,rfl,.inr (SqT.of f1),rfl,rfl,_,rfl,zE ?_⟩⟩;have sc1:=s02.trans r1;have s21:=r1;refine ⟨_,rfl,t,_,_,_,rfl,rfl,SqT.of (sc1 _ _ h1),rfl,nw fun qq2 G2 r2 f2=>⟨qq2,_,rfl,.inr (SqT.of f2),rfl,rfl,_,rfl,zE ?_⟩⟩;have sc2:=sc1.trans r2;have s22:=s21.trans r2;refine ⟨_,rfl,t,_,_,_,rfl,rfl,SqT.of (sc2 _ _ h1),rfl,rfl,_,rfl,zE ?_⟩;refine ⟨_,rfl,t,_,_,_,rfl,rfl,SqT.of (sc2 _ _ h1),rfl,rfl,_,rfl,zE ?_⟩;refine ⟨_,rfl,t,_,_,_,rfl,rfl,SqT.of (sc2 _ _ h1),rfl,rfl,_,rfl,zE ?_⟩;have eD2:=s22 _ _ eD;refine ⟨_,rfl,t,_,_,_,rfl,rfl,SqT.of (sc2 _ _ h1),rfl,_,rfl,D,_,rfl,.inl (SqL.of eD2),rfl,_,rfl,zN ⟨_,rfl,fun x dx hx hdx hne=>⟨x,dx,D,_,_,[p0,p1,p2],rfl,zD,.inl ((zV hx hdx) _ _ eD2),by simp,.cons ⟨_,(n0.same s22).same (zV hx hdx)⟩ (.cons ⟨_,(n1.same s22).same (zV hx hdx)⟩ (.cons ⟨_,(n2.same s22).same (zV hx hdx)⟩ .nil)),fun H' p q1 fs keep ep eq1 et lp sh=>⟨rfl,?_⟩⟩⟩⟩;have s5:=zAI hx hdx keep;have s6:=sc2.trans s5;have nd:NdX NC c H' (.call3 n a b g) (.ref x):=⟨.ref p,⟨x,dx,fs,rfl,et,ck.of _,lp,sh⟩,⟨p,q1,_,_,_,rfl,ep,eq1,((x0.same s22).same s5),((x1.same s22).same s5),((x2.same s22).same s5)⟩⟩;have eD5:=s5 _ _ eD2;refine ⟨_,rfl,.inl ⟨rfl,_,SqL.of eD5⟩,fun x' dx' hx' hdx' hne'=>⟨x',dx',_,rfl,zD,fun H'' p' fs' keep' ep' et' lp' sh'=>⟨rfl,?_⟩⟩⟩;have s7:=zAI hx' hdx' keep';have eD7:=s7 _ _ eD5;exact ⟨D,_,_,rfl,rfl,eD7,by rw [zRn];simp,_,rfl,q (.ref x) _ (zB.store (s6.trans s7) nD) ((nd.same s7).sameN (zj.lst eD7))⟩
structure ClsY(mg:Str->Option Value)(c0 c1 c2 c3 c4 c5 c6 c7 c8 c9 c10 c11 c12:Addr):Prop where
 m0:mg "BadText" =some (.ref c0)
 m1:mg "BadCount" =some (.ref c1)
 m2:mg "BadName" =some (.ref c2)
 m3:mg "BadNumber" =some (.ref c3)
 m4:mg "BadRate" =some (.ref c4)
 m5:mg "BadTable" =some (.ref c5)
 m6:mg "BadUnit" =some (.ref c6)
 m7:mg "Clash" =some (.ref c7)
 m8:mg "NoName" =some (.ref c8)
 m9:mg "NoRow" =some (.ref c9)
 m10:mg "Steep" =some (.ref c10)
 m11:mg "Twice" =some (.ref c11)
 m12:mg "Unlike" =some (.ref c12)
structure RfB(K:zSS)(c0:Addr)(ds:List Addr)(ME:Addr):Prop where
 xc:XCls K c0
 kv:PySem.W.kitOne K (.ref c0) (.type "ValueError")=some true
 k0:PySem.W.kitOne K (.ref c0) (.ref c0)=some true
 ks: ∀c∈ds,PySem.W.kitOne K (.ref c0) (.ref c)=some false
 x0:PySem.W.exmOne K (.ref c0) (.ref ME)=some true
 a0:ye K c0 "at"
def zOU:Sp:=fun vs H Q _=> ∃(x:V) (e:Ex),vs= [x] /\Yt H e x/\zI e<=1000/\exB e=false/\ ∀H',zB H H'->Q (.bl true) H'
theorem zIS:FnScope ["_law_told","e","_law_other"] ["_law_told"] (zM zCR):=fs
theorem zPr{f fN c0 c1 c2 c3 c4 c5 c6 c7 c8 c9 c10 c11 c12 ME:Addr}{fd fdN:FuncData}{NC:Addr->Prop}{c:Cz}(F:Fun K "_law_refused" "_law_refused" zCR f fd)(B:Bn mg)(Z:ClsY mg c0 c1 c2 c3 c4 c5 c6 c7 c8 c9 c10 c11 c12)(mME:mg "MeasureError" =some (.ref ME))(R:RfB K c0 [c1,c2,c3,c4,c5,c6,c7,c8,c9,c10,c11,c12] ME)
  (FN:Fun K "node_of" "node_of" zCz fN fdN) (bN:zL K fdN ["told"] []) (mN:mg "node_of" =some (.ref fN)) (GN:FnOk P w K mg base (zBf P w) 15 fN fdN ["told"] (zJc NC c c0)):FnOk P w K mg base CX0 16 f fd ["_law_told"] zOU:=by
 refine F.ok zIS (fun vs H Q E h=>?_) (fun _ A _ s H vs Q E hr15 h=>?_)
 ·obtain ⟨x,e,rfl,_⟩:=h;rfl
 ·obtain ⟨x,e,rfl,hy,n0,ex,q⟩:=h;have hr15:Room 15 _:=hr15;refine ⟨_,QB.out (zF
   (zNh (K:=K) 1 rfl rfl rfl zIS.nd rfl rfl rfl (.inl mME) (fun ps xe E hp=>(zK
    (yO (zME GN hr15 rfl mN FN.kp bN .nil hp (qc (qw 0 rfl) zA rfl) rfl rfl rfl) rfl))) (fun e=>(zF
    (zd 2 zIS.nd rfl (zk (zDV (K:=K) rfl) rfl B.isi zS (qc (qw 1 rfl) (qc (zJ (qc (zc (v:= .ref c1) rfl Z.m1 rfl rfl) (qc (zc (v:= .ref c2) rfl Z.m2 rfl rfl) (qc (zc (v:= .ref c3) rfl Z.m3 rfl rfl) (qc (zc (v:= .ref c4) rfl Z.m4 rfl rfl) (qc (zc (v:= .ref c5) rfl Z.m5 rfl rfl) (qc (zc (v:= .ref c6) rfl Z.m6 rfl rfl) (qc (zc (v:= .ref c7) rfl Z.m7 rfl rfl) (qc (zc (v:= .ref c8) rfl Z.m8 rfl rfl) zA rfl) rfl) rfl) rfl) rfl) rfl) rfl) rfl)) zA rfl) rfl) rfl) rfl) (zF
    (zd 2 zIS.nd rfl (zQp (qw 2 rfl) (zBO (zk (zDV (K:=K) rfl) rfl B.isi zS (qc (qw 1 rfl) (qc (zJ (qc (zc (v:= .ref c9) rfl Z.m9 rfl rfl) (qc (zc (v:= .ref c10) rfl Z.m10 rfl rfl) (qc (zc (v:= .ref c11) rfl Z.m11 rfl rfl) (qc (zc (v:= .ref c12) rfl Z.m12 rfl rfl) zA rfl) rfl) rfl) rfl)) zA rfl) rfl) rfl))) rfl) (zK
    (zR (zAo (zk (zEB (K:=K) rfl) rfl B.isi zS (qc (qw 1 rfl) (qc (zc (v:= .ref c0) rfl Z.m0 rfl rfl) zA rfl) rfl) rfl) (zAo (zk (zEB (K:=K) rfl) rfl B.isi zS (qc (qw 1 rfl) (qc (zAG (v:= .ty "ValueError") rfl B.verr zFB rfl (by decide) rfl) zA rfl) rfl) rfl) (zAo (zPX (qw 2 rfl)) (zBO (zPn (zQo (K:=K) rfl (qw 1 rfl) rfl) rfl)))))))))) rfl) (zK
   (zR yh))),?_⟩
  unfold zHZ;refine ⟨_,rfl,x,rfl,.inr ⟨e,hy,n0,ex,fun H' dx s e=>?_⟩⟩;refine ⟨R.x0,fun ea hea=>?_⟩;obtain ⟨G,hG,se,he⟩:=zAp hea (zDY ea (Value.ref c0) (some dx));rw [hG];have he:G ea=some (.ext (XCf ea (.ref c0) dx)):=he;refine ⟨_,rfl,nw fun p1 H1 s1 e1=>⟨ea,c0,p1,[c1,c2,c3,c4,c5,c6,c7,c8],_,rfl,e1,s1 _ _ he,fun h z=>zEC h z,R.xc,fun c hc=>R.ks c (List.mem_append_left [c9,c10,c11,c12] hc),?_⟩⟩;refine ⟨_,rfl,_,rfl,zE ⟨_,rfl,nw fun p2 H2 s2 e2=>⟨ea,c0,p2,[c9,c10,c11,c12],_,rfl,e2,(s1.trans s2) _ _ he,fun h z=>zEC h z,R.xc,fun c hc=>R.ks c (zRs [c1,c2,c3,c4,c5,c6,c7,c8] hc),?_⟩⟩⟩;have he2:=(s1.trans s2) _ _ he;refine ⟨_,rfl,ea,c0,.ref c0,.ref c0,_,_,rfl,rfl,he2,fun h z=>zEC h z,R.xc,R.k0,_,rfl,zN ⟨_,rfl,ea,c0,.ty "ValueError",.type "ValueError",_,_,rfl,rfl,he2,fun h z=>zEC h z,R.xc,R.kv,_,rfl,zN ⟨_,rfl,_,rfl,_,rfl,zN ⟨_,rfl,ea,c0,dx,_,.non,rfl,he2,(se.trans (s1.trans s2)) _ _ e,R.xc,R.a0,lk1 _ _,?_⟩⟩⟩⟩;exact q _ (s.trans (se.trans (s1.trans s2)))
def Gd(e k:Ex)(g:Ex->Ex):Prop:= ∀k' M,yI k'=true->zI k'<=zI k+M->yI (g k')=true/\zI (g k')<=zI e+M
theorem zHN: ∀{xs:List Nat} {j y x:Nat},xs[j]?=some y->(xs.set j x).sum+y=xs.sum+x
 | a::xs,0,y,x,h=>by simp at h⊢;omega
 | a::xs,j+1,y,x,h=>by
  have:=zHN (xs:=xs) (x:=x) (show xs[j]?=some y from h);simp only [List.set_cons_succ,List.sum_cons];omega
theorem yX{e k:Ex}{g:Ex->Ex}{j:Nat}(hk:(zX e)[j]?=some k)(hg: ∀k',zX (g k')=(zX e).set j k')(hn: ∀k',g k'≠ .nam ""):Gd e k g:=fun k' M o n=>by
 refine ⟨?_,?_⟩
 ·rw [zDc (hn k'),hg,List.any_eq_true];refine ⟨k',?_,o⟩;obtain ⟨lt,_⟩:=zSd.mp hk;exact List.mem_set lt k'
 ·have h:=zHN (xs:=(zX e).map zI) (x:=zI k') (show _=some (zI k) by rw [zRh,hk];rfl);rw [zAR (g k'),zAR e,hg,List.map_set];omega
inductive PutK (H:Hp) (e k:Ex) (j:Nat) (t:Addr):Prop
 | row (w:Str) (xs:List V) (pl:Nat) (g:Ex->Ex) (e1:H t=some (.tup (.str w::xs))) (nc:w≠ "call") (hl:w= "loop" ->pl=2+2*j) (hn:w≠ "loop" ->pl=1+j) (l:pl<xs.length+1) (l4:xs.length<=4) (gd:Gd e k g)
   (put: ∀H' p v' k',zB H H'->Yt H' k' v'->H' p=some (.tup ((V.str w::xs).take pl++ [v'] ++(V.str w::xs).drop (pl+1)))->Yt H' (g k') (.ref p))
 | call (m:Str) (q:Addr) (ys:List V) (g:Ex->Ex) (e1:H t=some (.tup [.str "call",.str m,.ref q])) (e2:H q=some (.tup ys)) (l:j<ys.length) (l3:ys.length<=3) (gd:Gd e k g)
   (put: ∀H' p q' v' k',zB H H'->Yt H' k' v'->H' p=some (.tup [.str "call",.str m,.ref q'])->H' q'=some (.tup (ys.take j++ [v'] ++ys.drop (j+1)))->Yt H' (g k') (.ref p))
theorem zLP{H:Hp}{e k:Ex}{v:V}{j:Nat}(hx:Xt H e v)(ok:Ok e)(hk:(zX e)[j]?=some k): ∃t,v= .ref t/\PutK H e k j t:=by
 cases e with
 | num=>simp [zX] at hk
 | nam=>simp [zX] at hk
 | neg a=>
  obtain ⟨t,x,rfl,h1,h2⟩:=hx;rcases j with _ | j
  ·exact ⟨t,rfl,.row _ _ 1 (fun k'=> .neg k') h1 (by decide) (fun z=>absurd z (by decide)) (fun _=>rfl) (show 1<2 by decide) (show 1<=4 by decide) (yX hk (fun _=>rfl) fun k' z=>by cases z) fun H' p v' k' s h e=> .fm (fun z=>by cases z) (.neg e) (.cons h .nil)⟩
  ·simp [zX] at hk
 | bin w a b=>
  obtain ⟨t,x,y,rfl,h1,h2,h3⟩:=hx;obtain ⟨hw,ok2⟩:=ok;rcases j with _ | _ | j
  ·rcases hw with rfl | rfl | rfl | rfl
   ·exact ⟨t,rfl,.row _ _ 1 (fun k'=> .bin "plus" k' b) h1 (by decide) (fun z=>absurd z (by decide)) (fun _=>rfl) (show 1<3 by decide) (show 2<=4 by decide) (yX hk (fun _=>rfl) fun k' z=>by cases z) fun H' p v' k' s h e=> .fm (fun z=>by cases z) (.bin (by simp [zAn]) e) (.cons h (.cons (zo (h3.same s) ok2.2) .nil))⟩
   ·exact ⟨t,rfl,.row _ _ 1 (fun k'=> .bin "minus" k' b) h1 (by decide) (fun z=>absurd z (by decide)) (fun _=>rfl) (show 1<3 by decide) (show 2<=4 by decide) (yX hk (fun _=>rfl) fun k' z=>by cases z) fun H' p v' k' s h e=> .fm (fun z=>by cases z) (.bin (by simp [zAn]) e) (.cons h (.cons (zo (h3.same s) ok2.2) .nil))⟩
   ·exact ⟨t,rfl,.row _ _ 1 (fun k'=> .bin "times" k' b) h1 (by decide) (fun z=>absurd z (by decide)) (fun _=>rfl) (show 1<3 by decide) (show 2<=4 by decide) (yX hk (fun _=>rfl) fun k' z=>by cases z) fun H' p v' k' s h e=> .fm (fun z=>by cases z) (.bin (by simp [zAn]) e) (.cons h (.cons (zo (h3.same s) ok2.2) .nil))⟩
   ·exact ⟨t,rfl,.row _ _ 1 (fun k'=> .bin "over" k' b) h1 (by decide) (fun z=>absurd z (by decide)) (fun _=>rfl) (show 1<3 by decide) (show 2<=4 by decide) (yX hk (fun _=>rfl) fun k' z=>by cases z) fun H' p v' k' s h e=> .fm (fun z=>by cases z) (.bin (by simp [zAn]) e) (.cons h (.cons (zo (h3.same s) ok2.2) .nil))⟩
  ·rcases hw with rfl | rfl | rfl | rfl
   ·exact ⟨t,rfl,.row _ _ 2 (fun k'=> .bin "plus" a k') h1 (by decide) (fun z=>absurd z (by decide)) (fun _=>rfl) (show 2<3 by decide) (show 2<=4 by decide) (yX hk (fun _=>rfl) fun k' z=>by cases z) fun H' p v' k' s h e=> .fm (fun z=>by cases z) (.bin (by simp [zAn]) e) (.cons (zo (h2.same s) ok2.1) (.cons h .nil))⟩
   ·exact ⟨t,rfl,.row _ _ 2 (fun k'=> .bin "minus" a k') h1 (by decide) (fun z=>absurd z (by decide)) (fun _=>rfl) (show 2<3 by decide) (show 2<=4 by decide) (yX hk (fun _=>rfl) fun k' z=>by cases z) fun H' p v' k' s h e=> .fm (fun z=>by cases z) (.bin (by simp [zAn]) e) (.cons (zo (h2.same s) ok2.1) (.cons h .nil))⟩
   ·exact ⟨t,rfl,.row _ _ 2 (fun k'=> .bin "times" a k') h1 (by decide) (fun z=>absurd z (by decide)) (fun _=>rfl) (show 2<3 by decide) (show 2<=4 by decide) (yX hk (fun _=>rfl) fun k' z=>by cases z) fun H' p v' k' s h e=> .fm (fun z=>by cases z) (.bin (by simp [zAn]) e) (.cons (zo (h2.same s) ok2.1) (.cons h .nil))⟩
   ·exact ⟨t,rfl,.row _ _ 2 (fun k'=> .bin "over" a k') h1 (by decide) (fun z=>absurd z (by decide)) (fun _=>rfl) (show 2<3 by decide) (show 2<=4 by decide) (yX hk (fun _=>rfl) fun k' z=>by cases z) fun H' p v' k' s h e=> .fm (fun z=>by cases z) (.bin (by simp [zAn]) e) (.cons (zo (h2.same s) ok2.1) (.cons h .nil))⟩
  ·simp [zX] at hk
 | pow a m=>
  obtain ⟨t,x,rfl,h1,h2⟩:=hx;rcases j with _ | j
  ·exact ⟨t,rfl,.row _ _ 1 (fun k'=> .pow k' m) h1 (by decide) (fun z=>absurd z (by decide)) (fun _=>rfl) (show 1<3 by decide) (show 2<=4 by decide) (yX hk (fun _=>rfl) fun k' z=>by cases z) fun H' p v' k' s h e=> .fm (fun z=>by cases z) (.pow e ok.2.1 ok.2.2) (.cons h .nil)⟩
  ·simp [zX] at hk
 | ite a b c d'=>
  obtain ⟨t,x,y,z,u,rfl,h1,h2,h3,h4,h5⟩:=hx;rcases j with _ | _ | _ | _ | j
  ·exact ⟨t,rfl,.row _ _ 1 (fun k'=> .ite k' b c d') h1 (by decide) (fun z=>absurd z (by decide)) (fun _=>rfl) (show 1<5 by decide) (show 4<=4 by decide) (yX hk (fun _=>rfl) fun k' z=>by cases z) fun H' p v' k' s h e=> .fm (fun z=>by cases z) (.ite e) (.cons h (.cons (zo (h3.same s) ok.2.1) (.cons (zo (h4.same s) ok.2.2.1) (.cons (zo (h5.same s) ok.2.2.2) .nil))))⟩
  ·exact ⟨t,rfl,.row _ _ 2 (fun k'=> .ite a k' c d') h1 (by decide) (fun z=>absurd z (by decide)) (fun _=>rfl) (show 2<5 by decide) (show 4<=4 by decide) (yX hk (fun _=>rfl) fun k' z=>by cases z) fun H' p v' k' s h e=> .fm (fun z=>by cases z) (.ite e) (.cons (zo (h2.same s) ok.1) (.cons h (.cons (zo (h4.same s) ok.2.2.1) (.cons (zo (h5.same s) ok.2.2.2) .nil))))⟩
  ·exact ⟨t,rfl,.row _ _ 3 (fun k'=> .ite a b k' d') h1 (by decide) (fun z=>absurd z (by decide)) (fun _=>rfl) (show 3<5 by decide) (show 4<=4 by decide) (yX hk (fun _=>rfl) fun k' z=>by cases z) fun H' p v' k' s h e=> .fm (fun z=>by cases z) (.ite e) (.cons (zo (h2.same s) ok.1) (.cons (zo (h3.same s) ok.2.1) (.cons h (.cons (zo (h5.same s) ok.2.2.2) .nil))))⟩
  ·exact ⟨t,rfl,.row _ _ 4 (fun k'=> .ite a b c k') h1 (by decide) (fun z=>absurd z (by decide)) (fun _=>rfl) (show 4<5 by decide) (show 4<=4 by decide) (yX hk (fun _=>rfl) fun k' z=>by cases z) fun H' p v' k' s h e=> .fm (fun z=>by cases z) (.ite e) (.cons (zo (h2.same s) ok.1) (.cons (zo (h3.same s) ok.2.1) (.cons (zo (h4.same s) ok.2.2.1) (.cons h .nil))))⟩
  ·simp [zX] at hk
 | loop m a r b=>
  obtain ⟨t,x,y,rfl,h1,h2,h3⟩:=hx;rcases j with _ | _ | j
  ·exact ⟨t,rfl,.row _ _ 2 (fun k'=> .loop m k' r b) h1 (by decide) (fun _=>rfl) (fun z=>absurd rfl z) (show 2<5 by decide) (show 4<=4 by decide) (yX hk (fun _=>rfl) fun k' z=>by cases z) fun H' p v' k' s h e=> .fm (fun z=>by cases z) (.loop e ok.1 ok.2.2.1 ok.2.2.2.1) (.cons h (.cons (zo (h3.same s) ok.2.2.2.2) .nil))⟩
  ·exact ⟨t,rfl,.row _ _ 4 (fun k'=> .loop m a r k') h1 (by decide) (fun _=>rfl) (fun z=>absurd rfl z) (show 4<5 by decide) (show 4<=4 by decide) (yX hk (fun _=>rfl) fun k' z=>by cases z) fun H' p v' k' s h e=> .fm (fun z=>by cases z) (.loop e ok.1 ok.2.2.1 ok.2.2.2.1) (.cons (zo (h2.same s) ok.2.1) (.cons h .nil))⟩
  ·simp [zX] at hk
 | call1 m a=>
  obtain ⟨t,qa,x,rfl,h1,h0,h2⟩:=hx;rcases j with _ | j
  ·exact ⟨t,rfl,.call m qa _ (fun k'=> .call1 m k') h1 h0 (show 0<1 by decide) (show 1<=3 by decide) (yX hk (fun _=>rfl) fun k' z=>by cases z) fun H' p q' v' k' s h e e'=> .fm (fun z=>by cases z) (.call (ys:= [v']) e ok.1 e' (show 1<=1 by decide) (show 1<=3 by decide)) (.cons h .nil)⟩
  ·simp [zX] at hk
 | call2 m a b=>
  obtain ⟨t,qa,x,y,rfl,h1,h0,h2,h3⟩:=hx;rcases j with _ | _ | j
  ·exact ⟨t,rfl,.call m qa _ (fun k'=> .call2 m k' b) h1 h0 (show 0<2 by decide) (show 2<=3 by decide) (yX hk (fun _=>rfl) fun k' z=>by cases z) fun H' p q' v' k' s h e e'=> .fm (fun z=>by cases z) (.call (ys:= [v',y]) e ok.1 e' (show 1<=2 by decide) (show 2<=3 by decide)) (.cons h (.cons (zo (h3.same s) ok.2.2) .nil))⟩
  ·exact ⟨t,rfl,.call m qa _ (fun k'=> .call2 m a k') h1 h0 (show 1<2 by decide) (show 2<=3 by decide) (yX hk (fun _=>rfl) fun k' z=>by cases z) fun H' p q' v' k' s h e e'=> .fm (fun z=>by cases z) (.call (ys:= [x,v']) e ok.1 e' (show 1<=2 by decide) (show 2<=3 by decide)) (.cons (zo (h2.same s) ok.2.1) (.cons h .nil))⟩
  ·simp [zX] at hk
 | call3 m a b c=>
  obtain ⟨t,qa,x,y,z,rfl,h1,h0,h2,h3,h4⟩:=hx;rcases j with _ | _ | _ | j
  ·exact ⟨t,rfl,.call m qa _ (fun k'=> .call3 m k' b c) h1 h0 (show 0<3 by decide) (show 3<=3 by decide) (yX hk (fun _=>rfl) fun k' z=>by cases z) fun H' p q' v' k' s h e e'=> .fm (fun z=>by cases z) (.call (ys:= [v',y,z]) e ok.1 e' (show 1<=3 by decide) (show 3<=3 by decide)) (.cons h (.cons (zo (h3.same s) ok.2.2.1) (.cons (zo (h4.same s) ok.2.2.2) .nil)))⟩
  ·exact ⟨t,rfl,.call m qa _ (fun k'=> .call3 m a k' c) h1 h0 (show 1<3 by decide) (show 3<=3 by decide) (yX hk (fun _=>rfl) fun k' z=>by cases z) fun H' p q' v' k' s h e e'=> .fm (fun z=>by cases z) (.call (ys:= [x,v',z]) e ok.1 e' (show 1<=3 by decide) (show 3<=3 by decide)) (.cons (zo (h2.same s) ok.2.1) (.cons h (.cons (zo (h4.same s) ok.2.2.2) .nil)))⟩
  ·exact ⟨t,rfl,.call m qa _ (fun k'=> .call3 m a b k') h1 h0 (show 2<3 by decide) (show 3<=3 by decide) (yX hk (fun _=>rfl) fun k' z=>by cases z) fun H' p q' v' k' s h e e'=> .fm (fun z=>by cases z) (.call (ys:= [x,y,v']) e ok.1 e' (show 1<=3 by decide) (show 3<=3 by decide)) (.cons (zo (h2.same s) ok.2.1) (.cons (zo (h3.same s) ok.2.2.1) (.cons h .nil)))⟩
  ·simp [zX] at hk
def zNQ(d:Nat):Sp:=fun vs H Q _=> ∃(v w:V) (n:Int) (e o:Ex) (M:Nat),vs= [v,.int n,w] /\0<=n/\Xt H e v/\Ok e/\zO e<=d/\Yt H o w/\yI o=true/\zI o<=M+1/\
 ∀H' v' e',zB H H'->Yt H' e' v'->yI e'=true->zI e'<=zI e+M->Q v' H'
theorem zDe:FnScope ["_law_told","_law_number_here","_law_odd_here","_law_kids_here","_law_at","_law_kid","_law_place"] ["_law_told","_law_number_here","_law_odd_here"] (zM zDK):=fs
theorem zQS{f fK:Addr}{fd fdK:FuncData}(FX:Fun K "_law_spoilt" "_law_spoilt" zDK f fd)(B:Bn mg)
  (FK:Fun K "_law_kids" "_law_kids" zBJ fK fdK) (bK:zL K fdK ["_law_told"] []) (mK:mg "_law_kids" =some (.ref fK)) (GK:FnOk P w K mg base CX0 1 fK fdK ["_law_told"] zGL)
  (bX:zL K fd ["_law_told","_law_number_here","_law_odd_here"] []) (mX:mg "_law_spoilt" =some (.ref f)):
  ∀d,FnOk P w K mg base CX0 (2+d) f fd ["_law_told","_law_number_here","_law_odd_here"] (zNQ d):=by
 intro d
 induction d with
 | zero=>
  refine FX.ok zDe (fun vs H Q E h=>?_) (fun cdv A outer s H vs Q E hr h=>?_)
  ·obtain ⟨v,w,n,e,o,M,rfl,_⟩:=h;rfl
  ·obtain ⟨v,w,n,e,o,M,rfl,_,_,_,h,_⟩:=h;have:=zAw e;omega
 | succ d GX=>
  refine FX.ok zDe (fun vs H Q E h=>?_) (fun cdv A outer s H vs Q E hrX h=>?_)
  ·obtain ⟨v,w,n,e,o,M,rfl,_⟩:=h;rfl
  ·obtain ⟨v,w0,n,e,o,M,rfl,n0,hx,ok,dp,ho,oko,no4,q⟩:=h;have hrX:Room (2+d) _:=hrX;have hr1:Room 1 _:=hrX.mono (by omega);have huN:=Nat.lt_of_succ_lt (zBK hrX);refine ⟨_,QB.out (zF
   (zd 3 zDe.nd rfl (zP GK hr1 rfl mK FK.kp bK .nil zH (qc (qw 0 rfl) zA rfl) rfl rfl rfl) rfl) (zF
   (zf (t_w (zAF (zU (zCM huN) (qw 3 rfl) (zW zA) rfl) (yz (zU zh (zw (qw 1 rfl) zC) zC rfl)))) (zK
    (zR (qw 2 rfl))) zZ) (zF
   (zd 4 zDe.nd rfl (zw (yA (qw 1 rfl) zC) (zk (zu (K:=K) rfl) rfl B.len yM (qc (qw 3 rfl) zA rfl) rfl)) rfl) (zF
   (zd 5 zDe.nd rfl (zP GX hrX rfl mX FX.kp bX .nil zH (qc (zg (K:=K) rfl (qw 3 rfl) (qw 4 rfl) (fun _ _=>rfl)) (qc (yA (qw 1 rfl) zC) (qc (qw 2 rfl) zA rfl) rfl) rfl) rfl rfl rfl) rfl) (zF
   (zf (zU zh (zY (K:=K) rfl (qw 0 rfl) zC (fun _ _=>rfl)) zG rfl) (zK
    (zR (zAW (zBR (K:=K) rfl) (zCN (K:=K) rfl (qw 0 rfl) zAH (yp zC)) (zJ (qc (zAW (zBR (K:=K) rfl) (zAW (zBR (K:=K) rfl) (zCN (K:=K) rfl (zY (K:=K) rfl (qw 0 rfl) zC (fun _ _=>rfl)) zAH (yp (qw 4 rfl))) (zJ (qc (qw 5 rfl) zA rfl))) (zCN (K:=K) rfl (zY (K:=K) rfl (qw 0 rfl) zC (fun _ _=>rfl)) (yp (yx (qw 4 rfl) zC)) zAH)) zA rfl))))) zZ) (zF
   (zd 6 zDe.nd rfl (yx zC (qw 4 rfl)) rfl) (zF
   (zf (zU zh (zY (K:=K) rfl (qw 0 rfl) zC (fun _ _=>rfl)) zG rfl) (zK
    (zd 6 zDe.nd rfl (zg (K:=K) rfl (zW (qc zC (qc zC zA rfl) rfl)) (qw 4 rfl) (fun _ _=>rfl)) rfl)) zZ) (zK
   (zR (zAW (zBR (K:=K) rfl) (zAW (zBR (K:=K) rfl) (zCN (K:=K) rfl (qw 0 rfl) zAH (yp (qw 6 rfl))) (zJ (qc (qw 5 rfl) zA rfl))) (zCN (K:=K) rfl (qw 0 rfl) (yp (yx (qw 6 rfl) zC)) zAH))))))))))),?_⟩
   refine hd fun Z hz=>?_;refine ⟨_,rfl,v,e,rfl,hx,ok,fun la xs H1 s1 nla ela hxs=>hz _ _ (hd fun Z hz=>?_)⟩;have lx:=Paired.len hxs;have k4:=zAd e;have np:=zAN e;have dpos:=zAw e;refine ⟨_,rfl,nw fun em H2 s2 e2=>?_⟩;have s02:=s1.trans s2;have oth:Q w0 H2:=q H2 w0 o s02 (ho.same s02) oko (by omega);refine ⟨la,em,_,rfl,rfl,SqL.of (s2 _ _ ela),SqL.of e2,_,rfl,yE (fun c1=>zN ⟨_,rfl,oth⟩) (fun c1=>?_)⟩;refine ⟨_,rfl,_,_,rfl,rfl,by decide,rfl,_,rfl,yE (fun c2=>⟨_,rfl,oth⟩) (fun c2=>hz _ _ (hd fun Z hz=>?_))⟩;have xne:xs≠ [] :=fun z=>by rw [z] at c1;simp at c1
   have xl:0<xs.length:=List.length_pos_iff.mpr xne;have a0:=zRt (n/4) (show ((xs.length:Nat):Int)≠0 by omega);have a1:=zRo (n/4) (show (0:Int)<((xs.length:Nat):Int) by omega);refine ⟨_,rfl,_,_,rfl,rfl,⟨by decide,by decide⟩,_,rfl,la,_,rfl,.inl (SqL.of (s2 _ _ ela)),_,_,rfl,rfl,by omega,hz _ _ (hd fun Z hz=>?_)⟩;obtain ⟨j,hj⟩: ∃j:Nat,n/4 %((xs.length:Nat):Int)=(j:Int):=⟨(n/4 %((xs.length:Nat):Int)).toNat,by omega⟩;rw [hj];have jl:j<xs.length:=by omega
   obtain ⟨k,ek,hk⟩:=Paired.get' hxs (zRc jl);have hkm:=zSE ek;have dk:=yG hkm;refine ⟨_,rfl,_,rfl,la,_,_,_,rfl,rfl,SqL.of (s2 _ _ ela),ym (zRc jl),_,rfl,_,_,rfl,rfl,⟨by decide,by decide⟩,_,rfl,xs[j],w0,n/16,k,o,M,rfl,by omega,hk.same s2,yc ok hkm,by omega,ho.same s02,oko,no4,fun H3 v' k' s3 hx' ok' nn'=>hz _ _ (hd fun Z hz=>?_)⟩;have s03:=s02.trans s3;obtain ⟨t,rfl,pk⟩:=zLP (hx.same s03) ok ek;clear ek hk hkm hxs ela e2 oth hx ho;cases pk with
   | call m qa ys g e1 e2 l l3 gd put=>
    obtain ⟨g1,g2⟩:=gd k' M ok' nn';refine ⟨_,rfl,t,_,_,_,rfl,rfl,SqT.of e1,rfl,rfl,_,rfl,zN ?_⟩;refine ⟨_,rfl,_,rfl,slc [.str "call",.str m] e1 fun q0 H4 s4 e4=>?_⟩;have e1:=s4 _ _ e1;have e2:=s4 _ _ e2;refine ⟨_,rfl,t,_,_,_,rfl,rfl,SqT.of e1,rfl,_,rfl,_,rfl,sto e2 l fun q1 H5 s5 e5=>⟨_,rfl,nw fun q2 H6 s6 e6=>ct (s6 _ _ e5) e6 (fun q3 H7 s7 e7=>?_) (by simp;omega)⟩⟩;have s47:=s5.trans (s6.trans s7);refine ⟨_,rfl,t,_,_,_,rfl,rfl,SqT.of (s47 _ _ e1),rfl,_,rfl,_,_,rfl,rfl,_,rfl,sfr (s47 _ _ e2) l fun q4 H8 s8 e8=>ct (s8 _ _ e7) e8 (fun q5 H9 s9 e9=>nw fun q6 H10 s10 e10=>?_) (by simp;omega)⟩;have s40:=s47.trans (s8.trans (s9.trans s10));refine ct (s40 _ _ e4) e10 fun q7 H11 s11 e11=>?_;have sE:=s4.trans (s40.trans s11);exact q H11 (.ref q7) (g k') (s03.trans sE) (put H11 q7 q5 v' k' sE (hx'.same sE) e11 ((s10.trans s11) _ _ e9)) g1 g2
   | row w xs pl g e1 nc hl hn l l4 gd put=>
    obtain ⟨g1,g2⟩:=gd k' M ok' nn';refine ⟨_,rfl,t,_,_,_,rfl,rfl,SqT.of e1,ym (j:=0) rfl,rfl,false,congrArg V.bl (zSA fun z=>nc (by injection z)),zE (hz _ _ (hd fun Z hz=>?_))⟩;refine ⟨_,rfl,_,_,rfl,rfl,hz _ _ (hd fun Z hz=>?_)⟩;have tl: ∀H4,zB H3 H4->Z [some (.ref t),some (.int n),some w0,some (.ref la),some (.int (j:Int)),some v',some (.int (pl:Int))] H4:=fun H4 s4=>by
     refine hz _ _ ?_;have e1:=s4 _ _ e1;have l':pl<(V.str w::xs).length:=l;refine ⟨_,rfl,_,rfl,_,rfl,sto e1 l' fun q1 H5 s5 e5=>⟨_,rfl,nw fun q2 H6 s6 e6=>ct (s6 _ _ e5) e6 (fun q3 H7 s7 e7=>?_) (by simp;omega)⟩⟩;have s47:=s5.trans (s6.trans s7);refine ⟨_,rfl,_,rfl,_,_,rfl,rfl,_,rfl,sfr (s47 _ _ e1) l' fun q4 H8 s8 e8=>ct (s8 _ _ e7) e8 (fun q5 H9 s9 e9=>?_) (by simp;omega)⟩;have sE:=s4.trans (s47.trans (s8.trans s9));exact q H9 (.ref q5) (g k') (s03.trans sE) (put H9 q5 v' k' sE (hx'.same sE) e9) g1 g2
    by_cases hw:w= "loop"
    ·subst hw;have hp:=hl rfl;have j2:j=0\/j=1:=by omega
     rw [hp] at tl;refine ⟨_,rfl,t,_,_,_,rfl,rfl,SqT.of e1,ym (j:=0) rfl,rfl,_,rfl,zN (nw fun pa H4 s4 e4=>⟨_,rfl,pa,_,_,.int ((2+2*j:Nat):Int),rfl,rfl,SqL.of e4,?_,tl H4 s4⟩)⟩;rcases j2 with rfl | rfl<;>rfl
    ·rw [hn hw] at tl;have tl:=tl H3 (zB.refl H3);rw [show ((1+j:Nat):Int)=1+(j:Int) by omega] at tl;exact ⟨_,rfl,t,_,_,_,rfl,rfl,SqT.of e1,ym (j:=0) rfl,rfl,false,congrArg V.bl (zSA fun z=>hw (by injection z)),zE tl⟩
theorem zQE{H:Hp}{q0:Addr}{v:V}{c:Int}{Q:VK}(e:H q0=some (.tup [v]))(c1:1<=c)(c3:c<=60)(q: ∀p H',zB H H'->H' p=some (.tup (List.replicate c.toNat v))->Q (.ref p) H'):
  XRepT (.ref q0) (.int c) H Q:=⟨q0,c,v,rfl,rfl,e,c1,by omega,fun z=>q q0 H (zB.refl H) (by rw [z];exact e),fun _ p hp=>q p _ (zB.upd hp) zD⟩
theorem zIN:Nm "a" :=by show ya (.str "a")=true;decide+kernel
theorem zMg:Nm "b" :=by show ya (.str "b")=true;decide+kernel
theorem fm{p:V->Prop}{a:V}{l:List V}(h:p a)(t: ∀v∈l,p v): ∀v∈a::l,p v:=fun v hv=>(zST.mp hv).elim (fun e=>e▸h) (t v)
theorem fm0{p:V->Prop}: ∀v∈([] :List V),p v:=fun _ h=>nomatch h
def OdI(H:Hp)(e:Ex)(v:V):Prop:= ∃o,Yt H o v/\yI o=true/\zI o<=zI e+3
theorem OdI.same{H H':Hp}{e:Ex}{v:V}(h:OdI H e v)(s:zB H H'):OdI H' e v:=let ⟨o,a,b⟩:=h;⟨o,a.same s,b⟩
theorem yD{H:Hp}{e:Ex}{v:V}(h:OdF H v):OdI H e v:=⟨.nam "",.odd h,rfl,by show 1<=_;omega⟩
theorem odT{H:Hp}{e:Ex}{t:Addr}{g:V}(e1:H t=some (.tup [.str "times",g,.non]))(hg:Yt H e g):OdI H e (.ref t):=⟨.bin "times" e (.nam ""),.fm (fun z=>by cases z) (.bin (by simp [zAn]) e1) (.cons hg (.cons (.odd (.wd (.noT .non))) .nil)),by simp [yI],by simp only [zI];omega⟩
theorem odO{H:Hp}{e:Ex}{t l:Addr}{g:V}{xs:List V}(e1:H t=some (.tup [.str "over",.ref l,g]))(e2:H l=some (.lst xs))(hg:Yt H e g):OdI H e (.ref t):=⟨.bin "over" (.nam "") e,.fm (fun z=>by cases z) (.bin (by simp [zAn]) e1) (.cons (.odd (.wd (.noT (.lst e2)))) (.cons hg .nil)),by simp [yI],by simp only [zI];omega⟩
theorem odC{H:Hp}{e:Ex}{t q:Addr}{s:Str}(e1:H t=some (.tup [.str "call",.str s,.ref q]))(hs:Nm s)(e2:H q=some (.tup [.non])):OdI H e (.ref t):=⟨.call1 s (.nam ""),.fm (fun z=>by cases z) (.call e1 hs e2 (by decide) (by decide)) (.cons (.odd (.wd (.noT .non))) .nil),by simp [yI],by simp only [zI];omega⟩
theorem zNW: ¬ltS "b" "a" :=by unfold ltS;decide+kernel
theorem zRC{H:Hp}:Pr H (.str "a") false:= .noT (.str _)
theorem zQy{H:Hp}{t:Addr}(e:H t=some (.tup [.str "a",.bl true])):Pr H (.ref t) false:= .noW e (by decide) (.bl _) rfl
theorem odU{H:Hp}{y:V}{u:Option Us}(h:uV H y u):OdF H y:=by
 cases u with
 | none=>rw [show y= .non from h];exact .wd (.noT .non)
 | some us=>
  obtain ⟨u,ts,rfl,h1,h2⟩:=h;cases h2 with
  | nil=>exact .wd (.emp h1)
  | cons e r=>exact .wd (.noS h1 (.tup e) rfl)
theorem odQ{H:Hp}{e:Ex}{q:Addr}{x:V}{xs:List V}(h0:H q=some (.tup (x::xs)))(hx:Xt H e x):OdF H (.ref q):=by
 obtain ⟨t,ys,rfl,et⟩:=Xt.tup hx;exact .wd (.noS h0 (.tup et) rfl)
theorem odG{H:Hp}{e:Ex}{t:Addr}{g:V}{s:Str}(e1:H t=some (.tup [.str "call",.str s,g]))(hs:Nm s)(hX:Xt H e g)(ok:Ok e):OdI H e (.ref t):=by
 have oS: ∀x,Yt H (.nam "") (.str x):=fun x=> .odd (.wd (.noT (.str x)));cases e with
 | num a b u=>
  obtain ⟨t',p,y,rfl,h1,h2,h3⟩:=hX;exact ⟨.call3 s (.nam "") (.nam "") (.nam ""),.fm (fun z=>by cases z) (.call e1 hs h1 (Nat.le_of_ble_eq_true rfl) (Nat.le_of_ble_eq_true rfl)) (.cons (oS _) (.cons (.odd (.wd (.noS h2 (.int _) rfl))) (.cons (.odd (odU h3)) .nil))),rfl,by simp only [zI];omega⟩
 | nam n=>
  obtain ⟨t',rfl,h1⟩:=hX;exact ⟨.call2 s (.nam "") (.nam ""),.fm (fun z=>by cases z) (.call e1 hs h1 (Nat.le_of_ble_eq_true rfl) (Nat.le_of_ble_eq_true rfl)) (.cons (oS _) (.cons (oS _) .nil)),rfl,by simp only [zI];omega⟩
 | neg a=>
  obtain ⟨t',x,rfl,h1,h2⟩:=hX;exact ⟨.call2 s (.nam "") a,.fm (fun z=>by cases z) (.call e1 hs h1 (Nat.le_of_ble_eq_true rfl) (Nat.le_of_ble_eq_true rfl)) (.cons (oS _) (.cons (zo h2 ok) .nil)),rfl,by simp only [zI];omega⟩
 | bin w a b=>
  obtain ⟨t',x,y,rfl,h1,h2,h3⟩:=hX;exact ⟨.call3 s (.nam "") a b,.fm (fun z=>by cases z) (.call e1 hs h1 (Nat.le_of_ble_eq_true rfl) (Nat.le_of_ble_eq_true rfl)) (.cons (oS _) (.cons (zo h2 ok.2.1) (.cons (zo h3 ok.2.2) .nil))),rfl,by simp only [zI];omega⟩
 | pow a k=>
  obtain ⟨t',x,rfl,h1,h2⟩:=hX;exact ⟨.call3 s (.nam "") a (.nam ""),.fm (fun z=>by cases z) (.call e1 hs h1 (Nat.le_of_ble_eq_true rfl) (Nat.le_of_ble_eq_true rfl)) (.cons (oS _) (.cons (zo h2 ok.1) (.cons (.odd (.wd (.noT (.int _)))) .nil))),rfl,by simp only [zI];omega⟩
 | ite a b c d=>
  obtain ⟨t',x,y,z,u,rfl,h1,_⟩:=hX;exact yD (.callL e1 hs h1 (.inr (show 3<5 by decide)) (show 5<=1000 by decide))
 | loop n a k b=>
  obtain ⟨t',x,y,rfl,h1,_⟩:=hX;exact yD (.callL e1 hs h1 (.inr (show 3<5 by decide)) (show 5<=1000 by decide))
 | call1 n a=>
  obtain ⟨t',q,x,rfl,h1,h0,h2⟩:=hX;exact ⟨.call3 s (.nam "") (.nam "") (.nam ""),.fm (fun z=>by cases z) (.call e1 hs h1 (Nat.le_of_ble_eq_true rfl) (Nat.le_of_ble_eq_true rfl)) (.cons (oS _) (.cons (oS _) (.cons (.odd (odQ h0 h2)) .nil))),rfl,by simp only [zI];omega⟩
 | call2 n a b=>
  obtain ⟨t',q,x,y,rfl,h1,h0,h2,_⟩:=hX;exact ⟨.call3 s (.nam "") (.nam "") (.nam ""),.fm (fun z=>by cases z) (.call e1 hs h1 (Nat.le_of_ble_eq_true rfl) (Nat.le_of_ble_eq_true rfl)) (.cons (oS _) (.cons (oS _) (.cons (.odd (odQ h0 h2)) .nil))),rfl,by simp only [zI];omega⟩
 | call3 n a b c=>
  obtain ⟨t',q,x,y,z,rfl,h1,h0,h2,_⟩:=hX;exact ⟨.call3 s (.nam "") (.nam "") (.nam ""),.fm (fun z=>by cases z) (.call e1 hs h1 (Nat.le_of_ble_eq_true rfl) (Nat.le_of_ble_eq_true rfl)) (.cons (oS _) (.cons (oS _) (.cons (.odd (odQ h0 h2)) .nil))),rfl,by simp only [zI];omega⟩
def zNx:Sp:=fun vs H Q _=> ∃(n:Int) (g:V) (nm:Str) (e:Ex),vs= [.int n,g,.str nm] /\0<=n/\Nm nm/\Xt H e g/\Ok e/\ ∀v H',zB H H'->OdI H' e v->Q v H'
theorem zAy:FnScope ["_law_number_here","_law_good","_law_name","_law_one","_law_some"] ["_law_number_here","_law_good","_law_name"] (zM zHq):=fs
theorem zPm{f:Addr}{fd:FuncData}(F:Fun K "_law_odd" "_law_odd" zHq f fd)(B:Bn mg):FnOk P w K mg base CX0 1 f fd ["_law_number_here","_law_good","_law_name"] zNx:=by
 refine F.ok zAy (fun vs H Q E h=>?_) (fun _ A _ s H vs Q E hr h=>?_)
 ·obtain ⟨n,g,nm,e,rfl,_⟩:=h;rfl
 ·obtain ⟨n,g,nm,e,rfl,n0,hn,hX,ok,q⟩:=h;have hG:=zo hX ok;refine ⟨_,QB.out (zF
   (zd 3 zAy.nd rfl (zJ (qc zC (qc zC zA rfl) rfl)) rfl) (zF
   (zd 4 zAy.nd rfl (zW (qc zBp (qc (qw 2 rfl) (qc (zW (qc zG (qc (qw 2 rfl) zA rfl) rfl)) (qc (zJ zA) (qc (zJ (qc zG zA rfl)) (qc (zJ (qc zG (qc zG zA rfl) rfl)) (qc (zJ (qc zG (qc zG zA rfl) rfl)) (qc (zJ (qc zG (qc zG zA rfl) rfl)) (qc (zJ (qc zG (qc zC zA rfl) rfl)) zA rfl) rfl) rfl) rfl) rfl) rfl) rfl) rfl) rfl)) rfl) (zF
   (zd 4 zAy.nd rfl (yq (qw 4 rfl) (zW (qc (zJ (qc zG (qc (qw 2 rfl) (qc (qw 2 rfl) zA rfl) rfl) rfl)) (qc (zJ (qc zG (qc zG zA rfl) rfl)) (qc (zJ (qc zG (qc (zW (qc (qw 2 rfl) zA rfl)) zA rfl) rfl)) (qc (zJ (qc zG (qc (qw 2 rfl) zA rfl) rfl)) (qc (zJ (qc zC (qc (qw 2 rfl) zA rfl) rfl)) zA rfl) rfl) rfl) rfl) rfl))) rfl) (zF
   (zd 4 zAy.nd rfl (yq (qw 4 rfl) (zW (qc (zJ (qc (zW (qc zG zA rfl)) (qc (qw 2 rfl) zA rfl) rfl)) (qc (zJ (qc zG (qc (qw 3 rfl) zA rfl) rfl)) (qc (zJ (qc zG (qc zC (qc (zJ zA) zA rfl) rfl) rfl)) (qc (zJ (qc zG (qc (zJ (qc zC (qc zC zA rfl) rfl)) (qc (zJ zA) zA rfl) rfl) rfl)) zA rfl) rfl) rfl) rfl))) rfl) (zF
   (yO (yo (K:=K) rfl (qw 4 rfl) (zJ (qc zG (qc (zJ (qc (zDD zC) (qc zC zA rfl) rfl)) (qc (zJ zA) zA rfl) rfl) rfl)) rfl rfl rfl) rfl) (zF
   (zd 4 zAy.nd rfl (yq (qw 4 rfl) (zW (qc (zJ (qc zG (qc (qw 3 rfl) (qc zBp zA rfl) rfl) rfl)) (qc (zJ (qc zG (qc (zJ (qc zC (qc zC zA rfl) rfl)) (qc (zJ zA) zA rfl) rfl) rfl)) (qc (zJ (qc zG (qc (zJ (qc yh (qc zC zA rfl) rfl)) (qc (zJ zA) zA rfl) rfl) rfl)) (qc (zJ (qc zG (qc (qw 3 rfl) (qc (zJ (qc zG (qc zC zA rfl) rfl)) zA rfl) rfl) rfl)) zA rfl) rfl) rfl) rfl))) rfl) (zF
   (yO (yo (K:=K) rfl (qw 4 rfl) (zJ (qc zG (qc (qw 3 rfl) (qc (zJ (qc (zJ (qc zG (qc zC zA rfl) rfl)) zA rfl)) zA rfl) rfl) rfl)) rfl rfl rfl) rfl) (zF
   (zd 4 zAy.nd rfl (yq (qw 4 rfl) (zW (qc (zJ (qc zG (qc (qw 3 rfl) (qc (zJ (qc (zJ (qc zG (qc zC zA rfl) rfl)) zA rfl)) zA rfl) rfl) rfl)) (qc (zJ (qc zG (qc (qw 3 rfl) (qc (zJ (qc (zJ (qc zG (qc zC zA rfl) rfl)) (qc (zJ (qc zG (qc zC zA rfl) rfl)) zA rfl) rfl)) zA rfl) rfl) rfl)) (qc (zJ (qc zG (qc (qw 3 rfl) (qc (zW (qc (zJ (qc zG (qc zC zA rfl) rfl)) zA rfl)) zA rfl) rfl) rfl)) zA rfl) rfl) rfl))) rfl) (zF
   (zd 4 zAy.nd rfl (yq (qw 4 rfl) (zW (qc (zJ (qc zG (qc (zJ (qc zC (qc zC zA rfl) rfl)) (qc (zJ (qc (zJ (qc zG (qc yh zA rfl) rfl)) zA rfl)) zA rfl) rfl) rfl)) (qc (zJ (qc zG (qc (zW (qc zC (qc zC zA rfl) rfl)) (qc (zJ zA) zA rfl) rfl) rfl)) (qc (zJ (qc zG (qc (zJ (qc zG (qc zC zA rfl) rfl)) (qc (zJ zA) zA rfl) rfl) rfl)) (qc (zJ (qc zG zA rfl)) zA rfl) rfl) rfl) rfl))) rfl) (zF
   (zd 4 zAy.nd rfl (yq (qw 4 rfl) (zW (qc (zJ (qc zG (qc (qw 1 rfl) (qc (qw 1 rfl) zA rfl) rfl) rfl)) (qc (zJ (qc zG (qc (qw 1 rfl) zA rfl) rfl)) (qc (zJ (qc zG (qc (qw 1 rfl) (qc (qw 1 rfl) (qc (qw 1 rfl) zA rfl) rfl) rfl) rfl)) (qc (zJ (qc zG (qc (qw 1 rfl) (qc zBp zA rfl) rfl) rfl)) zA rfl) rfl) rfl) rfl))) rfl) (zF
   (zd 4 zAy.nd rfl (yq (qw 4 rfl) (zW (qc (zJ (qc zG (qc (zW (qc (qw 1 rfl) zA rfl)) (qc (qw 1 rfl) zA rfl) rfl) rfl)) (qc (zJ (qc zG (qc (qw 1 rfl) zA rfl) rfl)) (qc (zJ (qc zG (qc (qw 1 rfl) (qc zC zA rfl) rfl) rfl)) (qc (zJ (qc zG (qc (qw 1 rfl) (qc (zDD zC) zA rfl) rfl) rfl)) zA rfl) rfl) rfl) rfl))) rfl) (zF
   (zd 4 zAy.nd rfl (yq (qw 4 rfl) (zW (qc (zJ (qc zG (qc (qw 1 rfl) (qc yh zA rfl) rfl) rfl)) (qc (zJ (qc zG (qc (qw 1 rfl) (qc zBp zA rfl) rfl) rfl)) (qc (zJ (qc zG (qc (qw 1 rfl) (qc (qw 1 rfl) (qc (qw 1 rfl) zA rfl) rfl) rfl) rfl)) zA rfl) rfl) rfl))) rfl) (zF
   (yO (yo (K:=K) rfl (qw 4 rfl) (zJ (qc zG (qc (qw 2 rfl) (qc (qw 1 rfl) (qc zC (qc (qw 1 rfl) zA rfl) rfl) rfl) rfl) rfl)) rfl rfl rfl) rfl) (zF
   (zd 4 zAy.nd rfl (yq (qw 4 rfl) (zW (qc (zJ (qc zG (qc (qw 2 rfl) (qc (qw 1 rfl) (qc (zDD zC) (qc (qw 1 rfl) zA rfl) rfl) rfl) rfl) rfl)) (qc (zJ (qc zG (qc zG (qc (qw 1 rfl) (qc zC (qc (qw 1 rfl) zA rfl) rfl) rfl) rfl) rfl)) (qc (zJ (qc zG (qc (qw 2 rfl) (qc (qw 1 rfl) (qc yh (qc (qw 1 rfl) zA rfl) rfl) rfl) rfl) rfl)) zA rfl) rfl) rfl))) rfl) (zF
   (zd 4 zAy.nd rfl (yq (qw 4 rfl) (zW (qc (zJ (qc zG (qc (qw 2 rfl) (qc (qw 1 rfl) (qc (qw 1 rfl) zA rfl) rfl) rfl) rfl)) (qc (zJ (qc zG (qc (qw 2 rfl) (qc (zJ zA) zA rfl) rfl) rfl)) (qc (zJ (qc zG (qc (qw 2 rfl) (qc (zMW (zJ (qc (qw 1 rfl) zA rfl)) zC) zA rfl) rfl) rfl)) (qc (zJ (qc zG (qc (qw 2 rfl) (qc (zW (qc (qw 1 rfl) zA rfl)) zA rfl) rfl) rfl)) zA rfl) rfl) rfl) rfl))) rfl) (zK
   (zR (zg (K:=K) rfl (yq (qw 4 rfl) (zW (qc (zJ (qc zG (qc zG (qc (zJ (qc (qw 1 rfl) zA rfl)) zA rfl) rfl) rfl)) (qc (zJ (qc zG (qc (qw 2 rfl) (qc (qw 1 rfl) zA rfl) rfl) rfl)) (qc (zJ (qc zG (qc (qw 2 rfl) (qc (zJ (qc zBp zA rfl)) zA rfl) rfl) rfl)) zA rfl) rfl) rfl))) (zw (qw 0 rfl) zC) (fun _ _=>rfl))))))))))))))))))),?_⟩
  clear B F;refine hd fun Z hz=>?_;refine nw fun p1 H1 s1 e1=>?_;refine hz _ _ (hd fun Z hz=>?_);have s0:zB H H1:=s1;obtain ⟨oA,rfl⟩: ∃x,x=p1:=⟨_,rfl⟩;have eO:H1 oA=some (.tup [.int 1,.int 1]):=e1;clear e1 s1;refine ⟨_,rfl,_,rfl,nw fun p2 H2 s2 e2=>?_⟩;refine nw fun p3 H3 s3 e3=>?_;refine nw fun p4 H4 s4 e4=>?_;refine nw fun p5 H5 s5 e5=>?_;refine nw fun p6 H6 s6 e6=>?_;refine nw fun p7 H7 s7 e7=>?_;refine nw fun p8 H8 s8 e8=>?_;refine nw fun p9 H9 s9 e9=>?_;have t9:zB H9 H9:=zB.refl _;have t8:=s9.trans t9;have t7:=s8.trans t8;have t6:=s7.trans t7;have t5:=s6.trans t6;have t4:=s5.trans t5;have t3:=s4.trans t4;have t2:=s3.trans t3;have t1:=s2.trans t2;have A: ∀v∈ [.non,.str nm,.ref p2,.ref p3,.ref p4,.ref p5,.ref p6,.ref p7,.ref p8],OdI H9 e v:=(fm (yD (.wd (.noT .non))) (fm (yD (.wd (.noT (.str _)))) (fm (yD (.wd (.noT (.lst (t2 _ _ e2))))) (fm (yD (.wd (.emp (t3 _ _ e3)))) (fm (yD (.len (t4 _ _ e4) rfl (show ((1:Nat):Int)≠2 by decide))) (fm (yD (.nam (t5 _ _ e5) (zBF (by decide+kernel)) (by decide+kernel))) (fm (yD (.nam (t6 _ _ e6) (zBF (by decide+kernel)) (by decide+kernel))) (fm (yD (.nam (t7 _ _ e7) (zBF (by decide+kernel)) (by decide+kernel))) (fm (yD (.nam (t8 _ _ e8) ⟨.int _,fun _ z=>(by cases z)⟩ rfl)) fm0)))))))));obtain ⟨L,eL,B,lL⟩: ∃L,H9 p9=some (.lst L)/\(∀v∈L,OdI H9 e v)/\L.length=9:=⟨_,e9,A,rfl⟩;have s0:=s0.trans t1;have eO:=t1 _ _ eO;clear A e9 e8 e7 e6 e5 e4 e3 e2 t1 t2 t3 t4 t5 t6 t7 t8 t9 s2 s3 s4 s5 s6 s7 s8 s9;refine hz _ _ (hd fun Z hz=>?_);refine ⟨_,rfl,_,rfl,_,rfl,nw fun p10 H10 s10 e10=>?_⟩;refine nw fun p11 H11 s11 e11=>?_;refine ⟨_,rfl,nw fun p12 H12 s12 e12=>?_⟩;refine nw fun p13 H13 s13 e13=>?_;refine ⟨_,rfl,nw fun p14 H14 s14 e14=>?_⟩;refine ⟨_,rfl,nw fun p15 H15 s15 e15=>?_⟩;refine nw fun p16 H16 s16 e16=>?_;have t16:zB H16 H16:=zB.refl _;have t15:=s16.trans t16;have t14:=s15.trans t15;have t13:=s14.trans t14;have t12:=s13.trans t13;have t11:=s12.trans t12;have t10:=s11.trans t11;have t9:=s10.trans t10;have A: ∀v∈ [.ref p10,.ref p11,.ref p13,.ref p14,.ref p15],OdI H16 e v:=(fm (yD (.len (t10 _ _ e10) rfl (show ((3:Nat):Int)≠2 by decide))) (fm (yD (.nam (t11 _ _ e11) (zBF (by decide+kernel)) (by decide+kernel))) (fm (yD (.nam (t13 _ _ e13) ⟨.lst (t12 _ _ e12),fun _ z=>(by cases z)⟩ rfl)) (fm (yD (.no (t14 _ _ e14) rfl)) (fm (yD (.wd (.noS (t15 _ _ e15) (.int _) rfl))) fm0)))));refine zBm (t9 _ _ eL) e16 (by rw [lL];exact bs 14) fun p17 H17 nL17 s17 e17=>?_;obtain ⟨L2,eL2,B2,lL2⟩: ∃L2,H17 p17=some (.lst L2)/\(∀v∈L2,OdI H17 e v)/\L2.length=14:=⟨_,e17,fun v hv=>(zSW.mp hv).elim (fun z=>(B v z).same (t9.trans s17)) fun z=>(A v z).same s17,by rw [zSC,lL];rfl⟩;have s0:=s0.trans (t9.trans s17);have eO:=(t9.trans s17) _ _ eO;clear eL B lL nL17;obtain ⟨L,rfl⟩: ∃x,x=L2:=⟨_,rfl⟩;have eL:=eL2;have B:=B2;have lL:=lL2;clear eL2 B2 lL2;clear A e17 e16 e15 e14 e13 e12 e11 e10 t9 t10 t11 t12 t13 t14 t15 t16 s10 s11 s12 s13 s14 s15 s16 s17;refine hz _ _ (hd fun Z hz=>?_);refine ⟨_,rfl,nw fun p18 H18 s18 e18=>?_⟩;refine ⟨_,rfl,nw fun p19 H19 s19 e19=>?_⟩;refine ⟨_,rfl,nw fun p20 H20 s20 e20=>?_⟩;refine nw fun p21 H21 s21 e21=>?_;refine nw fun p22 H22 s22 e22=>?_;refine nw fun p23 H23 s23 e23=>?_;refine nw fun p24 H24 s24 e24=>?_;refine nw fun p25 H25 s25 e25=>?_;refine nw fun p26 H26 s26 e26=>?_;have t26:zB H26 H26:=zB.refl _;have t25:=s26.trans t26;have t24:=s25.trans t25;have t23:=s24.trans t24;have t22:=s23.trans t23;have t21:=s22.trans t22;have t20:=s21.trans t21;have t19:=s20.trans t20;have t18:=s19.trans t19;have t17:=s18.trans t18;have A: ∀v∈ [.ref p19,.ref p20,.ref p22,.ref p25],OdI H26 e v:=(fm (yD (.wd (.noS (t19 _ _ e19) (.lst (t18 _ _ e18)) rfl))) (fm (yD (.len (t20 _ _ e20) rfl (show ((2:Nat):Int)≠3 by decide))) (fm (yD (.num (t22 _ _ e22) (.noT (.int _)))) (fm (yD (.num (t25 _ _ e25) (.noF (t23 _ _ e23) (fm (.int _) (fm (.int _) fm0)) (by decide+kernel)))) fm0))));refine zBm (t17 _ _ eL) e26 (by rw [lL];exact bs 18) fun p27 H27 nL27 s27 e27=>?_;obtain ⟨L2,eL2,B2,lL2⟩: ∃L2,H27 p27=some (.lst L2)/\(∀v∈L2,OdI H26 e v)/\L2.length=18:=⟨_,e27,fun v hv=>(zSW.mp hv).elim (fun z=>(B v z).same (t17)) fun z=>A v z,by rw [zSC,lL];rfl⟩;have s0:=s0.trans (t17);have eO:=(t17) _ _ eO;obtain ⟨Hb,rfl⟩: ∃x,x=H26:=⟨_,rfl⟩;have nL:=nL27;have sL:=s27;clear eL B lL nL27;obtain ⟨L,rfl⟩: ∃x,x=L2:=⟨_,rfl⟩;have eL:=eL2;have B:=B2;have lL:=lL2;clear eL2 B2 lL2;clear A e27 e26 e25 e24 e23 e22 e21 e20 e19 e18 t17 t18 t19 t20 t21 t22 t23 t24 t25 t26 s18 s19 s20 s21 s22 s23 s24 s25 s26 s27;refine hz _ _ (hd fun Z hz=>?_);refine ⟨_,rfl,.inl ⟨rfl,_,SqL.of eL⟩,_,rfl,nw fun p28 H28 s28 e28=>?_⟩;refine nw fun p29 H29 s29 e29=>?_;refine nw fun p30 H30 s30 e30=>?_;have t30:zB H30 H30:=zB.refl _;have t29:=s30.trans t30;have t28:=s29.trans t29;have t27:=s28.trans t28;refine ⟨p27,_,_,rfl,rfl,t27 _ _ eL,by rw [lL];exact bs 19,?_⟩;have N31:zj H30 (L2.upd H30 p27 (.lst (L++ [.ref p30]))):=zj.lst (t27 _ _ eL);have S31:zB Hb (L2.upd H30 p27 (.lst (L++ [.ref p30]))):=zB.store (sL.trans t27) nL;have e31:(L2.upd H30 p27 (.lst (L++ [.ref p30]))) p27=some (.lst (L++ [.ref p30])):=zD;generalize L2.upd H30 p27 (.lst (L++ [.ref p30]))=H31 at N31 S31 e31⊢;have A1:OdI H31 e (.ref p30):=yD (.num (N31 _ _ (t30 _ _ e30) (fun _ z=>(by cases z))) (.neg (N31 _ _ (t28 _ _ e28) (fun _ z=>(by cases z))) (by decide+kernel) (by decide)));obtain ⟨L2,eL2,B2,lL2⟩: ∃L2,H31 p27=some (.lst L2)/\(∀v∈L2,OdI H31 e v)/\L2.length=19:=⟨_,e31,fun v hv=>(zSW.mp hv).elim (fun z=>(B v z).same S31) fun z=>(zSY.mp z)▸A1,by rw [zSC,lL];rfl⟩;have s0:=s0.trans S31;have eO:=S31 _ _ eO;clear eL B lL A1 N31 S31 sL nL e31 e30 e29 e28 t27 t28 t29 t30 s28 s29 s30;obtain ⟨L,rfl⟩: ∃x,x=L2:=⟨_,rfl⟩;have eL:=eL2;have B:=B2;have lL:=lL2;clear eL2 B2 lL2;refine hz _ _ (hd fun Z hz=>?_);refine ⟨_,rfl,_,rfl,nw fun p32 H32 s32 e32=>?_⟩;refine nw fun p33 H33 s33 e33=>?_;refine nw fun p34 H34 s34 e34=>?_;refine nw fun p35 H35 s35 e35=>?_;refine nw fun p36 H36 s36 e36=>?_;refine nw fun p37 H37 s37 e37=>?_;refine nw fun p38 H38 s38 e38=>?_;refine ⟨_,rfl,nw fun p39 H39 s39 e39=>?_⟩;refine nw fun p40 H40 s40 e40=>?_;refine nw fun p41 H41 s41 e41=>?_;have t41:zB H41 H41:=zB.refl _;have t40:=s41.trans t41;have t39:=s40.trans t40;have t38:=s39.trans t39;have t37:=s38.trans t38;have t36:=s37.trans t37;have t35:=s36.trans t36;have t34:=s35.trans t35;have t33:=s34.trans t34;have t32:=s33.trans t33;have t31:=s32.trans t32;have A: ∀v∈ [.ref p32,.ref p35,.ref p38,.ref p40],OdI H41 e v:=(fm (yD (.num (t32 _ _ e32) (.one (t31 _ _ eO)))) (fm (yD (.num (t35 _ _ e35) (.noF (t33 _ _ e33) (fm (.int _) (fm (.int _) fm0)) (by decide+kernel)))) (fm (yD (.num (t38 _ _ e38) (.noF (t36 _ _ e36) (fm (.bl _) (fm (.int _) fm0)) (by decide+kernel)))) (fm (yD (.num (t40 _ _ e40) (.noU (t31 _ _ eO) (by decide+kernel) (by decide) (.inr (.inr ⟨_,_,rfl,(t39 _ _ e39),Nat.le_of_ble_eq_true rfl,.bad zRC,rfl⟩))))) fm0))));refine zBm (t31 _ _ eL) e41 (by rw [lL];exact bs 23) fun p42 H42 nL42 s42 e42=>?_;obtain ⟨L2,eL2,B2,lL2⟩: ∃L2,H42 p42=some (.lst L2)/\(∀v∈L2,OdI H41 e v)/\L2.length=23:=⟨_,e42,fun v hv=>(zSW.mp hv).elim (fun z=>(B v z).same (t31)) fun z=>A v z,by rw [zSC,lL];rfl⟩;have s0:=s0.trans (t31);have eO:=(t31) _ _ eO;obtain ⟨Hb,rfl⟩: ∃x,x=H41:=⟨_,rfl⟩;have nL:=nL42;have sL:=s42;clear eL B lL nL42;obtain ⟨L,rfl⟩: ∃x,x=L2:=⟨_,rfl⟩;have eL:=eL2;have B:=B2;have lL:=lL2;clear eL2 B2 lL2;clear A e42 e41 e40 e39 e38 e37 e36 e35 e34 e33 e32 t31 t32 t33 t34 t35 t36 t37 t38 t39 t40 t41 s32 s33 s34 s35 s36 s37 s38 s39 s40 s41 s42;refine hz _ _ (hd fun Z hz=>?_);refine ⟨_,rfl,.inl ⟨rfl,_,SqL.of eL⟩,_,rfl,nw fun p43 H43 s43 e43=>?_⟩;refine nw fun p44 H44 s44 e44=>?_;refine nw fun p45 H45 s45 e45=>?_;have t45:zB H45 H45:=zB.refl _;have t44:=s45.trans t45;have t43:=s44.trans t44;have t42:=s43.trans t43;refine ⟨p42,_,_,rfl,rfl,t42 _ _ eL,by rw [lL];exact bs 24,?_⟩;have N46:zj H45 (L2.upd H45 p42 (.lst (L++ [.ref p45]))):=zj.lst (t42 _ _ eL);have S46:zB Hb (L2.upd H45 p42 (.lst (L++ [.ref p45]))):=zB.store (sL.trans t42) nL;have e46:(L2.upd H45 p42 (.lst (L++ [.ref p45]))) p42=some (.lst (L++ [.ref p45])):=zD;generalize L2.upd H45 p42 (.lst (L++ [.ref p45]))=H46 at N46 S46 e46⊢;have A1:OdI H46 e (.ref p45):=yD (.num (N46 _ _ (t45 _ _ e45) (fun _ z=>(by cases z))) (.noU (S46 _ _ eO) (by decide+kernel) (by decide) (.inr (.inl ⟨[("a",10)],⟨_,[p43],rfl,(N46 _ _ (t44 _ _ e44) (fun _ z=>(by cases z))),.cons (N46 _ _ (t43 _ _ e43) (fun _ z=>(by cases z))) .nil⟩,⟨zIN,by decide,zFs zIN,trivial⟩,by simp,by decide+kernel⟩))));obtain ⟨L2,eL2,B2,lL2⟩: ∃L2,H46 p42=some (.lst L2)/\(∀v∈L2,OdI H46 e v)/\L2.length=24:=⟨_,e46,fun v hv=>(zSW.mp hv).elim (fun z=>(B v z).same S46) fun z=>(zSY.mp z)▸A1,by rw [zSC,lL];rfl⟩;have s0:=s0.trans S46;have eO:=S46 _ _ eO;clear eL B lL A1 N46 S46 sL nL e46 e45 e44 e43 t42 t43 t44 t45 s43 s44 s45;obtain ⟨L,rfl⟩: ∃x,x=L2:=⟨_,rfl⟩;have eL:=eL2;have B:=B2;have lL:=lL2;clear eL2 B2 lL2;refine hz _ _ (hd fun Z hz=>?_);refine ⟨_,rfl,_,rfl,nw fun p47 H47 s47 e47=>?_⟩;refine nw fun p48 H48 s48 e48=>?_;refine nw fun p49 H49 s49 e49=>?_;refine ⟨_,rfl,nw fun p50 H50 s50 e50=>?_⟩;refine nw fun p51 H51 s51 e51=>?_;refine nw fun p52 H52 s52 e52=>?_;refine nw fun p53 H53 s53 e53=>?_;refine ⟨_,rfl,nw fun p54 H54 s54 e54=>?_⟩;refine nw fun p55 H55 s55 e55=>?_;refine nw fun p56 H56 s56 e56=>?_;refine nw fun p57 H57 s57 e57=>?_;have t57:zB H57 H57:=zB.refl _;have t56:=s57.trans t57;have t55:=s56.trans t56;have t54:=s55.trans t55;have t53:=s54.trans t54;have t52:=s53.trans t53;have t51:=s52.trans t52;have t50:=s51.trans t51;have t49:=s50.trans t50;have t48:=s49.trans t49;have t47:=s48.trans t48;have t46:=s47.trans t47;have A: ∀v∈ [.ref p49,.ref p53,.ref p56],OdI H57 e v:=(fm (yD (.num (t49 _ _ e49) (.noU (t46 _ _ eO) (by decide+kernel) (by decide) (.inr (.inr ⟨_,_,rfl,(t48 _ _ e48),Nat.le_of_ble_eq_true rfl,.stop (t47 _ _ e47) zIN (.inl rfl),rfl⟩))))) (fm (yD (.num (t53 _ _ e53) (.noU (t46 _ _ eO) (by decide+kernel) (by decide) (.inr (.inr ⟨_,_,rfl,(t52 _ _ e52),Nat.le_of_ble_eq_true rfl,.step (t50 _ _ e50) zMg (by decide) (zFs zMg) (.stop (t51 _ _ e51) zIN (.inr zNW)),rfl⟩))))) (fm (yD (.num (t56 _ _ e56) (.noU (t46 _ _ eO) (by decide+kernel) (by decide) (.inl ⟨.lst (t55 _ _ e55),rfl⟩)))) fm0)));refine zBm (t46 _ _ eL) e57 (by rw [lL];exact bs 27) fun p58 H58 nL58 s58 e58=>?_;obtain ⟨L2,eL2,B2,lL2⟩: ∃L2,H58 p58=some (.lst L2)/\(∀v∈L2,OdI H58 e v)/\L2.length=27:=⟨_,e58,fun v hv=>(zSW.mp hv).elim (fun z=>(B v z).same (t46.trans s58)) fun z=>(A v z).same s58,by rw [zSC,lL];rfl⟩;have s0:=s0.trans (t46.trans s58);have eO:=(t46.trans s58) _ _ eO;clear eL B lL nL58;obtain ⟨L,rfl⟩: ∃x,x=L2:=⟨_,rfl⟩;have eL:=eL2;have B:=B2;have lL:=lL2;clear eL2 B2 lL2;clear A e58 e57 e56 e55 e54 e53 e52 e51 e50 e49 e48 e47 t46 t47 t48 t49 t50 t51 t52 t53 t54 t55 t56 t57 s47 s48 s49 s50 s51 s52 s53 s54 s55 s56 s57 s58;refine hz _ _ (hd fun Z hz=>?_);refine ⟨_,rfl,nw fun p59 H59 s59 e59=>?_⟩;refine nw fun p60 H60 s60 e60=>?_;refine nw fun p61 H61 s61 e61=>?_;refine nw fun p62 H62 s62 e62=>?_;refine nw fun p63 H63 s63 e63=>?_;refine nw fun p64 H64 s64 e64=>?_;refine nw fun p65 H65 s65 e65=>?_;refine nw fun p66 H66 s66 e66=>?_;refine nw fun p67 H67 s67 e67=>?_;refine nw fun p68 H68 s68 e68=>?_;refine nw fun p69 H69 s69 e69=>?_;refine nw fun p70 H70 s70 e70=>?_;have t70:zB H70 H70:=zB.refl _;have t69:=s70.trans t70;have t68:=s69.trans t69;have t67:=s68.trans t68;have t66:=s67.trans t67;have t65:=s66.trans t66;have t64:=s65.trans t65;have t63:=s64.trans t64;have t62:=s63.trans t63;have t61:=s62.trans t62;have t60:=s61.trans t61;have t59:=s60.trans t60;have t58:=s59.trans t59;have A: ∀v∈ [.ref p62,.ref p65,.ref p68,.ref p69],OdI H70 e v:=(fm (yD (.num (t62 _ _ e62) (.noU (t59 _ _ e59) (by decide+kernel) (by decide) (.inr (.inr ⟨_,_,rfl,(t61 _ _ e61),Nat.le_of_ble_eq_true rfl,.bad (zQy (t60 _ _ e60)),rfl⟩))))) (fm (yD (.num (t65 _ _ e65) (.noT (.lst (t63 _ _ e63))))) (fm (yD (.num (t68 _ _ e68) (.noF (t66 _ _ e66) (fm (.str _) (fm (.int _) fm0)) (by decide+kernel)))) (fm (yD (.len (t69 _ _ e69) rfl (show ((1:Nat):Int)≠2 by decide))) fm0))));refine zBm (t58 _ _ eL) e70 (by rw [lL];exact bs 31) fun p71 H71 nL71 s71 e71=>?_;obtain ⟨L2,eL2,B2,lL2⟩: ∃L2,H71 p71=some (.lst L2)/\(∀v∈L2,OdI H71 e v)/\L2.length=31:=⟨_,e71,fun v hv=>(zSW.mp hv).elim (fun z=>(B v z).same (t58.trans s71)) fun z=>(A v z).same s71,by rw [zSC,lL];rfl⟩;have s0:=s0.trans (t58.trans s71);have eO:=(t58.trans s71) _ _ eO;clear eL B lL nL71;obtain ⟨L,rfl⟩: ∃x,x=L2:=⟨_,rfl⟩;have eL:=eL2;have B:=B2;have lL:=lL2;clear eL2 B2 lL2;clear A e71 e70 e69 e68 e67 e66 e65 e64 e63 e62 e61 e60 e59 t58 t59 t60 t61 t62 t63 t64 t65 t66 t67 t68 t69 t70 s59 s60 s61 s62 s63 s64 s65 s66 s67 s68 s69 s70 s71;refine hz _ _ (hd fun Z hz=>?_);refine ⟨_,rfl,_,rfl,_,rfl,nw fun p72 H72 s72 e72=>?_⟩;refine ⟨_,rfl,nw fun p73 H73 s73 e73=>?_⟩;refine ⟨_,rfl,_,rfl,_,rfl,nw fun p74 H74 s74 e74=>?_⟩;refine ⟨_,rfl,nw fun p75 H75 s75 e75=>?_⟩;refine nw fun p76 H76 s76 e76=>?_;have t76:zB H76 H76:=zB.refl _;have t75:=s76.trans t76;have t74:=s75.trans t75;have t73:=s74.trans t74;have t72:=s73.trans t73;have t71:=s72.trans t72;have A: ∀v∈ [.ref p72,.ref p73,.ref p74,.ref p75],OdI H76 e v:=(fm (yD (.len (t72 _ _ e72) rfl (show ((3:Nat):Int)≠2 by decide))) (fm (yD (.len (t73 _ _ e73) rfl (show ((2:Nat):Int)≠3 by decide))) (fm (yD (.len (t74 _ _ e74) rfl (show ((4:Nat):Int)≠3 by decide))) (fm (odT (t75 _ _ e75) (hG.same (s0.trans t71))) fm0))));refine zBm (t71 _ _ eL) e76 (by rw [lL];exact bs 35) fun p77 H77 nL77 s77 e77=>?_;obtain ⟨L2,eL2,B2,lL2⟩: ∃L2,H77 p77=some (.lst L2)/\(∀v∈L2,OdI H77 e v)/\L2.length=35:=⟨_,e77,fun v hv=>(zSW.mp hv).elim (fun z=>(B v z).same (t71.trans s77)) fun z=>(A v z).same s77,by rw [zSC,lL];rfl⟩;have s0:=s0.trans (t71.trans s77);have eO:=(t71.trans s77) _ _ eO;clear eL B lL nL77;obtain ⟨L,rfl⟩: ∃x,x=L2:=⟨_,rfl⟩;have eL:=eL2;have B:=B2;have lL:=lL2;clear eL2 B2 lL2;clear A e77 e76 e75 e74 e73 e72 t71 t72 t73 t74 t75 t76 s72 s73 s74 s75 s76 s77;refine hz _ _ (hd fun Z hz=>?_);refine ⟨_,rfl,_,rfl,nw fun p78 H78 s78 e78=>?_⟩;refine ⟨_,rfl,nw fun p79 H79 s79 e79=>?_⟩;refine ⟨_,rfl,nw fun p80 H80 s80 e80=>?_⟩;refine ⟨_,rfl,nw fun p81 H81 s81 e81=>?_⟩;refine ⟨_,rfl,_,rfl,nw fun p82 H82 s82 e82=>?_⟩;refine nw fun p83 H83 s83 e83=>?_;have t83:zB H83 H83:=zB.refl _;have t82:=s83.trans t83;have t81:=s82.trans t82;have t80:=s81.trans t81;have t79:=s80.trans t80;have t78:=s79.trans t79;have t77:=s78.trans t78;have A: ∀v∈ [.ref p79,.ref p80,.ref p81,.ref p82],OdI H83 e v:=(fm (odO (t79 _ _ e79) (t78 _ _ e78) (hG.same (s0.trans t77))) (fm (yD (.len (t80 _ _ e80) rfl (show ((2:Nat):Int)≠3 by decide))) (fm (yD (.pow (t81 _ _ e81) (.int _) (by decide+kernel))) (fm (yD (.pow (t82 _ _ e82) (.int _) (by decide+kernel))) fm0))));refine zBm (t77 _ _ eL) e83 (by rw [lL];exact bs 39) fun p84 H84 nL84 s84 e84=>?_;obtain ⟨L2,eL2,B2,lL2⟩: ∃L2,H84 p84=some (.lst L2)/\(∀v∈L2,OdI H84 e v)/\L2.length=39:=⟨_,e84,fun v hv=>(zSW.mp hv).elim (fun z=>(B v z).same (t77.trans s84)) fun z=>(A v z).same s84,by rw [zSC,lL];rfl⟩;have s0:=s0.trans (t77.trans s84);have eO:=(t77.trans s84) _ _ eO;clear eL B lL nL84;obtain ⟨L,rfl⟩: ∃x,x=L2:=⟨_,rfl⟩;have eL:=eL2;have B:=B2;have lL:=lL2;clear eL2 B2 lL2;clear A e84 e83 e82 e81 e80 e79 e78 t77 t78 t79 t80 t81 t82 t83 s78 s79 s80 s81 s82 s83 s84;refine hz _ _ (hd fun Z hz=>?_);refine ⟨_,rfl,_,rfl,nw fun p85 H85 s85 e85=>?_⟩;refine ⟨_,rfl,nw fun p86 H86 s86 e86=>?_⟩;refine ⟨_,rfl,_,rfl,_,rfl,nw fun p87 H87 s87 e87=>?_⟩;refine nw fun p88 H88 s88 e88=>?_;have t88:zB H88 H88:=zB.refl _;have t87:=s88.trans t88;have t86:=s87.trans t87;have t85:=s86.trans t86;have t84:=s85.trans t85;have A: ∀v∈ [.ref p85,.ref p86,.ref p87],OdI H88 e v:=(fm (yD (.pow (t85 _ _ e85) (.bl _) (by decide+kernel))) (fm (yD (.pow (t86 _ _ e86) .non (by decide+kernel))) (fm (yD (.len (t87 _ _ e87) rfl (show ((4:Nat):Int)≠5 by decide))) fm0)));refine zBm (t84 _ _ eL) e88 (by rw [lL];exact bs 42) fun p89 H89 nL89 s89 e89=>?_;obtain ⟨L2,eL2,B2,lL2⟩: ∃L2,H89 p89=some (.lst L2)/\(∀v∈L2,OdI H88 e v)/\L2.length=42:=⟨_,e89,fun v hv=>(zSW.mp hv).elim (fun z=>(B v z).same (t84)) fun z=>A v z,by rw [zSC,lL];rfl⟩;have s0:=s0.trans (t84);have eO:=(t84) _ _ eO;obtain ⟨Hb,rfl⟩: ∃x,x=H88:=⟨_,rfl⟩;have nL:=nL89;have sL:=s89;clear eL B lL nL89;obtain ⟨L,rfl⟩: ∃x,x=L2:=⟨_,rfl⟩;have eL:=eL2;have B:=B2;have lL:=lL2;clear eL2 B2 lL2;clear A e89 e88 e87 e86 e85 t84 t85 t86 t87 t88 s85 s86 s87 s88 s89;refine hz _ _ (hd fun Z hz=>?_);refine ⟨_,rfl,.inl ⟨rfl,_,SqL.of eL⟩,_,rfl,_,rfl,_,rfl,nw fun p90 H90 s90 e90=>?_⟩;have t90:zB H90 H90:=zB.refl _;have t89:=s90.trans t90;refine ⟨p89,_,_,rfl,rfl,t89 _ _ eL,by rw [lL];exact bs 43,?_⟩;have N91:zj H90 (L2.upd H90 p89 (.lst (L++ [.ref p90]))):=zj.lst (t89 _ _ eL);have S91:zB Hb (L2.upd H90 p89 (.lst (L++ [.ref p90]))):=zB.store (sL.trans t89) nL;have e91:(L2.upd H90 p89 (.lst (L++ [.ref p90]))) p89=some (.lst (L++ [.ref p90])):=zD;generalize L2.upd H90 p89 (.lst (L++ [.ref p90]))=H91 at N91 S91 e91⊢;have A1:OdI H91 e (.ref p90):=yD (.loopK (N91 _ _ (t90 _ _ e90) (fun _ z=>(by cases z))) hn (.int _) (by decide+kernel));obtain ⟨L2,eL2,B2,lL2⟩: ∃L2,H91 p89=some (.lst L2)/\(∀v∈L2,OdI H91 e v)/\L2.length=43:=⟨_,e91,fun v hv=>(zSW.mp hv).elim (fun z=>(B v z).same S91) fun z=>(zSY.mp z)▸A1,by rw [zSC,lL];rfl⟩;have s0:=s0.trans S91;have eO:=S91 _ _ eO;clear eL B lL A1 N91 S91 sL nL e91 e90 t89 t90 s90;obtain ⟨L,rfl⟩: ∃x,x=L2:=⟨_,rfl⟩;have eL:=eL2;have B:=B2;have lL:=lL2;clear eL2 B2 lL2;refine hz _ _ (hd fun Z hz=>?_);refine ⟨_,rfl,_,rfl,_,rfl,_,rfl,_,rfl,nw fun p92 H92 s92 e92=>?_⟩;refine ⟨_,rfl,_,rfl,nw fun p93 H93 s93 e93=>?_⟩;refine ⟨_,rfl,_,rfl,_,rfl,nw fun p94 H94 s94 e94=>?_⟩;refine nw fun p95 H95 s95 e95=>?_;have t95:zB H95 H95:=zB.refl _;have t94:=s95.trans t95;have t93:=s94.trans t94;have t92:=s93.trans t93;have t91:=s92.trans t92;have A: ∀v∈ [.ref p92,.ref p93,.ref p94],OdI H95 e v:=(fm (yD (.loopK (t92 _ _ e92) hn (.int _) (by decide+kernel))) (fm (yD (.loopN (t93 _ _ e93) (zBF (by decide+kernel)) (by decide+kernel))) (fm (yD (.loopK (t94 _ _ e94) hn (.bl _) (by decide+kernel))) fm0)));refine zBm (t91 _ _ eL) e95 (by rw [lL];exact bs 46) fun p96 H96 nL96 s96 e96=>?_;obtain ⟨L2,eL2,B2,lL2⟩: ∃L2,H96 p96=some (.lst L2)/\(∀v∈L2,OdI H96 e v)/\L2.length=46:=⟨_,e96,fun v hv=>(zSW.mp hv).elim (fun z=>(B v z).same (t91.trans s96)) fun z=>(A v z).same s96,by rw [zSC,lL];rfl⟩;have s0:=s0.trans (t91.trans s96);have eO:=(t91.trans s96) _ _ eO;clear eL B lL nL96;obtain ⟨L,rfl⟩: ∃x,x=L2:=⟨_,rfl⟩;have eL:=eL2;have B:=B2;have lL:=lL2;clear eL2 B2 lL2;clear A e96 e95 e94 e93 e92 t91 t92 t93 t94 t95 s92 s93 s94 s95 s96;refine hz _ _ (hd fun Z hz=>?_);refine ⟨_,rfl,_,rfl,_,rfl,_,rfl,nw fun p97 H97 s97 e97=>?_⟩;refine ⟨_,rfl,nw fun p98 H98 s98 e98=>?_⟩;refine nw fun p99 H99 s99 e99=>?_;refine ⟨_,rfl,_,rfl,nw fun p100 H100 s100 e100=>?_⟩;refine zQE (c:=4) e100 (by decide) (by decide) fun p101 H101 s101 e101=>?_;refine nw fun p102 H102 s102 e102=>?_;refine ⟨_,rfl,_,rfl,nw fun p103 H103 s103 e103=>?_⟩;refine nw fun p104 H104 s104 e104=>?_;refine nw fun p105 H105 s105 e105=>?_;have t105:zB H105 H105:=zB.refl _;have t104:=s105.trans t105;have t103:=s104.trans t104;have t102:=s103.trans t103;have t101:=s102.trans t102;have t100:=s101.trans t101;have t99:=s100.trans t100;have t98:=s99.trans t99;have t97:=s98.trans t98;have t96:=s97.trans t97;have A: ∀v∈ [.ref p97,.ref p99,.ref p102,.ref p104],OdI H105 e v:=(fm (yD (.len (t97 _ _ e97) rfl (show ((4:Nat):Int)≠5 by decide))) (fm (yD (.callL (t99 _ _ e99) hn (t98 _ _ e98) (.inl rfl) (by decide))) (fm (yD (.callL (t102 _ _ e102) hn (t101 _ _ e101) (.inr (show 3<4 by decide)) (show 4<=1000 by decide))) (fm (yD (.callT (t104 _ _ e104) hn (.lst (t103 _ _ e103)))) fm0))));refine zBm (t96 _ _ eL) e105 (by rw [lL];exact bs 50) fun p106 H106 nL106 s106 e106=>?_;obtain ⟨L2,eL2,B2,lL2⟩: ∃L2,H106 p106=some (.lst L2)/\(∀v∈L2,OdI H106 e v)/\L2.length=50:=⟨_,e106,fun v hv=>(zSW.mp hv).elim (fun z=>(B v z).same (t96.trans s106)) fun z=>(A v z).same s106,by rw [zSC,lL];rfl⟩;have s0:=s0.trans (t96.trans s106);have eO:=(t96.trans s106) _ _ eO;clear eL B lL nL106;obtain ⟨L,rfl⟩: ∃x,x=L2:=⟨_,rfl⟩;have eL:=eL2;have B:=B2;have lL:=lL2;clear eL2 B2 lL2;clear A e106 e105 e104 e103 e102 e101 e100 e99 e98 e97 t96 t97 t98 t99 t100 t101 t102 t103 t104 t105 s97 s98 s99 s100 s101 s102 s103 s104 s105 s106;refine hz _ _ ?_;refine ⟨_,rfl,_,rfl,nw fun p107 H107 s107 e107=>?_⟩;refine nw fun p108 H108 s108 e108=>?_;refine ⟨_,rfl,_,rfl,nw fun p109 H109 s109 e109=>?_⟩;refine ⟨_,rfl,nw fun p110 H110 s110 e110=>?_⟩;refine nw fun p111 H111 s111 e111=>?_;refine nw fun p112 H112 s112 e112=>?_;have t112:zB H112 H112:=zB.refl _;have t111:=s112.trans t112;have t110:=s111.trans t111;have t109:=s110.trans t110;have t108:=s109.trans t109;have t107:=s108.trans t108;have t106:=s107.trans t107;have A: ∀v∈ [.ref p108,.ref p109,.ref p111],OdI H112 e v:=(fm (yD (.callN (t108 _ _ e108) (zBF (by decide+kernel)) (by decide+kernel))) (fm (odG (t109 _ _ e109) hn (hX.same (s0.trans t106)) ok) (fm (odC (t111 _ _ e111) hn (t110 _ _ e110)) fm0)));refine zBm (t106 _ _ eL) e112 (by rw [lL];exact bs 53) fun p113 H113 nL113 s113 e113=>?_;obtain ⟨L2,eL2,B2,lL2⟩: ∃L2,H113 p113=some (.lst L2)/\(∀v∈L2,OdI H113 e v)/\L2.length=53:=⟨_,e113,fun v hv=>(zSW.mp hv).elim (fun z=>(B v z).same (t106.trans s113)) fun z=>(A v z).same s113,by rw [zSC,lL];rfl⟩;have s0:=s0.trans (t106.trans s113);have eO:=(t106.trans s113) _ _ eO;clear eL B lL nL113;obtain ⟨L,rfl⟩: ∃x,x=L2:=⟨_,rfl⟩;have eL:=eL2;have B:=B2;have lL:=lL2;clear eL2 B2 lL2;clear A e113 e112 e111 e110 e109 e108 e107 t106 t107 t108 t109 t110 t111 t112 s107 s108 s109 s110 s111 s112 s113;obtain ⟨v,ev,hv⟩:=zAJ (n:=n) (m:=53) (p:=fun v=>OdI H113 e v) B (by rw [lL];rfl) (by decide);exact ⟨_,rfl,_,_,rfl,rfl,by decide,p113,_,_,_,rfl,rfl,SqL.of eL,ev,q v H113 s0 hv⟩
theorem zMP:Nm "last" :=by show ya (.str "last")=true;decide+kernel
theorem zNc{U:List Str}{Cs:List (Str×Nat)}(hC: ∀p∈Cs,Nm p.1){N:List Str}{e:Ex}(g:Gen U Cs N e):(∀x∈N,Nm x)->Ok e:=by
 induction g with
 | leaf h=>
  intro hN;cases h with
  | nam h=>exact hN _ h
  | num ok _=>exact ok
 | neg _ ih=>exact fun hN=>ih hN
 | bin hw _ _ i1 i2=>exact fun hN=>⟨hw,i1 hN,i2 hN⟩
 | pow _ k0 k1 ih=>exact fun hN=>⟨ih hN,k0,k1⟩
 | ite _ _ _ _ i1 i2 i3 i4=>exact fun hN=>⟨i1 hN,i2 hN,i3 hN,i4 hN⟩
 | @loop N s e f k hs _ k0 k1 _ i1 i2=>
  intro hN;have ns:Nm s:=hs.elim (fun h=>hN _ h) fun h=>by rw [h];exact zMP
  exact ⟨ns,i1 hN,k0,k1,i2 fun x hx=>(zSW.mp hx).elim (fun h=>hN _ h) fun h=>by rw [zSY.mp h];exact ns⟩
 | call1 hc _ i1=>exact fun hN=>⟨hC _ hc,i1 hN⟩
 | call2 hc _ _ i1 i2=>exact fun hN=>⟨hC _ hc,i1 hN,i2 hN⟩
 | call3 hc _ _ _ i1 i2 i3=>exact fun hN=>⟨hC _ hc,i1 hN,i2 hN,i3 hN⟩
theorem zPQ{U N:List Str}{e:Ex}(h:Lf U N e)(hN: ∀x∈N,Nm x):Ok e/\zI e=1/\zO e=1:=by
 cases h with
 | nam h=>exact ⟨hN _ h,rfl,rfl⟩
 | num ok _=>exact ⟨ok,rfl,rfl⟩
theorem zAU(e:Ex): ∀n,zI (zBn n e)=n+zI e
 | 0=>by simp [zBn]
 | n+1=>by simp only [zBn,zI,zAU e n];omega
theorem zAe(e:Ex): ∀n,zO (zBn n e)=n+zO e
 | 0=>by simp [zBn]
 | n+1=>by simp only [zBn,zO,zAe e n];omega
theorem zDm(e:Ex): ∀d n,zO (wid d n e)<=d+zO e
 | 0,_=>by simp [wid]
 | d+1,n=>by
  have h1:=zDm e d (n/2);have h2:=zDm e d (n - n/2);simp only [wid];split
  ·omega
  ·simp only [zO];omega
theorem zBr{e:Ex}(h:zI e=1): ∀d n,1<=n->n<=cap d->zI (wid d n e)+1=2*n
 | 0,n,a,b=>absurd a (by simp [cap] at b;omega)
 | 1,n,a,b=>by
  have b:n<=1:=b;simp only [wid,if_pos b,h];omega
 | d+2,n,a,b=>by
  have b:n<=2^d*2:=b;have e1:cap (d+1)=2^d:=rfl;simp only [wid];split
  ·omega
  ·have h1:=zBr h (d+1) (n/2) (by omega) (by omega);have h2:=zBr h (d+1) (n - n/2) (by omega) (by omega);simp only [wid] at h1 h2;simp only [zI];omega
def GrE(H:Hp)(x:V):Prop:= ∃e,Yt H e x/\zI e<=1000/\exB e=false
def JuE(H:Hp)(x:V):Prop:= ∃e,Xt H e x/\Ok e/\zI e<=40/\zO e<=10
theorem GrE.same{H H':Hp}{x:V}(h:GrE H x)(s:zB H H'):GrE H' x:=let ⟨e,a,b⟩:=h;⟨e,a.same s,b⟩
theorem GrE.mk{H:Hp}{e:Ex}{x:V}(h:Xt H e x)(ok:Ok e)(n:zI e<=1000)(d:10<zO e\/40<zI e):GrE H x:=⟨e,zo h ok,n,zCB (d.imp (fun d=>by simp [d]) id)⟩
theorem zQu{N:List Str}(h:N.length=8): ∃n0 n1 n2 n3 n4 n5 n6 n7,N= [n0,n1,n2,n3,n4,n5,n6,n7] :=by
 match N,h with
 | [n0,n1,n2,n3,n4,n5,n6,n7],_=>exact ⟨_,_,_,_,_,_,_,_,rfl⟩
theorem zHB{l:Addr}{H H1 H':Hp}(hl:H l=none)(s:zB H H1)(b:Bt1 l H1 H'):zB H H':=fun c o e=>b c o (fun z=>by rw [z,hl] at e;cases e) (s c o e)
theorem SqL.sameS{K:zSS}{H H':Hp}{a:Addr}{xs:List V}(h:SqL K H a xs)(s:zB H H'):SqL K H' a xs:=by
 rcases h with (h |⟨o,h⟩)| h
 ·exact .inl (.inl (s _ _ h))
 ·exact .inl (.inr ⟨o,s _ _ h⟩)
 ·exact .inr h
def zFJ(K:zSS):Sp:=fun vs H Q _=> ∃(a:Addr) (ns:List Int),vs= [.ref a] /\SqL K H a (ns.map V.int)/\ns.length<=63/\ ∀H',Q (.bl true) H'
theorem zAk:FnScope ["_law_script","_law_names_here","_law_calls","_law_told","_law_held","_law_number_here","_law_leaf_here","_law_call","_law_great","_law_just","_law_way"] ["_law_script"] (zM zEb):=fs
theorem zMh{f fNu fNs fX fNo fI fM fR fS fO fL fWt fWd:Addr}{fd fdNu fdNs fdX fdNo fdI fdM fdR fdS fdO fdL fdWt fdWd:FuncData}{NC:Addr->Prop}{c:Cz}(F:Fun K "law" "law" zEb f fd)(B:Bn mg)
  (FNu:Fun K "_law_number" "_law_number" zFe fNu fdNu) (bNu:zL K fdNu ["_law_script","_law_k"] []) (mNu:mg "_law_number" =some (.ref fNu)) (GNu:FnOk P w K mg base CX0 2 fNu fdNu ["_law_script","_law_k"] (zHw K))
  (FNs:Fun K "_law_names" "_law_names" zEQ fNs fdNs) (bNs:zL K fdNs ["_law_number_here"] []) (mNs:mg "_law_names" =some (.ref fNs)) (GNs:FnOk P w K mg base CX0 2 fNs fdNs ["_law_number_here"] zNO)
  (FX:Fun K "_law_expression" "_law_expression" zIQ fX fdX) (bX:zL K fdX ["_law_script","_law_at","_law_deep","_law_units","_law_names_here","_law_calls"] []) (mX:mg "_law_expression" =some (.ref fX)) (GX:FnOk P w K mg base CX0 11 fX fdX ["_law_script","_law_at","_law_deep","_law_units","_law_names_here","_law_calls"] (zOe K 7))
  (FNo:Fun K "node_of" "node_of" zCz fNo fdNo) (bNo:zL K fdNo ["told"] []) (mNo:mg "node_of" =some (.ref fNo)) (GNo:FnOk P w K mg base CX0 15 fNo fdNo ["told"] (zGE NC c))
  (FI:Fun K "_law_is" "_law_is" lIs fI fdI) (bI:zL K fdI ["_law_node","_law_told","_law_held"] []) (mI:mg "_law_is" =some (.ref fI)) (GI:FnOk P w K mg base CX0 40 fI fdI ["_law_node","_law_told","_law_held"] (zOH NC c 10))
  (FM:Fun K "_law_made" "_law_made" zFH fM fdM) (bM:zL K fdM ["_law_told"] []) (mM:mg "_law_made" =some (.ref fM)) (GM:FnOk P w K mg base CX0 16 fM fdM ["_law_told"] (zGE NC c))
  (FR:Fun K "_law_refused" "_law_refused" zCR fR fdR) (bR:zL K fdR ["_law_told"] []) (mR:mg "_law_refused" =some (.ref fR)) (GR:FnOk P w K mg base CX0 16 fR fdR ["_law_told"] zOU)
  (FS:Fun K "_law_spoilt" "_law_spoilt" zDK fS fdS) (bS:zL K fdS ["_law_told","_law_number_here","_law_odd_here"] []) (mS:mg "_law_spoilt" =some (.ref fS)) (GS:FnOk P w K mg base CX0 12 fS fdS ["_law_told","_law_number_here","_law_odd_here"] (zNQ 10))
  (FO:Fun K "_law_odd" "_law_odd" zHq fO fdO) (bO:zL K fdO ["_law_number_here","_law_good","_law_name"] []) (mO:mg "_law_odd" =some (.ref fO)) (GO:FnOk P w K mg base CX0 1 fO fdO ["_law_number_here","_law_good","_law_name"] zNx)
  (FL:Fun K "_law_leaf" "_law_leaf" zDr fL fdL) (bL:zL K fdL ["_law_number_here","_law_units","_law_names_here"] []) (mL:mg "_law_leaf" =some (.ref fL)) (GL:FnOk P w K mg base CX0 3 fL fdL ["_law_number_here","_law_units","_law_names_here"] zJx)
  (FWt:Fun K "_law_within" "_law_within" zCv fWt fdWt) (bWt:zL K fdWt ["_law_told","_law_many"] []) (mWt:mg "_law_within" =some (.ref fWt)) (GWt:FnOk P w K mg base CX0 1 fWt fdWt ["_law_told","_law_many"] zOX)
  (FWd:Fun K "_law_wide" "_law_wide" zFK fWd fdWd) (bWd:zL K fdWd ["_law_many","_law_leaf_here"] []) (mWd:mg "_law_wide" =some (.ref fWd)) (GWd:FnOk P w K mg base CX0 7 fWd fdWd ["_law_many","_law_leaf_here"] (zNJ 6)):
  FnOk P w K mg base CX0 41 f fd ["_law_script"] (zFJ K):=by
 refine F.ok zAk (fun vs H Q E h=>?_) (fun _ A _ s H vs Q E hr40 h=>?_)
 ·obtain ⟨a,ns,rfl,_⟩:=h;rfl
 ·obtain ⟨sA,ns,rfl,sq,nsl,q⟩:=h;have hr40:Room 40 _:=hr40;have hr16:Room 16 _:=hr40.mono (by decide);have hr15:Room 15 _:=hr40.mono (by decide);have hr12:Room 12 _:=hr40.mono (by decide);have hr11:Room 11 _:=hr40.mono (by decide);have hr7:Room 7 _:=hr40.mono (by decide);have hr3:Room 3 _:=hr40.mono (by decide);have hr2:Room 2 _:=hr40.mono (by decide);have hr1:Room 1 _:=hr40.mono (by decide);have huN:=Nat.lt_of_succ_lt (zBK hr1);refine ⟨_,QB.out (zF
   (zd 1 zAk.nd rfl (zP GNs hr2 rfl mNs FNs.kp bNs .nil zH (qc (zP GNu hr2 rfl mNu FNu.kp bNu .nil zH (qc (qw 0 rfl) (qc zC zA rfl) rfl) rfl rfl rfl) zA rfl) rfl rfl rfl) rfl) (zF
   (zd 2 zAk.nd rfl (zW (qc (zJ (qc (zg (K:=K) rfl (qw 1 rfl) zC (fun _ _=>rfl)) (qc zC zA rfl) rfl)) (qc (zJ (qc (zg (K:=K) rfl (qw 1 rfl) zC (fun _ _=>rfl)) (qc zC zA rfl) rfl)) (qc (zJ (qc (zg (K:=K) rfl (qw 1 rfl) zC (fun _ _=>rfl)) (qc zC zA rfl) rfl)) zA rfl) rfl) rfl)) rfl) (zF
   (zd 3 zAk.nd rfl (zP GX hr11 rfl mX FX.kp bX .nil zH (qc (qw 0 rfl) (qc (zW (qc zC (qc zC zA rfl) rfl)) (qc (yx zC (zw (zP GNu hr2 rfl mNu FNu.kp bNu .nil zH (qc (qw 0 rfl) (qc zC zA rfl) rfl) rfl rfl rfl) zC)) (qc (zCZ (K:=K) rfl (qw 1 rfl) zAH (yp zC)) (qc (zCZ (K:=K) rfl (qw 1 rfl) (yp zC) (yp zC)) (qc (qw 2 rfl) zA rfl) rfl) rfl) rfl) rfl) rfl) rfl rfl rfl) rfl) (zF
   (zd 4 zAk.nd rfl (zW zA) rfl) (zF
   (zf (t_w (zAF (yf (yW (zP GI hr40 rfl mI FI.kp bI .nil zH (qc (zP GNo hr15 rfl mNo FNo.kp bNo .nil zH (qc (qw 3 rfl) zA rfl) rfl rfl rfl) (qc (qw 3 rfl) (qc (qw 4 rfl) zA rfl) rfl) rfl) rfl rfl rfl) (fun _=>rfl))) (yz (yf (yW (zP GI hr40 rfl mI FI.kp bI .nil zH (qc (zP GM hr16 rfl mM FM.kp bM .nil zH (qc (qw 3 rfl) zA rfl) rfl rfl rfl) (qc (qw 3 rfl) (qc (qw 4 rfl) zA rfl) rfl) rfl) rfl rfl rfl) (fun _=>rfl)))))) (zK
    (zR yh)) zZ) (zF
   (zd 5 zAk.nd rfl (zP GNu hr2 rfl mNu FNu.kp bNu .nil zH (qc (qw 0 rfl) (qc zC zA rfl) rfl) rfl rfl rfl) rfl) (zF
   (zf (yf (yW (zP GR hr16 rfl mR FR.kp bR .nil zH (qc (zP GS hr12 rfl mS FS.kp bS .nil zH (qc (qw 3 rfl) (qc (qw 5 rfl) (qc (zP GO hr1 rfl mO FO.kp bO .nil zH (qc (zP GNu hr2 rfl mNu FNu.kp bNu .nil zH (qc (qw 0 rfl) (qc zC zA rfl) rfl) rfl rfl rfl) (qc (qw 3 rfl) (qc (zg (K:=K) rfl (qw 1 rfl) zC (fun _ _=>rfl)) zA rfl) rfl) rfl) rfl rfl rfl) zA rfl) rfl) rfl) rfl rfl rfl) zA rfl) rfl rfl rfl) (fun _=>rfl))) (zK
    (zR yh)) zZ) (zF
   (zd 6 zAk.nd rfl (zP GL hr3 rfl mL FL.kp bL .nil zH (qc (zP GNu hr2 rfl mNu FNu.kp bNu .nil zH (qc (qw 0 rfl) (qc zC zA rfl) rfl) rfl rfl rfl) (qc (zCZ (K:=K) rfl (qw 1 rfl) zAH (yp zC)) (qc (zCZ (K:=K) rfl (qw 1 rfl) (yp zC) zAH) zA rfl) rfl) rfl) rfl rfl rfl) rfl) (zF
   (zd 7 zAk.nd rfl (zJ (qc zG (qc (zg (K:=K) rfl (qw 1 rfl) zC (fun _ _=>rfl)) (qc (zJ (qc (qw 6 rfl) (qc (qw 6 rfl) (qc (qw 6 rfl) zA rfl) rfl) rfl)) zA rfl) rfl) rfl)) rfl) (zF
   (zd 8 zAk.nd rfl (zW (qc (zP GWt hr1 rfl mWt FWt.kp bWt .nil zH (qc (qw 6 rfl) (qc zC zA rfl) rfl) rfl rfl rfl) (qc (zP GWd hr7 rfl mWd FWd.kp bWd .nil zH (qc zC (qc (qw 6 rfl) zA rfl) rfl) rfl rfl rfl) (qc (zP GWt hr1 rfl mWt FWt.kp bWt .nil zH (qc (qw 7 rfl) (qc zC zA rfl) rfl) rfl rfl rfl) zA rfl) rfl) rfl)) rfl) (zF
   (yO (yo (K:=K) rfl (qw 8 rfl) (zJ (qc zG (qc (zJ (qc zG (qc (zP GWd hr7 rfl mWd FWd.kp bWd .nil zH (qc zC (qc (qw 6 rfl) zA rfl) rfl) rfl rfl rfl) zA rfl) rfl)) zA rfl) rfl)) rfl rfl rfl) rfl) (zF
   (zd 9 zAk.nd rfl (zW (qc (zP GWt hr1 rfl mWt FWt.kp bWt .nil zH (qc (qw 6 rfl) (qc zC zA rfl) rfl) rfl rfl rfl) (qc (zP GWd hr7 rfl mWd FWd.kp bWd .nil zH (qc zC (qc (qw 6 rfl) zA rfl) rfl) rfl rfl rfl) (qc (zP GWt hr1 rfl mWt FWt.kp bWt .nil zH (qc (qw 7 rfl) (qc zC zA rfl) rfl) rfl rfl rfl) (qc (zJ (qc zG (qc (zP GWd hr7 rfl mWd FWd.kp bWd .nil zH (qc zC (qc (qw 6 rfl) zA rfl) rfl) rfl rfl rfl) zA rfl) rfl)) zA rfl) rfl) rfl) rfl)) rfl) (zF
   (zd 10 zAk.nd rfl (zw (yA (qw 5 rfl) zC) zC) rfl) (zF
   (zf (t_w (zAF (yf (yW (zP GR hr16 rfl mR FR.kp bR .nil zH (qc (zg (K:=K) rfl (qw 8 rfl) (qw 10 rfl) (fun _ _=>rfl)) zA rfl) rfl rfl rfl) (fun _=>rfl))) (yz (yf (yW (zP GR hr16 rfl mR FR.kp bR .nil zH (qc (zP GWt hr1 rfl mWt FWt.kp bWt .nil zH (qc (qw 6 rfl) (qc zC zA rfl) rfl) rfl rfl rfl) zA rfl) rfl rfl rfl) (fun _=>rfl)))))) (zK
    (zR yh)) zZ) (zF
   (zf (yf (yW (zP GI hr40 rfl mI FI.kp bI .nil zH (qc (zP GNo hr15 rfl mNo FNo.kp bNo .nil zH (qc (zg (K:=K) rfl (qw 9 rfl) (qw 10 rfl) (fun _ _=>rfl)) zA rfl) rfl rfl rfl) (qc (zg (K:=K) rfl (qw 9 rfl) (qw 10 rfl) (fun _ _=>rfl)) (qc (qw 4 rfl) zA rfl) rfl) rfl) rfl rfl rfl) (fun _=>rfl))) (zK
    (zR yh)) zZ) (zK
   (zR (zCK (zCM huN) (yu (cl:= []) ["_law_one","_law_copy"] [] [] rfl (zAm (K:=K) rfl (qw 4 rfl)) rfl (by decide+kernel) rfl (by decide+kernel) (fun _ _ h=>nomatch h) rfl (fun j y i h=>nomatch h) (yJ rfl) (fun _ _ _ _=>(zDo (K:=K) (n:=2) rfl rfl (zAX (zq 0 (show (["_law_one","_law_copy"] :List Str).Nodup by decide+kernel) rfl (.inl rfl) (.inr rfl)) (zAX (zq 1 (show (["_law_one","_law_copy"] :List Str).Nodup by decide+kernel) rfl (.inl rfl) (.inr rfl)) zEA rfl) rfl) rfl rfl)) (fun _ _ _ _=>(zGZ (zU (zIk (K:=K) rfl huN) (qw 0 rfl) (qw 1 rfl) rfl))) (fun _ _ _ _=>(qw 0 rfl)) (fun _=>rfl)) (zW zA) rfl)))))))))))))))))),?_⟩
  refine hd fun Z hz=>?_;refine ⟨_,rfl,sA,ns,0,rfl,sq,nsl,by decide,by decide,fun r0 H1 s1 r00 _=>⟨r0,rfl,r00,fun nl N H2 s2 hn en e8=>hz _ _ (hd fun Z hz=>?_)⟩⟩;obtain ⟨n0,n1,n2,n3,n4,n5,n6,n7,rfl⟩:=zQu e8.len;have nm:=e8.nm;have nd:=e8.nd;clear e8 hn;have s02:=s1.trans s2;clear s1 s2;refine ⟨_,rfl,nl,_,_,_,rfl,rfl,SqL.of en,rfl,nw fun t1 H3 s3 e3=>⟨_,rfl,nl,_,_,_,rfl,rfl,SqL.of (s3 _ _ en),rfl,nw fun t2 H4 s4 e4=>?_⟩⟩;refine ⟨_,rfl,nl,_,_,_,rfl,rfl,SqL.of (s4 _ _ (s3 _ _ en)),rfl,nw fun t3 H5 s5 e5=>nw fun cl_ H6 s6 e6=>hz _ _ (hd fun Z hz=>?_)⟩;have s26:=s3.trans (s4.trans (s5.trans s6));have en6:=s26 _ _ en;have pc:Paired (fun t (p:Str×Nat)=>H6 t=some (.tup [.str p.1,.int (p.2:Int)])) [t1,t2,t3] [(n4,1),(n5,2),(n6,3)] := .cons (s6 _ _ (s5 _ _ (s4 _ _ e3))) (.cons (s6 _ _ (s5 _ _ e4)) (.cons (s6 _ _ e5) .nil));have s06:=s02.trans s26;clear e3 e4 e5 s3 s4 s5 s6 s26 en s02;refine ⟨_,rfl,nwf fun l H7 hl s7 e7=>⟨_,rfl,sA,ns,40,rfl,SqL.sameS sq (s06.trans s7),nsl,by decide,by decide,fun r1 H8 s8 r10 _=>?_⟩⟩;have s08:=s7.trans s8;refine ⟨_,_,rfl,rfl,by decide,_,_,rfl,rfl,_,rfl,_,rfl,sll (s08 _ _ en6) fun u H9 s9 e9=>⟨_,rfl,_,rfl,_,rfl,sll (s9 _ _ (s08 _ _ en6)) fun a H10 s10 e10=>?_⟩⟩;have s6a:=s08.trans (s9.trans s10);refine ⟨_,rfl,sA,l,u,a,cl_,ns,1,1,1+r1 % 7,[n0,n1,n2],[n2,n3,n4],[(n4,1),(n5,2),(n6,3)],rfl,⟨(Scr.of (SqL.sameS sq s06) hl).but (zB.but s6a [l]),nsl,(s8.trans (s9.trans s10)) _ _ e7,by decide,by decide,by decide,by decide,by omega,by omega,⟨⟨s10 _ _ e9,Nat.le_of_ble_eq_true rfl,?_⟩,?_,⟨e10,Nat.le_of_ble_eq_true rfl,?_⟩,⟨[t1,t2,t3],s6a _ _ e6,Paired.mapM pc fun _ _ _ z=>s6a _ _ z⟩,Nat.le_of_ble_eq_true rfl,?_⟩,by show (3:Int)+_<=40;omega⟩,fun v H11 e po=>hz _ _ (hd fun Z hz=>?_)⟩
  ·exact fun x hx=>nm x (List.mem_of_mem_take (i:=3) hx)
  ·exact nd.sublist (List.take_sublist 3 [n0,n1,n2,n3,n4,n5,n6,n7])
  ·exact fun x hx=>nm x (List.mem_of_mem_drop (i:=2) (List.mem_of_mem_take (i:=3) hx))
  ·intro p hp;simp only [zST,zSc,or_false] at hp;rcases hp with rfl | rfl | rfl<;>exact ⟨Nat.le_of_ble_eq_true rfl,Nat.le_of_ble_eq_true rfl⟩
  have s6b:zB H6 H11:=But.same s6a po.but fun b hb=>by rw [zSY.mp hb];exact hl
  have s0b:=s06.trans s6b;have sqb:=SqL.sameS sq s0b;have enb:=s6b _ _ en6;have xt:=po.xt;have ok:Ok e:=zNc (fun p hp=>by
   simp only [zST,zSc,or_false] at hp;rcases hp with rfl | rfl | rfl<;>exact nm _ (by simp)) po.gen fun x hx=>nm x (List.mem_of_mem_drop (i:=2) (List.mem_of_mem_take (i:=3) hx))
  have in1:=po.inn;have ni:=zBD e;have dp:=po.dp;have n33:zI e<=33:=by omega
  have d7:zO e<=7:=by omega
  clear po in1 ni dp s6b s0b s6a s08 s9 s10 e9 e10 e7 e6 pc s7 s8 en6 s06 sq;generalize H11=G at xt enb sqb;refine nwf fun lh H12 hlh s12 e12=>hz _ _ (hd fun Z hz=>?_);have h12:Hld H12 lh [] :=⟨e12,fun t ht=>nomatch ht⟩;refine ⟨_,rfl,v,e,rfl,xt.same s12,ok,by omega,by omega,fun v1 H13 s13 nx1=>⟨_,rfl,_,rfl,v1,v,lh,e,[],rfl,nx1,xt.same (s12.trans s13),ok,by omega,by omega,by omega,h12.same s13,by show 0+_<=1000;omega,fun H14 ts1 b14 hd14 tl1=>⟨_,rfl,zE ?_⟩⟩⟩;have sb4:=zHB hlh (s12.trans s13) b14;refine ⟨_,rfl,v,e,rfl,xt.same sb4,ok,by omega,by omega,fun v2 H15 s15 nx2=>⟨_,rfl,_,rfl,v2,v,lh,e,ts1,rfl,nx2,xt.same (sb4.trans s15),ok,by omega,by omega,by omega,hd14.same s15,by simp at tl1;omega,fun H16 ts2 b16 hd16 tl2=>⟨_,rfl,zE (hz _ _ (hd fun Z hz=>?_))⟩⟩⟩;have sb6:=zHB hlh (sb4.trans s15) b16;have tl:ts2.length<=66:=by simp at tl1;omega
  have xt:=xt.same sb6;have en:=sb6 _ _ enb;have sq:=SqL.sameS sqb sb6;clear sb6 sb4 b14 b16 hd14 tl1 tl2 nx1 nx2 h12 e12 s12 s13 s15 enb sqb hlh;refine ⟨_,rfl,sA,ns,41,rfl,sq,nsl,by decide,by decide,fun r2 H17 s17 r20 _=>hz _ _ (hd fun Z hz=>?_)⟩;refine ⟨_,rfl,_,rfl,_,rfl,sA,ns,42,rfl,SqL.sameS sq s17,nsl,by decide,by decide,fun r3 H18 s18 r30 _=>⟨_,rfl,_,rfl,nl,_,_,_,rfl,rfl,SqL.of (s18 _ _ (s17 _ _ en)),rfl,r3,v,n0,e,rfl,r30,nm n0 (by simp),xt.same (s17.trans s18),ok,fun w1 H19 s19 ⟨o1,y1,ho1,no1⟩=>?_⟩⟩;have s69:=s17.trans (s18.trans s19);refine ⟨v,w1,r2,e,o1,zI e+2,rfl,r20,xt.same s69,ok,by omega,y1,ho1,by omega,fun H20 v2 e2 s20 y2 ho2 no2=>⟨v2,e2,rfl,y2,by omega,zCB (.inl (by rw [ho2];rfl)),fun H21 s21=>⟨_,rfl,zE (hz _ _ (hd fun Z hz=>?_))⟩⟩⟩;have s6b:=s69.trans (s20.trans s21);clear y2 ho2 no2 y1 ho1 no1 s69 s17 s18 s19 s20 s21 xt ok d7;refine ⟨_,rfl,sA,ns,43,rfl,SqL.sameS sq s6b,nsl,by decide,by decide,fun r4 H22 s22 r40 _=>⟨_,rfl,_,rfl,sll (s22 _ _ (s6b _ _ en)) fun u H23 s23 e23=>⟨_,rfl,_,rfl,sll (s23 _ _ (s22 _ _ (s6b _ _ en))) fun a H24 s24 e24=>?_⟩⟩⟩;refine ⟨r4,u,a,[n0,n1,n2],[n3,n4,n5,n6,n7],rfl,r40,⟨s24 _ _ e23,Nat.le_of_ble_eq_true rfl,?_⟩,?_,⟨e24,Nat.le_of_ble_eq_true rfl,?_⟩,fun H25 lv le s25 lx lf=>hz _ _ (hd fun Z hz=>?_)⟩
  ·exact fun x hx=>nm x (List.mem_of_mem_take (i:=3) hx)
  ·exact nd.sublist (List.take_sublist 3 [n0,n1,n2,n3,n4,n5,n6,n7])
  ·exact fun x hx=>nm x (List.mem_of_mem_drop (i:=3) hx)
  obtain ⟨lok,ln,ld⟩:=zPQ lf fun x hx=>nm x (List.mem_of_mem_drop (i:=3) hx);have s6f:=s6b.trans (s22.trans (s23.trans (s24.trans s25)));clear lf s22 s23 s24 s25 e23 e24 s6b;refine ⟨_,rfl,nl,_,_,_,rfl,rfl,SqL.of (s6f _ _ en),rfl,_,rfl,_,rfl,_,rfl,nw fun q1 H26 s26 e26=>nw fun tc H27 s27 e27=>hz _ _ (hd fun Z hz=>?_)⟩;have lx:=lx.same (s26.trans s27);have cx:Xt H27 (.call3 n7 le le le) (.ref tc):=⟨tc,q1,lv,lv,lv,rfl,e27,s27 _ _ e26,lx,lx,lx⟩;have cok:Ok (.call3 n7 le le le):=⟨nm n7 (by simp),lok,lok,lok⟩;have cn:zI (.call3 n7 le le le)=4:=by simp only [zI,ln]
  have cd:zO (.call3 n7 le le le)=2:=by simp only [zO,ld];rfl
  have s6h:=s6f.trans (s26.trans s27);have hd27:=hd16.same s6h;clear s26 s27 e26 e27 s6f s6h hd16 en sq;generalize (Ex.call3 n7 le le le)=ce at cx cok cn cd;refine ⟨_,rfl,lv,10,le,rfl,lx,by decide,fun g1 H28 s28 x1=>⟨_,rfl,21,lv,le,rfl,by decide,by decide,by decide,lx.same s28,fun g2 H29 s29 x2=>⟨_,rfl,.ref tc,9,ce,rfl,cx.same (s28.trans s29),by decide,fun g3 H30 s30 x3=>nwf fun gl H31 hgl s31 e31=>hz _ _ (hd fun Z hz=>?_)⟩⟩⟩;have s70:=s28.trans (s29.trans s30);have s71:=s70.trans s31;refine ⟨_,rfl,.inl ⟨rfl,_,SqL.of e31⟩,_,rfl,20,lv,le,rfl,by decide,by decide,by decide,lx.same s71,fun g4 H32 s32 x4=>nw fun q2 H33 s33 e33=>nw fun q3 H34 s34 e34=>⟨gl,_,_,rfl,rfl,s34 _ _ (s33 _ _ (s32 _ _ e31)),by show 3+1<=sizeLine;decide,hz _ _ (hd fun Z hz=>?_)⟩⟩;have s04:=s32.trans (s33.trans s34);have sF:zB H27 (L2.upd H34 gl (.lst ([g1,g2,g3] ++ [.ref q3]))):=zB.store (s71.trans s04) (zB.none s70 hgl);have tF:zr H34 (L2.upd H34 gl (.lst ([g1,g2,g3] ++ [.ref q3]))):=zr.lst (s04 _ _ e31);have eF:(L2.upd H34 gl (.lst ([g1,g2,g3] ++ [.ref q3]))) gl=some (.lst [g1,g2,g3,.ref q3]):=zD;have x1:=(x1.same (s29.trans (s30.trans (s31.trans s04)))).sameT tF;have x2:=(x2.same (s30.trans (s31.trans s04))).sameT tF;have x3:=(x3.same (s31.trans s04)).sameT tF;have x4:Xt _ (.neg (.neg (wid 6 20 le))) (.ref q3):=Xt.sameT tF ⟨q3,_,rfl,e34,⟨q2,g4,rfl,s34 _ _ e33,x4.same (s33.trans s34)⟩⟩;generalize L2.upd H34 gl (.lst ([g1,g2,g3] ++ [.ref q3]))=H35 at sF eF x1 x2 x3 x4;have w21:=zBr ln 6 21 (by decide) (by decide);have w20:=zBr ln 6 20 (by decide) (by decide);have dw:=zDm le 6 20;have gG: ∀x∈ [g1,g2,g3,.ref q3],GrE H35 x:=fm (.mk x1 (zBS lok 10) (by rw [zAU];omega) (.inl (by rw [zAe];omega))) (fm (.mk x2 (zCA lok 6 21) (by omega) (.inr (by omega))) (fm (.mk x3 (zBS cok 9) (by rw [zAU];omega) (.inl (by rw [zAe];omega))) (fm (.mk x4 (zCA lok 6 20) (by simp only [zI];omega) (.inr (by simp only [zI];omega))) fm0)));have lx:=lx.same sF;have cx:=cx.same sF;have hd35:=hd27.same sF;clear x1 x2 x3 x4 tF sF s04 s70 s71 s28 s29 s30 s31 s32 s33 s34 e31 e33 e34 hgl hd27;refine ⟨_,rfl,lv,9,le,rfl,lx,by decide,fun g5 H36 s36 x5=>⟨_,rfl,20,lv,le,rfl,by decide,by decide,by decide,lx.same s36,fun g6 H37 s37 x6=>⟨_,rfl,.ref tc,8,ce,rfl,cx.same (s36.trans s37),by decide,fun g7 H38 s38 x7=>?_⟩⟩⟩;have s58:=s36.trans (s37.trans s38);refine ⟨_,rfl,20,lv,le,rfl,by decide,by decide,by decide,lx.same s58,fun g8 H39 s39 x8=>nw fun q4 H40 s40 e40=>nw fun jl H41 s41 e41=>hz _ _ (hd fun Z hz=>?_)⟩;have s81:=s39.trans (s40.trans s41);have x8:Xt H41 (.neg (wid 6 20 le)) (.ref q4):=⟨q4,g8,rfl,s41 _ _ e40,x8.same (s40.trans s41)⟩;have jJ: ∀x∈ [g5,g6,g7,.ref q4],JuE H41 x:=fm ⟨_,x5.same (s37.trans (s38.trans s81)),zBS lok 9,by rw [zAU];omega,by rw [zAe];omega⟩ (fm ⟨_,x6.same (s38.trans s81),zCA lok 6 20,by omega,by omega⟩ (fm ⟨_,x7.same s81,zBS cok 8,by rw [zAU];omega,by rw [zAe];omega⟩ (fm ⟨_,x8,zCA lok 6 20,by simp only [zI];omega,by simp only [zO];omega⟩ fm0)));have s51:=s58.trans s81;have gG: ∀x∈ [g1,g2,g3,.ref q3],GrE H41 x:=fun x hx=>(gG x hx).same s51;have eF:=s51 _ _ eF;have lx:=lx.same s51;have hd41:=hd35.same s51;clear x5 x6 x7 x8 s81 s58 s51 s36 s37 s38 s39 s40 s41 e40 cx cok cn cd hd35 w20 w21 dw;refine ⟨_,rfl,_,_,rfl,rfl,⟨by decide,by decide⟩,_,_,rfl,rfl,by decide,hz _ _ (hd fun Z hz=>?_)⟩;obtain ⟨gv,hgv,ge,gy,gn,gb⟩:=zAJ (n:=r2/7) (m:=4) gG rfl (by decide);obtain ⟨jv,hjv,je,jx,jk,jn,jd⟩:=zAJ (n:=r2/7) (m:=4) jJ rfl (by decide);refine ⟨_,rfl,_,rfl,gl,_,_,gv,rfl,rfl,SqL.of eF,hgv,gv,ge,rfl,gy,gn,gb,fun H42 s42=>⟨_,rfl,zE ⟨_,rfl,lv,90,le,rfl,lx.same s42,by decide,fun g9 H43 s43 x9=>?_⟩⟩⟩;refine ⟨g9,zBn 90 le,rfl,zo x9 (zBS lok 90),by rw [zAU];omega,zCB (.inl (by rw [zAe,zRz (by omega),Bool.or_true])),fun H44 s44=>⟨_,rfl,zE (hz _ _ (hd fun Z hz=>?_))⟩⟩;have s14:=s42.trans (s43.trans s44);refine ⟨_,rfl,_,rfl,jl,_,_,jv,rfl,rfl,SqL.of (s14 _ _ e41),hjv,jv,je,rfl,jx.same s14,jk,jn,jd,fun v3 H45 s45 nx3=>?_⟩;have s15:=s14.trans s45;refine ⟨_,rfl,_,rfl,jl,_,_,jv,rfl,rfl,SqL.of (s15 _ _ e41),hjv,_,rfl,v3,jv,lh,je,ts2,rfl,nx3,jx.same s15,jk,by omega,jd,by omega,hd41.same s15,by omega,fun H46 ts3 b46 hd46 tl3=>⟨_,rfl,zE (hz _ _ ?_)⟩⟩;refine ⟨_,rfl,lh,rfl,⟨_,SqL.of hd46.l⟩,fun D hD=>?_⟩;refine zi ts3.length (fun i ys H'=>ys= [] /\zB H46 H'/\H' D=some (.lst [])) ⟨rfl,zB.upd hD,zD⟩ (by rw [zRn];omega) ?_ ?_ ?_
  ·rintro i ys H' hi ⟨rfl,s47,eD⟩;exact ⟨zRr _,eD,fun h=>⟨_,_,SqL.of (s47 _ _ hd46.l),by rw [zRh,zRc h];rfl⟩,fun h=>⟨_,SqL.of (s47 _ _ hd46.l),by rw [zRj];omega⟩⟩
  ·rintro i ys H' y H'' hi ⟨rfl,s47,eD⟩ ⟨rfl,hy⟩ pre hpre;obtain ⟨p0,p1,rfl⟩:=yZ hpre;have hy':=hy _ (SqL.of (s47 _ _ hd46.l));rw [zRh,zRc hi] at hy';cases hy';obtain ⟨a1,b1,xs,et,ea,eb,_,_,one⟩:=hd46.h ts3[i] (zSF hi);exact ⟨ts3[i],_,rfl,SqT.of (s47 _ _ et),rfl,.ref a1,[.ref b1],rfl,.ref b1,[],rfl,rfl,⟨[some (.ref a1),some (.ref b1)],rfl,rfl⟩,_,rfl,_,rfl,a1,b1,xs,rfl,rfl,SqL.of (s47 _ _ ea),SqL.of (s47 _ _ eb),one,_,rfl,zE ⟨rfl,s47,eD⟩⟩
  ·rintro ys H' ⟨rfl,s47,eD⟩;exact nw fun z H48 s48 e48=>⟨D,z,[],rfl,rfl,SqL.of (s48 _ _ eD),SqL.of e48,q H48⟩
end
def GA(K:zSS)(n:Str)(f:Addr):Prop:=PySem.W.nsIn K mainGlobals n=some (some (.ref f))
def GX(K:zSS)(n:Str)(st:Stmt)(f:Addr)(fd:FuncData):Prop:=PySem.W.nsIn K mainGlobals n=some (some (.ref f))/\Fun K n n st f fd
def MX(K:zSS)(C:Addr)(n q:Str)(st:Stmt)(f:Addr)(fd:FuncData):Prop:=(PySem.W.findIn K (.ref C) n=some (some (.ref f))/\PySem.W.isFn K (.ref f)=true)/\Fun K n q st f fd
def xOk(K:zSS)(C:Addr):Bool:=(PySem.W.clsIn K C).any (fun cd=>PySem.W.excMro cd.mro)&&PySem.W.hasDictIn K C&&
 PySem.W.findIn K (.ref C) "__getattribute__" ==some (some (.builtin "BaseException.__getattribute__"))&&PySem.W.findIn K (.ref C) "__getattr__" ==some none&&PySem.W.findIn K (.ref C) "__setattr__" ==some (some (.builtin "object.__setattr__"))&&
 PySem.W.mroIn K C (.type "BaseException")==some true&&PySem.W.mroIn K C (.type "object")==some true&&PySem.W.findIn K (.ref C) "__class__" ==some (some (.builtin "object.__class__"))
theorem zQt{K:zSS}{C:Addr}(cg:PySem.W.specialIn K (.builtin "object.__class__") "__get__" =some (some (.builtin "getset_descriptor.__get__")))(ct:PySem.W.takesIn K (.builtin "object.__class__")=some true)(h:xOk K C=true):XCls K C:=by
 unfold xOk at h;simp only [zSU,beq_iff_eq] at h;obtain ⟨⟨⟨⟨⟨⟨⟨h4,h5⟩,h6⟩,h7⟩,h8⟩,h9⟩,h10⟩,h11⟩:=h;exact ⟨h6,h7,h8,h9,h10,h4,h5,h11,cg,ct⟩
def zFL(K:zSS)(C f:Addr)(fs:List Str):Bool:=zET K C f&&PySem.W.isFn K (.ref f)&&PySem.W.keepIn K (.ref C)&&xOk K C&&fs.all fun n=>PySem.W.findIn K (.ref C) n==some none
theorem zMa{K:zSS}{C f:Addr}{fs:List Str}(cg:PySem.W.specialIn K (.builtin "object.__class__") "__get__" =some (some (.builtin "getset_descriptor.__get__")))(ct:PySem.W.takesIn K (.builtin "object.__class__")=some true)(h:zFL K C f fs=true):MkX K C f/\XCls K C/\ ∀n∈fs,ye K C n:=by
 unfold zFL at h;simp only [zSU] at h;obtain ⟨⟨⟨⟨h1,h2⟩,h3⟩,h4⟩,h5⟩:=h;exact ⟨⟨h1,h2,h3⟩,zQt cg ct h4,fun n hn=>beq_iff_eq.mp (List.all_eq_true.mp h5 n hn)⟩
def EXI(K:zSS)(C:Addr)(q:Str)(st:Stmt)(f:Addr)(fd:FuncData)(fs:List Str):Prop:=(PySem.W.findIn K (.ref C) "__init__" =some (some (.ref f))/\zFL K C f fs=true)/\Fun K "__init__" q st f fd
theorem zQU{K:zSS}{f:Addr}{n:Str}{st:Stmt}{oc kV dc pm cd ct:Value}{od an:Option Addr}{sl:Array (Option Value)}(a:PySem.W.nsIn K mainGlobals n=some (some (.ref f)))(l:K.lookup f=some ⟨oc,od,.func (PySem.W.fnOf n n (yY st) (yN st) (zM st) .none kV dc pm an cd ct),sl⟩)(c:PySem.W.codeIn K cd n=true)(k:PySem.W.keepIn K (.ref f)=true):GX K n st f (PySem.W.fnOf n n (yY st) (yN st) (zM st) .none kV dc pm an cd ct):=⟨a,zEI l c k⟩
theorem zPN{K:zSS}{C f:Addr}{n q:Str}{st:Stmt}{oc kV dc pm cd ct:Value}{od an:Option Addr}{sl:Array (Option Value)}(a:PySem.W.findIn K (.ref C) n=some (some (.ref f)))(i:PySem.W.isFn K (.ref f)=true)(l:K.lookup f=some ⟨oc,od,.func (PySem.W.fnOf n q (yY st) (yN st) (zM st) .none kV dc pm an cd ct),sl⟩)(c:PySem.W.codeIn K cd q=true)(k:PySem.W.keepIn K (.ref f)=true):MX K C n q st f (PySem.W.fnOf n q (yY st) (yN st) (zM st) .none kV dc pm an cd ct):=⟨⟨a,i⟩,zEI l c k⟩
theorem zPd{K:zSS}{C f:Addr}{q:Str}{st:Stmt}{oc kV dc pm cd ct:Value}{od an:Option Addr}{sl:Array (Option Value)}{fs:List Str}(a:PySem.W.findIn K (.ref C) "__init__" =some (some (.ref f)))(i:zFL K C f fs=true)(l:K.lookup f=some ⟨oc,od,.func (PySem.W.fnOf "__init__" q (yY st) (yN st) (zM st) .none kV dc pm an cd ct),sl⟩)(c:PySem.W.codeIn K cd q=true)(k:PySem.W.keepIn K (.ref f)=true):EXI K C q st f (PySem.W.fnOf "__init__" q (yY st) (yN st) (zM st) .none kV dc pm an cd ct) fs:=⟨⟨a,i⟩,zEI l c k⟩
def zJo(K:zSS)(C f fT fKd fSz fDp:Addr)(fs:List Str):Bool:=PySem.W.plainGet K C Str.empty&&PySem.W.hasDictIn K C&&PySem.W.plainOver K C&&PySem.W.findIn K (.ref C) "__setattr__" ==some (some (.builtin "object.__setattr__"))&&
 PySem.W.makesIn K C&&PySem.W.isFn K (.ref f)&&PySem.W.keepIn K (.ref C)&&PySem.W.findIn K (.ref C) "parts" ==some none&&PySem.W.findIn K (.ref C) "told" ==some (some (.ref fT))&&PySem.W.findIn K (.ref C) "kids" ==some (some (.ref fKd))&&
 PySem.W.findIn K (.ref C) "size" ==some (some (.ref fSz))&&PySem.W.findIn K (.ref C) "depth" ==some (some (.ref fDp))&&PySem.W.findIn K (.ref C) "__class__" ==some (some (.builtin "object.__class__"))&&PySem.W.mroIn K C (.type "object")==some true&&fs.all fun n=>PySem.W.findIn K (.ref C) n==some none
def NI(K:zSS)(C:Addr)(q:Str)(st:Stmt)(f:Addr)(fd:FuncData)(fT fKd fSz fDp:Addr)(fs:List Str):Prop:=(PySem.W.findIn K (.ref C) "__init__" =some (some (.ref f))/\zJo K C f fT fKd fSz fDp fs=true)/\Fun K "__init__" q st f fd
theorem zQO{K:zSS}{C f fT fKd fSz fDp:Addr}{q:Str}{st:Stmt}{oc kV dc pm cd ct:Value}{od an:Option Addr}{sl:Array (Option Value)}{fs:List Str}(a:PySem.W.findIn K (.ref C) "__init__" =some (some (.ref f)))(i:zJo K C f fT fKd fSz fDp fs=true)(l:K.lookup f=some ⟨oc,od,.func (PySem.W.fnOf "__init__" q (yY st) (yN st) (zM st) .none kV dc pm an cd ct),sl⟩)(c:PySem.W.codeIn K cd q=true)(k:PySem.W.keepIn K (.ref f)=true):NI K C q st f (PySem.W.fnOf "__init__" q (yY st) (yN st) (zM st) .none kV dc pm an cd ct) fT fKd fSz fDp fs:=⟨⟨a,i⟩,zEI l c k⟩
structure NdF(K:zSS)(C f fT fKd fSz fDp:Addr)(fs:List Str):Prop where
 nk:NK K fT fKd fSz fDp C
 fc:FC K C fs
 mc:Mk K C f
 ha:PySem.W.findIn K (.ref C) "__class__" =some (some (.builtin "object.__class__"))
 hm:PySem.W.mroIn K C (.type "object")=some true
theorem zBM{K:zSS}{C f fT fKd fSz fDp:Addr}{q:Str}{st:Stmt}{fd:FuncData}{fs:List Str}(x:NI K C q st f fd fT fKd fSz fDp fs)(T:PySem.W.isFn K (.ref fT)=true/\PySem.W.keepIn K (.ref fT)=true)(K':PySem.W.isFn K (.ref fKd)=true/\PySem.W.keepIn K (.ref fKd)=true)(S:PySem.W.isFn K (.ref fSz)=true/\PySem.W.keepIn K (.ref fSz)=true)(D:PySem.W.isFn K (.ref fDp)=true/\PySem.W.keepIn K (.ref fDp)=true):NdF K C f fT fKd fSz fDp fs:=by
 obtain ⟨⟨hi,h⟩,_⟩:=x;unfold zJo at h;simp only [zSU,beq_iff_eq] at h;obtain ⟨⟨⟨⟨⟨⟨⟨⟨⟨⟨⟨⟨⟨⟨h1,h2⟩,h3⟩,h4⟩,h5⟩,h6⟩,h7⟩,h8⟩,h9⟩,h10⟩,h11⟩,h12⟩,h13⟩,h14⟩,h15⟩:=h;have c:Cls K C:=⟨h1,h2,h3,h4⟩;exact ⟨⟨c,h8,⟨h9,T.1,T.2⟩,⟨h10,K'.1,K'.2⟩,⟨h11,S.1,S.2⟩,⟨h12,D.1,D.2⟩⟩,⟨c,h8,fun n hn=>beq_iff_eq.mp (List.all_eq_true.mp h15 n hn)⟩,⟨h5,hi,h6,h7⟩,h13,h14⟩
def zDz(K:zSS)(cs:List Addr)(CN:Addr):Bool:=cs.all (fun C=>PySem.W.kitOne K (.ref C) (.ref CN)==some true)&&cs.zipIdx.all fun p=>cs.zipIdx.all fun q=>PySem.W.kitOne K (.ref p.1) (.ref q.1)==some (p.2==q.2)
def Cz.all(c:Cz):List Addr:= [c.num,c.nam,c.neg,c.sum,c.pro,c.pow,c.cho,c.loo,c.cal]
theorem zJT(c:Cz)(e:Ex):c.all[knd e]?=some (c.of e):=by
 cases e with
 | bin w=>
  show c.all[if w= "plus" \/w= "minus" then 3 else 4]?=some (if w= "plus" \/w= "minus" then c.sum else c.pro);by_cases z:w= "plus" \/w= "minus"
  ·rw [if_pos z,if_pos z];rfl
  ·rw [if_neg z,if_neg z];rfl
 | _=>rfl
theorem zAj{K:zSS}{c:Cz}{CN:Addr}(h:zDz K c.all CN=true)(e:Ex)(j:Nat)(D:Addr)(hj:c.all[j]?=some D):PySem.W.kitOne K (.ref (c.of e)) (.ref D)=some (knd e==j):=by
 unfold zDz at h;rw [zSU] at h;have a:=List.all_eq_true.mp h.2 (c.of e,knd e) (List.mem_zipIdx_iff_getElem?.mpr (zJT c e));have b:=List.all_eq_true.mp a (D,j) (List.mem_zipIdx_iff_getElem?.mpr hj);exact beq_iff_eq.mp b
theorem zNG{K:zSS}{c:Cz}{CN:Addr}(h:zDz K c.all CN=true)(ty: ∀(e:Ex) (H:Hp) (a dx:Addr) (fs:List (Str×V)),H a=some (.ins (c.of e) dx fs)->TyOf K H (.ref a) (.ref (c.of e))):Kin K c CN:=
 ⟨ty,fun e=>by
  have k:=h;unfold zDz at k;rw [zSU] at k;exact beq_iff_eq.mp (List.all_eq_true.mp k.1 _ (zSE (zJT c e))),
  fun e=>zAj h e 0 _ rfl,fun e=>zAj h e 1 _ rfl,fun e=>zAj h e 2 _ rfl,fun e=>zAj h e 3 _ rfl,fun e=>zAj h e 4 _ rfl,fun e=>zAj h e 5 _ rfl,fun e=>zAj h e 6 _ rfl,fun e=>zAj h e 7 _ rfl,fun e=>zAj h e 8 _ rfl⟩
def zJk(K:zSS)(C:Addr)(ds:List Addr):Bool:=PySem.W.kitOne K (.ref C) (.type "ValueError")==some true&&PySem.W.kitOne K (.ref C) (.ref C)==some true&&ds.all fun c=>PySem.W.kitOne K (.ref C) (.ref c)==some false
theorem zPY{K:zSS}{C ME:Addr}{ds:List Addr}(x:XCls K C)(h:zJk K C ds=true)(e:PySem.W.exmOne K (.ref C) (.ref ME)=some true)(a:ye K C "at"):RfB K C ds ME:=by
 unfold zJk at h;simp only [zSU,beq_iff_eq] at h;obtain ⟨⟨h1,h2⟩,h3⟩:=h;exact ⟨x,h1,h2,fun c hc=>beq_iff_eq.mp (List.all_eq_true.mp h3 c hc),e,a⟩
theorem zMj{us:List Value}(h:us.length=1): ∃a,us= [a] :=zSV.mp h
theorem zNk{us:List Value}(h:us.length=2): ∃a b,us= [a,b] :=by
 cases us with
 | nil=>cases h
 | cons a r=>
  obtain ⟨b,rfl⟩:=zMj (us:=r) (by simpa using h);exact ⟨a,b,rfl⟩
theorem zMc{us:List Value}(h:us.length=3): ∃a b c,us= [a,b,c] :=by
 cases us with
 | nil=>cases h
 | cons a r=>
  obtain ⟨b,c,rfl⟩:=zNk (us:=r) (by simpa using h);exact ⟨a,b,c,rfl⟩
theorem zOi{us:List Value}(h:us.length=4): ∃a b c d,us= [a,b,c,d] :=by
 cases us with
 | nil=>cases h
 | cons a r=>
  obtain ⟨b,c,d,rfl⟩:=zMc (us:=r) (by simpa using h);exact ⟨a,b,c,d,rfl⟩
theorem zNR{us:List Value}(h:us.length=5): ∃a b c d e,us= [a,b,c,d,e] :=by
 cases us with
 | nil=>cases h
 | cons a r=>
  obtain ⟨b,c,d,e,rfl⟩:=zOi (us:=r) (by simpa using h);exact ⟨a,b,c,d,e,rfl⟩
theorem zQw{us:List Value}(h:us.length=6): ∃a b c d e g,us= [a,b,c,d,e,g] :=by
 cases us with
 | nil=>cases h
 | cons a r=>
  obtain ⟨b,c,d,e,g,rfl⟩:=zNR (us:=r) (by simpa using h);exact ⟨a,b,c,d,e,g,rfl⟩
theorem _root_.L2.Fun.bnd{K:zSS}{x q:Str}{st:Stmt}{f:Addr}{fd:FuncData}{ps:List Str}(F:Fun K x q st f fd)
  (h: ∀(kV doc pm:Value) (an:Option Addr) (cdv ct:Value) (us:List Value),us.length=ps.length->bindArgs (PySem.W.fnOf x q (yY st) (yN st) (zM st) .none kV doc pm an cdv ct) ⟨us,[]⟩=pure (ps.zip us):=by
   intro _ _ _ _ _ _ us hl
   first |(obtain ⟨_,rfl⟩:=zMj hl;rfl)|(obtain ⟨_,_,rfl⟩:=zNk hl;rfl)|(obtain ⟨_,_,_,rfl⟩:=zMc hl;rfl)|(obtain ⟨_,_,_,_,rfl⟩:=zOi hl;rfl)|(obtain ⟨_,_,_,_,_,rfl⟩:=zNR hl;rfl)|(obtain ⟨_,_,_,_,_,_,rfl⟩:=zQw hl;rfl)):L2.zL K fd ps [] :=F.binds h
theorem zNz{l:PySem.W.OpenLaw}{w:World}{K:zSS}{h:Heap}{mg:Str->Option Value}{fa:Addr}(ht:l.prog.given.tree=none)(X:K.In h)(G:h.Ns mainGlobals mg)(hfa:mg "law" =some (.ref fa))
  {f0 f1 f2 f3 f4 f5 f6 f7 f8 f9 f10 f11 f12 f13 f14 f15 f16 f17 f18 f19 f20 f21 f22 f23 f24 f25 f26 f27 f28 f29 f30 f31 f32 f33 f34 ftI ftT ftK ftS ftD fNum fNam fNeg fSum fPro fPow fCho fLoo fCal fBT CN ME W O LFa CNum CNam CNeg CSum CPro zDb CCho CLoo CCal c0 c1 c2 c3 c4 c5 c6 c7 c8 c9 c10 c11 c12:Addr} {d0 d1 d2 d3 d4 d5 d6 d7 d8 d9 d10 d11 d12 d13 d14 d15 d16 d17 d18 d19 d20 d21 d22 d23 d24 d25 d26 d27 d28 d29 d30 d31 d32 d33 d34 dtI dtT dtK dtS dtD dNum dNam dNeg dSum dPro dPow dCho dLoo dCal dBT:FuncData} {odW odO:Option Addr} {slW slO:Array (Option Value)} {nW nO nLFa:Nat} {tO1 tO2 tw0 tw1 tw2 tw3 tw4 tw5 tw6 tw7 tw8 tw9 tw10 g_tL g_tE g_tP g_tR g_tA g_tN g_tD tkLFa0 tkLFa1 tkLFa2 tkLFa3 tkLFa4 tkLFa5 tkLFa6 tkLFa7 tkLFa8 tkLFa9 tkLFa10 tvLFa0 tvLFa1 tvLFa2 tvLFa3 tvLFa4 tvLFa5 tvLFa6 tvLFa7 tvLFa8 tvLFa9 tvLFa10:Tok}
  (x0:GX K "is_whole" zCF f0 d0)
  (x1:GX K "is_small_letter" zCy f1 d1)
  (x2:GX K "is_name" zER f2 d2)
  (x3:GX K "common_divisor" zID f3 d3)
  (x4:GX K "is_fraction" zIA f4 d4)
  (x5:GX K "is_pair" zFV f5 d5)
  (x6:GX K "is_unit" zIM f6 d6)
  (x7:GX K "is_within" zCI f7 d7)
  (x8:GX K "is_small_unit" zDB f8 d8)
  (x9:GX K "is_number" zDH f9 d9)
  (x10:GX K "word_of" zFQ f10 d10)
  (x11:GX K "has_form" zFW f11 d11)
  (x12:GX K "kids_of" zCP f12 d12)
  (x13:GX K "is_expression" zFF f13 d13)
  (x14:GX K "levels_of" zGc f14 d14)
  (x15:GX K "made_of_told" zEK f15 d15)
  (x16:GX K "node_of" zCz f16 d16)
  (x17:GX K "_law_mixed" zEc f17 d17)
  (x18:GX K "_law_number" zFe f18 d18)
  (x19:GX K "_law_names" zEQ f19 d19)
  (x20:GX K "_law_unit" zFG f20 d20)
  (x21:GX K "_law_amount" zHX f21 d21)
  (x22:GX K "_law_leaf" zDr f22 d22)
  (x23:GX K "_law_expression" zIQ f23 d23)
  (x24:GX K "_law_kids" zBJ f24 d24)
  (x25:GX K "_law_alike" zEJ f25 d25)
  (x26:GX K "_law_counts" zCs f26 d26)
  (x27:GX K "_law_is" lIs f27 d27)
  (x28:GX K "_law_made" zFH f28 d28)
  (x29:GX K "_law_odd" zHq f29 d29)
  (x30:GX K "_law_spoilt" zDK f30 d30)
  (x31:GX K "_law_refused" zCR f31 d31)
  (x32:GX K "_law_wide" zFK f32 d32)
  (x33:GX K "_law_within" zCv f33 d33)
  (x34:GX K "law" zEb f34 d34)
  (mCN:GA K "Node" CN)
  (xtI:MX K CN "__init__" "Node.__init__" (za (top 60) 0) ftI dtI)
  (xtT:MX K CN "told" "Node.told" (za (top 60) 1) ftT dtT)
  (xtK:MX K CN "kids" "Node.kids" (za (top 60) 2) ftK dtK)
  (xtS:MX K CN "size" "Node.size" (za (top 60) 3) ftS dtS)
  (xtD:MX K CN "depth" "Node.depth" (za (top 60) 4) ftD dtD)
  (cma:PySem.W.specialIn K (.ref CN) "__getattribute__" =some (some (.builtin "type.__getattribute__")))
  (cmr:PySem.W.readsIn K CN (.type "type")=true)
  (cmf:PySem.W.findCls K (.ref CN) (.type "type") "__init__" =some (.val (.ref ftI)))
  (mNum:GA K "Number" CNum)
  (xNum:NI K CNum "Number.__init__" (za (top 61) 0) fNum dNum ftT ftK ftS ftD ["amount","unit"])
  (mNam:GA K "Name" CNam)
  (xNam:NI K CNam "Name.__init__" (za (top 62) 0) fNam dNam ftT ftK ftS ftD ["name"])
  (mNeg:GA K "Negative" CNeg)
  (xNeg:NI K CNeg "Negative.__init__" (za (top 63) 0) fNeg dNeg ftT ftK ftS ftD ["node"])
  (mSum:GA K "Sum" CSum)
  (xSum:NI K CSum "Sum.__init__" (za (top 64) 0) fSum dSum ftT ftK ftS ftD ["one","other","sign"])
  (mPro:GA K "Product" CPro)
  (xPro:NI K CPro "Product.__init__" (za (top 65) 0) fPro dPro ftT ftK ftS ftD ["one","other","sign"])
  (mPow:GA K "Power" zDb)
  (xPow:NI K zDb "Power.__init__" (za (top 66) 0) fPow dPow ftT ftK ftS ftD ["node","exponent"])
  (mCho:GA K "Choice" CCho)
  (xCho:NI K CCho "Choice.__init__" (za (top 67) 0) fCho dCho ftT ftK ftS ftD ["one","other","yes","no"])
  (mLoo:GA K "Loop" CLoo)
  (xLoo:NI K CLoo "Loop.__init__" (za (top 68) 0) fLoo dLoo ftT ftK ftS ftD ["name","start","rounds","body"])
  (mCal:GA K "Call" CCal)
  (xCal:NI K CCal "Call.__init__" (za (top 69) 0) fCal dCal ftT ftK ftS ftD ["name","nodes"])
  (kin:zDz K [CNum,CNam,CNeg,CSum,CPro,zDb,CCho,CLoo,CCal] CN=true)
  (mc0:GA K "BadText" c0)
  (mc1:GA K "BadCount" c1)
  (mc2:GA K "BadName" c2)
  (mc3:GA K "BadNumber" c3)
  (mc4:GA K "BadRate" c4)
  (mc5:GA K "BadTable" c5)
  (mc6:GA K "BadUnit" c6)
  (mc7:GA K "Clash" c7)
  (mc8:GA K "NoName" c8)
  (mc9:GA K "NoRow" c9)
  (mc10:GA K "Steep" c10)
  (mc11:GA K "Twice" c11)
  (mc12:GA K "Unlike" c12)
  (mME:GA K "MeasureError" ME)
  (xBT:EXI K c0 "BadText.__init__" (za (top 8) 0) fBT dBT ["at"])
  (exc:PySem.W.exmOne K (.ref c0) (.ref ME)=some true)
  (kkc:zJk K c0 [c1,c2,c3,c4,c5,c6,c7,c8,c9,c10,c11,c12] =true)
  (cg:PySem.W.specialIn K (.builtin "object.__class__") "__get__" =some (some (.builtin "getset_descriptor.__get__")))
  (ct:PySem.W.takesIn K (.builtin "object.__class__")=some true)
  (mW:GA K "WORDS" W)
  (mO:GA K "NOUGHT" O)
  (lW:K.lookup W=some ⟨.type "tuple",odW,.seq #[.str "unit" tw0,.str "take" tw1,.str "let" tw2,.str "fun" tw3,.str "show" tw4,.str "if" tw5,.str "then" tw6,.str "else" tw7,.str "loop" tw8,.str "for" tw9,.str "do" tw10] nW,slW⟩)
  (lO:K.lookup O=some ⟨.type "tuple",odO,.seq #[.int 0 tO1,.int 1 tO2] nO,slO⟩)
  (gtL:PySem.W.nsIn K mainGlobals "MOST_LETTERS" =some (some (.int 8 g_tL)))
  (gtE:PySem.W.nsIn K mainGlobals "MOST_EXPONENT" =some (some (.int 9 g_tE)))
  (gtP:PySem.W.nsIn K mainGlobals "MOST_POWER" =some (some (.int 5 g_tP)))
  (gtR:PySem.W.nsIn K mainGlobals "MOST_ROUNDS" =some (some (.int 12 g_tR)))
  (gtA:PySem.W.nsIn K mainGlobals "MOST_PARAMS" =some (some (.int 3 g_tA)))
  (gtN:PySem.W.nsIn K mainGlobals "MOST_NODES" =some (some (.int 40 g_tN)))
  (gtD:PySem.W.nsIn K mainGlobals "MOST_DEPTH" =some (some (.int 10 g_tD)))
  (mLFa:GA K "LENGTHS" LFa)
  (neLFa:(LFa==sysModules)=false)
  (lLFa:K.lookup LFa=some ⟨.type "dict",none,.dict #[⟨PyData.keyHash w.params "number",.str "number" tkLFa0,.int 3 tvLFa0⟩,⟨PyData.keyHash w.params "name",.str "name" tkLFa1,.int 2 tvLFa1⟩,⟨PyData.keyHash w.params "negative",.str "negative" tkLFa2,.int 2 tvLFa2⟩,⟨PyData.keyHash w.params "plus",.str "plus" tkLFa3,.int 3 tvLFa3⟩,⟨PyData.keyHash w.params "minus",.str "minus" tkLFa4,.int 3 tvLFa4⟩,⟨PyData.keyHash w.params "times",.str "times" tkLFa5,.int 3 tvLFa5⟩,⟨PyData.keyHash w.params "over",.str "over" tkLFa6,.int 3 tvLFa6⟩,⟨PyData.keyHash w.params "power",.str "power" tkLFa7,.int 3 tvLFa7⟩,⟨PyData.keyHash w.params "if",.str "if" tkLFa8,.int 5 tvLFa8⟩,⟨PyData.keyHash w.params "loop",.str "loop" tkLFa9,.int 5 tvLFa9⟩,⟨PyData.keyHash w.params "call",.str "call" tkLFa10,.int 3 tvLFa10⟩] nLFa,#[]⟩)
  (zisi:PySem.W.nsIn K mainGlobals "isinstance" =some none)
  (zint:PySem.W.nsIn K mainGlobals "int" =some none)
  (zbool:PySem.W.nsIn K mainGlobals "bool" =some none)
  (ztuple:PySem.W.nsIn K mainGlobals "tuple" =some none)
  (zlen:PySem.W.nsIn K mainGlobals "len" =some none)
  (zrange:PySem.W.nsIn K mainGlobals "range" =some none)
  (zstr:PySem.W.nsIn K mainGlobals "str" =some none)
  (zabs:PySem.W.nsIn K mainGlobals "abs" =some none)
  (zverr:PySem.W.nsIn K mainGlobals "ValueError" =some none)
  (zlist:PySem.W.nsIn K mainGlobals "list" =some none)
  (zdict:PySem.W.nsIn K mainGlobals "dict" =some none)
  (zall:PySem.W.nsIn K mainGlobals "all" =some none)
  (zsorted:PySem.W.nsIn K mainGlobals "sorted" =some none)
  (zany:PySem.W.nsIn K mainGlobals "any" =some none)
  (zmax:PySem.W.nsIn K mainGlobals "max" =some none)
  (zenumerate:PySem.W.nsIn K mainGlobals "enumerate" =some none)
  (zzip:PySem.W.nsIn K mainGlobals "zip" =some none):
  ∃fd:FuncData,(∀(s:Shared) (v:Value),BindsTo s fd ⟨[v],[]⟩ [("_law_script",v)])/\ ∀base:Heap,K.In base->base.Ns mainGlobals mg->FnOk l.prog w K mg base CX0 41 fa fd ["_law_script"] (zFJ K):=by
 have e:=hfa.symm.trans (zRf X G x34.1);cases e;have B:Bn mg:=⟨zSD X G zisi,zSD X G zint,zSD X G zbool,zSD X G ztuple,zSD X G zlen,zSD X G zrange,zSD X G zstr,zSD X G zabs,zSD X G zverr,zSD X G zlist,zSD X G zdict,zSD X G zall,zSD X G zsorted,zSD X G zany,zSD X G zmax,zSD X G zenumerate⟩;have GV:Gv K mg W:=⟨zRf X G mW,fun H=> .inr ⟨_,_,_,lW,rfl,rfl,by show 11<=sizeLine;decide,(.cons ⟨_,rfl⟩ (.cons ⟨_,rfl⟩ (.cons ⟨_,rfl⟩ (.cons ⟨_,rfl⟩ (.cons ⟨_,rfl⟩ (.cons ⟨_,rfl⟩ (.cons ⟨_,rfl⟩ (.cons ⟨_,rfl⟩ (.cons ⟨_,rfl⟩ (.cons ⟨_,rfl⟩ (.cons ⟨_,rfl⟩ .nil)))))))))))⟩,⟨_,zRf X G gtL⟩⟩;have GNn:Gn K mg O:=⟨⟨_,zRf X G gtE⟩,⟨_,zRf X G gtP⟩,⟨_,zRf X G gtR⟩,⟨_,zRf X G gtA⟩,⟨_,zRf X G gtN⟩,⟨_,zRf X G gtD⟩,zRf X G mO,fun H=> .inr ⟨_,_,_,lO,rfl,rfl,by show 2<=sizeLine;decide,.cons ⟨_,rfl⟩ (.cons ⟨_,rfl⟩ .nil)⟩⟩;have KLFa:KDic w K LFa Fr.LF:=⟨neLFa,by decide+kernel,_,_,lLFa,⟨⟨_,_,rfl,rfl⟩,⟨⟨_,_,rfl,rfl⟩,⟨⟨_,_,rfl,rfl⟩,⟨⟨_,_,rfl,rfl⟩,⟨⟨_,_,rfl,rfl⟩,⟨⟨_,_,rfl,rfl⟩,⟨⟨_,_,rfl,rfl⟩,⟨⟨_,_,rfl,rfl⟩,⟨⟨_,_,rfl,rfl⟩,⟨⟨_,_,rfl,rfl⟩,⟨⟨_,_,rfl,rfl⟩,trivial⟩⟩⟩⟩⟩⟩⟩⟩⟩⟩⟩,(.cons ⟨⟨_,rfl⟩,⟨_,rfl⟩⟩ (.cons ⟨⟨_,rfl⟩,⟨_,rfl⟩⟩ (.cons ⟨⟨_,rfl⟩,⟨_,rfl⟩⟩ (.cons ⟨⟨_,rfl⟩,⟨_,rfl⟩⟩ (.cons ⟨⟨_,rfl⟩,⟨_,rfl⟩⟩ (.cons ⟨⟨_,rfl⟩,⟨_,rfl⟩⟩ (.cons ⟨⟨_,rfl⟩,⟨_,rfl⟩⟩ (.cons ⟨⟨_,rfl⟩,⟨_,rfl⟩⟩ (.cons ⟨⟨_,rfl⟩,⟨_,rfl⟩⟩ (.cons ⟨⟨_,rfl⟩,⟨_,rfl⟩⟩ (.cons ⟨⟨_,rfl⟩,⟨_,rfl⟩⟩ .nil)))))))))))⟩;have hZ:=zSD X G zzip;have Z:ClsY mg c0 c1 c2 c3 c4 c5 c6 c7 c8 c9 c10 c11 c12:=⟨zRf X G mc0,zRf X G mc1,zRf X G mc2,zRf X G mc3,zRf X G mc4,zRf X G mc5,zRf X G mc6,zRf X G mc7,zRf X G mc8,zRf X G mc9,zRf X G mc10,zRf X G mc11,zRf X G mc12⟩;obtain ⟨MKB,XCB,NAB⟩:=zMa cg ct xBT.1.2;have NB:=NAB "at" (by simp);have RB:RX1 K mg "BadText" c0 fBT "at" :=⟨MKB,XCB,NB,zRf X G mc0⟩;have R:RfB K c0 [c1,c2,c3,c4,c5,c6,c7,c8,c9,c10,c11,c12] ME:=zPY XCB kkc exc NB;have nNum:=zBM xNum ⟨xtT.1.2,xtT.2.kp⟩ ⟨xtK.1.2,xtK.2.kp⟩ ⟨xtS.1.2,xtS.2.kp⟩ ⟨xtD.1.2,xtD.2.kp⟩;have nNam:=zBM xNam ⟨xtT.1.2,xtT.2.kp⟩ ⟨xtK.1.2,xtK.2.kp⟩ ⟨xtS.1.2,xtS.2.kp⟩ ⟨xtD.1.2,xtD.2.kp⟩;have nNeg:=zBM xNeg ⟨xtT.1.2,xtT.2.kp⟩ ⟨xtK.1.2,xtK.2.kp⟩ ⟨xtS.1.2,xtS.2.kp⟩ ⟨xtD.1.2,xtD.2.kp⟩;have nSum:=zBM xSum ⟨xtT.1.2,xtT.2.kp⟩ ⟨xtK.1.2,xtK.2.kp⟩ ⟨xtS.1.2,xtS.2.kp⟩ ⟨xtD.1.2,xtD.2.kp⟩;have nPro:=zBM xPro ⟨xtT.1.2,xtT.2.kp⟩ ⟨xtK.1.2,xtK.2.kp⟩ ⟨xtS.1.2,xtS.2.kp⟩ ⟨xtD.1.2,xtD.2.kp⟩;have nPow:=zBM xPow ⟨xtT.1.2,xtT.2.kp⟩ ⟨xtK.1.2,xtK.2.kp⟩ ⟨xtS.1.2,xtS.2.kp⟩ ⟨xtD.1.2,xtD.2.kp⟩;have nCho:=zBM xCho ⟨xtT.1.2,xtT.2.kp⟩ ⟨xtK.1.2,xtK.2.kp⟩ ⟨xtS.1.2,xtS.2.kp⟩ ⟨xtD.1.2,xtD.2.kp⟩;have nLoo:=zBM xLoo ⟨xtT.1.2,xtT.2.kp⟩ ⟨xtK.1.2,xtK.2.kp⟩ ⟨xtS.1.2,xtS.2.kp⟩ ⟨xtD.1.2,xtD.2.kp⟩;have nCal:=zBM xCal ⟨xtT.1.2,xtT.2.kp⟩ ⟨xtK.1.2,xtK.2.kp⟩ ⟨xtS.1.2,xtS.2.kp⟩ ⟨xtD.1.2,xtD.2.kp⟩
 let c:Cz:=⟨CNum,CNam,CNeg,CSum,CPro,zDb,CCho,CLoo,CCal⟩
 have ck:CzK (NK K ftT ftK ftS ftD) c:=⟨nNum.nk,nNam.nk,nNeg.nk,nSum.nk,nPro.nk,nPow.nk,nCho.nk,nLoo.nk,nCal.nk⟩;have tyC: ∀C,(∃f fs,NdF K C f ftT ftK ftS ftD fs)-> ∀(H:Hp) (a dx:Addr) (fs:List (Str×V)),H a=some (.ins C dx fs)->TyOf K H (.ref a) (.ref C):=fun C ⟨f,fs,h⟩ H a dx gs e=> .ins e h.nk.cl h.ha cg ct h.hm;have kn:Kin K c CN:=zNG (c:=c) kin fun e=>tyC _ (CzK.of (NC:=fun C=> ∃f fs,NdF K C f ftT ftK ftS ftD fs) (c:=c) ⟨⟨_,_,nNum⟩,⟨_,_,nNam⟩,⟨_,_,nNeg⟩,⟨_,_,nSum⟩,⟨_,_,nPro⟩,⟨_,_,nPow⟩,⟨_,_,nCho⟩,⟨_,_,nLoo⟩,⟨_,_,nCal⟩⟩ e);have cN:ClsM K CN "__init__" ftI:=⟨cma,⟨_,cmr,cmf⟩,xtI.2.kp⟩;have hT: ∀C,NK K ftT ftK ftS ftD C->Cls K C/\Meth K C "told" ftT:=fun C h=>⟨h.cl,h.td⟩;have M: ∀{n:Str} {st:Stmt} {f:Addr} {fd:FuncData},GX K n st f fd->mg n=some (.ref f):=fun x=>zRf X G x.1;obtain ⟨_,_,kV,dc,pm,an,cd,ct',_,rfl,_,_⟩:=x34.2.ex;refine ⟨PySem.W.fnOf "law" "law" (yY zEb) (yN zEb) (zM zEb) .none kV dc pm an cd ct',fun s v=> .of_eq rfl,fun base _ _=>?_⟩;have I: ∀{CX:CXT} {n:Nat} {f:Addr} {fd:FuncData} {ps:List Str} {sp:Sp},FnOk l.prog w K mg base CX n f fd ps sp->FnOk l.prog w K mg base CX n f fd ps sp:=fun h=>h;have gWh:=I (zDi x0.2 B);have gNm:=I (zLl x2.2 B GV x1.2 x1.2.bnd (M x1));have gIF:=I (zNS x4.2 B x0.2 x0.2.bnd (M x0) x3.2 x3.2.bnd (M x3));have gPr:=I (zMN x5.2 B x2.2 x2.2.bnd (M x2) gNm x0.2 x0.2.bnd (M x0));have gIU:=I (zMb x6.2 B x5.2 x5.2.bnd (M x5) gPr);have gWi:=I (zQQ x7.2 x0.2 x0.2.bnd (M x0) gWh);have gSU:=I (zPi x8.2 B GNn x6.2 x6.2.bnd (M x6) gIU x7.2 x7.2.bnd (M x7) gWi);have gNr:=I (zPM x9.2 B GNn x4.2 x4.2.bnd (M x4) gIF x8.2 x8.2.bnd (M x8) gSU);have gWo:=I (zPR x10.2 B);have gFo:=I (zPc x11.2 B GNn KLFa (zRf X G mLFa) x10.2 x10.2.bnd (M x10) gWo x9.2 x9.2.bnd (M x9) gNr x2.2 x2.2.bnd (M x2) gNm x7.2 x7.2.bnd (M x7) gWi);have gKi:=I (zPU x12.2 B);have gEx:=I (zQJ x13.2 B GNn x11.2 x11.2.bnd (M x11) gFo x12.2 x12.2.bnd (M x12) gKi);have gLv:=I (zOs x14.2 B x12.2 x12.2.bnd (M x12) gKi);have gNi:=I (zPJ xtI.2);have gTd:=I (zQC (fT:=ftT) (fKd:=ftK) (fSz:=ftS) (fDp:=ftD) xtT.2);have gNum:=I (zLL (fT:=ftT) (NC:=NK K ftT ftK ftS ftD) xNum.2 nNum.fc (zRf X G mCN) cN xtI.2.bnd gNi);have gNam:=I (zLO (fT:=ftT) (NC:=NK K ftT ftK ftS ftD) xNam.2 nNam.fc (zRf X G mCN) cN xtI.2.bnd gNi);have gNeg:=I (zMQ (fT:=ftT) (NC:=NK K ftT ftK ftS ftD) xNeg.2 nNeg.fc (zRf X G mCN) cN xtI.2.bnd gNi hT xtT.2.bnd gTd);have gSum:=I (zMR (fT:=ftT) (NC:=NK K ftT ftK ftS ftD) xSum.2 nSum.fc (zRf X G mCN) cN xtI.2.bnd gNi hT xtT.2.bnd gTd);have gPro:=I (zMO (fT:=ftT) (NC:=NK K ftT ftK ftS ftD) xPro.2 nPro.fc (zRf X G mCN) cN xtI.2.bnd gNi hT xtT.2.bnd gTd);have gPow:=I (zMC (fT:=ftT) (NC:=NK K ftT ftK ftS ftD) xPow.2 nPow.fc (zRf X G mCN) cN xtI.2.bnd gNi hT xtT.2.bnd gTd);have gCho:=I (zLq (fT:=ftT) (NC:=NK K ftT ftK ftS ftD) xCho.2 nCho.fc (zRf X G mCN) cN xtI.2.bnd gNi hT xtT.2.bnd gTd);have gLoo:=I (zML (fT:=ftT) (NC:=NK K ftT ftK ftS ftD) xLoo.2 nLoo.fc (zRf X G mCN) cN xtI.2.bnd gNi hT xtT.2.bnd gTd);have gCal:=I (zLe (fT:=ftT) (NC:=NK K ftT ftK ftS ftD) xCal.2 B nCal.fc (zRf X G mCN) cN xtI.2.bnd gNi hT xtT.2.bnd gTd);have gMd:=I (zPW (c:=c) x15.2 B ck nNum.mc (zRf X G mNum) xNum.2.bnd gNum nNam.mc (zRf X G mNam) xNam.2.bnd gNam nNeg.mc (zRf X G mNeg) xNeg.2.bnd gNeg nSum.mc (zRf X G mSum) xSum.2.bnd gSum nPro.mc (zRf X G mPro) xPro.2.bnd gPro nPow.mc (zRf X G mPow) xPow.2.bnd gPow nCho.mc (zRf X G mCho) xCho.2.bnd gCho nLoo.mc (zRf X G mLoo) xLoo.2.bnd gLoo nCal.mc (zRf X G mCal) xCal.2.bnd gCal x12.2 x12.2.bnd (M x12) gKi x15.2.bnd (M x15) 10);have gNk:=I (zPK xtK.2 x12.2 x12.2.bnd (M x12) gKi x15.2 x15.2.bnd (M x15) gMd);have gSz:=I (zOp (c:=c) (fT:=ftT) (fKd:=ftK) (fSz:=ftS) (fDp:=ftD) xtS.2 B x14.2 x14.2.bnd (M x14) gLv);have gDp:=I (zOk (c:=c) (fT:=ftT) (fKd:=ftK) (fSz:=ftS) (fDp:=ftD) xtD.2 B x14.2 x14.2.bnd (M x14) gLv);have gBT:=I (zQH xBT.2 RB);have gNo:=I (zPj x16.2 x13.2 x13.2.bnd (M x13) gEx x15.2 x15.2.bnd (M x15) gMd RB xBT.2.bnd gBT);have gNc:=I (zPL gNo);have gMi:=I (zJG x17.2);have gNu:=I (zOm x18.2 B x17.2 x17.2.bnd (M x17));have gUt:=I (zPO x20.2 B x17.2 x17.2.bnd (M x17) gMi);have gAm:=I (zQF x21.2 B);have gLf:=I (zPf x22.2 B x20.2 x20.2.bnd (M x20) gUt x21.2 x21.2.bnd (M x21) gAm);have gXp:=I (zPG x23.2 B x18.2 x18.2.bnd (M x18) gNu x22.2 x22.2.bnd (M x22) gLf x23.2.bnd (M x23) 7);have gLk:=I (zPV x24.2 B);have gNs:=I (zQR x19.2 B x17.2 x17.2.bnd (M x17) gMi);have gAl:=I (zQG x25.2 B hZ x25.2.bnd (M x25) 22);have gCo:=I (zPt x26.2 B x24.2 x24.2.bnd (M x24) gLk);have gIs:=I (zPg x27.2 B hZ kn (zRf X G mNum) (zRf X G mNam) (zRf X G mNeg) (zRf X G mSum) (zRf X G mPro) (zRf X G mPow) (zRf X G mCho) (zRf X G mLoo) (zRf X G mCal) (zRf X G mCN) xtT.2.bnd gTd xtK.2.bnd gNk xtS.2.bnd gSz xtD.2.bnd gDp x25.2 x25.2.bnd (M x25) gAl x26.2 x26.2.bnd (M x26) gCo x24.2 x24.2.bnd (M x24) gLk x27.2.bnd (M x27) 10);have gLm:=I (zPe (c:=c) x28.2 B ck nNum.mc (zRf X G mNum) xNum.2.bnd gNum nNam.mc (zRf X G mNam) xNam.2.bnd gNam nNeg.mc (zRf X G mNeg) xNeg.2.bnd gNeg nSum.mc (zRf X G mSum) xSum.2.bnd gSum nPro.mc (zRf X G mPro) xPro.2.bnd gPro nPow.mc (zRf X G mPow) xPow.2.bnd gPow nCho.mc (zRf X G mCho) xCho.2.bnd gCho nLoo.mc (zRf X G mLoo) xLoo.2.bnd gLoo nCal.mc (zRf X G mCal) xCal.2.bnd gCal x24.2 x24.2.bnd (M x24) gLk x16.2 x16.2.bnd (M x16) gNc);have gOd:=I (zPm x29.2 B);have gXc:=I (zQS x30.2 B x24.2 x24.2.bnd (M x24) gLk x30.2.bnd (M x30) 10);have gRf:=I (zPr x31.2 B Z (zRf X G mME) R x16.2 x16.2.bnd (M x16) gNo);have gWd:=I (zQB x32.2 x32.2.bnd (M x32) 6);have gWt:=I (zPS x33.2 B);exact zMh x34.2 B x18.2 x18.2.bnd (M x18) gNu x19.2 x19.2.bnd (M x19) gNs x23.2 x23.2.bnd (M x23) gXp x16.2 x16.2.bnd (M x16) gNc x27.2 x27.2.bnd (M x27) gIs x28.2 x28.2.bnd (M x28) gLm x31.2 x31.2.bnd (M x31) gRf x30.2 x30.2.bnd (M x30) gXc x29.2 x29.2.bnd (M x29) gOd x22.2 x22.2.bnd (M x22) gLf x33.2 x33.2.bnd (M x33) gWt x32.2 x32.2.bnd (M x32) gWd
theorem zRL{l:PySem.W.OpenLaw}{q:Program}{loose:List Str}{XP:(Str->Option Value)->Heap->Prop}{YP:World->Heap->Prop}{d:DefRec}{K:Params->zSS}(hn:l.most=some 63)(hdf:d.params.defaults= [])(hI:importsNone q=true)
  (hY: ∀(w:World) (h:Heap),YP w h->(K w.params).In h)
  (F: ∀(w:World) (mg:Str->Option Value) (fa:Addr) (h:Heap),(K w.params).In h->h.Ns mainGlobals mg->mg d.name=some (.ref fa)->
   ∃fd:FuncData,(∀(s:Shared) (u:Value),BindsTo s fd ⟨[u],[]⟩ [("_law_script",u)])/\ ∀base:Heap,(K w.params).In base->base.Ns mainGlobals mg->FnOk l.prog w (K w.params) mg base CX0 41 fa fd ["_law_script"] (zFJ (K w.params))):
  PySem.W.WalkO q loose XP YP l.row.toRowW d [] (fun f vs=>PySem.call f vs):=
 L2.zLs (n:=63) (k:=41) (x:= "_law_script") (CX:=fun _=>CX0) (sp:=fun w=>zFJ (K w.params)) hn (by decide) hdf hI ⟨rfl,by decide,by decide,rfl⟩ hY F (fun _ _ a ns hl _ hS=>⟨a,ns,rfl,hS,hl,fun _=>rfl⟩) fun _ _ _ _ _ z=>z
end Fr
open PySem PySem.W PyProof.Rows
namespace PySem.W.Fast
def tw5842010434386388309:=0
def tw9855761546096845169:=0
def tw17738791223428753915:=0
def tw762952162542945422:=0
def tw8268919170125225404:=0
def tw6118674396892031128:=0
def tw3025720940915608500:=0
def tw4153401504999920805:=0
def tw17138661161964852426:=0
def tw12718890376927373196:=0
def tw14476737581881482788:=0
def tw7626528723108523188:=0
def tw16485867246088733790:=0
def tw3837077553858205038:=0
def tw10749219287923094877:=0
def tw15571360272786221733:=0
def tw3232702335856534204:=0
def tw497912240335358088:=0
def tw18327143333911825410:=0
def tw8907675525032302908:=0
def tw6042964119560749432:=0
def tw12745981559671212937:=0
def tw7965954941973640978:=0
def tw18220149050525436603:=0
def tw17545528167956376790:=0
def tw17737622468995884766:=0
def tw11071368611431769591:=0
def tw14480322646162441918:=0
def tw17606174325935558931:=0
def tw4948759341151521253:=0
def tw8823698053099060637:=0
def tw14480802136418660140:=0
def tw926138743199072024:=0
def tw2806684983059934991:=0
def tw10814999889443000993:=0
def tw17065971043427827603:=0
def tw5466748850512965725:=0
def tw15663923259447982249:=0
def tw9446918028563843678:=0
def tw13510967639817581828:=0
def tw1595166930724841775:=0
def tw10947081288244892814:=0
def tw1486013293984522462:=0
def tw15431039642341321580:=0
def tw18227367839671257663:=0
def tw10367847163332474426:=0
def tw10149325425841889366:=0
def tw7188346672988623422:=0
def tw11368866333385546421:=0
def tw13613612510025337398:=0
def tw9022902413364738076:=0
def tw13531467119308357705:=0
def tw15615053815767046332:=0
def tw3844442615524919947:=0
def tw7430465566171898322:=0
def tw1703680737829153184:=0
def tw11363950713898563026:=0
def tw4286361970989821031:=0
def tw6083937486076990419:=0
def tw16109193556506246478:=0
def tw14167348099136357072:=0
def tw6760294579334607694:=0
def tw11730757370550302903:=0
def tw17624102212759356124:=0
def tw15541801710347369799:=0
def tw5028562029033672934:=0
def tw2433787769151645675:=0
def tw7403303797169710208:=0
def tw65090139977727972:=0
def tw8447352985169173669:=0
def tw16910094414101026431:=0
def tw12766445348541128211:=0
def tw1807374187833118576:=0
def tw312743280455525575:=0
def tw8587695246510220638:=0
def tw3356332305784113068:=0
def tw15184489621996210148:=0
def tw2256337024833213081:=0
def tw14865240555975708682:=0
def tw12316229968802030063:=0
def tw5845543488542934381:=0
def tw4736443674655848970:=0
def tw15974000570197534553:=0
def tw10675541118088059191:=0
def tw16416133018944115216:=0
def tw1229075527921160753:=0
def tw5266494268906228332:=0
def tw16949950102071753502:=0
def tw8140169610602481323:=0
def tw3113234457461607437:=0
def tw9764970287685088154:=0
def tw4872042774039281902:=0
def tw6073300948191040153:=0
def tw8309185253206192555:=0
def tw5317376935371780462:=0
def tw1494853365309284834:=0
def tw4146352755961523546:=0
def tw17779620268310215089:=0
def tw17113104322511072163:=0
def tw2982725142996693419:=0
def tw6216293191569585325:=0
def tw12540829028413690520:=0
def tw9051384063788086432:=0
def tw10454275769644445889:=0
def tw1819944486647640327:=0
def tw11591282877361112038:=0
def tw16089430045368548275:=0
def tw18128415048236093822:=0
def tw13022050795310421613:=0
def tw8461947075347618412:=0
def tw16255183479908385960:=0
def tw1927271601936698166:=0
def tw1071907236154309143:=0
def tw10092215334035863077:=0
def tw7383191609573691636:=0
def tw6981078833125232659:=0
def tw3109822184588572124:=0
def tw17713258087421133382:=0
def tw2094059816456974167:=0
def tw9549229545114210531:=0
def tw5664671303180445443:=0
def tw17404301929390454703:=0
def tw11463105271829236329:=0
def tw13756281249849452164:=0
def tw2006951824478696836:=0
def tw117359661085194604:=0
def tw908867924359494969:=0
def tw5257951601869274661:=0
def tw11508087552532157120:=0
def tw710941816655241390:=0
def tw16122262901354838026:=0
def tw10195513744798687641:=0
def tw11758877743569466394:=0
def tw17829608516544123089:=0
def tw14395243093387791540:=0
def tw285915082643402805:=0
def tw8175136412964019636:=0
def tw4074642926519101998:=0
def tw15623102057281566451:=0
def tw1546153853898151746:=0
def tw17596308196931620439:=0
def tw1830439131614304962:=0
def tw1500364449484547281:=0
def tw16362665127319357709:=0
def tw3672754084554312555:=0
def tw5281754483374977608:=0
def tw4329908013016833448:=0
def tw18255874025316516606:=0
def tw3156409749274611688:=0
def tw12885095546180521524:=0
def tw17584488016149488564:=0
def tw10361615554148382956:=0
def tw28015041230362536:=0
def tw3990566073640978519:=0
def tw13425329495478704146:=0
def tw12812164947738540622:=0
def tw15233206652044678722:=0
def tw532286659944249939:=0
def tw12016390158100030326:=0
def tw2975593354173345005:=0
def tw7270908606415664386:=0
def tw7439419037933625413:=0
def tw8254717523632466679:=0
def tw13643565268234000541:=0
def tw8860416116465939700:=0
def tw14720140544938577389:=0
def tw10134478520463485341:=0
def tw13667102504667438852:=0
def tw10741900251247639754:=0
def tw11565668303422382663:=0
def tw27094473600980033:=0
def tw10424099487749566061:=0
def tw4778568419996197365:=0
def tw1589416741120800922:=0
def tw15844218267810070682:=0
def tw10472859711642697731:=0
def tw18134918832628620707:=0
def tw6358420827124241518:=0
def tw52883422168396934:=0
def tw8579808830108935680:=0
def tw7520443474091597972:=0
def tw15480739133525596944:=0
def tw427495974221107269:=0
def tw6300165828784499248:=0
def tw10777668432072309545:=0
def tw11979632149294181101:=0
def tw3403231642378549093:=0
def tw10307857148774169082:=0
def tw5745175356883539680:=0
def tw9337256464354557478:=0
def tw8345275614554566359:=0
def tw14340823826362495047:=0
def tw12964029085670382689:=0
def tw11135691256271993554:=0
def tw7076345273392462215:=0
def tw860773166283248838:=0
def tw6286676635046630737:=0
def tw7784605396420959364:=0
def tw14003003537022667490:=0
def tw8658037732207264908:=0
def tw3262704676637831710:=0
def tw11915561003278643171:=0
def tw2534041666685699229:=0
def tw1042777926317088218:=0
def tw7652191695169398820:=0
def tw1505108054286136955:=0
def tw17441002233377297827:=0
def tw6295137997674857204:=0
def tw11586226495885488831:=0
def tw17740405984316441763:=0
def tw18198526769112283612:=0
def tw10115561913484203184:=0
def tw1134321919928812428:=0
def tw1993838791278537410:=0
def tw117923994368212875:=0
def tw6489564372943223611:=0
def tw3712011097320831099:=0
def tw11551385303417429540:=0
def tw887005392616256262:=0
def tw13443279645942531952:=0
def tw12908139395405608488:=0
def tw4880954945889933317:=0
def tw17114144811767692259:=0
def tw10303716531954978655:=0
def tw2401867561810744983:=0
def tw1528280736405061373:=0
def tw1678483126184473021:=0
def tw17566160290873768486:=0
def tw9232597338674786719:=0
def tw4769049790417721395:=0
def tw5973390592661529290:=0
def tw6859248967989407814:=0
def tw844836368868626535:=0
def tw15208827185118830466:=0
def tw16866704508828650327:=0
def tw15782102311482132004:=0
def tw215917592902726004:=0
def tw10751286659117078173:=0
def tw18034667264685552816:=0
def tw1914005126817678511:=0
def tw15861736332712246151:=0
def tw3301574385063902812:=0
def tw7059484846028812251:=0
def tw6507197004081428424:=0
def tw15367905983432237831:=0
def tw18290359413538806737:=0
def tw16292265799900554623:=0
def tw8752863791342984457:=0
def tw5868490804197205965:=0
def tw5412089550306575841:=0
def tw4238826395055339679:=0
def tw7292441646108685335:=0
def tw11060408021635373872:=0
def tw1161205307745615780:=0
def tw15350714567676642224:=0
def tw11294388615742358582:=0
def tw1647846703696275513:=0
def tw9849345835252667972:=0
def tw15107938833732228704:=0
def tw1251808354437756926:=0
def tw11167658428606869966:=0
def tw9337451901281764309:=0
def tw8602103665741414173:=0
def tw12984455047041296988:=0
def tw14995463970471042911:=0
def tw17186890374956141309:=0
def tw8125580843176057853:=0
def tw1524768797259379412:=0
def tw5852942984411054881:=0
def tw12030668038887593717:=0
def tw14031102514590681026:=0
def tw5354165674067445685:=0
def tw1496175766558603650:=0
def tw14189195972258999804:=0
def tw12191137547300247336:=0
def tw14597012142685438758:=0
def tw12168793796741138082:=0
def tw15156164780693314096:=0
def tw4351705044572356410:=0
def tw108560938791193060:=0
def tw18354426245992447318:=0
def tw14922856597809235530:=0
def tw16026228388082882:=0
def tw546076022649407179:=0
def tw3273054296084641831:=0
def tw2250408042068892512:=0
def tw7671304573080407215:=0
def tw3376271030425570800:=0
def tw15468077998108255192:=0
def tw11939197050431570220:=0
def tw9630048591967602684:=0
def tw9616396286999521394:=0
def tw9837241866778819836:=0
def tw12312708425582224449:=0
def tw940783905044094298:=0
def tw1183544895517758901:=0
def tw9928378348186660668:=0
def tw13940042341730045911:=0
def tw9691686961792583478:=0
def tw14174590294652051735:=0
def tw5880539275405944963:=0
def tw17837175538486141698:=0
def tw2684117006249339402:=0
def tw2254709742880309294:=0
def tw15684978088220122228:=0
def tw9407641083785275528:=0
def tw4809212979413009292:=0
def tw3165207791409088444:=0
def tw3309298234595521262:=0
def tw9488668277978365951:=0
def tw4472409401913794679:=0
def tw15622325004608749986:=0
def tw5241211469881314294:=0
def tw12136430229598709538:=0
def tw16683629194889759955:=0
def tw13098314278860796779:=0
def tw9437354069728949676:=0
def tw13265224896349275112:=0
def tw6015931492384319203:=0
def tw15678549569841558139:=0
def tw4527956718708640515:=0
def tw15115176721816571911:=0
def tw7775733278231311922:=0
def tw16674356820029528182:=0
def tw15715557732899629802:=0
def tw4385266813581982910:=0
def tw8165175785376453863:=0
def tw15315725127509676369:=0
def tw4239592025606243671:=0
def tw10691856781857284525:=0
def tw11135188631344572232:=0
def tw9683477361802428466:=0
def tw3728216606864806129:=0
def tw10169319258172136762:=0
def tw13811587542370745112:=0
def tw13332704975229473037:=0
def tw11159002904503590977:=0
def tw13607679343506580927:=0
def tw5145003340751932829:=0
def tw11907119895664953678:=0
def tw16820468133998002720:=0
def tw2854849345612076947:=0
def tw17470731374570384133:=0
def tw17883954523478231516:=0
def tw14928621279107046104:=0
def tw5757426342251417385:=0
def tw17724866962118885856:=0
def tw11193121865901982479:=0
def tw12472574286785061372:=0
def tw6627423615967741593:=0
def tw5130750626105689014:=0
def tw1064735670233687387:=0
def tw12271989023694436228:=0
def tw12749710365879866516:=0
def tw17390999671847213618:=0
def tw4168113466758063730:=0
def tw2101915590897249923:=0
def tw1092742968108342234:=0
def tw3158871231781642616:=0
def tw9114437955992273386:=0
def tw6928922912698198507:=0
def tw9406086559954465932:=0
def tw16634050188700552225:=0
def tw4085489859274417548:=0
def tw12803680055467219133:=0
def tw1181996734509889004:=0
def tw4272627790892798045:=0
def tw17907811828844956692:=0
def tw5887253229550737859:=0
def tw9205633049495967632:=0
def tw5747828053651040505:=0
def tw8835826829355677441:=0
def tw17685518093487155446:=0
def tw11193653286538297798:=0
def tw11177883226833983516:=0
def tw14858422382175272168:=0
def tw6893856208132353421:=0
def tw5083125598243635550:=0
def tw2462781665590751118:=0
def tw14968584478331333374:=0
def tw17118502915921628339:=0
def tw16470651455552321810:=0
def tw1626026758870957822:=0
def tw10668902013661428604:=0
def tw3788624845354096577:=0
def tw5374954722365639457:=0
def tw4266834780197739406:=0
def tw8840970171237876078:=0
def tw15624904683723154425:=0
def tw12088717305143456530:=0
def tw13794886660427473051:=0
def tw526006358485790382:=0
def tw3523895657255110229:=0
def tw15144881438191881998:=0
def tw1207917520897292095:=0
def tw7849422437695400292:=0
def tw9958402463818331644:=0
def tw4327879495521829233:=0
def tw4867043451210986480:=0
def tw2057620494535906930:=0
def tw11176801429144010745:=0
def tw1203502621160075573:=0
def tw8697352272207728136:=0
def tw16369727238002041435:=0
def tw9819977613961211871:=0
def tw4210482838136884047:=0
def tw14758483697929678027:=0
def tw10667890923493670447:=0
def tw2850149114169875558:=0
def tw5847975635582923804:=0
def tw16347158614514471921:=0
def tw1845223591604472593:=0
def tw4044366943452378846:=0
def tw9044765722236527998:=0
def tw10382498274869098229:=0
def tw9750095868465309741:=0
def tw433119341568312957:=0
def tw5295252127664710735:=0
def tw10822380566654291877:=0
def tw3960347929330720335:=0
def tw11690459736698804957:=0
def tw1351264651750708152:=0
def tw13661263006334988498:=0
def tw6525041304859682512:=0
def tw12441829743663888684:=0
def tw8996444150728975795:=0
def tw13734222416558091268:=0
def tw15362986033637990406:=0
def tw1496615231808768065:=0
def tw9921199640873925716:=0
def tw17064874951864322586:=0
def tw936770448497654683:=0
def tw6094396398351096626:=0
def tw3127601570378493040:=0
def tw13405738293135157658:=0
def tw492506932517725281:=0
def tw7568538287148300100:=0
def tw15174884603904568650:=0
def tw10867348929905065762:=0
def tw16400823015351171622:=0
def tw17107281631292332187:=0
def tw1348933764455807297:=0
def tw10591055444622745305:=0
def tw9678540821719330117:=0
def tw2043220653281209709:=0
def tw10146602307598489865:=0
def tw3515358032826670932:=0
def tw7643664840469410261:=0
def tw13944313607980657645:=0
def tw14754949874285070180:=0
def tw1373409869809067990:=0
def tw274137256360850779:=0
def tw7005754336808696621:=0
def tw18171181583112792636:=0
def tw12537058282419536963:=0
def tw15348751050016479089:=0
def tw7107592186787433954:=0
def tw17174610285157912871:=0
def tw4370283138551915955:=0
def tw3041445223861293509:=0
def tw6099024512368259524:=0
def tw1653719606461969055:=0
def tw11985686099705456774:=0
def tw3575608766554625948:=0
def tw12570564813573573505:=0
def tw10857910502136499034:=0
def tw1399046103475534757:=0
def tw16798149305030312213:=0
def tw17595433714880255113:=0
def tw1417482675688486693:=0
def tw16503567839230441943:=0
def tw11818245936279354220:=0
def tw12819657269526605324:=0
def tw8947652266407162566:=0
def tw2964049756544932185:=0
def tw10345758676329560894:=0
def tw13406677230220070511:=0
def tw11815473643541465154:=0
def tw11287126451053417635:=0
def tw16874322262578738554:=0
def tw5395817356738762582:=0
def tw5675412348606766310:=0
def tw5517349750076117100:=0
def tw14482460602143026204:=0
def tw12066316891741936224:=0
def tw9281834618768144273:=0
def tw5113869990955583368:=0
def tw500314994858014129:=0
def tw18386839419231877130:=0
def tw10531718751178658926:=0
def tw2904194103034530760:=0
def tw14902632660801422322:=0
def tw344425092627167032:=0
def tw1070529371602197545:=0
def tw14697509436324985027:=0
def tw11710687209137475786:=0
def tw644202249680697560:=0
def tw7546804581356276808:=0
def tw17100013307589788681:=0
def tw17603759315298544588:=0
def tw11727917340984891249:=0
def tw3006826607838139251:=0
def tw12252471770634865467:=0
def tw4852416957347299313:=0
def tw16912153730620411347:=0
def tw18023838610908479826:=0
def tw2049391463980151862:=0
def tw11762713356611858454:=0
def tw4039818955746492583:=0
def tw4274443091924410432:=0
def tw12010814874996238064:=0
def tw10814325212737107828:=0
def tw8885179571270717982:=0
def tw18339602733834986637:=0
def tw14932007106762941049:=0
def tw1252282051061823056:=0
def tw3617336262278588819:=0
def tw624910918864378674:=0
def tw15684488914548196351:=0
def tw9673248190685939601:=0
def tw6020925233644609335:=0
def tw3435008829126506807:=0
def tw15465606729806784533:=0
def tw14585284982698196029:=0
def tw13581297651881932787:=0
def tw10074119292333879283:=0
def tw12446793390485733995:=0
def tw9623044949041508115:=0
def tw15219683486517017516:=0
def tw1405861734065809439:=0
def tw7230139754755297014:=0
def tw1078941715649345707:=0
def tw17211862191425501074:=0
def tw4174975985698054077:=0
def tw11568847864724377885:=0
def tw7887325933519399659:=0
def tw18195898983291408936:=0
def tw18040365373740105928:=0
def tw9408379870620278903:=0
def tw15180990017880242659:=0
def tw14758720855586473527:=0
def tw13513824068551579855:=0
def tw9334933578563782423:=0
def tw12959370978738151696:=0
def tw1536479450017867069:=0
def tw8848043633477031845:=0
def tw6536024644408987893:=0
def tw14843018236849962402:=0
def tw10178529765161366219:=0
def tw1114624888870327843:=0
def tw925944868153583974:=0
def tw1723375354168908375:=0
def tw8922219481363173175:=0
def tw2264544587073011154:=0
def tw16274484835645600665:=0
def tw6745089252816075826:=0
def tw2916364607889367339:=0
def tw2567196880913878907:=0
def tw8839492495375374780:=0
def tw15685486009934152052:=0
def tw11207127791794155941:=0
def tw16497575587427993073:=0
def tw340127668636565538:=0
def tw13545845745188656992:=0
def tw1031958047515618648:=0
def tw13277682816823161249:=0
def tw1099387092413999026:=0
def tw16902861604768621995:=0
def tw3894483252707720233:=0
def tw15768381619320630516:=0
def tw9900906118158546912:=0
def tw2895431447235156971:=0
def tw11405233490642976645:=0
def tw16529389752575000909:=0
def tw16218027291314925585:=0
def tw17809309906472234770:=0
def tw12441878413443920294:=0
def tw4669275025004095945:=0
def tw7471712453100549734:=0
def tw9264839537659947540:=0
def tw15556771781573205919:=0
def tw12765712588762329650:=0
def tw2655832742781928936:=0
def tw204097991141870154:=0
def tw16890384640698560439:=0
def tw11194528226655920078:=0
def tw7149878374776193961:=0
def tw13905568343479432747:=0
def tw5848738007331182916:=0
def tw12309517731840188548:=0
def tw17187608678293432509:=0
def tw3136711903441401389:=0
def tw2041919857956784281:=0
def tw603446649416320942:=0
def tw5701741632839296704:=0
def tw2342485150595447205:=0
def tw15133152366144918703:=0
def tw6046607538605057287:=0
def tw17917794929544334512:=0
def tw16869386961149024274:=0
def tw3035587125887172181:=0
def tw15702259279012527193:=0
def tw14918890686573540407:=0
def tw2895345697004893199:=0
def tw11814673363160260132:=0
def tw952384519978457852:=0
def tw607189786019045526:=0
def tw18114250359757309366:=0
def tw2964457364524673740:=0
def tw933087808715806432:=0
def tw11061819965514928147:=0
def tw14472220741143822755:=0
def tw560207566755214823:=0
def tw14771830096658055431:=0
def tw6666276402916768837:=0
def tw14406044831641499041:=0
def tw9373899652116827207:=0
def tw4363221524886237076:=0
def tw12101471125266845308:=0
def tw5957951864879469120:=0
def tw6403131199797299146:=0
def tw2565315213227842217:=0
def tw2664064889892696394:=0
def tw1072990065734393205:=0
def tw17107201863267392808:=0
def tw15631335918709859557:=0
def tw9718040307730110755:=0
def tw3285091083466948449:=0
def tw15618354696569376159:=0
def tw5161378684309413536:=0
def tw11937587862599030204:=0
def tw1077176653489887154:=0
def tw6857047600931024157:=0
def tw7483751736095030019:=0
def tw802480972851318692:=0
def tw9405168406613168293:=0
def tw15304362506989404418:=0
def tw11317228116869160540:=0
def tw13255343830121537665:=0
def tw10166649835491063594:=0
def tw13239780749790767546:=0
def tw5116258256083337934:=0
def tw7248095909388232218:=0
def tw11751828710865297116:=0
def tw9422300980400303630:=0
def tw8664046785218355198:=0
def tw17402036131902552483:=0
def tw15403488866126710416:=0
def tw4403668028492891764:=0
def tw6716969121910630424:=0
def tw11809532266365756635:=0
def tw12423258472084283618:=0
def tw17520268144399331085:=0
def tw11800562870450057788:=0
def tw1350148533611414385:=0
def tw2399806795518836560:=0
def tw10313512833886799783:=0
def tw8663341414672280699:=0
def tw12571414135368624684:=0
def tw11311275226399777286:=0
def tw5226327880347377696:=0
def tw18253147660058624659:=0
def tw4362592067248190449:=0
def tw12008584368692913758:=0
def tw16286907342012637192:=0
def tw7997513965043381921:=0
def tw15203102171216441688:=0
def tw18182839744170815474:=0
def tw16594684331984516316:=0
def tw3827242488055944772:=0
def tw11449213918437979145:=0
def tw8917924293407402226:=0
def tw17826876237358730471:=0
def tw13271098389156201457:=0
def tw7911778685258620117:=0
def tw12099547009226947841:=0
def tw15920554370599371215:=0
def tw9105356830907744582:=0
def tw9305020138957463383:=0
def tw18082326807171962158:=0
def tw16706504010985633938:=0
def tw3709258622772391513:=0
def tw3522883358521001800:=0
def tw18131870397004978605:=0
def tw5193699472942329681:=0
def tw6898610302937288105:=0
def tw4954726627745341931:=0
def tw6581506594310661669:=0
def tw6238867732407589538:=0
def tw7144983437424529212:=0
def tw12369518658546389491:=0
def tw7971888276970085701:=0
def tw17263848409367957994:=0
def tw6764005664030562822:=0
def tw227285394675642882:=0
def tw212735415598863594:=0
def tw16563573119905791053:=0
def tw6329354714910559978:=0
def tw40110140173808648:=0
def tw6589925089106091413:=0
def tw9854631750054353345:=0
def tw9146575770206196591:=0
def tw4515738471181540151:=0
def tw13955218243235001041:=0
def tw10221417537127608422:=0
def tw12664240370294350044:=0
def tw15508985888344192837:=0
def tw11840720069023804924:=0
def tw9332182160685726449:=0
def tw18246951737808566179:=0
def tw2792428791568862170:=0
def tw8276978350133775991:=0
def tw2191172723385520476:=0
def tw1337008578456538178:=0
def tw17494505492818662458:=0
def tw7787056768369446216:=0
def tw2288406393213209730:=0
def tw5370991015270892682:=0
def tw14346308369690694201:=0
def tw12797044925367288130:=0
def tw5554311961127173995:=0
def tw11814244881007889902:=0
def tw7982340637396589512:=0
def tw987804890208161169:=0
def tw6603519636399457761:=0
def tw17470677856694112710:=0
def tw17568932790907441302:=0
def tw13044285701171558012:=0
def tw680182682680657574:=0
def tw16601481812154358821:=0
def tw2490635535638428321:=0
def tw3643641917397735101:=0
def tw8992378958289466621:=0
def tw3534170341359327155:=0
def tw16565865243489515151:=0
def tw17333784743488886321:=0
def tw85819973266098049:=0
def tw8422894674532397707:=0
def tw14220282601076284618:=0
def tw10125436359958978961:=0
def tw691260142279634979:=0
def tw14609026076131921341:=0
def tw895652656622002446:=0
def tw17111038285019969706:=0
def tw7578017158675461709:=0
def tw3860143484142791180:=0
def tw11212912552138617948:=0
def tw16541359924310754652:=0
def tw852215587885481363:=0
def tw2349837622368241803:=0
def tw861959079757777760:=0
def tw11728093958723159713:=0
def tw3530667368760310940:=0
def tw3443028504137743337:=0
def tw16391634176676574611:=0
def tw7782099144176505012:=0
def tw14501056329761176097:=0
def tw6699356333938905738:=0
def tw2672131600854257606:=0
def tw9905196490232668074:=0
def tw7387218656140272615:=0
def tw17061499571029085512:=0
def tw1389423872868981251:=0
def tw555221889713668312:=0
def tw7382261391042478831:=0
def tw1871303232370398852:=0
def tw10047898982970062174:=0
end PySem.W.Fast
set_option maxRecDepth 100000 in
set_option maxHeartbeats 0 in
theorem PySem.Challenge.cw_measurewise_k04_expressions_told_holds : PySem.Challenge.rw_measurewise_k04_expressions_told.Holds := by
 w_on;o_law;k_head;(case hw=>w_witness2)
 k_fill
 refine Fr.zRL (l:=PySem.Challenge.rw_measurewise_k04_expressions_told) rfl rfl ?hI (fun w h Y=>PySem.W.kIn_of Y) ?F
 case hI=>first | rfl | kernel_rfl | decide+kernel
 case F=>
  intro w mg fa h KX G hmg;apply Fr.zNz (w:=w) rfl KX G hmg
  all_goals first |(apply Fr.zQU<;>k_is)|(apply Fr.zPN<;>k_is)|(apply Fr.zQO<;>first | k_is | kernel_rfl)|(apply Fr.zPd<;>first | k_is | kernel_rfl)|(unfold Fr.GA;k_is)| k_is | kernel_rfl
